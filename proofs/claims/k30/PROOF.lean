import PyProof.Rows.All
import KE.KDictOf
import KE.KItemsList
import KE.KSortTup
import KE.KTryMore
import KE.RegKIsAll
import Lean
import PySem.Challenge.RW_cellpatches_k30_measures
open PySem renaming wpAny_bind->Wv,wpAny_pure->WA,Shared->WC,starEach->WS,sizeLine->WX,mainGlobals->W0,Program->Xc,bootBuiltins->Xl,Around->Xu,compareOp->XB,wpAny_mono->XG,behindInMarks->XJ,wpAny_dictEntries->XM,wpAny_truthy_bool->XW,wpAny_newObj_type->XX,wpAny_typeNameOfWhole_itemiter->X0,wpAny_holding->X5,wpAny_call_entry->X6,DictEntry->Yd,sysModules->Ye,wpAny_typeNameOf_itemiter->Yl,codeAny_builtin->Yn,backTo->Yt,mem_of_lookup->Yu,attributeBase->Yw,wpAny_dictEpoch->YB,sizeLine_eq->YC,wpAny_isOneOf_itemiter->YJ,wpAny_setField_rec->YR,plainId_quiet->YS,tupleKind->Y0,wpAny_callSpecial?_slot->Y3,keywordEach->Y4,wpAny_typeNameOfWhole_keyiter->Y8,assignEach->Y9,Keyword->Za,tupleKind_room_in1->Zc,FuncData->Ze,wpAny_passesOwn->Zl,codeAny->ZD,wpAny_typeNameOf_keyiter->ZE,wpAny_updateSeq->ZL,wpAny_Call_Name_kw->ZM,pyNext->ZN,binaryOp->ZY,wpAny_notOrdered_dict->Z1,storedH->Z4,Builtin->Z8,backToKw->Z_,call_meets->aab,wpAny_execs_nil->aac,sliceBounds->aad,rawInt->aae,NameKind->aan,wpAny_tryCatch->aar,wpAny_fieldsOf->aas,wpAny_pyIter_list->aax,swapsWith->aay,foldedSetIterable->aaz,wpAny_field->aaJ,wpAny_attempt->aaK,letOwnedTupleGo->aaV,codeAny_mono->aaX,typeLookup->aa4,IsItemIter->aa9,wpAny_seqItems->abg,wpAny_newTuple->abh,recursionLimit->abi,Paired->abj,wpAny_letGo->abm,wpAny_newList->abw,dictSetHashed->aby,wpAny_loadPart_at->abI,wpAny_assign_Name->abJ,wpAny_Call_method->abK,entryOfKey->abL,callerA->abM,wpAny_typeOf->abY,call_meetsIn->abZ,wpAny_isInstance->ab4,wpAny_forIn_list->ab5,wpAny_eqBool_int->ab6,noFill_tuple_add->ab7,wpAny_specialOf->aci,valueAt->acj,updateSeq->ack,size_of_entries->acm,richCompare->aco,cellsFrom->acp,BindsTo->acx,wpAny_newFunctionEnv_cells->acz,wpAny_setField->acJ,firstArgMember->acK,wpAny_rule->acW,wpAny_comprehension_free->acX,IsTupleKey->ac3,swapsWithSole->ac7,setField->ac8,seq_tuple_add->ac9,notedBy->ac_,getItem->ada,call->adg,IsItemIterOut->adq
open List renaming length_map->Ww,getElem?_eq_getElem->Wy,mem_cons_of_mem->Wz,mem_cons_self->WB,map_cons->WD,length_cons->WE,mem_cons->WG,size_toArray->WJ,getD_eq_getElem?_getD->WK,length_append->WL,mem_map->WM,getElem?_eq_some_iff->WQ,getElem?_map->WT,replicate->WU,getElem?_set_ne->WW,getElem?_set_self->W2,mem_filter->W7,range->W8,nil_append->Xa,mem_of_getElem?->Xd,all_eq_true->Xe,getElem?_append_left->Xh,getElem?_append_right->Xk,getElem?_cons_zero->Xm,getElem?_cons_succ->Xn,map_map->Xo,append_nil->Xp,Nodup->Xr,range'->Xs,mem_append_right->Xv,length_nil->Xx,toArray->XE,not_mem_nil->XH,mem_append->XI,length_filter_le->XO,filter_cons->XR,mem_singleton->XY,sum_cons->X1,map_congr_left->X2,nodup_cons->X9,map_append->X_,getElem?_replicate->Yb,pairwise_cons->Ym,mem_zipIdx_iff_getElem?->Yp,mem_range->Yq,pairwise_map->Yr,flatMap_cons->Ys,replicate_succ->Yv,lookup_cons->YF,cons_append->YG,zip_cons_cons->YK,map_nil->YL,nodup_nil->YN,mem_append_left->YT,nodup_append->YU,any_cons->YY,set_cons_zero->Y5,set_cons_succ->Y6,flatten_cons->Zd,mem_iff_getElem->Zj,pairwise_iff_getElem->Zn,mem_flatMap->Zo,getElem_mem->Zp,getElem_of_mem->Zr,all_map->Zu,find?_cons->Zy,all_cons->Zz,length_pos_of_mem->ZH,append_assoc->ZJ,getElem?_eq_none->ZO,range'_succ->ZS,map_flatMap->ZT,getElem_map->ZU,foldl_cons->Z3,length_range->aah,length_erase_of_mem->aai,length_eq_zero_iff->aao,filter_cons_of_pos->aap,filter_cons_of_neg->aaq,length_take->aau,ext_getElem->aav,range_succ_eq_map->aaw,of_mem_zip->aaB,length_zip->aaC,length_replicate->aaD,filter_nil->aaE,getElem?_range->aaT,filterMap_cons->aaU,mem_filterMap->aa7,length_range'->aa8,take_length->abu,forIn_cons->abC,getElem?_zip_eq_some->ab0,drop_eq_getElem_cons->ab1,idxOf_lt_length_iff->acb,pairwise_lt_range'->acf,not_of_lt_findIdx->acv,pairwise_flatMap->acD,mem_iff_getElem?->acE,getElem?_toArray->acF,any_map->acG,range_eq_range'->acQ,pairwise_append->acR,mem_erase_of_ne->acS,getElem?_mapIdx->acT,length_flatMap->ac0,length->ac1,getElem_range->adl,getElem_idxOf->adm,filter_append->adn,contains_cons->ado,mem_range'_1->adA,foldl_append->adB,foldl->adC,filter_congr->adD
open PySem.Heap renaming get?_push_of_some->Wx,lt_size->WH,get?_push_size->WN,get?_update_self->XF,SameBut->XQ,get?_update_other->Yx,size_push->YO,ExtBut->abD,get?_none_of_le->acU
open PySem.W renaming Frag->WI,kitOne->WV,nsIn->W6,mg_none_of->Xb,kia_one->XN,mg_of->XZ,fnOf->X8,keepIn->Yg,findIn->Yh,codeIn->Zg,mroIn->Zs,clsIn->ZP,exmOne->Z5,excIn->aaf,cellsFrom_some->aaj,hideAll->aat,looks_findIn->aaA,callWith_K->aaP,methodObj->aaY,instObj->abo,lookIn->abz,looks_mroIn->acs,hideAll_get->acu,of_hideAll->acA,codeRec_of->acB,kitx_list->acM,kitx_dict->acN,plainGet->acZ,OpenLaw->adh
open Nat renaming le_refl->WO,ne_of_lt->W4,lt_of_lt_of_le->W_,le_trans->Xf,zero_le->Xq,ne_of_gt->Xy,lt_irrefl->Xz,le_of_lt->Yc,mul_le_mul->YQ,lt_trans->YX,lt_succ_self->Zq,min_eq_right->ZV,max_eq_right->ZW,mul_le_mul_right->Z0,min_eq_left->Z6,max_eq_left->Z7,lt_succ_of_lt->aal,le_antisymm->aaM,lt_of_le_of_lt->abb,zero_add->abr,add_comm->abt,div_div_eq_div_mul->acC,succ_pos->acO,mul_comm->acP,one_mul->adj,add_mul->adk,lt_or_gt_of_ne->adx,add_right_comm->ady
open Bool renaming and_eq_true->WR,false_ne_true->WZ,false_eq_true->W9,eq_false_iff->Zf,or_eq_true->ZC,eq_iff_iff->aaH,and_eq_false_iff->aaI,and_false->aaR,true_and->aa_,or_false->aba,not_eq_true'->abl,not_false->ab3,and_true->acg,and_eq_true_iff->acV
open PySem.Value renaming ref->WY,none->Xi,bool->X3,builtin->Zv,type->ZF,str->acq,int->acr
open PySem.PassesOwn renaming never->W3
open Array renaming length_toList->W5,getElem?_eq_getElem->Yj,getElem?_toList->YI,append_assoc->aa2,getElem?_eq_none->ach,isEmpty_iff->adt,toList_inj->adE
open Option.some renaming inj->Xg
open PySem.Heap.SameBut renaming update->Xj,refl->aaF
open Option renaming isSome_iff_exists->XA,isSome_map->aa6,getD_none->adi
open PySem.Obj renaming mapSeq->XC,data_mapDictKeys->ZZ,isFreed_of_dict->aaZ,data_mapFields->adw
open Ne renaming symm->XD
open PySem.Builtin.Dict_items renaming ownsTuple->XS,ownedTupleIsFree->Yk,pairFromOwner->Yo,ownedTupleFields->Z9
open PySem.Around renaming under_plainId->XT,frames_deeper->acy
open ForInStep renaming yield->XU
open PySem.F renaming slot_dict_itemiterator_next->X4,slot_dict_get->Yy,plainAttrs_list->YV,plain_min_loop->Y7,slot_dict_keyiterator_next->Y_,plainAttrs_dict->Zt,plain_extend_loop->Zw,entry_dict_get->Zx,args_dict_itemiterator_next_1->ZR,entry_dict_itemiterator_next->ZX,excBase_ValueError->Z2,args_tuple_add_2->aaa,entry_tuple_add->aag,slot_tuple_add->aak,slot_dict_update->abB,args_dict_keyiterator_next_1->abF,type_list_index->abO,slot_list_index->abP,args_dict_get_3->abQ,args_dict_get_2->abR,entry_min_loop->abU,entry_dict_keyiterator_next->abV,type_dict_get->aca,slot_dict_items_iter->ac4,typeOf_object_class->ads
open PyProof.Rows renaming seqObj->X7,envOfC->YD,IntsAre->YH,callWith_type1->YW,lt_int->aam,callWith_builtin1->aaL,kindOf->aaO,get?_update_seq->aaW,AllBare->aa3,listUpdate_at->abx,failedOf->acd,seqEpoch_at->acn,subscriptTail_builtinR->adu
open False renaming elim->Yi
open List.Pairwise renaming imp->Yz,filter->abv,nil->abS
open PySem.Paired renaming length->YA
open True renaming intro->YE
open PySem.Str renaming ofString->YM
open PySem.Builtin.Dict renaming showsAll->YZ,updateFrom->Zk,entriesForEmpty->aaQ,selfAndRest->abe,addKeywords->abf,pairItems->abp,mergeDict->abq
open PySem.Calls renaming callWith_builtin->Y1,spliced_cons->Y2,evalArgs_plain->Zi,spliced_nil->ZI,Name_function_global->abH,call_function_entry->abX
open PySem.Builtin.List renaming listTooLong->Zb,listExtendWith->ZK,listSameRef->abd,listUpdate->abk
open Int renaming toNat_natCast->Zh,toNat_of_nonneg->aa0,emod_lt_of_pos->abc,emod_nonneg->abT
open PySem.Builtin.Str renaming occurrences->Zm
open PySem.Data renaming dict->ZA,fields->ac5
open PUnit renaming unit->ZG
open Prod.mk renaming injEq->ZQ
open PySem.Builtin.Builtins renaming bindParams->aaG
open Int.ofNat renaming inj->aaN
open PySem.Shared renaming TypeIs->aaS
open PySem.Builtin.Tuple renaming tupleHashOf->aa1
open ToString renaming toString->aa5
open Sum renaming inl->abn,inr->abN
open Classical renaming propDecidable->abA,choose_spec->abW,not_forall->ab2,not_imp->acw,choose->acI
open Function renaming comp->abE
open PySem.Expr renaming Name->abG
open PySem.SeqAt.EqAt renaming str_int->ab8,int_str->ab9,int_int->ab_
open Prod renaming ext->ace
open PySem.Heap.IsList renaming «at»->acH
open PySem.SeqAt renaming notIn_tupleAt->acL,notIn_listAt->acY,EqAt->adf,in_tupleAt->adv
open List.Perm renaming refl->ac2
open MonadExcept renaming tryCatch->ac6
open PySem.Walks renaming list->adb
open PySem.Value.ref renaming inj->ade
open List.cons renaming inj->adp
open PySem.NameKind renaming free->adz
set_option maxHeartbeats 0
set_option Elab.async false
set_option linter.all false
set_option maxRecDepth 100000
abbrev adF:=@if_pos
abbrev adG:=@if_neg
abbrev adH:=@decide_eq_true_eq
abbrev adI:=@decide_eq_false
abbrev adJ:=@decide_eq_true
abbrev adK:=@absurd
abbrev adL:=@of_decide_eq_true
abbrev adM:=@congrArg
abbrev adN:=@decide_eq_decide
abbrev adO:=@beq_eq_false_iff_ne
namespace L2
open PySem
def eM(s:Stmt):Arguments:=match s with
 | .FunctionDef _ a _ _ _ _ _ _ _ _=>a
 |_=>{posonlyargs:=[],args:=[],vararg:=none,kwonlyargs:=[],kw_defaults:=[],kwarg:=none,defaults:=[]}
def bf(s:Stmt):List Stmt:=match s with
 | .FunctionDef _ _ b _ _ _ _ _ _ _=>b
 |_=>[]
def ai(s:Stmt):Scope:=match s with
 | .FunctionDef _ _ _ _ _ _ sc _ _ _=>sc
 |_=>{kind:= .function,names:=[],isGenerator:=false,isCoroutine:=false}
end L2
namespace K1
open PySem PySem.Spec
def top(i:Nat):Stmt:=PySem.Challenge.pw_cellpatches_k30_measures.main.body.getD i (.Pass ⟨0,0,0,0⟩)
abbrev hS(s:String)(t:Tok):Value:= .str (YM s) t
abbrev hE(P:Params)(s:String)(t:Tok)(v:Value):Yd:={hash:=PyData.keyHash P (YM s),key:=hS s t,val:=v}
abbrev hT(xs:Array Value):Obj:={cls:= .type "tuple",data:=Data.seq xs}
abbrev hF(s:String)(t:Stmt)(m:Value)(c:Addr):Obj:={cls:= .type "function",data:=Data.func {name:=YM s,qualname:=YM s,params:=L2.eM t,body:=FuncBody.stmts (L2.bf t),scope:=L2.ai t,globals:=3,closure:=[],defaults:= .none,kwdefaults:= .none,pyModule:=m,code:= .ref c} }
abbrev iX(s:String)(t1 t2 t3:Tok)(l n f:Int)(a:Addr)(v:Int)(b:Addr)(x y:Value)(d:Addr)(p:Int)(t4:Tok):Obj:={cls:= .type "code",data:=ac5 #[hS s t1,hS s t2,hS "/claim/cut.py" t3, .int l 0, .int n 0, .int 0 0, .int 0 0, .int f 0, .ref a, .bool true, .int v 0, .ref b, .none,x,y, .ref d, .int p 0, .int l 0,hS "/claim/cut.py" t4]}
abbrev CV:Value:=hS "law_cellpatches_k30_measures" 555
abbrev Ef:Value:=hS "cellpatches.boards" 319
abbrev E2:Value:=hS "cellpatches.measures" 467
abbrev J1:Value:=hS "cellpatches.errors" 187
abbrev P7:Value:=hS "cellpatches.patches" 422
abbrev K4(n:String)(b a ns r:Addr)(t1 t2:Tok):Obj:={cls:= .type "type",data:=Data.cls {name:=YM n,bases:=[.ref b],mro:=[.ref a, .ref b, .type "ValueError", .type "Exception", .type "BaseException", .type "object"],ns:=ns,qualname:=YM n},slots:= #[some (.ref r),none,some (hS n t1),some (hS n t2),some (.builtin "ValueError.__new__"),some (.bool true)]}
def ql:Params->WI:=λP=>(nat_lit 2,{cls:= .none,data:=ZA #[]})::
 (nat_lit 3,{cls:= .type "dict",data:=ZA #[hE P "__name__" 165 CV,hE P "__doc__" 166 .none,hE P "__package__" 167 .none,hE P "__loader__" 168 (.builtin "__main__.__loader__#opaque"),hE P "__spec__" 169 .none,hE P "__annotations__" 170 (.ref 6),hE P "__builtins__" 171 (.ref 4),hE P "__file__" 173 (hS "/claim/cut.py" 172),hE P "__cached__" 174 .none,hE P "PatchError" 206 (.ref 24),hE P "NoBoard" 222 (.ref 37),hE P "NoWays" 238 (.ref 49),hE P "NoCell" 254 (.ref 61),hE P "NoLetter" 270 (.ref 73),hE P "NoNumber" 286 (.ref 85),hE P "NoFit" 302 (.ref 97),hE P "Nothing" 318 (.ref 109),hE P "LETTERS" 322 (hS "abcdef" 321),hE P "MOST_ROWS" 324 (.int 8 323),hE P "MOST_COLUMNS" 326 (.int 8 325),hE P "is_whole" 333 (.ref 118),hE P "is_letter" 340 (.ref 125),hE P "is_row" 346 (.ref 130),hE P "is_board" 352 (.ref 135),hE P "need_board" 359 (.ref 142),hE P "need_ways" 366 (.ref 149),hE P "cells_of_row" 372 (.ref 154),hE P "all_cells" 381 (.ref 161),hE P "letter_of" 389 (.ref 168),hE P "are_next" 400 (.ref 175),hE P "next_cells" 412 (.ref 182),hE P "keyed" 421 (.ref 189),hE P "like_cells" 429 (.ref 194),hE P "steps_back" 443 (.ref 201),hE P "all_patches" 455 (.ref 208),hE P "numbers_of" 466 (.ref 215),hE P "need_number" 476 (.ref 222),hE P "patch_of_number" 486 (.ref 229),hE P "is_at_edge" 494 (.ref 236),hE P "comes_to_edge" 500 (.ref 241),hE P "shared_sides" 513 (.ref 248),hE P "size" 522 (.ref 255),hE P "rim" 528 (.ref 260),hE P "box" 534 (.ref 265),hE P "touching" 542 (.ref 272),hE P "greatest" 548 (.ref 277),hE P "at_edge" 554 (.ref 282),hE P "_law_cell" 564 (.ref 289),hE P "_law_drawn" 574 (.ref 296),hE P "_law_board" 580 (.ref 301),hE P "_law_cells" 586 (.ref 306),hE P "_law_beside" 601 (.ref 313),hE P "_law_labels" 607 (.ref 318),hE P "_law_patches" 613 (.ref 323),hE P "_law_refused" 621 (.ref 330),hE P "_law_told" 632 (.ref 337),hE P "_law_touching" 638 (.ref 342),hE P "_law_rim" 644 (.ref 347),hE P "law" 650 (.ref 352)] 59})::
 (nat_lit 15,hT #[.type "ValueError"])::
 (nat_lit 22,hT #[])::
 (nat_lit 23,{cls:= .type "dict",data:=ZA #[hE P "__module__" 196 J1,hE P "__firstlineno__" 200 (.int 2 199),hE P "__static_attributes__" 201 (.ref 22),hE P "__weakref__" 203 (.ref 25),hE P "__doc__" 204 .none] 3})::
 (nat_lit 24,{cls:= .type "type",data:=Data.cls {name:=YM "PatchError",bases:=[.type "ValueError"],mro:=[.ref 24, .type "ValueError", .type "Exception", .type "BaseException", .type "object"],ns:=23,qualname:=YM "PatchError",subclasses:=[.ref 37, .ref 49, .ref 61, .ref 73, .ref 85, .ref 97, .ref 109]},slots:= #[some (.ref 15),none,some (hS "PatchError" 189),some (hS "PatchError" 197),some (.builtin "ValueError.__new__"),some (.bool true)]})::
 (nat_lit 25,{cls:= .type "getset_descriptor",data:=ac5 #[hS "__weakref__" 202, .ref 24, .builtin "ExceptionGroup.__weakref__", .none]})::
 (nat_lit 28,hT #[.ref 24])::
 (nat_lit 35,hT #[])::
 (nat_lit 36,{cls:= .type "dict",data:=ZA #[hE P "__module__" 214 J1,hE P "__firstlineno__" 218 (.int 4 217),hE P "__static_attributes__" 219 (.ref 35),hE P "__doc__" 220 .none] 2})::
 (nat_lit 37,K4 "NoBoard" 24 37 36 28 207 215)::
 (nat_lit 40,hT #[.ref 24])::
 (nat_lit 47,hT #[])::
 (nat_lit 48,{cls:= .type "dict",data:=ZA #[hE P "__module__" 230 J1,hE P "__firstlineno__" 234 (.int 6 233),hE P "__static_attributes__" 235 (.ref 47),hE P "__doc__" 236 .none] 2})::
 (nat_lit 49,K4 "NoWays" 24 49 48 40 223 231)::
 (nat_lit 52,hT #[.ref 24])::
 (nat_lit 59,hT #[])::
 (nat_lit 60,{cls:= .type "dict",data:=ZA #[hE P "__module__" 246 J1,hE P "__firstlineno__" 250 (.int 8 249),hE P "__static_attributes__" 251 (.ref 59),hE P "__doc__" 252 .none] 2})::
 (nat_lit 61,K4 "NoCell" 24 61 60 52 239 247)::
 (nat_lit 64,hT #[.ref 24])::
 (nat_lit 71,hT #[])::
 (nat_lit 72,{cls:= .type "dict",data:=ZA #[hE P "__module__" 262 J1,hE P "__firstlineno__" 266 (.int 10 265),hE P "__static_attributes__" 267 (.ref 71),hE P "__doc__" 268 .none] 2})::
 (nat_lit 73,K4 "NoLetter" 24 73 72 64 255 263)::
 (nat_lit 76,hT #[.ref 24])::
 (nat_lit 83,hT #[])::
 (nat_lit 84,{cls:= .type "dict",data:=ZA #[hE P "__module__" 278 J1,hE P "__firstlineno__" 282 (.int 12 281),hE P "__static_attributes__" 283 (.ref 83),hE P "__doc__" 284 .none] 2})::
 (nat_lit 85,K4 "NoNumber" 24 85 84 76 271 279)::
 (nat_lit 88,hT #[.ref 24])::
 (nat_lit 95,hT #[])::
 (nat_lit 96,{cls:= .type "dict",data:=ZA #[hE P "__module__" 294 J1,hE P "__firstlineno__" 298 (.int 14 297),hE P "__static_attributes__" 299 (.ref 95),hE P "__doc__" 300 .none] 2})::
 (nat_lit 97,K4 "NoFit" 24 97 96 88 287 295)::
 (nat_lit 100,hT #[.ref 24])::
 (nat_lit 107,hT #[])::
 (nat_lit 108,{cls:= .type "dict",data:=ZA #[hE P "__module__" 310 J1,hE P "__firstlineno__" 314 (.int 16 313),hE P "__static_attributes__" 315 (.ref 107),hE P "__doc__" 316 .none] 2})::
 (nat_lit 109,K4 "Nothing" 24 109 108 100 303 311)::
 (nat_lit 112,hT #[])::
 (nat_lit 114,hT #[hS "thing" 330])::
 (nat_lit 115,hT #[])::
 (nat_lit 117,iX "is_whole" 327 328 329 22 1 3 112 181 113 (.ref 114) (.ref 115) 116 331 332)::
 (nat_lit 118,hF "is_whole" (top 13) Ef 117)::
 (nat_lit 119,hT #[])::
 (nat_lit 121,hT #[hS "thing" 337])::
 (nat_lit 122,hT #[])::
 (nat_lit 124,iX "is_letter" 334 335 336 24 1 3 119 181 120 (.ref 121) (.ref 122) 123 338 339)::
 (nat_lit 125,hF "is_letter" (top 14) Ef 124)::
 (nat_lit 126,hT #[])::
 (nat_lit 129,iX "is_row" 341 342 343 26 1 3 126 181 127 .none .none 128 344 345)::
 (nat_lit 130,hF "is_row" (top 15) Ef 129)::
 (nat_lit 131,hT #[])::
 (nat_lit 134,iX "is_board" 347 348 349 30 1 3 131 181 132 .none .none 133 350 351)::
 (nat_lit 135,hF "is_board" (top 16) Ef 134)::
 (nat_lit 136,hT #[])::
 (nat_lit 138,hT #[hS "thing" 356])::
 (nat_lit 139,hT #[])::
 (nat_lit 141,iX "need_board" 353 354 355 36 1 3 136 181 137 (.ref 138) (.ref 139) 140 357 358)::
 (nat_lit 142,hF "need_board" (top 17) Ef 141)::
 (nat_lit 143,hT #[])::
 (nat_lit 145,hT #[hS "thing" 363])::
 (nat_lit 146,hT #[])::
 (nat_lit 148,iX "need_ways" 360 361 362 39 1 3 143 181 144 (.ref 145) (.ref 146) 147 364 365)::
 (nat_lit 149,hF "need_ways" (top 18) Ef 148)::
 (nat_lit 150,hT #[])::
 (nat_lit 153,iX "cells_of_row" 367 368 369 42 2 3 150 181 151 .none .none 152 370 371)::
 (nat_lit 154,hF "cells_of_row" (top 19) Ef 153)::
 (nat_lit 155,hT #[])::
 (nat_lit 157,hT #[hS "board" 376,hS "found" 377,hS "row" 378])::
 (nat_lit 158,hT #[])::
 (nat_lit 160,iX "all_cells" 373 374 375 44 1 3 155 181 156 (.ref 157) (.ref 158) 159 379 380)::
 (nat_lit 161,hF "all_cells" (top 20) Ef 160)::
 (nat_lit 162,hT #[])::
 (nat_lit 164,hT #[hS "board" 385,hS "cell" 386])::
 (nat_lit 165,hT #[])::
 (nat_lit 167,iX "letter_of" 382 383 384 49 2 3 162 181 163 (.ref 164) (.ref 165) 166 387 388)::
 (nat_lit 168,hF "letter_of" (top 21) Ef 167)::
 (nat_lit 169,hT #[])::
 (nat_lit 171,hT #[hS "one" 393,hS "other" 394,hS "ways" 395,hS "down" 396,hS "along" 397])::
 (nat_lit 172,hT #[])::
 (nat_lit 174,iX "are_next" 390 391 392 51 3 3 169 181 170 (.ref 171) (.ref 172) 173 398 399)::
 (nat_lit 175,hF "are_next" (top 22) Ef 174)::
 (nat_lit 176,hT #[])::
 (nat_lit 178,hT #[hS "board" 404,hS "cell" 405,hS "ways" 406,hS "found" 407,hS "row" 408,hS "column" 409])::
 (nat_lit 179,hT #[])::
 (nat_lit 181,iX "next_cells" 401 402 403 57 3 3 176 181 177 (.ref 178) (.ref 179) 180 410 411)::
 (nat_lit 182,hF "next_cells" (top 23) Ef 181)::
 (nat_lit 183,hT #[])::
 (nat_lit 185,hT #[hS "things" 416,hS "found" 417,hS "thing" 418])::
 (nat_lit 186,hT #[])::
 (nat_lit 188,iX "keyed" 413 414 415 64 1 3 183 181 184 (.ref 185) (.ref 186) 187 419 420)::
 (nat_lit 189,hF "keyed" (top 24) Ef 188)::
 (nat_lit 190,hT #[])::
 (nat_lit 193,iX "like_cells" 424 425 426 70 3 3 190 181 191 .none .none 192 427 428)::
 (nat_lit 194,hF "like_cells" (top 26) P7 193)::
 (nat_lit 195,hT #[])::
 (nat_lit 197,hT #[hS "board" 433,hS "start" 434,hS "ways" 435,hS "back" 436,hS "ring" 437,hS "further" 438,hS "cell" 439,hS "near" 440])::
 (nat_lit 198,hT #[])::
 (nat_lit 200,iX "steps_back" 430 431 432 73 3 3 195 181 196 (.ref 197) (.ref 198) 199 441 442)::
 (nat_lit 201,hF "steps_back" (top 27) P7 200)::
 (nat_lit 202,hT #[])::
 (nat_lit 204,hT #[hS "board" 447,hS "ways" 448,hS "found" 449,hS "seen" 450,hS "cell" 451,hS "patch" 452])::
 (nat_lit 205,hT #[])::
 (nat_lit 207,iX "all_patches" 444 445 446 85 2 3 202 181 203 (.ref 204) (.ref 205) 206 453 454)::
 (nat_lit 208,hF "all_patches" (top 28) P7 207)::
 (nat_lit 209,hT #[])::
 (nat_lit 211,hT #[hS "found" 459,hS "numbers" 460,hS "number" 461,hS "patch" 462,hS "cell" 463])::
 (nat_lit 212,hT #[])::
 (nat_lit 214,iX "numbers_of" 456 457 458 94 1 3 209 181 210 (.ref 211) (.ref 212) 213 464 465)::
 (nat_lit 215,hF "numbers_of" (top 29) P7 214)::
 (nat_lit 216,hT #[])::
 (nat_lit 218,hT #[hS "many" 472,hS "thing" 473])::
 (nat_lit 219,hT #[])::
 (nat_lit 221,iX "need_number" 469 470 471 101 2 3 216 181 217 (.ref 218) (.ref 219) 220 474 475)::
 (nat_lit 222,hF "need_number" (top 31) E2 221)::
 (nat_lit 223,hT #[])::
 (nat_lit 225,hT #[hS "board" 480,hS "ways" 481,hS "number" 482,hS "found" 483])::
 (nat_lit 226,hT #[])::
 (nat_lit 228,iX "patch_of_number" 477 478 479 104 3 3 223 181 224 (.ref 225) (.ref 226) 227 484 485)::
 (nat_lit 229,hF "patch_of_number" (top 32) E2 228)::
 (nat_lit 230,hT #[])::
 (nat_lit 232,hT #[hS "board" 490,hS "cell" 491])::
 (nat_lit 233,hT #[])::
 (nat_lit 235,iX "is_at_edge" 487 488 489 110 2 3 230 181 231 (.ref 232) (.ref 233) 234 492 493)::
 (nat_lit 236,hF "is_at_edge" (top 33) E2 235)::
 (nat_lit 237,hT #[])::
 (nat_lit 240,iX "comes_to_edge" 495 496 497 112 2 3 237 181 238 .none .none 239 498 499)::
 (nat_lit 241,hF "comes_to_edge" (top 34) E2 240)::
 (nat_lit 242,hT #[])::
 (nat_lit 244,hT #[hS "board" 504,hS "found" 505,hS "numbers" 506,hS "shared" 507,hS "cell" 508,hS "near" 509,hS "pair" 510])::
 (nat_lit 245,hT #[])::
 (nat_lit 247,iX "shared_sides" 501 502 503 114 2 3 242 181 243 (.ref 244) (.ref 245) 246 511 512)::
 (nat_lit 248,hF "shared_sides" (top 35) E2 247)::
 (nat_lit 249,hT #[])::
 (nat_lit 251,hT #[hS "board" 517,hS "ways" 518,hS "number" 519])::
 (nat_lit 252,hT #[])::
 (nat_lit 254,iX "size" 514 515 516 123 3 3 249 181 250 (.ref 251) (.ref 252) 253 520 521)::
 (nat_lit 255,hF "size" (top 36) E2 254)::
 (nat_lit 256,hT #[])::
 (nat_lit 259,iX "rim" 523 524 525 125 3 3 256 181 257 .none .none 258 526 527)::
 (nat_lit 260,hF "rim" (top 37) E2 259)::
 (nat_lit 261,hT #[])::
 (nat_lit 264,iX "box" 529 530 531 132 3 3 261 181 262 .none .none 263 532 533)::
 (nat_lit 265,hF "box" (top 38) E2 264)::
 (nat_lit 266,hT #[])::
 (nat_lit 268,hT #[hS "board" 538,hS "ways" 539])::
 (nat_lit 269,hT #[])::
 (nat_lit 271,iX "touching" 535 536 537 137 2 3 266 181 267 (.ref 268) (.ref 269) 270 540 541)::
 (nat_lit 272,hF "touching" (top 39) E2 271)::
 (nat_lit 273,hT #[])::
 (nat_lit 276,iX "greatest" 543 544 545 141 2 3 273 181 274 .none .none 275 546 547)::
 (nat_lit 277,hF "greatest" (top 40) E2 276)::
 (nat_lit 278,hT #[])::
 (nat_lit 281,iX "at_edge" 549 550 551 146 2 3 278 181 279 .none .none 280 552 553)::
 (nat_lit 282,hF "at_edge" (top 41) E2 281)::
 (nat_lit 283,hT #[])::
 (nat_lit 285,hT #[hS "_law_script" 560,hS "_law_k" 561])::
 (nat_lit 286,hT #[])::
 (nat_lit 288,iX "_law_cell" 557 558 559 151 2 3 283 181 284 (.ref 285) (.ref 286) 287 562 563)::
 (nat_lit 289,hF "_law_cell" (top 43) CV 288)::
 (nat_lit 290,hT #[])::
 (nat_lit 292,hT #[hS "_law_script" 568,hS "_law_k" 569,hS "_law_many" 570,hS "_law_cell_here" 571])::
 (nat_lit 293,hT #[])::
 (nat_lit 295,iX "_law_drawn" 565 566 567 155 3 3 290 181 291 (.ref 292) (.ref 293) 294 572 573)::
 (nat_lit 296,hF "_law_drawn" (top 44) CV 295)::
 (nat_lit 297,hT #[])::
 (nat_lit 300,iX "_law_board" 575 576 577 159 3 3 297 181 298 .none .none 299 578 579)::
 (nat_lit 301,hF "_law_board" (top 45) CV 300)::
 (nat_lit 302,hT #[])::
 (nat_lit 305,iX "_law_cells" 581 582 583 168 1 3 302 181 303 .none .none 304 584 585)::
 (nat_lit 306,hF "_law_cells" (top 46) CV 305)::
 (nat_lit 307,hT #[])::
 (nat_lit 309,hT #[hS "_law_board_here" 590,hS "_law_cell_here" 591,hS "_law_ways" 592,hS "_law_found" 593,hS "_law_down" 594,hS "_law_right" 595,hS "_law_row" 596,hS "_law_column" 597,hS "_law_inside" 598])::
 (nat_lit 310,hT #[])::
 (nat_lit 312,iX "_law_beside" 587 588 589 173 3 3 307 181 308 (.ref 309) (.ref 310) 311 599 600)::
 (nat_lit 313,hF "_law_beside" (top 47) CV 312)::
 (nat_lit 314,hT #[])::
 (nat_lit 317,iX "_law_labels" 602 603 604 183 2 3 314 181 315 .none .none 316 605 606)::
 (nat_lit 318,hF "_law_labels" (top 48) CV 317)::
 (nat_lit 319,hT #[])::
 (nat_lit 322,iX "_law_patches" 608 609 610 201 2 3 319 181 320 .none .none 321 611 612)::
 (nat_lit 323,hF "_law_patches" (top 49) CV 322)::
 (nat_lit 324,hT #[])::
 (nat_lit 326,hT #[hS "_law_e" 617,hS "_law_flags" 618])::
 (nat_lit 327,hT #[])::
 (nat_lit 329,iX "_law_refused" 614 615 616 207 1 3 324 181 325 (.ref 326) (.ref 327) 328 619 620)::
 (nat_lit 330,hF "_law_refused" (top 50) CV 329)::
 (nat_lit 331,hT #[])::
 (nat_lit 333,hT #[hS "_law_which" 625,hS "_law_board_here" 626,hS "_law_ways" 627,hS "_law_number" 628,hS "_law_e" 629])::
 (nat_lit 334,hT #[])::
 (nat_lit 336,iX "_law_told" 622 623 624 214 4 3 331 181 332 (.ref 333) (.ref 334) 335 630 631)::
 (nat_lit 337,hF "_law_told" (top 51) CV 336)::
 (nat_lit 338,hT #[])::
 (nat_lit 341,iX "_law_touching" 633 634 635 221 2 3 338 181 339 .none .none 340 636 637)::
 (nat_lit 342,hF "_law_touching" (top 52) CV 341)::
 (nat_lit 343,hT #[])::
 (nat_lit 346,iX "_law_rim" 639 640 641 233 1 3 343 181 344 .none .none 345 642 643)::
 (nat_lit 347,hF "_law_rim" (top 53) CV 346)::
 (nat_lit 348,hT #[])::
 (nat_lit 351,iX "law" 645 646 647 239 1 3 348 181 349 .none .none 350 648 649)::
 (nat_lit 352,hF "law" (top 54) CV 351)::[]
def qk:List Nat:=[2,3,15,22,23,24,25,28,35,36,37,40,47,48,49,52,59,60,61,64,71,72,73,76,83,84,85,88,95,96,97,100,107,108,109,112,114,115,117,118,119,121,122,124,125,126,129,130,131,134,135,136,138,139,141,142,143,145,146,148,149,150,153,154,155,157,158,160,161,162,164,165,167,168,169,171,172,174,175,176,178,179,181,182,183,185,186,188,189,190,193,194,195,197,198,200,201,202,204,205,207,208,209,211,212,214,215,216,218,219,221,222,223,225,226,228,229,230,232,233,235,236,237,240,241,242,244,245,247,248,249,251,252,254,255,256,259,260,261,264,265,266,268,269,271,272,273,276,277,278,281,282,283,285,286,288,289,290,292,293,295,296,297,300,301,302,305,306,307,309,310,312,313,314,317,318,319,322,323,324,326,327,329,330,331,333,334,336,337,338,341,342,343,346,347,348,351,352]
def zt:Xc:={PySem.Challenge.pw_cellpatches_k30_measures with main:={PySem.Challenge.pw_cellpatches_k30_measures.main with body:=[top 1,top 2,top 3,top 4,top 5,top 6,top 7,top 8,top 10,top 11,top 12,top 13,top 14,top 15,top 16,top 17,top 18,top 19,top 20,top 21,top 22,top 23,top 24,top 26,top 27,top 28,top 29,top 31,top 32,top 33,top 34,top 35,top 36,top 37,top 38,top 39,top 40,top 41,top 43,top 44,top 45,top 46,top 47,top 48,top 49,top 50,top 51,top 52,top 53,top 54]} }
open PySem.W PyProof.Rows in
def N7:LeftO PySem.Challenge.rw_cellpatches_k30_measures.row.prog zt [] (λs=>xlAt zt [] s&&recOk PySem.Challenge.rw_cellpatches_k30_measures.row.records s) (kHook ql qk (λ_=>by kernel_rfl)).obs (kHook ql qk (λ_=>by kernel_rfl)).val 5912:=λw=>by kernel_rfl
end K1
namespace L2
open PySem PySem.Spec PyProof.Rows
abbrev Key:=Sum Int Str
def qF:Key->Value->Bool
 | .inl k,v=>Value.isInt k v
 | .inr x,v=>Value.isStrOf x v
def OG(w:World):Key->Int
 | .inl k=>hashInt k
 | .inr x=>hashStr w x
def cg:∀{k:Key}{v:Value},qF k v=true->(∃i t,k=abn i/\v=acr i t)\/(∃x t,k=abN x/\v=acq x t)
 | .inl i,v,h=>by
   obtain⟨t,e⟩:=Value.isInt_shape (k:=i) (v:=v) h;exact .inl ⟨i,t,rfl,e⟩
 | .inr x,v,h=>by
   obtain⟨t,e⟩:=Value.isStrOf_shape (x:=x) (v:=v) h;exact .inr ⟨x,t,rfl,e⟩
def Dk(i:Int)(t:Tok):qF (.inl i) (.int i t)=true:=by simp[qF,Value.isInt]
def Dl(x:Str)(t:Tok):qF (.inr x) (.str x t)=true:=by simp[qF,Value.isStrOf]
def LJ(a b:Int):decide ((abn a:Key)=abn b)=(a==b):=by
 by_cases e:a=b
 ·subst e;simp
 ·have h:¬(abn a:Key)=abn b:=λq=>e (Sum.inl.inj q);rw[adI h];exact(adO.mpr e).symm
def LM(a b:Str):decide ((abN a:Key)=abN b)=decide (a=b):=by
 by_cases e:a=b
 ·subst e;simp
 ·have h:¬(abN a:Key)=abN b:=λq=>e (Sum.inr.inj q);rw[adI h,adI e]
def LK(a:Int)(b:Str):decide ((abn a:Key)=abN b)=false:=adI (λq=>nomatch q)
def LL(a:Str)(b:Int):decide ((abN a:Key)=abn b)=false:=adI (λq=>nomatch q)
def bg(prog:Xc)(w:World):PySem.KeyKind prog w Key where
 is:=qF
 hash:=OG w
 inj:=λv a b ha hb=>by
  rcases cg ha with⟨i,t,rfl,rfl⟩ | ⟨x,t,rfl,rfl⟩
  ·rcases cg hb with⟨j,u,rfl,e⟩ | ⟨y,u,rfl,e⟩
   ·injection e with e1 _;rw[e1]
   ·exact nomatch e
  ·rcases cg hb with⟨j,u,rfl,e⟩ | ⟨y,u,rfl,e⟩
   ·exact nomatch e
   ·injection e with e1 _;rw[e1]
 byValue:=λk v h=>by
  rcases cg h with⟨i,t,rfl,rfl⟩ | ⟨x,t,rfl,rfl⟩<;>rfl
 pyHash:=λhv h=>by
  rcases cg hv with⟨i,t,rfl,rfl⟩ | ⟨x,t,rfl,rfl⟩
  ·exact wpAny_pyHash_int h
  ·exact wpAny_pyHash_str h
 eqBool:=λhu hv h=>by
  rcases cg hu with⟨i,t,rfl,rfl⟩ | ⟨x,t,rfl,rfl⟩
  ·rcases cg hv with⟨j,u,rfl,rfl⟩ | ⟨y,u,rfl,rfl⟩
   ·rw[LJ] at h;exact ab6 h
   ·rw[LK] at h;exact ab9 i t y u _ _ _ _ h
  ·rcases cg hv with⟨j,u,rfl,rfl⟩ | ⟨y,u,rfl,rfl⟩
   ·rw[LL] at h;exact ab8 x t j u _ _ _ _ h
   ·rw[LM] at h;exact wpAny_eqBool_str h
 «strs» :=λk x t v h=>by
  rcases cg h with⟨i,u,rfl,e⟩ | ⟨y,u,rfl,e⟩
  ·exact nomatch e
  ·injection e with e1 _
   subst e1;cases v<;>rfl
def yx(prog:Xc)(w:World)(i:Int)(t:Tok):(bg prog w).is (.inl i) (.int i t)=true:=Dk i t
def yy(prog:Xc)(w:World)(x:Str)(t:Tok):(bg prog w).is (.inr x) (.str x t)=true:=Dl x t
inductive V where
 |non | bl (b:Bool) | int (i:Int) | str (x:Str) | byt (b:Array UInt8) | flt (b:UInt64) | ref (a:Addr) | ty (n:String)
 deriving DecidableEq
def RelV:V->Value->Prop
 | .non,u=>u=Xi
 | .bl b,u=>u=X3 b
 | .int i,u=>∃t,u=acr i t
 | .str x,u=>∃t,u=acq x t
 | .byt b,u=>∃t,u=Value.bytes b t
 | .flt b,u=>∃t,u=Value.float b t
 | .ref a,u=>u=WY a
 | .ty n,u=>u=ZF n
abbrev Vals:List V->List Value->Prop:=abj RelV
def Vals.length{xs:List V}{us:List Value}(r:Vals xs us):xs.length=us.length:=YA r
def Vals.get:∀{xs:List V}{us:List Value}{i:Nat}{x:V},Vals xs us->xs[i]? =some x->∃u,us[i]? =some u/\RelV x u
 |_,_,_,_, .nil,e=>by simp at e
 |_,_,0,_, .cons r _,e=>by simp at e;subst e;exact⟨_,rfl,r⟩
 |_,_,i+1,x, .cons _ t,e=>by
  obtain⟨u,h1,h2⟩:=Vals.get (i:=i) (x:=x) t (by simpa using e);exact⟨u,by simpa using h1,h2⟩
def Vals.append:∀{xs ys:List V}{us ws:List Value},Vals xs us->Vals ys ws->Vals (xs++ys) (us++ws)
 |_,_,_,_, .nil,s=>s
 |_,_,_,_, .cons r t,s=> .cons r (Vals.append t s)
def Vals.take:∀{xs:List V}{us:List Value}(n:Nat),Vals xs us->Vals (xs.take n) (us.take n)
 |_,_,0,_=> .nil
 |_,_,_+1, .nil=> .nil
 |_,_,n+1, .cons r t=> .cons r (Vals.take n t)
def Vals.drop:∀{xs:List V}{us:List Value}(n:Nat),Vals xs us->Vals (xs.drop n) (us.drop n)
 |_,_,0,r=>r
 |_,_,_+1, .nil=> .nil
 |_,_,n+1, .cons _ t=>Vals.drop n t
def RelO:Option V->Option Value->Prop
 |some v,some u=>RelV v u
 |none,none=>True
 |_,_=>False
def KV{κ:Type}:List (κ×V)->List (κ×Value)->Prop:=abj λ(p:κ×V) (q:κ×Value)=>p.1=q.1/\RelV p.2 q.2
def kV:Key->V
 | .inl i=> .int i
 | .inr x=> .str x
inductive HO where
 |lst (xs:List V)
 |tup (xs:List V)
 |dK (aB:List (Key×V)) | dT (aB:List (List Key×V))
 |set (S:Int->Bool) (n:Nat)
 |ins (C dx:Addr) (fs:List (Str×V))
 |own (x:Addr)
 |xd (fs:List (Str×V))
 |met (f x:Addr)
 |rng (lo hi:Int)
 |frz (o:Obj) (u:HO)
 |tbl (ps:Array Value)
 |ext (φ:Heap->Prop)
abbrev Hp:=Addr->Option HO
def upd(H:Hp)(a:Addr)(o:HO):Hp:=λb=>if b=a then some o else H b
def aP{H:Hp}{a:Addr}{o:HO}:upd H a o a=some o:=by unfold upd;rw[adF rfl]
def aA{H:Hp}{a b:Addr}{o:HO}(h:b≠a):upd H a o b=H b:=by unfold upd;rw[adG h]
def FK{H:Hp}{a b:Addr}{o u:HO}(h:H a=some o)(h':H b=some u)(d:o≠u):a≠b:=by
 intro e;subst e;rw[h] at h';exact d (Xg h')
def bz{H:Hp}{a b:Addr}{o:HO}(h:H a=some o)(h':H b=none):a≠b:=by
 intro e;subst e;rw[h] at h';cases h'
section
variable(P:Xc)(w:World)
def ObjOk(H:Hp)(h:Heap)(a:Addr):HO->Prop
 | .lst xs=>xs.length<=WX/\∃(aI:List Value) (n:Nat),Vals xs aI/\h.get? a=some {cls:= .type "list",data:= .seq aI.toArray n}
 | .tup xs=>xs.length<=WX/\∃aI:List Value,Vals xs aI/\IsTup h a aI.toArray
 | .dK aB=>aB.length<=WX/\(a==Ye)=false/\∃vs,KV aB vs/\h.DictOf (bg P w) a vs
 | .dT aB=>aB.length<=WX/\(a==Ye)=false/\∃xs:List (List Key×Addr×Value),
    abj (λ(p:List Key×V) (q:List Key×Addr×Value)=>p.1=q.1/\H q.2.1=some (.tup (p.1.map kV))/\RelV p.2 q.2.2) aB xs/\
    ∃o es ep,h.get? a=some o/\o.ExactDict/\o.data= .dict es ep/\es.toList=xs.map (abL (Y0 (bg P w)))/\(xs.map (·.1)).Nodup
 | .set S n=>h.SetOf (intKind P w) a S n
 | .ins C dx fs=>H dx=some (.own a)/\fs.length<=1000/\dx≠a/\h.get? a=some (abo C dx)/\
    ∃mA,h.Ns1 dx mA/\(∀f,RelO (fs.lookup f) (mA f))/\PySem.Within mA (fs.map (·.1))
 | .own _=>∃o,h.get? a=some o
 | .xd fs=>∃mA,h.Ns1 a mA/\∀f,RelO (fs.lookup f) (mA f)
 | .rng lo hi=>∃t u v,h.get? a=some {cls:= .type "range",data:= .fields #[.int lo t, .int hi u, .int 1 v]}
 | .frz o u=>h.get? a=some o/\ObjOk H h a u
 | .tbl ps=>h.get? a=some {cls:= .none,data:= .fields ps}
 | .met f x=>h.get? a=some (aaY (.ref f) (.ref x))
 | .ext φ=>φ h/\(∃o,h.get? a=some o)/\∀h1 h2:Heap,φ h1->(∀o,h1.get? a=some o->h2.get? a=some o)->φ h2
def HOk(H:Hp)(h:Heap):Prop:=∀a o,H a=some o->ObjOk P w H h a o
end
section
variable{P:Xc}{w:World}{H H':Hp}{h h':Heap}{a:Addr}{o:HO}
def ObjOk.lt(x:ObjOk P w H h a o):a<h.objs.size:=by
 cases o with
 |lst xs=>obtain⟨_,_,_,_,e⟩:=x;exact WH e
 |tup xs=>obtain⟨_,_,_,p⟩:=x;exact p.lt
 |dK aB=>obtain⟨_,_,_,_,o,_,_,e,_⟩:=x;exact WH e
 |dT aB=>obtain⟨_,_,_,_,o,_,_,e,_⟩:=x;exact WH e
 |set S n=>obtain⟨o,_,_,_,e,_⟩:=x;exact WH e
 |ins C dx fs=>obtain⟨_,_,_,e,_⟩:=x;exact WH e
 |own y=>obtain⟨_,e⟩:=x;exact WH e
 |xd fs=>obtain⟨_,⟨_,_,_,e,_⟩,_⟩:=x;exact WH e
 |rng lo hi=>obtain⟨_,_,_,e⟩:=x;exact WH e
 |frz ob u=>obtain⟨e,_⟩:=x;exact WH e
 |tbl ps=>exact WH (show h.get? a=some _ from x)
 |met f y=>exact WH (show h.get? a=some _ from x)
 |ext φ=>obtain⟨_,⟨_,e⟩,_⟩:=x;exact WH e
def Paired.mapP{α β:Type}{F G:α->β->Prop}:∀{l₁:List α}{l₂:List β},abj F l₁ l₂->(∀a b,F a b->G a b)->abj G l₁ l₂
 |_,_, .nil,_=> .nil
 |_,_, .cons r t,f=> .cons (f _ _ r) (Paired.mapP t f)
def ObjOk.stay(x:ObjOk P w H h a o)(k:∀b u,(b=a\/H b=some (.own a))->h.get? b=some u->h'.get? b=some u)
 (ho:∀b,H b=some (.own a)->H' b=some (.own a))(ht:∀b xs,H b=some (.tup xs)->H' b=some (.tup xs)):ObjOk P w H' h' a o:=by
 induction o with
 |lst xs=>obtain⟨z,aI,n,r,e⟩:=x;exact⟨z,aI,n,r,k _ _ (.inl rfl) e⟩
 |tup xs=>obtain⟨z,aI,r,ob,e,c⟩:=x;exact⟨z,aI,r,ob,k _ _ (.inl rfl) e,c⟩
 |dK aB=>obtain⟨z,y,vs,r,ob,es,ep,e,c⟩:=x;exact⟨z,y,vs,r,ob,es,ep,k _ _ (.inl rfl) e,c⟩
 |dT aB=>
  obtain⟨z,y,xs,r,ob,es,ep,e,c⟩:=x;exact⟨z,y,xs,Paired.mapP r λp q z=>⟨z.1,ht _ _ z.2.1,z.2.2⟩,ob,es,ep,k _ _ (.inl rfl) e,c⟩
 |set S n=>obtain⟨ob,es,ep,t,e,c⟩:=x;exact⟨ob,es,ep,t,k _ _ (.inl rfl) e,c⟩
 |ins C dx fs=>
  obtain⟨d,z,ne,e,mA,⟨od,es,ep,e2,c⟩,r⟩:=x;exact⟨ho _ d,z,ne,k _ _ (.inl rfl) e,mA,⟨od,es,ep,k _ _ (.inr d) e2,c⟩,r⟩
 |own y=>obtain⟨ob,e⟩:=x;exact⟨ob,k _ _ (.inl rfl) e⟩
 |xd fs=>obtain⟨mA,⟨od,es,ep,e,c⟩,r⟩:=x;exact⟨mA,⟨od,es,ep,k _ _ (.inl rfl) e,c⟩,r⟩
 |rng lo hi=>obtain⟨t,u,v,e⟩:=x;exact⟨t,u,v,k _ _ (.inl rfl) e⟩
 |frz ob u ih=>obtain⟨e,q⟩:=x;exact⟨k _ _ (.inl rfl) e,ih q⟩
 |tbl ps=>
  have e:h.get? a=some {cls:= .none,data:= .fields ps}:=x;show h'.get? a=some {cls:= .none,data:= .fields ps};exact k a _ (.inl rfl) e
 |met f y=>
  have e:h.get? a=some (aaY (.ref f) (.ref y)):=x;show h'.get? a=some (aaY (.ref f) (.ref y));exact k a _ (.inl rfl) e
 |ext φ=>obtain⟨p,⟨o,e⟩,st⟩:=x;exact⟨st _ _ p λo q=>k _ _ (.inl rfl) q,⟨o,k _ _ (.inl rfl) e⟩,st⟩
def HOk.lt(x:HOk P w H h)(e:H a=some o):a<h.objs.size:=(x a o e).lt
def HOk.fresh(x:HOk P w H h)(e:h.objs.size<=a):H a=none:=by
 cases q:H a with
 |none=>rfl
 |some u=>exact adK (W_ (x.lt q) e) (Xz _)
def HOk.kept(x:HOk P w H h)(k:∀b u,h.get? b=some u->h'.get? b=some u):HOk P w H h':=λa o e=>
 (x a o e).stay (λb u _ q=>k b u q) (λ_ q=>q) λ_ _ q=>q
def HOk.laid(x:HOk P w H h)(k:∀b u,h.get? b=some u->h'.get? b=some u)(hp:h.objs.size<=a)(new:ObjOk P w (upd H a o) h' a o):HOk P w (upd H a o) h':=λb u e=>by
 have hn:=x.fresh hp;by_cases hb:b=a
 ·subst hb;rw[aP] at e;cases e;exact new
 ·rw[aA hb] at e;exact(x b u e).stay (λc v _ q=>k c v q) (λc q=>by rw[aA (bz q hn)];exact q) λc xs q=>by rw[aA (bz q hn)];exact q
end
def Rd(H:Hp)(a:Addr)(u:HO):Prop:=H a=some u\/∃o,H a=some (.frz o u)
def Rd.ok{P:Xc}{w:World}{H:Hp}{h:Heap}{a:Addr}{u:HO}(r:Rd H a u)(x:HOk P w H h):ObjOk P w H h a u:=by
 rcases r with r | ⟨o,r⟩
 ·exact x a u r
 ·obtain⟨_,q⟩:=x a _ r;exact q
def Nr:Option HO->Prop
 |some (.lst _)=>True
 |some (.dK _)=>True
 |some (.dT _)=>True
 |some (.set _ _)=>True
 |some (.ins _ _ _)=>True
 |some (.ext _)=>True
 |_=>False
section
variable{P:Xc}{w:World}{H:Hp}{h h':Heap}{x e:Addr}{o':HO}
def HOk.write(ok:HOk P w H h)(mu:Nr (H x))(he:e=x\/H e=some (.own x))(k:∀b u,b≠e->h.get? b=some u->h'.get? b=some u)(Ei:∃u,h'.get? e=some u)
 (new:ObjOk P w (upd H x o') h' x o'):HOk P w (upd H x o') h':=λb u q=>by
 have OR:∀c y,H c=some (.own y)->c≠x:=λc y r z=>by subst z;rw[r] at mu;exact mu
 have RX:∀c xs,H c=some (.tup xs)->c≠x:=λc xs r z=>by subst z;rw[r] at mu;exact mu
 by_cases hb:b=x
 ·subst hb;rw[aP] at q;cases q;exact new
 ·rw[aA hb] at q;by_cases Hh:b=e
  ·have q':H b=some (.own x):=by
    rcases he with z | z
    ·exact adK (Hh.trans z) hb
    ·rw[Hh];exact z
   rw[q] at q';cases q';obtain⟨v,hv⟩:=Ei;exact⟨v,by rw[Hh];exact hv⟩
  ·refine(ok b u q).stay (λc v hc r=>k c v ?_ r) (λc r=>by rw[aA (OR c b r)];exact r) λc xs r=>by rw[aA (RX c xs r)];exact r
   rcases hc with rfl | hc
   ·exact Hh
   ·rintro rfl;rcases he with z | z
    ·exact OR c b hc z
    ·rw[hc] at z;cases z;exact hb rfl
end
structure Un (fs ex:List Addr) (H H':Hp) (h h':Heap):Prop where
 keep:∀b o,h.get? b=some o->H b=none->b∉fs->b∉ex->h'.get? b=some o
 slot:∀b o,h.get? b=some o->H b=none->b∈fs->b∉ex->∃sl,h'.get? b=some {o with slots:=sl}
 free:∀b o,h.get? b=some o->H b=none->b∉ex->H' b=none
 there:∀b o,h.get? b=some o->b∉ex->∃o',h'.get? b=some o'
 tups:∀b xs,H b=some (.tup xs)->H' b=some (.tup xs)
 frzs:∀b o u,H b=some (.frz o u)->H' b=some (.frz o u)
 tbls:∀b ps,H b=some (.tbl ps)->∃more,H' b=some (.tbl (ps++more))
section
variable{fs SU ex z8:List Addr}{H H1 H2:Hp}{h h1 h2 h':Heap}{a x e:Addr}{o:HO}
def Un.any(u:Un fs ex H H1 h h1){b:Addr}{ob:Obj}(q:h.get? b=some ob)(n:H b=none)(hx:b∉ex):∃sl,h1.get? b=some {ob with slots:=sl}:=by
 by_cases hb:b∈fs
 ·exact u.slot b ob q n hb hx
 ·exact⟨ob.slots,u.keep b ob q n hb hx⟩
def Un.trans(a:Un fs ex H H1 h h1)(b:Un fs ex H1 H2 h1 h2):Un fs ex H H2 h h2 where
 keep:=λc ob q n hc hx=>b.keep c ob (a.keep c ob q n hc hx) (a.free c ob q n hx) hc hx
 slot:=λc ob q n hc hx=>by
  obtain⟨sl,e1⟩:=a.slot c ob q n hc hx;obtain⟨JB,e2⟩:=b.slot c _ e1 (a.free c ob q n hx) hc hx;exact⟨JB,e2⟩
 free:=λc ob q n hx=>by
  obtain⟨o',e1⟩:=a.there c ob q hx;exact b.free c o' e1 (a.free c ob q n hx) hx
 there:=λc ob q hx=>by
  obtain⟨o',e1⟩:=a.there c ob q hx;exact b.there c o' e1 hx
 tups:=λc xs q=>b.tups c xs (a.tups c xs q)
 frzs:=λc ob xs q=>b.frzs c ob xs (a.frzs c ob xs q)
 tbls:=λc ps q=>by
  obtain⟨m1,e1⟩:=a.tbls c ps q;obtain⟨m2,e2⟩:=b.tbls c _ e1;exact⟨m1++m2,by rw[e2,aa2]⟩
def Un.kept(k:∀b u,h.get? b=some u->h'.get? b=some u):Un fs ex H H h h':=
 ⟨λb ob q _ _ _=>k b ob q,λb ob q _ _ _=>⟨ob.slots,k b ob q⟩,λ_ _ _ n _=>n,λb ob q _=>⟨ob,k b ob q⟩,λ_ _ q=>q,λ_ _ _ q=>q,λ_ ps q=>⟨#[],by rw[q];simp⟩⟩
def Un.refl:Un fs ex H H h h:=Un.kept λ_ _ q=>q
def Un.laid(k:∀b u,h.get? b=some u->h'.get? b=some u)(hp:h.objs.size<=a)(hn:H a=none):Un fs ex H (upd H a o) h h' where
 keep:=λb u q _ _ _=>k b u q
 slot:=λb u q _ _ _=>⟨u.slots,k b u q⟩
 free:=λb u q n _=>by rw[aA (W4 (W_ (WH q) hp))];exact n
 there:=λb u q _=>⟨u,k b u q⟩
 tups:=λb xs q=>by rw[aA (bz q hn)];exact q
 frzs:=λb u xs q=>by rw[aA (bz q hn)];exact q
 tbls:=λb ps q=>⟨#[],by rw[aA (bz q hn),q];simp⟩
def Un.write(mu:Nr (H x))(he:e=x\/H e=some (.own x))(k:∀b u,b≠e->h.get? b=some u->h'.get? b=some u)(Ei:∃u,h'.get? e=some u):Un fs ex H (upd H x o) h h':=by
 have hx:∀b,H b=none->b≠x:=λb n z=>by subst z;rw[n] at mu;exact mu
 have hb:∀b,H b=none->b≠e:=λb n z=>by
  subst z;rcases he with r | r
  ·exact hx b n r
  ·rw[n] at r;cases r
 have hm:∀b u,H b=some u->¬Nr (some u)->b≠x:=λb u q nm z=>by subst z;rw[q] at mu;exact nm mu
 refine⟨λb u q n _ _=>k b u (hb b n) q,λb u q n _ _=>⟨u.slots,k b u (hb b n) q⟩,λb u q n _=>by rw[aA (hx b n)];exact n,λb u q _=>?_,
  λb xs q=>by rw[aA (hm b _ q λz=>z)];exact q,λb u xs q=>by rw[aA (hm b _ q λz=>z)];exact q,λb ps q=>⟨#[],by rw[aA (hm b _ q λz=>z),q];simp⟩⟩
 by_cases Hh:b=e
 ·subst Hh;exact Ei
 ·exact⟨u,k b u Hh q⟩
def Un.mono(u:Un fs ex H H1 h h1)(hs:∀b∈fs,b∈SU)(hx:∀b∈ex,b∈z8):Un SU z8 H H1 h h1:=
 ⟨λb ob q n hb he=>u.keep b ob q n (λz=>hb (hs b z)) λz=>he (hx b z),λ_ _ q n _ he=>u.any q n λz=>he (hx _ z),λb ob q n he=>u.free b ob q n λz=>he (hx b z),λb ob q he=>u.there b ob q λz=>he (hx b z),u.tups,u.frzs,u.tbls⟩
end
def Qx(h:Heap)(H:Hp):List Addr:=(W8 h.objs.size).filter λa=>(H a).isSome
def vn(h:Heap)(H:Hp):Heap:=aat h (Qx h H)
def CZ(h:Heap)(H:Hp):(vn h H).objs.size=h.objs.size:=PySem.W.hideAll_size _ _
def E8{h:Heap}{H:Hp}{b:Addr}{o:Obj}(e:h.get? b=some o)(n:H b=none):(vn h H).get? b=some o:=
 acu _ e λhm=>by
  have q:(H b).isSome=true:=(W7.mp hm).2;rw[n] at q;simp at q
def IE{h:Heap}{H:Hp}{b:Addr}{o:Obj}(e:(vn h H).get? b=some o):h.get? b=some o/\H b=none:=by
 have e':h.get? b=some o:=acA (Qx h H) e;refine⟨e',?_⟩;cases q:H b with
 |none=>rfl
 |some x=>
  have hm:b∈Qx h H:=W7.mpr ⟨Yq.mpr (WH e'),by simp[q]⟩;have z:(vn h H).get? b=none:=PySem.W.hideAll_none (Qx h H) hm;rw[z] at e;cases e
def Hr(g h:Heap)(L:Addr):List (Addr×Obj):=(W8 h.objs.size).filterMap λa=>if a=L\/(g.get? a).isSome=true then none else(h.get? a).map λo=>(a,o)
def rest(g h:Heap)(L d:Addr):List (Addr×Obj):=(Hr g h L).filter λp=>decide (p.1≠d)
structure Mod (K:WI) (mg:Str->Option Value) (base:Heap):Prop where
 kin:K.In base
 glob:base.Ns W0 mg
 blt:∃mb,base.Ns builtinsNs mb/\∀x:Str,x≠"__name__"->mb x=Xl x
 nolimit:base.NoLimit
structure Cx where
 prog:Xc
 w:World
 K:WI
 mg:Str->Option Value
 base:Heap
 A:Xu
 N:List Str
 adQ:WC
 adP:Hp
 env:Env
 outer:List Env
 stack:List Env
 ex:List Addr
 fn:Str->Bool
 calm:Bool
 pn:List (Addr×Obj)
 xe:Value->WC->Prop
def iy(l:List Env):List Addr:=l.filterMap (·.frame)
abbrev Cx.fs(X:Cx):List Addr:=iy X.outer
def PY(sc:Scope)(x:Str):Prop:=sc.names.lookup x=some .local\/sc.names.lookup x=some .cell\/sc.names.lookup x=some .free
def Loc(sc:Scope)(x:Str):Prop:=sc.names.lookup x=some .local\/sc.names.lookup x=some .cell
def Look(env:Env)(h:Heap)(m:Str->Option Value)(x:Str)(u:Value):Prop:=
 (env.kindOf x=some .local/\m x=some u)\/((env.kindOf x=some .cell\/env.kindOf x=some .free)/\∃c,env.cells.lookup x=some c/\h.IsCell c (some u))
structure Cx.Ok (X:Cx):Prop where
 mod:Mod X.K X.mg X.base
 kind:X.env.scope.kind= .function
 glob:X.env.globals=W0
 blt:X.env.builtins=builtinsNs
 above:X.adQ.heap.objs.size<=X.env.locals
 inj:∀x y c,X.env.cells.lookup x=some c->X.env.cells.lookup y=some c->x=y
 has:∀x,(X.env.kindOf x=some .cell\/X.env.kindOf x=some .free)->∃c,X.env.cells.lookup x=some c
 cab:∀x c,X.fn x=true->X.env.cells.lookup x=some c->X.adQ.heap.objs.size<=c
 hd:X.calm=true->X.A.handled=none
 frames:X.A.frames=some X.stack
 stk:X.stack=X.outer\/(X.stack=X.env::X.outer/\X.env.frame=some X.env.locals)
 exf:∀b∈X.ex,b≠X.env.locals/\∀x c,X.env.cells.lookup x=some c->c≠b
 bs:∀b o,X.base.get? b=some o->X.adQ.heap.get? b=some o/\X.adP b=none
 bsz:X.base.objs.size<=X.adQ.heap.objs.size
 noex:∀b o,X.base.get? b=some o->b∉X.ex
 exfs:∀b∈X.ex,b∉X.fs
 funs:X.adQ.heap.FunFrames X.base X.outer
 frf:∀b∈X.fs,X.adP b=none
structure Inv (X:Cx) (f8:List (Addr×Obj)) (σ:List (Option V)) (H:Hp) (s:WC):Prop where
 ok:X.Ok
 os:s.os=X.adQ.os
 bare:aa3 s.gens
 base:Un X.fs X.ex X.adP H X.adQ.heap s.heap
 loc:∃m,s.heap.Ns X.env.locals m/\∀(i:Nat) (x:Str) (v:V),X.N[i]? =some x->σ[i]? =some (some v)->PY X.env.scope x->∃u,RelV v u/\Look X.env s.heap m x u
 cell:∀x c,X.env.cells.lookup x=some c->∃v,s.heap.IsCell c v
 free:H X.env.locals=none
 freeC:∀x c,X.env.cells.lookup x=some c->H c=none
 pin:∀p∈X.pn++f8,s.heap.get? p.1=some p.2/\H p.1=none/\p.1≠X.env.locals/\p.1∉X.fs/\∀v,p.2.data≠ .cell v
 hok:HOk X.prog X.w H s.heap
 len:σ.length=X.N.length
section
variable{X:Cx}{f8:List (Addr×Obj)}{σ:List (Option V)}{H H':Hp}{s:WC}{h':Heap}
def Cx.Ok.nofr(ok:X.Ok){b:Addr}{o:Obj}(e:X.base.get? b=some o):b∉X.fs:=λhb=>by
 have:=(ok.funs.mem hb).1;rw[e] at this;cases this
def Inv.bs(I:Inv X f8 σ H s):∀b o,X.base.get? b=some o->s.heap.get? b=some o/\H b=none:=λb o e=>
 ⟨I.base.keep b o (I.ok.bs b o e).1 (I.ok.bs b o e).2 (I.ok.nofr e) (I.ok.noex b o e),I.base.free b o (I.ok.bs b o e).1 (I.ok.bs b o e).2 (I.ok.noex b o e)⟩
def Inv.bk(I:Inv X f8 σ H s):∀b o,X.base.get? b=some o->s.heap.get? b=some o:=λb o e=>(I.bs b o e).1
def Inv.mod(I:Inv X f8 σ H s):Mod X.K X.mg X.base:=I.ok.mod
def Inv.kIn(I:Inv X f8 σ H s):X.K.In s.heap:=I.ok.mod.kin.keeps I.bk
def Inv.nolimit(I:Inv X f8 σ H s):s.heap.NoLimit:=I.ok.mod.nolimit.keeps I.bk
def Inv.lt(I:Inv X f8 σ H s):X.env.locals<s.heap.objs.size:=let ⟨_,hn,_⟩:=I.loc;hn.lt
def Inv.sz(I:Inv X f8 σ H s):X.adQ.heap.objs.size<=s.heap.objs.size:=Xf I.ok.above (Yc I.lt)
def Inv.nofs(I:Inv X f8 σ H s){a:Addr}(h:s.heap.objs.size<=a):a∉X.fs:=λhb=>by
 obtain⟨_,o,ho,_⟩:=I.ok.funs.mem hb;exact adK (W_ (WH ho) (Xf I.sz h)) (Xz _)
def Inv.cne(I:Inv X f8 σ H s):∀x c,X.env.cells.lookup x=some c->c≠X.env.locals:=λx c e z=>by
 obtain⟨v,o,ho,hd⟩:=I.cell x c e;obtain⟨m,⟨o',es,ep,lX,sr,_⟩,_⟩:=I.loc;rw[z,lX] at ho;cases ho;rw[sr] at hd;cases hd
def Inv.funs(I:Inv X f8 σ H s):s.heap.FunFrames X.base X.outer:=by
 have all:∀(l:List Env),(∀b∈iy l,b∈X.fs)->X.adQ.heap.FunFrames X.base l->s.heap.FunFrames X.base l:=by
  intro l;induction l with
  |nil=>intro _ _;trivial
  |cons env r ih=>
   intro hs hl;obtain⟨hk,⟨L,o,hf,hn,ho,hd⟩,hr⟩:=hl;have hL:L∈X.fs:=hs L (by unfold iy;rw[aaU,hf];exact WB);obtain⟨sl,e⟩:=I.base.slot L o ho (I.ok.frf L hL) hL λz=>I.ok.exfs L z hL;exact⟨hk,⟨L,_,hf,hn,e,hd⟩,ih (λb hb=>hs b (by unfold iy;rw[aaU,hf];exact Wz _ hb)) hr⟩
 exact all X.outer (λ_ hb=>hb) I.ok.funs
def Inv.stack(I:Inv X f8 σ H s):s.heap.FunFrames X.base X.stack:=by
 rcases I.ok.stk with e | ⟨e,hf⟩
 ·rw[e];exact I.funs
 ·rw[e];obtain⟨m,hn,_⟩:=I.loc;refine .cons (by rw[I.ok.kind];decide) hf hn ?_ I.funs;exact acU (Xf I.ok.bsz I.ok.above)
def Inv.stkSub(I:Inv X f8 σ H s):∀b∈iy X.stack,b∈X.env.locals::X.fs:=λb hb=>by
 rcases I.ok.stk with e | ⟨e,hf⟩
 ·rw[e] at hb;exact Wz _ hb
 ·rw[e] at hb;unfold iy at hb;rw[aaU,hf] at hb;exact hb
def Inv.stkFree(I:Inv X f8 σ H s):∀b∈iy X.stack,H b=none:=λb hb=>by
 rcases WG.mp (I.stkSub b hb) with e | hb
 ·rw[e];exact I.free
 ·obtain⟨_,o,ho,_⟩:=I.ok.funs.mem hb;exact I.base.free b o ho (I.ok.frf b hb) λz=>I.ok.exfs b z hb
def Inv.step{g':Array GenState}{t':Nat}{d':Drawn}{ch:List Addr}(I:Inv X f8 σ H s)
 (Hi:∀b∈ch,(b∈X.ex\/X.adQ.heap.objs.size<=b)/\b≠X.env.locals/\(∀x c,X.env.cells.lookup x=some c->c≠b)/\∀p∈X.pn++f8,p.1≠b)
 (keep:∀b o,b≠X.env.locals->b∉X.fs->b∉ch->s.heap.get? b=some o->H b=none->h'.get? b=some o)
 (slot:∀b o,b≠X.env.locals->b∈X.fs->b∉ch->s.heap.get? b=some o->H b=none->∃sl,h'.get? b=some {o with slots:=sl})(free:∀b o,b∉ch->s.heap.get? b=some o->H b=none->H' b=none)
 (there:∀b o,b∉ch->s.heap.get? b=some o->∃o',h'.get? b=some o')
 (tups:∀b xs,H b=some (.tup xs)->H' b=some (.tup xs))(frzs:∀b o u,H b=some (.frz o u)->H' b=some (.frz o u))(tbls:∀b ps,H b=some (.tbl ps)->∃more,H' b=some (.tbl (ps++more)))
 (ns:∀m,s.heap.Ns X.env.locals m->h'.Ns X.env.locals m)(hok:HOk X.prog X.w H' h')(hg:aa3 g'):
 Inv X f8 σ H' {s with heap:=h',gens:=g',drawn:=d',toks:=t'}:=by
 have Ng:∀b o,X.adQ.heap.get? b=some o->b≠X.env.locals:=λb o e=>W4 (W_ (WH e) I.ok.above);have Qm:∀b o,X.adQ.heap.get? b=some o->b∉X.ex->b∉ch:=λb o e hx hb=>by
  rcases(Hi b hb).1 with z | z
  ·exact hx z
  ·exact adK (W_ (WH e) z) (Xz _)
 have cellK:∀x c,X.env.cells.lookup x=some c->∀v,s.heap.IsCell c v->h'.IsCell c v:=λx c e v ⟨o,ho,hd⟩=>by
  have OO:c∉ch:=λz=>(Hi c z).2.2.1 x c e rfl;by_cases hc:c∈X.fs
  ·obtain⟨sl,q⟩:=slot c o (I.cne x c e) hc OO ho (I.freeC x c e);exact⟨_,q,hd⟩
  ·exact⟨o,keep c o (I.cne x c e) hc OO ho (I.freeC x c e),hd⟩
 refine⟨I.ok,I.os,hg,⟨λb o e n hb hx=>?_,λb o e n hb hx=>?_,λb o e n hx=>?_,λb o e hx=>?_,λb xs e=>tups b xs (I.base.tups b xs e),λb o xs e=>frzs b o xs (I.base.frzs b o xs e),λb ps e=>?_⟩,?_,λx c e=>?_,?_,λx c e=>?_,λp hp=>?_,hok,I.len⟩
 ·exact keep b o (Ng b o e) hb (Qm b o e hx) (I.base.keep b o e n hb hx) (I.base.free b o e n hx)
 ·obtain⟨sl,e1⟩:=I.base.slot b o e n hb hx;obtain⟨JB,e2⟩:=slot b _ (Ng b o e) hb (Qm b o e hx) e1 (I.base.free b o e n hx);exact⟨JB,e2⟩
 ·obtain⟨o',e1⟩:=I.base.there b o e hx;exact free b o' (Qm b o e hx) e1 (I.base.free b o e n hx)
 ·obtain⟨o',e1⟩:=I.base.there b o e hx;exact there b o' (Qm b o e hx) e1
 ·obtain⟨m1,e1⟩:=I.base.tbls b ps e;obtain⟨m2,e2⟩:=tbls b _ e1;exact⟨m1++m2,by rw[e2,aa2]⟩
 ·obtain⟨m,hn,hl⟩:=I.loc;refine⟨m,ns m hn,λi x v e1 e2 e3=>?_⟩;obtain⟨u,r,l⟩:=hl i x v e1 e2 e3;refine⟨u,r,?_⟩;rcases l with l | ⟨k,c,e,z⟩
  ·exact .inl l
  ·exact .inr ⟨k,c,e,cellK x c e _ z⟩
 ·obtain⟨v,z⟩:=I.cell x c e;exact⟨v,cellK x c e v z⟩
 ·obtain⟨m,⟨o,_,_,ho,_⟩,_⟩:=I.loc;exact free _ o (λz=>(Hi _ z).2.1 rfl) ho I.free
 ·obtain⟨v,o,ho,hd⟩:=I.cell x c e;exact free c o (λz=>(Hi c z).2.2.1 x c e rfl) ho (I.freeC x c e)
 ·obtain⟨e,n,ne,nf,d⟩:=I.pin p hp;have OO:p.1∉ch:=λz=>(Hi p.1 z).2.2.2 p hp rfl;exact⟨keep p.1 p.2 ne nf OO e n,free p.1 p.2 OO e n,ne,nf,d⟩
def Inv.un{t':Nat}(I:Inv X f8 σ H s)(u:Un X.fs [] H H' s.heap h')(hok:HOk X.prog X.w H' h'):Inv X f8 σ H' {s with heap:=h',toks:=t'}:=by
 obtain⟨m,⟨o,es,ep,ho,r⟩,_⟩:=id I.loc;obtain⟨sl,hL⟩:=u.any ho I.free (by simp);exact I.step (g':=s.gens) (d':=s.drawn) (ch:=[]) (λ_ z=>nomatch z) (λb o _ hb _ e n=>u.keep b o e n hb (by simp)) (λb o _ hb _ e n=>u.slot b o e n hb (by simp)) (λb o _ e n=>u.free b o e n (by simp)) (λb o _ e=>u.there b o e (by simp)) u.tups u.frzs u.tbls (λm' hm=>by
  obtain⟨o',M3,HI,lX,r'⟩:=hm;rw[ho] at lX;cases lX;exact⟨_,M3,HI,hL,r'⟩) hok I.bare
def Inv.call{g':Array GenState}{t':Nat}{d':Drawn}{ch:List Addr}(I:Inv X f8 σ H s)(u:Un (iy X.stack) ch H H' s.heap h')(hok:HOk X.prog X.w H' h')(hg:aa3 g')
 (Hi:∀b∈ch,(b∈X.ex\/X.adQ.heap.objs.size<=b)/\b≠X.env.locals/\(∀x c,X.env.cells.lookup x=some c->c≠b)/\∀p∈X.pn++f8,p.1≠b):
 Inv X f8 σ H' {s with heap:=h',gens:=g',drawn:=d',toks:=t'}:=by
 obtain⟨m,⟨o,es,ep,ho,r⟩,_⟩:=id I.loc;obtain⟨sl,hL⟩:=u.any ho I.free λz=>(Hi _ z).2.1 rfl;exact I.step (ch:=ch) Hi (λb o hL hb hc e n=>u.keep b o e n (λz=>(WG.mp (I.stkSub b z)).elim hL hb) hc) (λb o _ _ hc e n=>u.any e n hc) (λb o hc e n=>u.free b o e n hc) (λb o hc e=>u.there b o e hc) u.tups u.frzs u.tbls (λm' hm=>by
  obtain⟨o',M3,HI,lX,r'⟩:=hm;rw[ho] at lX;cases lX;exact⟨_,M3,HI,hL,r'⟩) hok hg
def Inv.turned{t':Nat}{it:Addr}(I:Inv X f8 σ H s)(k:∀b o,b≠it->s.heap.get? b=some o->h'.get? b=some o)(hn:H it=none)(hL:it≠X.env.locals)
 (h1:it∈X.ex\/X.adQ.heap.objs.size<=it)(h2:∀x c,X.env.cells.lookup x=some c->c≠it)(h3:∀p∈X.pn++f8,p.1≠it):Inv X f8 σ H {s with heap:=h',toks:=t'}:=by
 have Ke:∀b u,H b=some u->b≠it:=λb u e z=>by rw[z,hn] at e;cases e
 refine I.step (g':=s.gens) (d':=s.drawn) (ch:=[it]) (λb hb=>?_) (λb o _ _ hc e _=>k b o (λz=>hc (by simp[z])) e) (λb o _ _ hc e _=>⟨o.slots,k b o (λz=>hc (by simp[z])) e⟩) (λ_ _ _ _ n=>n)
  (λb o hc e=>⟨o,k b o (λz=>hc (by simp[z])) e⟩) (λ_ _ e=>e) (λ_ _ _ e=>e) (λb ps e=>⟨#[],by rw[e];simp⟩) (λm hm=>?_) (λb u e=>?_) I.bare
 ·have e:b=it:=by simpa using hb
  subst e;exact⟨h1,hL,h2,h3⟩
 ·obtain⟨o,es,ep,ho,r⟩:=hm;exact⟨o,es,ep,k _ o (XD hL) ho,r⟩
 ·refine(I.hok b u e).stay (λc v hc q=>k c v ?_ q) (λ_ q=>q) λ_ _ q=>q;rcases hc with z | z
  ·rw[z];exact Ke b u e
  ·exact Ke c _ z
def Inv.tok(I:Inv X f8 σ H s)(t:Nat):Inv X f8 σ H {s with toks:=t}:=I.un (h':=s.heap) (t':=t) Un.refl I.hok
def Inv.kept{t':Nat}(I:Inv X f8 σ H s)(k:∀b u,s.heap.get? b=some u->h'.get? b=some u):Inv X f8 σ H {s with heap:=h',toks:=t'}:=I.un (Un.kept k) (I.hok.kept k)
def Inv.laid{a:Addr}{o:HO}{t':Nat}(I:Inv X f8 σ H s)(k:∀b u,s.heap.get? b=some u->h'.get? b=some u)(hp:s.heap.objs.size<=a)(new:ObjOk X.prog X.w (upd H a o) h' a o):
 Inv X f8 σ (upd H a o) {s with heap:=h',toks:=t'}:=I.un (Un.laid k hp (I.hok.fresh hp)) (I.hok.laid k hp new)
def Inv.write{x e:Addr}{o:HO}{t':Nat}(I:Inv X f8 σ H s)(mu:Nr (H x))(he:e=x\/H e=some (.own x))(k:∀b u,b≠e->s.heap.get? b=some u->h'.get? b=some u)(Ei:∃u,h'.get? e=some u)
 (new:ObjOk X.prog X.w (upd H x o) h' x o):Inv X f8 σ (upd H x o) {s with heap:=h',toks:=t'}:=I.un (Un.write mu he k Ei) (I.hok.write mu he k Ei new)
def Inv.pins_of{B5:List (Addr×Obj)}(I:Inv X f8 σ H s)(h:∀p∈B5,s.heap.get? p.1=some p.2/\H p.1=none/\p.1≠X.env.locals/\p.1∉X.fs/\∀v,p.2.data≠ .cell v):Inv X B5 σ H s:=
 ⟨I.ok,I.os,I.bare,I.base,I.loc,I.cell,I.free,I.freeC,λp hp=>(XI.mp hp).elim (λz=>I.pin p (YT _ z)) (h p),I.hok,I.len⟩
def yE{N:List Str}(hN:N.Nodup){i j:Nat}{x:Str}(a:N[i]? =some x)(b:N[j]? =some x):i=j:=by
 obtain⟨h1,e1⟩:=WQ.mp a;obtain⟨h2,e2⟩:=WQ.mp b;exact(List.getElem_inj hN).mp (e1.trans e2.symm)
def nW{M:Model}{A:Xu}{E:Value->WC->Prop}{i:Nat}{x:Str}{v:V}{u:Value}{Q:Unit->WC->Prop}(I:Inv X f8 σ H s)(hN:X.N.Nodup)(hi:X.N[i]? =some x)(hx:Loc X.env.scope x)(r:RelV v u)
 (h:∀s',Inv X f8 (σ.set i (some v)) H s'->(∃a,XQ a s.heap s'.heap/\(a=X.env.locals\/X.env.cells.lookup x=some a))->Q () s')(hf:X.fn x=true\/X.env.scope.names.lookup x=some .local:=by first | exact .inl rfl | exact .inr rfl | assumption):wpAny M A (storeName X.env x u) Q E s:=by
 obtain⟨m,hn,hl⟩:=id I.loc;have QZ:(X.env.scope.kind== .class||(X.env.scope.kind== .module&&X.env.locals !=X.env.globals))=false:=by rw[I.ok.kind];rfl
 have Ti:i<σ.length:=by rw[I.len];exact(WQ.mp hi).1
 have cne:=I.cne;have tracked:∀{a:Addr}{h':Heap},(∃o,s.heap.get? a=some o/\H a=none)->XQ a s.heap h'->HOk X.prog X.w H h':=λ{a h'} ha hs b ob e=>by
  obtain⟨_,_,J7⟩:=ha;refine(I.hok b ob e).stay (λc w' hc q=>(hs.2 c ?_).trans q) (λ_ q=>q) λ_ _ q=>q;rintro rfl;rcases hc with rfl | hc
  ·rw[J7] at e;cases e
  ·rw[J7] at hc;cases hc
 rcases hx with hk | hk
 ·refine wpAny_storeName_local hk hn (λh' Na hs=>?_) QZ;obtain⟨oL,_,_,Lg,_⟩:=id hn;refine h _ ⟨I.ok,I.os,I.bare,⟨λb o e n hb hx=>?_,λb o e n hb hx=>?_,I.base.free,λb o e hx=>?_,I.base.tups,I.base.frzs,I.base.tbls⟩,⟨_,Na,λj y v' e1 e2 e3=>?_⟩,λy c e=>?_,I.free,I.freeC,λp hp=>?_,tracked ⟨oL,Lg,I.free⟩ hs,by simpa using I.len⟩ ⟨_,hs, .inl rfl⟩
  ·exact(hs.2 b (W4 (W_ (WH e) I.ok.above))).trans (I.base.keep b o e n hb hx)
  ·obtain⟨sl,e1⟩:=I.base.slot b o e n hb hx;exact⟨sl,(hs.2 b (W4 (W_ (WH e) I.ok.above))).trans e1⟩
  ·obtain⟨o',e1⟩:=I.base.there b o e hx;exact⟨o',(hs.2 b (W4 (W_ (WH e) I.ok.above))).trans e1⟩
  ·by_cases hj:j=i
   ·subst hj;rw[hi] at e1;cases e1;rw[W2 Ti] at e2;cases e2;exact⟨u,r, .inl ⟨hk,by simp⟩⟩
   ·rw[WW (XD hj)] at e2;obtain⟨u',r',q⟩:=hl j y v' e1 e2 e3;refine⟨u',r',?_⟩;rcases q with⟨k,e⟩ | ⟨k,c,e,z⟩
    ·refine .inl ⟨k,?_⟩;have:y≠x:=λe=>hj (yE hN e1 (e▸hi));simp[this,e]
    ·exact .inr ⟨k,c,e,z.sameBut hs (cne y c e)⟩
  ·obtain⟨w',z⟩:=I.cell y c e;exact⟨w',z.sameBut hs (cne y c e)⟩
  ·obtain⟨e,n,ne,nf,d⟩:=I.pin p hp;exact⟨(hs.2 p.1 ne).trans e,n,ne,nf,d⟩
 ·have Q8:X.fn x=true:=by
   rcases hf with z | z
   ·exact z
   ·rw[z] at hk;cases hk
  obtain⟨c,hc⟩:=I.ok.has x (.inl hk);obtain⟨w',z⟩:=I.cell x c hc;refine wpAny_storeName_cell I.ok.kind hk hc z (λh' J3 hs=>?_);obtain⟨oc,Qf,Rl⟩:=id z;refine h {s with heap:=h'} ⟨I.ok,I.os,I.bare,⟨λb o e n hb hx=>?_,λb o e n hb hx=>?_,I.base.free,λb o e hx=>?_,I.base.tups,I.base.frzs,I.base.tbls⟩,⟨m,hn.sameBut hs (XD (cne x c hc)),λj y v' e1 e2 e3=>?_⟩,λy c' e=>?_,I.free,I.freeC,λp hp=>?_,tracked ⟨oc,Qf,I.freeC x c hc⟩ hs,by simpa using I.len⟩ ⟨c,hs, .inr hc⟩
  ·exact(hs.2 b (W4 (W_ (WH e) (I.ok.cab x c Q8 hc)))).trans (I.base.keep b o e n hb hx)
  ·obtain⟨sl,e1⟩:=I.base.slot b o e n hb hx;exact⟨sl,(hs.2 b (W4 (W_ (WH e) (I.ok.cab x c Q8 hc)))).trans e1⟩
  ·obtain⟨o',e1⟩:=I.base.there b o e hx;exact⟨o',(hs.2 b (W4 (W_ (WH e) (I.ok.cab x c Q8 hc)))).trans e1⟩
  ·by_cases hj:j=i
   ·subst hj;rw[hi] at e1;cases e1;rw[W2 Ti] at e2;cases e2;exact⟨u,r, .inr ⟨.inl hk,c,hc,J3⟩⟩
   ·rw[WW (XD hj)] at e2;obtain⟨u',r',q⟩:=hl j y v' e1 e2 e3;refine⟨u',r',?_⟩;rcases q with q | ⟨k,c',e,z'⟩
    ·exact .inl q
    ·refine .inr ⟨k,c',e,z'.sameBut hs ?_⟩;rintro rfl;exact hj (yE hN e1 (I.ok.inj _ _ _ e hc▸hi))
  ·by_cases P9:c'=c
   ·subst P9;exact⟨_,J3⟩
   ·obtain⟨w2,z2⟩:=I.cell y c' e;exact⟨w2,z2.sameBut hs P9⟩
  ·obtain⟨e,n,ne,nf,d⟩:=I.pin p hp;refine⟨(hs.2 p.1 ?_).trans e,n,ne,nf,d⟩;intro q;rw[q,Qf] at e;have q':oc=p.2:=Xg e;exact d w' (by rw[<-q'];exact Rl)
def rY{M:Model}{A:Xu}{E:Value->WC->Prop}{i:Nat}{x:Str}{v:V}{u:Value}{Q:Unit->WC->Prop}(I:Inv X f8 σ H s)(hN:X.N.Nodup)(hi:X.N[i]? =some x)(hx:Loc X.env.scope x)(r:RelV v u)
 (h:∀s',Inv X f8 (σ.set i (some v)) H s'->Q () s')(hf:X.fn x=true\/X.env.scope.names.lookup x=some .local:=by first | exact .inl rfl | exact .inr rfl | assumption):wpAny M A (storeName X.env x u) Q E s:=
 nW I hN hi hx r (λs' I' _=>h s' I') hf
def Inv.call'{s':WC}{ch:List Addr}(I:Inv X f8 σ H s)(ho:s'.os=s.os)(u:Un (iy X.stack) ch H H' s.heap s'.heap)(hok:HOk X.prog X.w H' s'.heap)(hg:aa3 s'.gens)
 (Hi:∀b∈ch,(b∈X.ex\/X.adQ.heap.objs.size<=b)/\b≠X.env.locals/\(∀x c,X.env.cells.lookup x=some c->c≠b)/\∀p∈X.pn++f8,p.1≠b):Inv X f8 σ H' s':=by
 obtain⟨h',g',d',t',o'⟩:=s';have e:o'=s.os:=ho;subst e;exact I.call (g':=g') (t':=t') (d':=d') u hok hg Hi
end
abbrev XK:=Value->Option Addr->Hp->Prop
abbrev St:=List (Option V)
abbrev VK:=V->Hp->Prop
abbrev TE:=St->Hp->VK->Prop
abbrev TT:=St->Hp->(Bool->Hp->Prop)->Prop
abbrev TA:=St->Hp->(List V->Hp->Prop)->Prop
structure Ends where
 nx:St->Hp->Prop
 rt:VK
 bk:St->Hp->Prop:=λ_ _=>False
 ct:St->Hp->Prop:=λ_ _=>False
abbrev TS:=Ends->St->Hp->Prop
def EP(X:Cx)(f8:List (Addr×Obj))(σ:St)(Q:VK)(u:Value)(s':WC):Prop:=∃v H',Inv X f8 σ H' s'/\RelV v u/\Q v H'
def TP(X:Cx)(f8:List (Addr×Obj))(σ:St)(Q:Bool->Hp->Prop)(b:Bool)(s':WC):Prop:=∃H',Inv X f8 σ H' s'/\Q b H'
def AP(X:Cx)(f8:List (Addr×Obj))(σ:St)(Q:List V->Hp->Prop)(us:List Value)(s':WC):Prop:=∃vs H',Inv X f8 σ H' s'/\Vals vs us/\Q vs H'
def SP(X:Cx)(f8:List (Addr×Obj))(D:Ends)(f:Flow)(s':WC):Prop:=
 match f with
 | .next=>∃σ' H',Inv X f8 σ' H' s'/\D.nx σ' H'
 | .brk=>∃σ' H',Inv X f8 σ' H' s'/\D.bk σ' H'
 | .cont=>∃σ' H',Inv X f8 σ' H' s'/\D.ct σ' H'
 | .ret u=>∃v σ' H',Inv X f8 σ' H' s'/\RelV v u/\D.rt v H'
def PE(X:Cx)(e:Expr)(t:TE):Prop:=
 ∀(f8:List (Addr×Obj)) (s:WC) (σ:St) (H:Hp) (Q:VK),Inv X f8 σ H s->t σ H Q->wpAny (model X.prog X.w) X.A (eval e X.env) (EP X f8 σ Q) X.xe s
def PT(X:Cx)(e:Expr)(t:TT):Prop:=
 ∀(f8:List (Addr×Obj)) (s:WC) (σ:St) (H:Hp) (Q:Bool->Hp->Prop),Inv X f8 σ H s->t σ H Q->wpAny (model X.prog X.w) X.A (isTrue e X.env (eval e X.env)) (TP X f8 σ Q) X.xe s
def PW(X:Cx)(e:Expr)(t:TT):Prop:=
 ∀(whole:Sem Value) (f8:List (Addr×Obj)) (s:WC) (σ:St) (H:Hp) (Q:Bool->Hp->Prop),Inv X f8 σ H s->t σ H Q->wpAny (model X.prog X.w) X.A (isTrue e X.env whole) (TP X f8 σ Q) X.xe s
def PW.pt{X:Cx}{e:Expr}{t:TT}(h:PW X e t):PT X e t:=h _
def PA(X:Cx)(es:List Expr)(t:TA):Prop:=
 ∀(pos:Pos) (f8:List (Addr×Obj)) (s:WC) (σ:St) (H:Hp) (Q:List V->Hp->Prop),Inv X f8 σ H s->t σ H Q->wpAny (model X.prog X.w) X.A (spliced (Yt pos (WS es X.env))) (AP X f8 σ Q) X.xe s
def PS(X:Cx)(st:Stmt)(t:TS):Prop:=
 ∀(f8:List (Addr×Obj)) (s:WC) (σ:St) (H:Hp) (D:Ends),Inv X f8 σ H s->t D σ H->wpAny (model X.prog X.w) X.A (exec st X.env) (SP X f8 D) X.xe s
def PSs(X:Cx)(st:List Stmt)(t:TS):Prop:=
 ∀(f8:List (Addr×Obj)) (s:WC) (σ:St) (H:Hp) (D:Ends),Inv X f8 σ H s->t D σ H->wpAny (model X.prog X.w) X.A (execs st X.env) (SP X f8 D) X.xe s
def ck{α:Type}{t:Sem α}{Q Q':α->WC->Prop}{M:Model}{A:Xu}{E:Value->WC->Prop}{s:WC}(h:wpAny M A t Q E s)(hQ:∀a s,Q a s->Q' a s):wpAny M A t Q' E s:=XG h hQ λ_ _ x=>x
section
variable{X:Cx}
def bin{a b:Expr}{ta tb:TE}(ha:PE X a ta)(hb:PE X b tb){f8:List (Addr×Obj)}{s:WC}{σ:St}{H:Hp}{R:V->V->Hp->Prop}(I:Inv X f8 σ H s)(h:ta σ H λx H1=>tb σ H1 λy H2=>R x y H2)
 {α:Type}{Q:α->WC->Prop}{f:Value->Value->Sem α}
 (hf:∀v u s2 x y H2,Inv X f8 σ H2 s2->RelV x v->RelV y u->R x y H2->wpAny (model X.prog X.w) X.A (f v u) Q X.xe s2):
 wpAny (model X.prog X.w) X.A (eval a X.env) (λv v6=>wpAny (model X.prog X.w) X.A (eval b X.env) (λu v4=>wpAny (model X.prog X.w) X.A (f v u) Q X.xe v4) X.xe v6) X.xe s:=by
 refine ck (ha f8 s σ H _ I h) λv s1 ⟨x,H1,I1,r1,q1⟩=>?_;refine ck (hb f8 s1 σ H1 _ I1 q1) λu s2 ⟨y,H2,I2,r2,q2⟩=>?_;exact hf v u s2 x y H2 I2 r1 r2 q2
def rZ(i:Nat):TE:=λσ H Q=>∃v,σ[i]? =some (some v)/\Q v H
def tC(v:V):TE:=λ_ H Q=>Q v H
def Mq{i:Nat}{x:Str}{pos:Pos}(hN:X.N[i]? =some x)(hv:PY X.env.scope x)(hd:(x==("__debug__":Str))=false:=by decide)(tX:(x==("__classdict__":Str))=false:=by decide):PE X (.Name x pos) (rZ i):=by
 intro f8 s σ H Q I h;obtain⟨v,e,h⟩:=h;obtain⟨m,hn,hl⟩:=I.loc;obtain⟨u,r,l⟩:=hl i x v hN e hv;have fin:EP X f8 σ Q u s:=⟨v,H,I,r,h⟩
 rcases l with⟨hk,hm⟩ | ⟨hk,c,hc,Bz⟩
 ·exact wpAny_Name (wpAny_loadName_local I.ok.kind hk hn hm fin) hd
 ·rcases hk with hk | hk
  ·exact wpAny_Name (wpAny_loadName_cell I.ok.kind hk hc Bz fin) hd
  ·exact wpAny_Name (wpAny_loadName_free I.ok.kind hk hc Bz fin tX) hd
def Mj{i j pos}:PE X (.Constant (.int i) j pos) (tC (.int i)):=λ_ _ _ H _ I h=>wpAny_Constant_int ⟨.int i,H,I.tok _,⟨_,rfl⟩,h⟩
def O2{b j pos}:PE X (.Constant (.bool b) j pos) (tC (.bl b)):=λ_ _ _ H _ I h=>Constant_bool ⟨.bl b,H,I,rfl,h⟩
def Mk{j pos}:PE X (.Constant .none j pos) (tC .non):=λ_ _ _ H _ I h=>Constant_none ⟨.non,H,I,rfl,h⟩
def Mn{x j pos}:PE X (.Constant (.str x) j pos) (tC (.str x)):=λ_ _ _ H _ I h=>Calls.Constant_str ⟨.str x,H,I.tok _,⟨_,rfl⟩,h⟩
def Gl(X:Cx)(x:Str):Prop:=X.env.kindOf x=some .globalImplicit
def l8{E:Value->WC->Prop}{f8:List (Addr×Obj)}{s:WC}{σ:St}{H:Hp}{x:Str}{u:Value}{pos:Pos}{Q:Value->WC->Prop}(I:Inv X f8 σ H s)(hg:Gl X x)(hm:X.mg x=some u)(h:Q u s)
 (hd:(x==("__debug__":Str))=false:=by decide):wpAny (model X.prog X.w) X.A (eval (.Name x pos) X.env) Q E s:=
 abH I.ok.kind hg (Calls.loadGlobal_global (by rw[I.ok.glob];exact I.mod.glob.keeps I.bk) hm h) hd
def lA{E:Value->WC->Prop}{f8:List (Addr×Obj)}{s:WC}{σ:St}{H:Hp}{x:Str}{u:Value}{pos:Pos}{Q:Value->WC->Prop}(I:Inv X f8 σ H s)(hg:Gl X x)(hm:X.mg x=none)(hv:Xl x=some u)(h:Q u s)
 (hn:x≠"__name__":=by decide)(hd:(x==("__debug__":Str))=false:=by decide):wpAny (model X.prog X.w) X.A (eval (.Name x pos) X.env) Q E s:=by
 obtain⟨mb,h1,h2⟩:=I.mod.blt;exact abH I.ok.kind hg (Calls.loadGlobal_builtin (by rw[I.ok.glob];exact I.mod.glob.keeps I.bk) hm (by rw[I.ok.blt];exact h1.keeps I.bk) ((h2 x hn).trans hv) h) hd
def pR{x:Str}{v:V}{u:Value}{pos:Pos}(hg:Gl X x)(hm:X.mg x=some u)(r:RelV v u)(hd:(x==("__debug__":Str))=false:=by decide):PE X (.Name x pos) (tC v):=
 λ_ _ _ H _ I h=>l8 I hg hm ⟨v,H,I,r,h⟩ hd
def I_{x:Str}{v:V}{u:Value}{pos:Pos}(hg:Gl X x)(hm:X.mg x=none)(hv:Xl x=some u)(r:RelV v u)(hn:x≠"__name__":=by decide)(hd:(x==("__debug__":Str))=false:=by decide):PE X (.Name x pos) (tC v):=
 λ_ _ _ H _ I h=>lA I hg hm hv ⟨v,H,I,r,h⟩ hn hd
variable{a b:Expr}{ta tb:TE}{pos:Pos}
def PC(X:Cx)(op:CmpOp)(a b:Expr)(t:TE):Prop:=
 ∀(f8:List (Addr×Obj)) (s:WC) (σ:St) (H:Hp) (Q:VK),Inv X f8 σ H s->t σ H Q->
  wpAny (model X.prog X.w) X.A (eval a X.env) (λv v6=>wpAny (model X.prog X.w) X.A (eval b X.env) (λu v4=>wpAny (model X.prog X.w) X.A (XB op v u) (EP X f8 σ Q) X.xe v4) X.xe v6) X.xe s
def FP(b:Expr){op:CmpOp}(h:op≠ .In)(h2:op≠ .NotIn):XJ op b=false:=by
 have e1:(op==CmpOp.In)=false:=by cases op<;>first | rfl | exact adK rfl h
 have e2:(op==CmpOp.NotIn)=false:=by cases op<;>first | rfl | exact adK rfl h2
 cases b<;>simp[XJ,e1,e2]
def Mi{op:CmpOp}{t:TE}(h:PC X op a b t)(h1:XJ op b=false:=by first | exact FP _ (by decide) (by decide) | rfl):PE X (.Compare a [op] [b] pos) t:=λf8 s σ H Q I hw=>wpAny_Compare1 (h f8 s σ H Q I hw) h1
variable{tA cW:TT}{rest:List Expr}
def Sg(t u:TT):TT:=λσ H Q=>t σ H λc H1=>if c=true then u σ H1 Q else Q false H1
def V9(t u:TT):TT:=λσ H Q=>t σ H λc H1=>if c=true then Q true H1 else u σ H1 Q
def Ss(t:TT):TT:=λσ H Q=>t σ H λc H1=>Q (!c) H1
def Jr(ha:PT X a tA):PW X (.BoolOp .And [a] pos) tA:=by
 intro wh f8 s σ H Q I h;refine isTrue_and (ck (ha f8 s σ H Q I h) λc s1 e=>?_);cases c with
 |true=>exact isTrue_and_nil e
 |false=>exact e
def MB(ha:PT X a tA):PW X (.BoolOp .Or [a] pos) tA:=by
 intro wh f8 s σ H Q I h;refine isTrue_or (ck (ha f8 s σ H Q I h) λc s1 e=>?_);cases c with
 |false=>exact isTrue_or_nil e
 |true=>exact e
def MA(ha:PT X a tA)(hb:PW X (.BoolOp .And (b::rest) pos) cW):PW X (.BoolOp .And (a::b::rest) pos) (Sg tA cW):=by
 intro wh f8 s σ H Q I h;refine isTrue_and (ck (ha f8 s σ H _ I h) λc s1 ⟨H1,I1,q1⟩=>?_);cases c with
 |true=>exact hb wh f8 s1 σ H1 Q I1 q1
 |false=>exact⟨H1,I1,q1⟩
def O8(ha:PT X a tA)(hb:PW X (.BoolOp .Or (b::rest) pos) cW):PW X (.BoolOp .Or (a::b::rest) pos) (V9 tA cW):=by
 intro wh f8 s σ H Q I h;refine isTrue_or (ck (ha f8 s σ H _ I h) λc s1 ⟨H1,I1,q1⟩=>?_);cases c with
 |true=>exact⟨H1,I1,q1⟩
 |false=>exact hb wh f8 s1 σ H1 Q I1 q1
def My(ha:PT X a tA):PT X (.UnaryOp .Not a pos) (Ss tA):=by
 intro f8 s σ H Q I h;exact isTrue_not (ha f8 s σ H (λc H1=>Q (!c) H1) I h)
def Pt(ta tb:TE):TE:=λσ H Q=>ta σ H λx H1=>∃c,x= .bl c/\if c=true then tb σ H1 Q else Q (.bl false) H1
def Su(ta tb:TE):TE:=λσ H Q=>ta σ H λx H1=>∃c,x= .bl c/\if c=true then Q (.bl true) H1 else tb σ H1 Q
def Py(ta:TE):TE:=λσ H Q=>ta σ H λx H1=>∃c,x= .bl c/\Q (.bl (!c)) H1
def Mm{op}{t:TE}(h:PE X a t):PE X (.BoolOp op [a] pos) t:=λf8 s σ H Q I hw=>BoolOp_one (h f8 s σ H Q I hw)
def Mh(ha:PE X a ta)(hb:PE X (.BoolOp .And (b::rest) pos) tb):PE X (.BoolOp .And (a::b::rest) pos) (Pt ta tb):=by
 intro f8 s σ H Q I h;refine BoolOp_and (ck (ha f8 s σ H _ I h) λv s1 ⟨x,H1,I1,r1,q1⟩=>?_);obtain⟨c,rfl,q1⟩:=q1;cases r1;refine XW ?_;cases c with
 |true=>exact hb f8 s1 σ H1 Q I1 q1
 |false=>exact⟨.bl false,H1,I1,rfl,q1⟩
def O4(ha:PE X a ta)(hb:PE X (.BoolOp .Or (b::rest) pos) tb):PE X (.BoolOp .Or (a::b::rest) pos) (Su ta tb):=by
 intro f8 s σ H Q I h;refine BoolOp_or (ck (ha f8 s σ H _ I h) λv s1 ⟨x,H1,I1,r1,q1⟩=>?_);obtain⟨c,rfl,q1⟩:=q1;cases r1;refine XW ?_;cases c with
 |false=>exact hb f8 s1 σ H1 Q I1 q1
 |true=>exact⟨.bl true,H1,I1,rfl,q1⟩
def Ml(ha:PE X a ta):PE X (.UnaryOp .Not a pos) (Py ta):=by
 intro f8 s σ H Q I h;refine UnaryOp_ (ck (ha f8 s σ H _ I h) λv s1 ⟨x,H1,I1,r1,q1⟩=>?_);obtain⟨c,rfl,q1⟩:=q1;cases r1;exact not_of (XW ⟨.bl (!c),H1,I1,rfl,q1⟩)
end
def SqL(K:WI)(H:Hp)(a:Addr)(xs:List V):Prop:=
 Rd H a (.lst xs)\/
  ∃(o:Obj) (aI:Array Value) (n:Nat),K.lookup a=some o/\o.cls= .type "list"/\o.dict=none/\o.data= .seq aI n/\aI.size<=WX/\Vals xs aI.toList
def SqT(K:WI)(H:Hp)(a:Addr)(xs:List V):Prop:=
 Rd H a (.tup xs)\/
  ∃(o:Obj) (aI:Array Value) (n:Nat),K.lookup a=some o/\o.cls= .type "tuple"/\o.data= .seq aI n/\aI.size<=WX/\Vals xs aI.toList
def QI:Value->Option V
 | .none=>some .non
 | .bool b=>some (.bl b)
 | .int i _=>some (.int i)
 | .str x _=>some (.str x)
 | .bytes b _=>some (.byt b)
 | .float b _=>some (.flt b)
 | .ref a=>some (.ref a)
 | .type n=>some (.ty n)
 |_=>none
def RelV.abs{x:V}{u:Value}(r:RelV x u):QI u=some x:=by
 cases x with
 |non=>cases r;rfl
 |bl _=>cases r;rfl
 |int _=>obtain⟨t,rfl⟩:=r;rfl
 |str _=>obtain⟨t,rfl⟩:=r;rfl
 |byt _=>obtain⟨t,rfl⟩:=r;rfl
 |flt _=>obtain⟨t,rfl⟩:=r;rfl
 |ref _=>cases r;rfl
 |ty _=>cases r;rfl
def RelV.inj{x y:V}{u:Value}(r:RelV x u)(q:RelV y u):x=y:=Xg (r.abs.symm.trans q.abs)
def Vals.inj:∀{xs ys:List V}{us:List Value},Vals xs us->Vals ys us->xs=ys
 |_,_,_, .nil, .nil=>rfl
 |_,_,_, .cons r t, .cons r' t'=>by rw[r.inj r',Vals.inj t t']
section
variable{X:Cx}{f8:List (Addr×Obj)}{σ:St}{H:Hp}{s:WC}{a:Addr}{xs ys:List V}
def SqL.of{K:WI}(h:H a=some (.lst xs)):SqL K H a xs:= .inl (.inl h)
def SqT.of{K:WI}(h:H a=some (.tup xs)):SqT K H a xs:= .inl (.inl h)
def Inv.list(I:Inv X f8 σ H s)(h:SqL X.K H a xs):∃aI:List Value,Vals xs aI/\PlainL s.heap a aI.toArray/\xs.length<=WX:=by
 rcases h with h | ⟨o,aI,n,hk,hc,hd,hs,hz,r⟩
 ·obtain⟨z,aI,n,r,e⟩:=h.ok I.hok;exact⟨aI,r,⟨_,n,e,rfl,rfl,rfl⟩,z⟩
 ·refine⟨aI.toList,r,⟨o,n,I.kIn a o hk,hc,hd,by simpa using hs⟩,?_⟩;have e:=r.length;simp only[W5] at e;omega
def Inv.tuple(I:Inv X f8 σ H s)(h:SqT X.K H a xs):∃aI:List Value,Vals xs aI/\IsTup s.heap a aI.toArray/\xs.length<=WX:=by
 rcases h with h | ⟨o,aI,n,hk,hc,hs,hz,r⟩
 ·obtain⟨z,aI,r,p⟩:=h.ok I.hok;exact⟨aI,r,p,z⟩
 ·refine⟨aI.toList,r,⟨o,I.kIn a o hk,hc,n,by simpa using hs⟩,?_⟩;have e:=r.length;simp only[W5] at e;omega
def Inv.list_inj(I:Inv X f8 σ H s)(h:SqL X.K H a xs)(h':SqL X.K H a ys):xs=ys:=by
 obtain⟨aI,r,⟨o,n,e,_,_,d⟩,_⟩:=I.list h;obtain⟨its',r',⟨o',n',e',_,_,d'⟩,_⟩:=I.list h';rw[e] at e';cases e';rw[d] at d';injection d' with d1 _
 have:aI=its':=by simpa using adM Array.toList d1
 subst this;exact r.inj r'
def Inv.tuple_inj(I:Inv X f8 σ H s)(h:SqT X.K H a xs)(h':SqT X.K H a ys):xs=ys:=by
 obtain⟨aI,r,⟨o,e,_,n,d⟩,_⟩:=I.tuple h;obtain⟨its',r',⟨o',e',_,n',d'⟩,_⟩:=I.tuple h';rw[e] at e';cases e';rw[d] at d';injection d' with d1 _
 have:aI=its':=by simpa using adM Array.toList d1
 subst this;exact r.inj r'
end
abbrev Cx.wish(X:Cx)(E:Value->WC->Prop):Cx:={X with xe:=E}
abbrev Cx.nox(X:Cx):Cx:=X.wish λ_ _=>False
def Cx.Ok.wish{X:Cx}(ok:X.Ok)(E:Value->WC->Prop):(X.wish E).Ok:=
 ⟨ok.mod,ok.kind,ok.glob,ok.blt,ok.above,ok.inj,ok.has,ok.cab,ok.hd,ok.frames,ok.stk,ok.exf,ok.bs,ok.bsz,ok.noex,ok.exfs,ok.funs,ok.frf⟩
def Cx.Ok.unwish{X:Cx}{E:Value->WC->Prop}(ok:(X.wish E).Ok):X.Ok:=
 ⟨ok.mod,ok.kind,ok.glob,ok.blt,ok.above,ok.inj,ok.has,ok.cab,ok.hd,ok.frames,ok.stk,ok.exf,ok.bs,ok.bsz,ok.noex,ok.exfs,ok.funs,ok.frf⟩
section
variable{X:Cx}{f8:List (Addr×Obj)}{σ:St}{H:Hp}{s:WC}{E:Value->WC->Prop}
def Inv.wish(I:Inv X f8 σ H s)(E:Value->WC->Prop):Inv (X.wish E) f8 σ H s:=⟨I.ok.wish E,I.os,I.bare,I.base,I.loc,I.cell,I.free,I.freeC,I.pin,I.hok,I.len⟩
def Inv.unwish(I:Inv (X.wish E) f8 σ H s):Inv X f8 σ H s:=⟨I.ok.unwish,I.os,I.bare,I.base,I.loc,I.cell,I.free,I.freeC,I.pin,I.hok,I.len⟩
def SP.unwish{D:Ends}{f:Flow}{s':WC}(h:SP (X.wish E) f8 D f s'):SP X f8 D f s':=by
 cases f with
 |next=>obtain⟨σ',H',I,q⟩:=h;exact⟨σ',H',I.unwish,q⟩
 |brk=>obtain⟨σ',H',I,q⟩:=h;exact⟨σ',H',I.unwish,q⟩
 |cont=>obtain⟨σ',H',I,q⟩:=h;exact⟨σ',H',I.unwish,q⟩
 |ret u=>obtain⟨v,σ',H',I,r,q⟩:=h;exact⟨v,σ',H',I.unwish,r,q⟩
def PE.nox{e:Expr}{t:TE}(h:PE X.nox e t):PE X e t:=λf8 s σ H Q I hw=>
 XG (h f8 s σ H Q (I.wish _) hw) (λ_ _ ⟨v,H',I',r,q⟩=>⟨v,H',I'.unwish,r,q⟩) λ_ _ z=>Yi z
def PT.nox{e:Expr}{t:TT}(h:PT X.nox e t):PT X e t:=λf8 s σ H Q I hw=>
 XG (h f8 s σ H Q (I.wish _) hw) (λ_ _ ⟨H',I',q⟩=>⟨H',I'.unwish,q⟩) λ_ _ z=>Yi z
def PSs.nox{st:List Stmt}{t:TS}(h:PSs X.nox st t):PSs X st t:=λf8 s σ H D I hw=>
 XG (h f8 s σ H D (I.wish _) hw) (λ_ _ q=>q.unwish) λ_ _ z=>Yi z
end
section
variable{X:Cx}{st:Stmt}{rest:List Stmt}{t u:TS}{e:Expr}{te:TE}{pos:Pos}
def Px:TS:=λD σ H=>D.nx σ H
def Sw(t u:TS):TS:=λD σ H=>t {D with nx:=u D} σ H
def Jn:PSs X [] Px:=λ_ _ σ H _ I h=>aac ⟨σ,H,I,h⟩
def Gu(h1:PS X st t)(h2:PSs X rest u):PSs X (st::rest) (Sw t u):=by
 intro f8 s σ H D I h;refine wpAny_execs_cons (ck (h1 f8 s σ H {D with nx:=u D} I h) λf s1 q=>?_);cases f with
 |next=>
  obtain⟨σ',H',I',q⟩:=q;exact h2 f8 s1 σ' H' D I' q
 |ret v=>exact q
 |brk=>exact q
 |cont=>exact q
def Jo(h1:PS X st t):PSs X [st] t:=by
 intro f8 s σ H D I h;refine wpAny_execs_cons (ck (h1 f8 s σ H D I h) λf s1 q=>?_);cases f with
 |next=>exact aac q
 |ret v=>exact q
 |brk=>exact q
 |cont=>exact q
def Inv.quiet{f8:List (Addr×Obj)}{σ:St}{H:Hp}{s:WC}(I:Inv X f8 σ H s):interactive X.env=false:=by simp[interactive,I.ok.kind]
def G5(te:TE):TS:=λD σ H=>te σ H λ_ H1=>D.nx σ H1
def pS(he:PE X e te)(hs:aay e none pos.line X.env=pure false:=by rfl):PS X (.Expr e pos) (G5 te):=by
 intro f8 s σ H D I h;exact wpAny_Expr_any (ck (he f8 s σ H _ I h) λv s1 ⟨x,H1,I1,r1,q1⟩=>⟨σ,H1,I1,q1⟩) I.quiet hs
def Sv(te:TE):TS:=λD σ H=>te σ H D.rt
def Mw(he:PE X e te):PS X (.Return (some e) pos) (Sv te):=by
 intro f8 s σ H D I h;exact wpAny_Return_some (ck (he f8 s σ H _ I h) λv s1 ⟨x,H1,I1,r1,q1⟩=>⟨x,σ,H1,I1,r1,q1⟩)
def Sq(c:TT)(t u:TS):TS:=λD σ H=>c σ H λb H1=>if b=true then t D σ H1 else u D σ H1
def O7{c:Expr}{a b:List Stmt}{tc:TT}(hc:PT X c tc)(ha:PSs X a t)(hb:PSs X b u):PS X (.If c a b pos) (Sq tc t u):=by
 intro f8 s σ H D I h;refine wpAny_If (ck (hc f8 s σ H _ I h) λd s1 ⟨H1,I1,q1⟩=>?_);cases d with
 |true=>exact ha f8 s1 σ H1 D I1 q1
 |false=>exact hb f8 s1 σ H1 D I1 q1
end
abbrev TG:=V->St->Hp->(St->Hp->Prop)->Prop
abbrev JQ:=List V->St->Hp->(St->Hp->Prop)->Prop
def PG(X:Cx)(target:Expr)(t:TG):Prop:=
 ∀(f8:List (Addr×Obj)) (s:WC) (σ:St) (H:Hp) (v:V) (u:Value) (Q:St->Hp->Prop),Inv X f8 σ H s->RelV v u->t v σ H Q->
  wpAny (model X.prog X.w) X.A (assign target X.env u) (λ_ s'=>∃σ' H',Inv X f8 σ' H' s'/\Q σ' H') X.xe s
def PU(X:Cx)(ts:List Expr)(t:JQ):Prop:=
 ∀(f8:List (Addr×Obj)) (s:WC) (σ:St) (H:Hp) (vs:List V) (us:List Value) (Q:St->Hp->Prop),Inv X f8 σ H s->Vals vs us->t vs σ H Q->
  wpAny (model X.prog X.w) X.A (assignInOrder ((Y9 ts X.env).map (·.2)) us) (λ_ s'=>∃σ' H',Inv X f8 σ' H' s'/\Q σ' H') X.xe s
abbrev QF:=V->V->V->Hp->(Hp->Prop)->Prop
abbrev PV:=V->V->Hp->VK->Prop
def SJ(X:Cx)(op:Operator)(t:PV):Prop:=
 ∀(f8:List (Addr×Obj)) (s:WC) (σ:St) (H:Hp) (x y:V) (v u:Value) (Q:VK),Inv X f8 σ H s->RelV x v->RelV y u->t x y H Q->
  wpAny (model X.prog X.w) X.A (inplaceOp op v u) (EP X f8 σ Q) X.xe s
section
variable{X:Cx}{pos:Pos}
def EW(i:Nat):TG:=λv σ H Q=>Q (σ.set i (some v)) H
def aR{i:Nat}{x:Str}(hN:X.N.Nodup)(hi:X.N[i]? =some x)(hx:Loc X.env.scope x)(hf:X.fn x=true\/X.env.scope.names.lookup x=some .local:=by first | exact .inl rfl | exact .inr rfl | assumption):PG X (.Name x pos) (EW i):=by
 intro f8 s σ H v u Q I r h;exact abJ (rY I hN hi hx r (λs' I'=>⟨_,H,I',h⟩) hf)
def NP:JQ:=λvs σ H Q=>vs=[]/\Q σ H
def J0(t:TG)(u:JQ):JQ:=λvs σ H Q=>∃v r,vs=v::r/\t v σ H λσ' H'=>u r σ' H' Q
def kB:PU X [] NP:=by
 intro f8 s σ H vs us Q I r h;obtain⟨e,h⟩:=h;subst e;cases r;exact assignInOrder_nil ⟨σ,H,I,h⟩
def dz{e:Expr}{es:List Expr}{t:TG}{u:JQ}(h1:PG X e t)(h2:PU X es u)
 (hs:(Y9 (e::es) X.env).map (·.2)=assign e X.env::(Y9 es X.env).map (·.2):=by rfl):PU X (e::es) (J0 t u):=by
 intro f8 s σ H vs us Q I r h;obtain⟨v,vr,e1,h⟩:=h;subst e1;cases r with
 |cons r rr=>
  rw[hs];refine assignInOrder_cons (ck (h1 f8 s σ H _ _ _ I r h) λ_ s1 ⟨σ1,H1,I1,q1⟩=>?_);exact h2 f8 s1 σ1 H1 _ _ Q I1 rr q1
def K3(K:WI)(n:Nat)(t:JQ):TG:=λv σ H Q=>∃a xs,v= .ref a/\SqT K H a xs/\xs.length=n/\t xs σ H Q
def nJ{es:List Expr}{k:Nat}{t:JQ}{n:Nat}(hc:X.calm=true)(h:PU X es t)
 (hn:(Y9 es X.env).length=n:=by rfl)(qr:(Y9 es X.env).findIdx? (·.1)=none:=by rfl):PG X (.Tuple es k pos) (K3 X.K n t):=by
 intro f8 s σ H v u Q I r hw;obtain⟨a,xs,e1,hq,hl,hw⟩:=hw;subst e1;cases r;obtain⟨aI,rv,ht,hz⟩:=I.tuple hq;refine assign_Tuple_tuple (I.ok.hd hc) ht (by simp[hn,<-hl,rv.length]) qr λh' hx=>?_;have I1:Inv X f8 σ H {s with heap:=h'}:=I.kept (t':=s.toks) λb o e=>hx b o (W4 (WH e)) e;exact h f8 _ σ H xs _ Q I1 (by simpa using rv) hw
def gJ(to ti:TE)(t:QF):TG:=λv σ H Q=>to σ H λo H1=>ti σ H1 λi H2=>t o i v H2 λH3=>Q σ H3
def Sh(te:TE)(g:TG):TS:=λD σ H=>te σ H λx H1=>g x σ H1 D.nx
def wk{tg e:Expr}{te:TE}{g:TG}(he:PE X e te)(hg:PG X tg g)(hs:ac7 [tg] e pos.line X.env=pure false:=by rfl)(hw:swappedStores [tg] e X.env=pure none:=by rfl)
 (h1:(Y9 [tg] X.env).map (·.2)=[assign tg X.env]:=by rfl):PS X (.Assign [tg] e pos) (Sh te g):=by
 intro f8 s σ H D I h;refine wpAny_Assign_stores (ck (he f8 s σ H _ I h) λv s1 ⟨x,H1,I1,r1,q1⟩=>?_) hs hw;rw[h1];exact ck (hg f8 s1 σ H1 x v _ I1 r1 q1) λ_ s2 q=>q
def Si(i:Nat)(te:TE)(ti:PV):TS:=λD σ H=>∃x,σ[i]? =some (some x)/\te σ H λy H1=>ti x y H1 λz H2=>D.nx (σ.set i (some z)) H2
def Mu{i:Nat}{x:Str}{e:Expr}{te:TE}{op:Operator}{ti:PV}{pos':Pos}(hN:X.N.Nodup)(hi:X.N[i]? =some x)(hx:Loc X.env.scope x)(he:PE X e te)(ho:SJ X op ti)(hf:X.fn x=true\/X.env.scope.names.lookup x=some .local:=by first | exact .inl rfl | exact .inr rfl | assumption):
 PS X (.AugAssign (.Name x pos') op e pos) (Si i te ti):=by
 intro f8 s σ H D I h;obtain⟨v,e1,h⟩:=h;obtain⟨m,hn,hl⟩:=I.loc;have vis:PY X.env.scope x:=by rcases hx with k | k;exact .inl k;exact .inr (.inl k)
 obtain⟨u,r,l⟩:=hl i x v hi e1 vis;refine wpAny_AugAssign_Name ?_;have go:wpAny (model X.prog X.w) X.A (eval e X.env) (λw v4=>wpAny (model X.prog X.w) X.A (inplaceOp op u w) (λr s₃=>wpAny (model X.prog X.w) X.A (storeName X.env x r) (λ_=>SP X f8 D .next) X.xe s₃) X.xe v4) X.xe s:=by
  refine ck (he f8 s σ H _ I h) λw s1 ⟨y,H1,I1,r1,q1⟩=>?_;refine ck (ho f8 s1 σ H1 v y u w _ I1 r r1 q1) λz s2 ⟨zv,H2,I2,r2,q2⟩=>?_;exact rY I2 hN hi hx r2 (λs3 I3=>⟨_,H2,I3,q2⟩) hf
 rcases l with⟨hk,hm⟩ | ⟨hk,c,hc,Bz⟩
 ·exact wpAny_loadName_local I.ok.kind hk hn hm go
 ·rcases hk with hk | hk
  ·exact wpAny_loadName_cell I.ok.kind hk hc Bz go
  ·rcases hx with k | k
   ·have:X.env.scope.names.lookup x=some .free:=hk;rw[k] at this;cases this
   ·have:X.env.scope.names.lookup x=some .free:=hk;rw[k] at this;cases this
def VS(f:Int->Int->Int):PV:=λx y H Q=>∃i j,x= .int i/\y= .int j/\Q (.int (f i j)) H
def Lv:SJ X .Add (VS λi j=>i+j):=by
 intro f8 s σ H x y v u Q I r1 r2 h;obtain⟨i,j,e1,e2,q⟩:=h;subst e1;subst e2;obtain⟨t,rfl⟩:=r1;obtain⟨t',rfl⟩:=r2;exact iadd_int ⟨.int _,H,I.tok _,⟨_,rfl⟩,q⟩
end
section
variable{X:Cx}{pos:Pos}
def MQ(c:TT)(tb:TS):TS:=λD σ H=>∃W:Nat->St->Hp->Prop,(∃m,W m σ H)/\∀m σ H,W m σ H->
 c σ H λb H1=>if b=true then∃N:St->Hp->Prop,(∀σ' H',N σ' H'->∃m',m'<m/\W m' σ' H')/\tb {D with nx:=N,ct:=N,bk:=D.nx} σ H1 else D.nx σ H1
def Gs{c:Expr}{body:List Stmt}{tc:TT}{tb:TS}(hp:PassesOwn (model X.prog X.w) X.A X.env X.xe)(hc:PT X c tc)(hb:PSs X body tb):PS X (.While c body [] pos) (MQ tc tb):=by
 intro f8 s σ H D I h;obtain⟨W,⟨m0,w0⟩,turn⟩:=h;refine wpAny_While (codeAny_whileLoop (λn s'=>∃σ' H',Inv X f8 σ' H' s'/\W n σ' H') ?_ m0 ⟨σ,H,I,w0⟩);rintro n s1 ⟨σ1,H1,I1,w1⟩;refine Zl hp (ck (hc f8 s1 σ1 H1 _ I1 (turn n σ1 H1 w1)) λb s2 ⟨H2,I2,q2⟩=>?_);cases b with
 |true=>
  obtain⟨N,hN,q2⟩:=q2;rw[adF rfl];refine Zl hp (ck (hb f8 s2 σ1 H2 _ I2 q2) λf s3 q3=>?_);cases f with
  |next=>
   obtain⟨σ3,H3,I3,n3⟩:=q3;obtain⟨m',hm,w3⟩:=hN σ3 H3 n3;exact⟨m',hm,σ3,H3,I3,w3⟩
  |cont=>
   obtain⟨σ3,H3,I3,n3⟩:=q3;obtain⟨m',hm,w3⟩:=hN σ3 H3 n3;exact⟨m',hm,σ3,H3,I3,w3⟩
  |brk=>exact q3
  |ret v=>exact q3
 |false=>
  rw[adG WZ];exact aac ⟨σ1,H2,I2,q2⟩
end
structure It where
 go:Nat->Hp->Prop
 yld:Nat->Hp->V->Hp->Prop
 stop:Nat->Hp->Prop
def sx(X:Cx)(f8:List (Addr×Obj))(H:Hp)(b:Addr):Prop:=
 H b=none/\b≠X.env.locals/\b∉X.fs/\(b∈X.ex\/X.adQ.heap.objs.size<=b)/\(∀x c,X.env.cells.lookup x=some c->c≠b)/\∀p∈X.pn++f8,p.1≠b
def Inv.fpOk{X:Cx}{f8:List (Addr×Obj)}{σ:St}{H H':Hp}{s:WC}{b:Addr}(I:Inv X f8 σ H s)(hb:s.heap.objs.size<=b)(hn:H' b=none):sx X f8 H' b:=by
 refine⟨hn,Xy (W_ I.lt hb),I.nofs hb, .inr (Xf I.sz hb),λx c e z=>?_,λp hp z=>?_⟩
 ·obtain⟨v,q⟩:=I.cell x c e;exact adK (W_ q.lt (by rw[z];exact hb)) (Xz _)
 ·exact adK (W_ (WH (I.pin p hp).1) (by rw[z];exact hb)) (Xz _)
structure Turn (P:Xc) (w:World) (K:WI) (tg:Expr) (J:It) (fp:List Addr) (it:Addr) (tn:Nat->Heap->Prop):Prop where
 mem:it∈fp
 obj:∀i h,tn i h->∀b∈fp,∃o,h.get? b=some o/\∀v,o.data≠ .cell v
 keep:∀i h h',tn i h->(∀b∈fp,∀o,h.get? b=some o->h'.get? b=some o)->tn i h'
 item:∀(X:Cx),X.prog=P->X.w=w->X.K=K->X.calm=true->∀(i:Nat) (f8:List (Addr×Obj)) (s:WC) (σ:St) (H:Hp) (E:Value->WC->Prop),Inv X f8 σ H s->(∀b∈fp,sx X f8 H b)->tn i s.heap->J.go i H->
  wpAny (model P w) X.A (ZN (.ref it)) (λr s1=>∃u,r=some u/\
   wpAny (model P w) X.A (aaV tg (.ref it) u) (λ_ s2=>∃x H',Inv X f8 σ H' s2/\RelV x u/\J.yld i H x H'/\tn (i+1) s2.heap/\∀b∈fp,H' b=none) E s1) E s
 done:∀(X:Cx),X.prog=P->X.w=w->X.K=K->X.calm=true->∀(i:Nat) (f8:List (Addr×Obj)) (s:WC) (σ:St) (H:Hp) (E:Value->WC->Prop),Inv X f8 σ H s->(∀b∈fp,sx X f8 H b)->tn i s.heap->J.stop i H->
  wpAny (model P w) X.A (ZN (.ref it)) (λr s1=>r=none/\Inv X f8 σ H s1) E s
 self:∀(A:Xu) (i:Nat) (s:WC) (Q:Value->WC->Prop) (E:Value->WC->Prop),tn i s.heap->Q (.ref it) s->wpAny (model P w) A (pyIter (.ref it)) Q E s
abbrev TI:=St->Hp->(It->Hp->Prop)->Prop
def SI(X:Cx)(f8:List (Addr×Obj))(σ:St)(tg:Expr)(R:It->Hp->Prop)(TF:Value)(s2:WC):Prop:=
 ∃(it:Addr) (fp:List Addr) (tn:Nat->Heap->Prop) (J:It) (H':Hp),TF= .ref it/\Inv X f8 σ H' s2/\Turn X.prog X.w X.K tg J fp it tn/\tn 0 s2.heap/\(∀b∈fp,sx X f8 H' b)/\R J H'
def PI(X:Cx)(tg iter:Expr)(wi:TI):Prop:=
 ∀(f8:List (Addr×Obj)) (s:WC) (σ:St) (H:Hp) (R:It->Hp->Prop),Inv X f8 σ H s->wi σ H R->
  wpAny (model X.prog X.w) X.A (eval iter X.env) (λv s1=>wpAny (model X.prog X.w) X.A (pyIter v) (SI X f8 σ tg R) X.xe s1) X.xe s
def tW{M:Model}{A:Xu}{E:Value->WC->Prop}{s:WC}{tg:Expr}{it:Addr}{u:Value}{o:Obj}{n:String}{vs:Array Value}{Q:Unit->WC->Prop}(ho:s.heap.get? it=some o)(hc:o.cls= .type n)(hd:o.data= .fields vs)
 (hn:["enumerate","zip","dict_itemiterator","dict_reverseitemiterator","odict_iterator","itertools.zip_longest","itertools.pairwise"].contains n=false)(hQ:Q () s):wpAny M A (aaV tg (.ref it) u) Q E s:=by
 unfold aaV;cases tg<;>first
  |exact WA hQ
  |(cases u<;>first
    |exact WA hQ
    |(refine Wv (wpAny_load ho ?_)
      rw[hc,hd];show wpAny M A (if (["enumerate","zip","dict_itemiterator","dict_reverseitemiterator","odict_iterator","itertools.zip_longest","itertools.pairwise"].contains n&&vs[0]? ==some (aae _))=true then _ else _) Q E s;rw[adG (by intro h;rw[hn,Bool.false_and] at h;cases h)];exact WA hQ))
def QA(K:WI)(a:Addr):It:=
 ⟨λi H=>∃xs x,SqL K H a xs/\xs[i]? =some x,λi H x H'=>H'=H/\∀xs,SqL K H a xs->xs[i]? =some x,λi H=>∃xs,SqL K H a xs/\xs.length<=i⟩
def QB(K:WI)(a:Addr):It:=
 ⟨λi H=>∃xs x,SqT K H a xs/\xs[i]? =some x,λi H x H'=>H'=H/\∀xs,SqT K H a xs->xs[i]? =some x,λi H=>∃xs,SqT K H a xs/\xs.length<=i⟩
def Np(lo:Int)(n:Nat):It:=⟨λi _=>i<n,λi H x H'=>H'=H/\x= .int (lo+i),λi _=>n<=i⟩
def D7{P:Xc}{w:World}{K:WI}{tg:Expr}(a it:Addr):Turn P w K tg (QA K a) [it] it (λi h=>h.IsListIter it a i) where
 mem:=by simp
 obj:=λi h st b hb=>by
  have e:b=it:=by simpa using hb
  subst e;obtain⟨o,e,c,d⟩:=st;exact⟨o,e,λv z=>by rw[d] at z;cases z⟩
 keep:=λi h h' st k=>st.at λo e=>k it (by simp) o e
 item:=by
  intro X hP hw hK hc i f8 s σ H E I hf st hg;subst hP hw hK;obtain⟨xs,x,hq,hx⟩:=hg;obtain⟨aI,rv,p,hz⟩:=I.list hq;obtain⟨u,hu,ru⟩:=rv.get hx;obtain⟨f0,f1,f2,f3,f4,f5⟩:=hf it (by simp);refine wpAny_pyNext_list_item st p.isList (x:=u) (by simpa using hu) λh' oT sb=>?_;have I1:Inv X f8 σ H {s with heap:=h'}:=I.turned (t':=s.toks) (λb o hb e=>(sb.2 b hb).trans e) f0 f1 f3 f4 f5;obtain⟨o,e,c,d⟩:=id oT;exact⟨u,rfl,tW (s:={s with heap:=h'}) e c d (by decide) ⟨x,H,I1,ru,⟨rfl,λys hy=>by rw[I.list_inj hy hq];exact hx⟩,oT,λb hb=>(hf b hb).1⟩⟩
 done:=by
  intro X hP hw hK hc i f8 s σ H E I hf st hg;subst hP hw hK;obtain⟨xs,hq,hx⟩:=hg;obtain⟨aI,rv,p,hz⟩:=I.list hq;obtain⟨f0,f1,f2,f3,f4,f5⟩:=hf it (by simp);have hl:=rv.length;exact wpAny_pyNext_list_end (I.ok.hd hc) st p.isList (by simp;omega) λh' eb=>⟨rfl,I.turned (t':=s.toks) (λb o hb e=>eb b o hb e) f0 f1 f3 f4 f5⟩
 self:=λ_ _ _ _ _ st h=>wpAny_pyIter_listiter st h
def A3{P:Xc}{w:World}{K:WI}{tg:Expr}(a it:Addr):Turn P w K tg (QB K a) [it] it (λi h=>h.IsTupleIter it a i) where
 mem:=by simp
 obj:=λi h st b hb=>by
  have e:b=it:=by simpa using hb
  subst e;obtain⟨o,e,c,d⟩:=st;exact⟨o,e,λv z=>by rw[d] at z;cases z⟩
 keep:=λi h h' st k=>st.at λo e=>k it (by simp) o e
 item:=by
  intro X hP hw hK hc i f8 s σ H E I hf st hg;subst hP hw hK;obtain⟨xs,x,hq,hx⟩:=hg;obtain⟨aI,rv,p,hz⟩:=I.tuple hq;obtain⟨u,hu,ru⟩:=rv.get hx;obtain⟨f0,f1,f2,f3,f4,f5⟩:=hf it (by simp);refine wpAny_pyNext_tuple_item st (show s.heap.IsTuple a aI.toArray from p) (x:=u) (by simpa using hu) λh' oT sb=>?_;have I1:Inv X f8 σ H {s with heap:=h'}:=I.turned (t':=s.toks) (λb o hb e=>(sb.2 b hb).trans e) f0 f1 f3 f4 f5;obtain⟨o,e,c,d⟩:=id oT;exact⟨u,rfl,tW (s:={s with heap:=h'}) e c d (by decide) ⟨x,H,I1,ru,⟨rfl,λys hy=>by rw[I.tuple_inj hy hq];exact hx⟩,oT,λb hb=>(hf b hb).1⟩⟩
 done:=by
  intro X hP hw hK hc i f8 s σ H E I hf st hg;subst hP hw hK;obtain⟨xs,hq,hx⟩:=hg;obtain⟨aI,rv,p,hz⟩:=I.tuple hq;obtain⟨f0,f1,f2,f3,f4,f5⟩:=hf it (by simp);have hl:=rv.length;exact wpAny_pyNext_tuple_end (I.ok.hd hc) st (show s.heap.IsTuple a aI.toArray from p) (by simp;omega) λh' eb=>⟨rfl,I.turned (t':=s.toks) (λb o hb e=>eb b o hb e) f0 f1 f3 f4 f5⟩
 self:=λ_ _ _ _ _ st h=>wpAny_pyIter_tupleiter st h
def A2{P:Xc}{w:World}{K:WI}{tg:Expr}(it:Addr)(lo:Int)(n:Nat):Turn P w K tg (Np lo n) [it] it (λi h=>IsRangeIter h it (lo+(i:Nat)*1) ((n:Int) - (i:Nat)) 1) where
 mem:=by simp
 obj:=λi h st b hb=>by
  have e:b=it:=by simpa using hb
  subst e;exact⟨_,st,λv z=>by
   have z':ac5 _=Data.cell v:=z;cases z'⟩
 keep:=λi h h' st k=>k it (by simp) _ st
 item:=by
  intro X hP hw hK hc i f8 s σ H E I hf st hg;subst hP hw hK;obtain⟨f0,f1,f2,f3,f4,f5⟩:=hf it (by simp);have W:=Walks.range (prog:=X.prog) (w:=X.w) (I.ok.hd hc) it lo 1 n;refine W.item i s _ _ hg st λv h' tk hv oT kk=>?_;obtain⟨t,rfl⟩:=hv;have I1:Inv X f8 σ H {s with heap:=h',toks:=tk}:=I.turned (λb o hb e=>kk b o (by simpa using hb) e) f0 f1 f3 f4 f5;refine⟨_,rfl,tW (s:={s with heap:=h',toks:=tk}) (n:="range_iterator") oT rfl rfl (by decide) ⟨.int (lo+i),H,I1,⟨t,?_⟩,⟨rfl,rfl⟩,oT,λb hb=>(hf b hb).1⟩⟩;rw[Int.mul_one]
 done:=by
  intro X hP hw hK hc i f8 s σ H E I hf st hg;subst hP hw hK;obtain⟨f0,f1,f2,f3,f4,f5⟩:=hf it (by simp);exact wpAny_pyNext_range_end (I.ok.hd hc) st (by have:n<=i:=hg;omega) λh' eb=>⟨rfl,I.turned (t':=s.toks) (λb o hb e=>eb b o hb e) f0 f1 f3 f4 f5⟩
 self:=λ_ _ _ _ _ st h=>wpAny_pyIter_rangeiter st h
section
variable{X:Cx}{tg:Expr}
def OB(K:WI)(tl:TE):TI:=λσ H R=>tl σ H λx H1=>∃a,x= .ref a/\(∃xs,SqL K H1 a xs)/\R (QA K a) H1
def RK(K:WI)(tl:TE):TI:=λσ H R=>tl σ H λx H1=>∃a,x= .ref a/\(∃xs,SqT K H1 a xs)/\R (QB K a) H1
def Jd{l:Expr}{tl:TE}(hl:PE X l tl):PI X tg l (OB X.K tl):=by
 intro f8 s σ H R I h;refine ck (hl f8 s σ H _ I h) λv s1 ⟨x,H1,I1,r1,q1⟩=>?_;obtain⟨a,e,⟨xs,hq⟩,q⟩:=q1;subst e;cases r1;obtain⟨aI,rv,p,hz⟩:=I1.list hq;refine aax p.isList ?_;refine⟨s1.heap.objs.size,[s1.heap.objs.size],_,_,H1,rfl,I1.kept (t':=s1.toks) λb o e=>Wx _ e,D7 a _,⟨_,WN _ rfl,rfl,rfl⟩,λb hb=>?_,q⟩;have e:b=s1.heap.objs.size:=by simpa using hb
 subst e;exact I1.fpOk (WO _) (I1.hok.fresh (WO _))
def Ms{l:Expr}{tl:TE}(hl:PE X l tl):PI X tg l (RK X.K tl):=by
 intro f8 s σ H R I h;refine ck (hl f8 s σ H _ I h) λv s1 ⟨x,H1,I1,r1,q1⟩=>?_;obtain⟨a,e,⟨xs,hq⟩,q⟩:=q1;subst e;cases r1;obtain⟨aI,rv,p,hz⟩:=I1.tuple hq;refine wpAny_pyIter_tuple (show s1.heap.IsTuple a aI.toArray from p) ?_;refine⟨s1.heap.objs.size,[s1.heap.objs.size],_,_,H1,rfl,I1.kept (t':=s1.toks) λb o e=>Wx _ e,A3 a _,⟨_,WN _ rfl,rfl,rfl⟩,λb hb=>?_,q⟩;have e:b=s1.heap.objs.size:=by simpa using hb
 subst e;exact I1.fpOk (WO _) (I1.hok.fresh (WO _))
def yY{f8:List (Addr×Obj)}{σ:St}{H:Hp}{s:WC}{R:It->Hp->Prop}{E:Value->WC->Prop}{lo hi:Int}{t u v:Tok}{tk:Nat}(I:Inv X f8 σ H s)(h1: -(2 ^ 62)<=lo)(h2:lo<2 ^ 62)(h3: -(2 ^ 62)<=hi)(h4:hi<2 ^ 62)
 (q:R (Np lo (hi - lo).toNat) H):wpAny (model X.prog X.w) X.A (pyIter (.ref s.heap.objs.size)) (SI X f8 σ tg R) E {s with heap:=s.heap.push {cls:= .type "range",data:= .fields #[.int lo t, .int hi u, .int 1 v]},toks:=tk}:=by
 refine wpAny_pyIter_range (IsRange.new ..) (small_one h1 h2 h3 h4) ?_;have I1:Inv X f8 σ H {s with heap:=s.heap.push {cls:= .type "range",data:= .fields #[.int lo t, .int hi u, .int 1 v]},toks:=tk}:=I.kept λb o e=>Wx _ e;refine⟨(s.heap.push {cls:= .type "range",data:= .fields #[.int lo t, .int hi u, .int 1 v]}).objs.size,[(s.heap.push {cls:= .type "range",data:= .fields #[.int lo t, .int hi u, .int 1 v]}).objs.size],_,_,H,rfl,
  I1.kept (t':=tk) λb o e=>Wx _ e,A2 _ lo (hi - lo).toNat,?_,λb hb=>?_,q⟩
 ·have e1:lo+((0:Nat):Int)*1=lo:=by simp
  have e2:(((hi - lo).toNat:Nat):Int) - ((0:Nat):Int)=Builtin.Range.rangeSize lo hi 1:=by rw[rangeSize_one];split<;>omega
  show IsRangeIter _ _ (lo+((0:Nat):Int)*1) ((((hi - lo).toNat:Nat):Int) - ((0:Nat):Int)) 1;rw[e1,e2];exact WN _ rfl
 ·have e:b=(s.heap.push {cls:= .type "range",data:= .fields #[.int lo t, .int hi u, .int 1 v]}).objs.size:=by simpa using hb
  subst e;exact I1.fpOk (WO _) (I1.hok.fresh (WO _))
def OC(ta:TA):TI:=λσ H R=>ta σ H λvs H1=>∃j:Int,vs=[.int j]/\ -(2 ^ 62)<=j/\j<2 ^ 62/\R (Np 0 j.toNat) H1
def OD(ta:TA):TI:=λσ H R=>ta σ H λvs H1=>∃i j:Int,vs=[.int i, .int j]/\(-(2 ^ 62)<=i/\i<2 ^ 62/\ -(2 ^ 62)<=j/\j<2 ^ 62)/\R (Np i (j - i).toNat) H1
def DR{a:Expr}{ta:TA}{p pos:Pos}(hg:Gl X "range")(hm:X.mg "range"=none)(ha:PA X [a] ta)(hs:WS [a] X.env=[(false,eval a X.env)]:=by rfl):PI X tg (.Call (.Name "range" p) [a] [] pos) (OC ta):=by
 intro f8 s σ H R I h;refine Call_ (lA I hg hm boot_range (YW (ck (ha pos f8 s σ H _ I h) λus s1 ⟨vs,H1,I1,r1,q1⟩=>?_) hs rfl));obtain⟨j,e,q1,q2,q⟩:=q1;subst e;cases r1 with
 |cons r rr=>
  cases rr;obtain⟨t,rfl⟩:=r;exact call_range_1 (yY I1 (by omega) (by omega) q1 q2 (by simpa using q))
def DU{a b:Expr}{ta:TA}{p pos:Pos}(hg:Gl X "range")(hm:X.mg "range"=none)(ha:PA X [a,b] ta)(hs:WS [a,b] X.env=[(false,eval a X.env),(false,eval b X.env)]:=by rfl)(HY:WS [b] X.env=[(false,eval b X.env)]:=by rfl):
 PI X tg (.Call (.Name "range" p) [a,b] [] pos) (OD ta):=by
 intro f8 s σ H R I h;refine Call_ (lA I hg hm boot_range (YW (ck (ha pos f8 s σ H _ I h) λus s1 ⟨vs,H1,I1,r1,q1⟩=>?_) (by rw[hs,HY]) (by rw[HY];rfl)));obtain⟨i,j,e,⟨q1,q2,q3,q4⟩,q⟩:=q1;subst e;cases r1 with
 |cons r rr=>
  cases rr with
  |cons r' rr=>
   cases rr;obtain⟨t,rfl⟩:=r;obtain⟨t',rfl⟩:=r';exact call_range_2 (yY I1 q1 q2 q3 q4 q)
def So(wi:TI)(g:TG)(tb:TS):TS:=λD σ H=>wi σ H λJ H1=>∃W:Nat->Nat->St->Hp->Prop,(∃m,W 0 m σ H1)/\∀i m σ H,W i m σ H->
 (J.stop i H/\D.nx σ H)\/(J.go i H/\∃N:St->Hp->Prop,(∀σ' H',N σ' H'->∃m',m'<m/\W (i+1) m' σ' H')/\∀x H',J.yld i H x H'->g x σ H' λσ2 H2=>tb {D with nx:=N,ct:=N,bk:=D.nx} σ2 H2)
def rK(fp:List Addr)(h:Heap):List (Addr×Obj):=fp.filterMap λb=>(h.get? b).map λo=>(b,o)
def i9{fp:List Addr}{h:Heap}{b:Addr}{o:Obj}(hb:b∈fp)(e:h.get? b=some o):(b,o)∈rK fp h:=aa7.mpr ⟨b,hb,by rw[e];rfl⟩
def DG{fp:List Addr}{h:Heap}{p:Addr×Obj}(hp:p∈rK fp h):p.1∈fp/\h.get? p.1=some p.2:=by
 obtain⟨b,hb,e⟩:=aa7.mp hp;cases q:h.get? b with
 |none=>rw[q] at e;cases e
 |some o=>
  rw[q] at e;have e':(b,o)=p:=Xg e;subst e';exact⟨hb,q⟩
def Inv.pinned{f8:List (Addr×Obj)}{σ:St}{H:Hp}{s:WC}{fp:List Addr}(I:Inv X f8 σ H s)(hf:∀b∈fp,sx X f8 H b)(ho:∀b∈fp,∃o,s.heap.get? b=some o/\∀v,o.data≠ .cell v):Inv X (f8++rK fp s.heap) σ H s:=
 I.pins_of λp hp=>(XI.mp hp).elim (λz=>I.pin p (Xv _ z)) λz=>by
  obtain⟨hb,e⟩:=DG z;obtain⟨f0,f1,f2,_⟩:=hf p.1 hb;obtain⟨o,e',d⟩:=ho p.1 hb;rw[e] at e';cases e';exact⟨e,f0,f1,f2,d⟩
def Inv.unpinned{f8 pl:List (Addr×Obj)}{σ:St}{H:Hp}{s:WC}(I:Inv X (f8++pl) σ H s):Inv X f8 σ H s:=I.pins_of λp hp=>I.pin p (Xv _ (YT _ hp))
def Mv{iter:Expr}{body:List Stmt}{wi:TI}{g:TG}{tb:TS}{pos:Pos}(hp:PassesOwn (model X.prog X.w) X.A X.env X.xe)(hc:X.calm=true)(hi:PI X tg iter wi)(hg:PG X tg g)(hb:PSs X body tb)
 (hs:∀x,aaz iter X.env x=pure x:=by intro _;rfl):PS X (.For tg iter body [] pos) (So wi g tb):=by
 intro f8 s σ H D I h;refine wpAny_For (ck (hi f8 s σ H _ I h) λv s1 h1=>ck h1 λTF s2 h2=>?_) hs;obtain⟨it,fp,tn,J,H2,e,I2,T,xl,f2,W,⟨m0,w0⟩,turn⟩:=h2;subst e;have ML:∀{H':Hp},(∀b∈fp,H' b=none)->∀b∈fp,sx X f8 H' b:=λhn b hb=>⟨hn b hb,(f2 b hb).2⟩
 refine codeAny_forLoop_any (λn s'=>∃i σ' H',Inv X f8 σ' H' s'/\tn i s'.heap/\(∀b∈fp,H' b=none)/\W i n σ' H') ?_ m0 ⟨0,σ,H2,I2,xl,λb hb=>(f2 b hb).1,w0⟩;rintro n s3 ⟨i,σ3,H3,I3,Kn,P4,w3⟩;rcases turn i n σ3 H3 w3 with⟨stop,qn⟩ | ⟨go,N,hN,step⟩
 ·refine Zl hp (ck (T.done X rfl rfl rfl hc i f8 s3 σ3 H3 X.xe I3 (ML P4) Kn stop) λr s4 ⟨hr,I4⟩=>?_);subst hr;exact aac ⟨σ3,H3,I4,qn⟩
 ·refine Zl hp (ck (T.item X rfl rfl rfl hc i f8 s3 σ3 H3 X.xe I3 (ML P4) Kn go) λr s4 ⟨u,hr,h4⟩=>?_);subst hr;refine Zl hp (ck h4 λ_ s5 ⟨x,H5,I5,r5,y5,Sf,Um⟩=>?_);have I5':=I5.pinned (ML Um) (T.obj _ _ Sf);refine Zl hp (ck (hg _ s5 σ3 H5 x u _ I5' r5 (step x H5 y5)) λ_ s6 ⟨σ6,H6,I6,q6⟩=>?_);refine Zl hp (ck (hb _ s6 σ6 H6 _ I6 q6) λf s7 q7=>?_);have again:∀{σ7:St}{H7:Hp},Inv X (f8++rK fp s5.heap) σ7 H7 s7->N σ7 H7->∃m,m<n/\∃i σ' H',Inv X f8 σ' H' s7/\tn i s7.heap/\(∀b∈fp,H' b=none)/\W i m σ' H':=λ{σ7 H7} I7 n7=>by
   obtain⟨m',hm,w7⟩:=hN σ7 H7 n7;refine⟨m',hm,i+1,σ7,H7,I7.unpinned,T.keep _ _ _ Sf λb hb o e=>(I7.pin (b,o) (Xv _ (Xv _ (i9 hb e)))).1,λb hb=>?_,w7⟩;obtain⟨o,e,d⟩:=T.obj _ _ Sf b hb;exact(I7.pin (b,o) (Xv _ (Xv _ (i9 hb e)))).2.1
  cases f with
  |next=>obtain⟨σ7,H7,I7,n7⟩:=q7;exact again I7 n7
  |cont=>obtain⟨σ7,H7,I7,n7⟩:=q7;exact again I7 n7
  |brk=>obtain⟨σ7,H7,I7,q7⟩:=q7;exact⟨σ7,H7,I7.unpinned,q7⟩
  |ret v=>obtain⟨x7,σ7,H7,I7,r7,q7⟩:=q7;exact⟨x7,σ7,H7,I7.unpinned,r7,q7⟩
end
abbrev R2:=V->V->Hp->VK->Prop
def OpR(X:Cx)(f:Value->Value->Sem Value)(r:R2):Prop:=
 ∀(f8:List (Addr×Obj)) (s:WC) (σ:St) (H:Hp) (x y:V) (v u:Value) (Q:VK),Inv X f8 σ H s->RelV x v->RelV y u->r x y H Q->
  wpAny (model X.prog X.w) X.A (f v u) (EP X f8 σ Q) X.xe s
def QH(X:Cx)(f:Value->Sem Value)(r:V->Hp->VK->Prop):Prop:=
 ∀(f8:List (Addr×Obj)) (s:WC) (σ:St) (H:Hp) (x:V) (v:Value) (Q:VK),Inv X f8 σ H s->RelV x v->r x H Q->
  wpAny (model X.prog X.w) X.A (f v) (EP X f8 σ Q) X.xe s
def CallR(X:Cx)(f:Value)(r:List V->Hp->VK->Prop):Prop:=
 ∀(f8:List (Addr×Obj)) (s:WC) (σ:St) (H:Hp) (xs:List V) (us:List Value) (Q:VK),Inv X f8 σ H s->Vals xs us->r xs H Q->
  wpAny (model X.prog X.w) X.A (call f us) (EP X f8 σ Q) X.xe s
def QG(X:Cx)(r:V->Hp->(Bool->Hp->Prop)->Prop):Prop:=
 ∀(f8:List (Addr×Obj)) (s:WC) (σ:St) (H:Hp) (x:V) (v:Value) (Q:Bool->Hp->Prop),Inv X f8 σ H s->RelV x v->r x H Q->
  wpAny (model X.prog X.w) X.A (truthy v) (TP X f8 σ Q) X.xe s
def Pz(r:R2)(ta tb:TE):TE:=λσ H Q=>ta σ H λx H1=>tb σ H1 λy H2=>r x y H2 Q
def Wa(r:V->Hp->VK->Prop)(ta:TE):TE:=λσ H Q=>ta σ H λx H1=>r x H1 Q
def rI(C:Int->Int->Prop)(g:Int->Int->V):R2:=λx y H Q=>∃i j,x= .int i/\y= .int j/\C i j/\Q (g i j) H
def DX(g:Int->Int->V):R2:=λx y H Q=>∃i j,x= .int i/\y= .int j/\Q (g i j) H
def rU(g:Int->V):V->Hp->VK->Prop:=λx H Q=>∃i,x= .int i/\Q (g i) H
section
variable{X:Cx}{a b:Expr}{ta tb:TE}{pos:Pos}
def Ky(ha:PE X a ta)(hb:PE X b tb){f8:List (Addr×Obj)}{s:WC}{σ:St}{H:Hp}{R:V->V->Hp->Prop}(I:Inv X f8 σ H s)
 (h:ta σ H λx H1=>tb σ H1 λy H2=>R x y H2){Q:Value->WC->Prop}{f:Value->Value->Sem Value}
 (hf:∀v u s2 x y H2,Inv X f8 σ H2 s2->RelV x v->RelV y u->R x y H2->wpAny (model X.prog X.w) X.A (f v u) Q X.xe s2):
 wpAny (model X.prog X.w) X.A (eval a X.env) (λv v6=>wpAny (model X.prog X.w) X.A (eval b X.env) (λu v4=>wpAny (model X.prog X.w) X.A (f v u) Q X.xe v4) X.xe v6) X.xe s:=by
 refine ck (ha f8 s σ H _ I h) λv s1 ⟨x,H1,I1,r1,q1⟩=>?_;refine ck (hb f8 s1 σ H1 _ I1 q1) λu s2 ⟨y,H2,I2,r2,q2⟩=>?_;exact hf v u s2 x y H2 I2 r1 r2 q2
def O3{op:Operator}{r:R2}(ho:OpR X (ZY op) r)(ha:PE X a ta)(hb:PE X b tb):PE X (.BinOp a op b pos) (Pz r ta tb):=by
 intro f8 s σ H Q I h;exact wpAny_BinOp (Ky ha hb I h λv u s2 x y H2 I2 rx ry q=>ho f8 s2 σ H2 x y v u Q I2 rx ry q)
def O5{op:UnaryOp}{r:V->Hp->VK->Prop}(ho:QH X (unaryOp op) r)(ha:PE X a ta):PE X (.UnaryOp op a pos) (Wa r ta):=by
 intro f8 s σ H Q I h;exact UnaryOp_ (ck (ha f8 s σ H _ I h) λv s1 ⟨x,H1,I1,r1,q1⟩=>ho f8 s1 σ H1 x v Q I1 r1 q1)
def R0{f:Value->Value->Sem Value}{C:Int->Int->Prop}{g:Int->Int->Int}
 (rule:∀(i j:Int) (t u:Tok) (s:WC) (Q:Value->WC->Prop) (E:Value->WC->Prop),C i j->Q (.int (g i j) s.toks) {s with toks:=s.toks+1}->wpAny (model X.prog X.w) X.A (f (.int i t) (.int j u)) Q E s):
 OpR X f (rI C λi j=> .int (g i j)):=by
 intro f8 s σ H x y v u Q I rx ry h;obtain⟨i,j,rfl,rfl,hc,q⟩:=h;obtain⟨t,rfl⟩:=rx;obtain⟨t',rfl⟩:=ry;exact rule i j t t' s _ _ hc ⟨.int (g i j),H,I.tok _,⟨_,rfl⟩,q⟩
def OX{f:Value->Value->Sem Value}{g:Int->Int->Int}
 (rule:∀(i j:Int) (t u:Tok) (s:WC) (Q:Value->WC->Prop) (E:Value->WC->Prop),Q (.int (g i j) s.toks) {s with toks:=s.toks+1}->wpAny (model X.prog X.w) X.A (f (.int i t) (.int j u)) Q E s):
 OpR X f (DX λi j=> .int (g i j)):=by
 intro f8 s σ H x y v u Q I rx ry h;obtain⟨i,j,rfl,rfl,q⟩:=h;obtain⟨t,rfl⟩:=rx;obtain⟨t',rfl⟩:=ry;exact rule i j t t' s _ _ ⟨.int (g i j),H,I.tok _,⟨_,rfl⟩,q⟩
def OW{f:Value->Value->Sem Value}{g:Int->Int->Bool}
 (rule:∀(i j:Int) (t u:Tok) (s:WC) (Q:Value->WC->Prop) (E:Value->WC->Prop),Q (.bool (g i j)) s->wpAny (model X.prog X.w) X.A (f (.int i t) (.int j u)) Q E s):
 OpR X f (DX λi j=> .bl (g i j)):=by
 intro f8 s σ H x y v u Q I rx ry h;obtain⟨i,j,rfl,rfl,q⟩:=h;obtain⟨t,rfl⟩:=rx;obtain⟨t',rfl⟩:=ry;exact rule i j t t' s _ _ ⟨.bl (g i j),H,I,rfl,q⟩
def Nk(i j:Int):Prop:=0<j/\j<1073741824
def CMul(i j:Int):Prop:=(-(2 ^ 64)<i/\i<2 ^ 64)\/(-(2 ^ 64)<j/\j<2 ^ 64)
def CMul.ok{i j:Int}(h:CMul i j):IntMulOk i j:=by
 rcases h with⟨h1,h2⟩ | ⟨h1,h2⟩
 ·exact .of_left (intBits_le_64 h1 h2)
 ·exact .of_right (intBits_le_64 h1 h2)
def LX:OpR X (ZY .Add) (DX λi j=> .int (i+j)):=OX λ_ _ _ _ _ _ _ q=>add_int q
def L9:OpR X (ZY .Sub) (DX λi j=> .int (i - j)):=OX λ_ _ _ _ _ _ _ q=>sub_int q
def L6:OpR X (ZY .Mult) (rI CMul λi j=> .int (i*j)):=R0 λ_ _ _ _ _ _ _ hc q=>mul_int q hc.ok
def II:OpR X (ZY .FloorDiv) (rI Nk λi j=> .int (i / j)):=R0 λi j _ _ _ _ _ hc q=>by
 have h1:(0:Int)<j:=hc.1;have h2:j<1073741824:=hc.2;exact floordiv_int (by omega) (by rw[Int.fdiv_eq_ediv_of_nonneg i (by omega)];exact q) (.inl (PyProof.noPylong_small (by omega)))
def L5:OpR X (ZY .Mod) (rI (λ_ j=>0<j) λi j=> .int (i % j)):=R0 λi j _ _ _ _ _ hc q=>by
 have h1:(0:Int)<j:=hc;exact mod_int' (by omega) (by rw[Int.fmod_eq_emod_of_nonneg i (by omega)];exact q)
def Wc{f:Value->Sem Value}{g:Int->Int}
 (rule:∀(i:Int) (t:Tok) (s:WC) (Q:Value->WC->Prop) (E:Value->WC->Prop),Q (.int (g i) s.toks) {s with toks:=s.toks+1}->wpAny (model X.prog X.w) X.A (f (.int i t)) Q E s):
 QH X f (rU λi=> .int (g i)):=by
 intro f8 s σ H x v Q I rx h;obtain⟨i,rfl,q⟩:=h;obtain⟨t,rfl⟩:=rx;exact rule i t s _ _ ⟨.int (g i),H,I.tok _,⟨_,rfl⟩,q⟩
def MV:QH X (unaryOp .USub) (rU λi=> .int (-i)):=Wc λ_ _ _ _ _ q=>neg_int q
end
section
variable{X:Cx}{a b c:Expr}{ta tb tc:TE}{pos:Pos}
def KU{f8:List (Addr×Obj)}{σ:St}{H:Hp}{s:WC}{Q:VK}{k k':Bool}(I:Inv X f8 σ H s)(q:Q (.bl k) H)(e:k=k'):EP X f8 σ Q (.bool k') s:=by
 subst e;exact⟨.bl k,H,I,rfl,q⟩
def BV:OpR X (XB .Lt) (DX λi j=> .bl (decide (i<j))):=OW λ_ _ _ _ _ _ _ q=>lt_int q
def rl:OpR X (XB .LtE) (DX λi j=> .bl (decide (i<=j))):=OW λ_ _ _ _ _ _ _ q=>le_int q
def DK:OpR X (XB .In) (λx y H Q=>∃i j,x= .str i/\y= .str j/\Q (.bl (!(Zm j i 0 j.length 1).isEmpty)) H):=by
 intro f8 s σ H x y v u Q I rx ry h;obtain⟨i,j,rfl,rfl,q⟩:=h;obtain⟨t,rfl⟩:=rx;obtain⟨t',rfl⟩:=ry;exact in_str (KU I q rfl)
def OpR.or{f:Value->Value->Sem Value}{r r':R2}(h:OpR X f r)(h':OpR X f r'):OpR X f (λx y H Q=>r x y H Q\/r' x y H Q):=by
 intro f8 s σ H x y v u Q I rx ry q;rcases q with q | q
 ·exact h f8 s σ H x y v u Q I rx ry q
 ·exact h' f8 s σ H x y v u Q I rx ry q
def FR(b:Expr){op:CmpOp}(h:op≠ .In:=by decide)(h2:op≠ .NotIn:=by decide):XJ op b=false:=by
 have e1:(op==CmpOp.In)=false:=by cases op<;>first | rfl | exact adK rfl h
 have e2:(op==CmpOp.NotIn)=false:=by cases op<;>first | rfl | exact adK rfl h2
 cases b<;>simp[XJ,e1,e2]
def Jb{op:CmpOp}{r:R2}(ho:OpR X (XB op) r)(ha:PE X a ta)(hb:PE X b tb)(hm:XJ op b=false):PE X (.Compare a [op] [b] pos) (Pz r ta tb):=by
 intro f8 s σ H Q I h;exact wpAny_Compare1 (Ky ha hb I h λv u s2 x y H2 I2 rx ry q=>ho f8 s2 σ H2 x y v u Q I2 rx ry q) hm
def Kp(t:TE):TT:=λσ H Q=>t σ H λx H'=>∃k,x= .bl k/\Q k H'
def Jp{op:CmpOp}{r:R2}(ho:OpR X (XB op) r)(ha:PE X a ta)(hb:PE X b tb)(hm:XJ op b=false):PT X (.Compare a [op] [b] pos) (Kp (Pz r ta tb)):=by
 intro f8 s σ H Q I h;refine wpAny_isTrue_Compare1 (ck (ha f8 s σ H _ I h) λv s1 ⟨x,H1,I1,r1,q1⟩=>ck (hb f8 s1 σ H1 _ I1 q1) λu s2 ⟨y,H2,I2,r2,q2⟩=>
  ck (ho f8 s2 σ H2 x y v u _ I2 r1 r2 q2) λc s3 ⟨z,H3,I3,r3,k,e,q3⟩=>?_) hm
 subst e;cases r3;exact XW ⟨H3,I3,q3⟩
def AZ(r r':R2)(ta tb tc:TE):TE:=λσ H Q=>ta σ H λx H1=>tb σ H1 λy H2=>r x y H2 λz H3=>∃k,z= .bl k/\
 (if k=true then tc σ H3 λw' H4=>r' y w' H4 Q else Q (.bl false) H3)
def Gk{op DJ:CmpOp}{r r':R2}(ho:OpR X (XB op) r)(lX:OpR X (XB DJ) r')(ha:PE X a ta)(hb:PE X b tb)(hc:PE X c tc)
 (hm:lastMarks [op,DJ] [b,c]=false:=by with_unfolding_all rfl):PE X (.Compare a [op,DJ] [b,c] pos) (AZ r r' ta tb tc):=by
 intro f8 s σ H Q I h;refine Compare_chain (ck (ha f8 s σ H _ I h) λv s1 ⟨x,H1,I1,r1,q1⟩=>chain_link (ck (hb f8 s1 σ H1 _ I1 q1) λu s2 ⟨y,H2,I2,r2,q2⟩=>
  ck (ho f8 s2 σ H2 x y v u _ I2 r1 r2 q2) λd s3 ⟨z,H3,I3,r3,k,e,q3⟩=>?_)) hm
 subst e;cases r3;refine XW ?_;cases k with
 |false=>exact ite_ff ⟨.bl false,H3,I3,rfl,q3⟩
 |true=>exact ite_tt (chain_last (ck (hc f8 s3 σ H3 _ I3 q3) λw' s4 ⟨z',H4,I4,r4,q4⟩=>lX f8 s4 σ H4 y z' u w' Q I4 r2 r4 q4))
def Gv{op DJ:CmpOp}{r r':R2}(ho:OpR X (XB op) r)(lX:OpR X (XB DJ) r')(ha:PE X a ta)(hb:PE X b tb)(hc:PE X c tc)
 (hm:lastMarks [op,DJ] [b,c]=false:=by with_unfolding_all rfl):PT X (.Compare a [op,DJ] [b,c] pos) (Kp (AZ r r' ta tb tc)):=by
 intro f8 s σ H Q I h;refine isTrue_chain (ck (ha f8 s σ H _ I h) λv s1 ⟨x,H1,I1,r1,q1⟩=>test_link (ck (hb f8 s1 σ H1 _ I1 q1) λu s2 ⟨y,H2,I2,r2,q2⟩=>
  ck (ho f8 s2 σ H2 x y v u _ I2 r1 r2 q2) λd s3 ⟨z,H3,I3,r3,k,e,q3⟩=>?_)) hm
 subst e;cases r3;refine XW ?_;cases k with
 |false=>
  obtain⟨k',e',q'⟩:=q3;cases e';exact ite_ff ⟨H3,I3,q'⟩
 |true=>
  refine ite_tt (test_last (ck (hc f8 s3 σ H3 _ I3 q3) λw' s4 ⟨z',H4,I4,r4,q4⟩=>ck (lX f8 s4 σ H4 y z' u w' _ I4 r2 r4 q4) λd' s5 ⟨z2,H5,I5,r5,k2,e2,q5⟩=>?_));subst e2;cases r5;exact XW ⟨H5,I5,q5⟩
def Nt(K:WI)(x:V)(H:Hp)(k:Bool):Prop:=
 match x with
 | .non=>k=false
 | .bl b=>k=b
 | .int i=>k=(i !=0)
 | .str y=>y.length<=WX/\k=((y.length:Int) !=0)
 | .byt y=>y.size<=WX/\k=((y.size:Int) !=0)
 | .ref p=>(∃xs,SqL K H p xs/\k=!xs.isEmpty)\/(∃xs,SqT K H p xs/\k=!xs.isEmpty)\/∃aB,H p=some (.dK aB)/\k=!aB.isEmpty
 |_=>False
def Ai{κ:Type}{aB:List (κ×V)}{vs:List (κ×Value)}(r:KV aB vs):(!vs.isEmpty)=!aB.isEmpty:=by
 cases r<;>rfl
def qA{xs:List V}{aI:List Value}(r:Vals xs aI):(!aI.toArray.isEmpty)=!xs.isEmpty:=by
 cases r<;>simp
def nv:(WX:Nat)<2 ^ 63:=by rw[YC];decide
def MS:QG X (λx H Q=>∃k,Nt X.K x H k/\Q k H):=by
 intro f8 s σ H x v Q I rx h;obtain⟨k,e,q⟩:=h;have hl:=nv;have hs:WX=16777216:=YC;cases x with
 |non=>
  cases rx;have e':k=false:=e;subst e';exact truthy_none ⟨H,I,q⟩
 |bl b=>
  cases rx;have e':k=b:=e;subst e';exact XW ⟨H,I,q⟩
 |int i=>
  obtain⟨t,rfl⟩:=rx;have e':k=(i !=0):=e;subst e';exact PySem.P.truthy_int ⟨H,I,q⟩
 |str y=>
  obtain⟨t,rfl⟩:=rx;obtain⟨hy,e'⟩:y.length<=WX/\k=((y.length:Int) !=0):=e;subst e';exact PySem.P.truthy_str (by omega) ⟨H,I.tok _,q⟩
 |byt y=>
  obtain⟨t,rfl⟩:=rx;obtain⟨hy,e'⟩:y.size<=WX/\k=((y.size:Int) !=0):=e;subst e';exact PySem.W.truthy_bytes (by omega) ⟨H,I.tok _,q⟩
 |ref p=>
  cases rx;have e':(∃xs,SqL X.K H p xs/\k=!xs.isEmpty)\/(∃xs,SqT X.K H p xs/\k=!xs.isEmpty)\/∃aB,H p=some (.dK aB)/\k=!aB.isEmpty:=e;rcases e' with⟨xs,hx,e'⟩ | ⟨xs,hx,e'⟩ | ⟨aB,hx,e'⟩
  ·subst e';obtain⟨aI,r,pl,hz⟩:=I.list hx;have P3:=r.length;exact wpAny_truthy_list pl.isList (by simp only[WJ];omega) ⟨H,I.tok _,by rw[qA r];exact q⟩
  ·subst e';obtain⟨aI,r,pl,hz⟩:=I.tuple hx;have P3:=r.length;exact truthy_tuple pl (by simp only[WJ];omega) ⟨H,I.tok _,by rw[qA r];exact q⟩
  ·subst e';obtain⟨hz,hS,vs,r,m⟩:aB.length<=WX/\(p==Ye)=false/\∃vs,KV aB vs/\s.heap.DictOf (bg X.prog X.w) p vs:=I.hok p _ hx;have P3:aB.length=vs.length:=YA r;exact wpAny_truthy_dict hS m (by omega) ⟨H,I.tok _,by rw[Ai r];exact q⟩
 |_=>exact(show False from e).elim
def Gx(ha:PE X a ta)(he:∀whole,isTrue a X.env whole=(do let v<-whole;standAt a.pos;holding [v] (truthy v))):
 PT X a (λσ H Q=>ta σ H λx H'=>∃k,Nt X.K x H' k/\Q k H'):=by
 intro f8 s σ H Q I h;exact isTrue_plain (ck (ha f8 s σ H _ I h) λv s1 ⟨x,H1,I1,r1,q1⟩=>MS f8 s1 σ H1 x v Q I1 r1 q1) (he _)
def vals1{x:V}{us:List Value}(r:Vals [x] us):∃u,us=[u]/\RelV x u:=by
 cases r with
 |cons r1 r2=>cases r2;exact⟨_,rfl,r1⟩
def vals2{x y:V}{us:List Value}(r:Vals [x,y] us):∃u w',us=[u,w']/\RelV x u/\RelV y w':=by
 cases r with
 |cons r1 r2=>
  cases r2 with
  |cons r3 r4=>cases r4;exact⟨_,_,rfl,r1,r3⟩
def Ey:CallR X (.builtin "abs") (λxs H Q=>∃i,xs=[.int i]/\Q (.int (if i<0 then -i else i)) H):=by
 intro f8 s σ H xs us Q I r h;obtain⟨i,rfl,q⟩:=h;obtain⟨u,rfl,t,rfl⟩:=vals1 r;exact call_abs_int λu tk=>⟨.int (if i<0 then -i else i),H,I.tok _,⟨_,rfl⟩,q⟩
def CB(hc:X.calm=true):CallR X (.builtin "max") (λxs H Q=>∃i j,xs=[.int i, .int j]/\Q (.int (if j>i then j else i)) H):=by
 intro f8 s σ H xs us Q I r h;obtain⟨i,j,rfl,q⟩:=h;obtain⟨u,w',rfl,⟨t,rfl⟩,⟨t',rfl⟩⟩:=vals2 r;refine max_two_ints (I.ok.hd hc) λh' tk k=>⟨_,H,I.kept k,?_,q⟩
 by_cases hj:j>i
 ·rw[adF hj,adF hj];exact⟨_,rfl⟩
 ·rw[adG hj,adG hj];exact⟨_,rfl⟩
def CD(hc:X.calm=true):CallR X (.builtin "min") (λxs H Q=>∃i j,xs=[.int i, .int j]/\Q (.int (if j<i then j else i)) H):=by
 intro f8 s σ H xs us Q I r h;obtain⟨i,j,rfl,q⟩:=h;obtain⟨u,w',rfl,⟨t,rfl⟩,⟨t',rfl⟩⟩:=vals2 r;refine min_two_ints (I.ok.hd hc) λh' tk k=>⟨_,H,I.kept k,?_,q⟩
 by_cases hj:j<i
 ·rw[adF hj,adF hj];exact⟨_,rfl⟩
 ·rw[adG hj,adG hj];exact⟨_,rfl⟩
end
structure ObjM (h:Heap) (x dx C:Addr) (mA:Str->Option Value):Prop where
 obj:h.get? x=some (abo C dx)
 ns:h.Ns1 dx mA
 ne:dx≠x
def Du{h:Heap}{dx:Addr}{mA:Str->Option Value}(n:h.Ns1 dx mA):∃od,h.get? dx=some od/\∀name,abz name od=some (mA name):=by
 obtain⟨o,es,ep,ho,hd,hk,_,hm⟩:=n;refine⟨o,ho,λname=>?_⟩;have e:=hm name;unfold nsFind findBy at e;rw[<-Array.find?_toList] at e;unfold abz;rw[hd]
 dsimp only
 split
 ·rename_i y q;rw[q] at e;exact adM some e
 ·rename_i q;rw[q] at e;have a:es.toList.any (·.refKey)=false:=by
   rw[List.any_eq_false];intro y hy;obtain⟨z,t,Ac⟩:=hk y (Array.mem_toList_iff.mp hy);simp[DictEntry.refKey,Ac]
  have a':¬es.toList.any (·.refKey)=true:=by rw[a];exact WZ
  rw[adG a'];exact adM some e
def ObjM.look{h:Heap}{x dx C:Addr}{mA:Str->Option Value}(I:ObjM h x dx C mA):∃od,PySem.W.InstAt h x (abo C dx) C (some od)/\∀name,abz name od=some (mA name):=
 let ⟨od,ho,hl⟩:=Du I.ns
 ⟨od,⟨I.obj,rfl,rfl,ho⟩,hl⟩
def RelO.some_of{v:V}{o:Option Value}(r:RelO (some v) o):∃u,o=some u/\RelV v u:=by
 cases o with
 |none=>exact(show False from r).elim
 |some u=>exact⟨u,rfl,r⟩
section
variable{P:Xc}{w:World}{H:Hp}{h:Heap}{a C dx:Addr}{fs:List (Str×V)}
def Ie(hok:HOk P w H h)(e:H a=some (.ins C dx fs)):∃mA,ObjM h a dx C mA/\(∀f,RelO (fs.lookup f) (mA f))/\PySem.Within mA (fs.map (·.1))/\fs.length<=1000/\H dx=some (.own a):=by
 obtain⟨d,z,ne,ob,mA,n,r,q⟩:=(show ObjOk P w H h a (.ins C dx fs) from hok a _ e)
 exact⟨mA,⟨ob,n,ne⟩,r,q,z,d⟩
end
structure Cls (K:WI) (C:Addr):Prop where
 pg:acZ K C Str.empty=true
 hd:PySem.W.hasDictIn K C=true
 po:PySem.W.plainOver K C=true
 sa:Yh K (.ref C) "__setattr__"=some (some (.builtin "object.__setattr__"))
def Cls.get{K:WI}{C:Addr}(c:Cls K C)(f:Str):acZ K C f=true:=c.pg
section
variable{X:Cx}{f8:List (Addr×Obj)}{σ:St}{H:Hp}{s:WC}{A:Xu}{E:Value->WC->Prop}{Q:Value->WC->Prop}{c:Value}{b:Bool}
inductive TyOf (K:WI) (H:Hp):V->Value->Prop where
 |non:TyOf K H .non (.type "NoneType")
 |bl (x:Bool):TyOf K H (.bl x) (.type "bool")
 |int (i:Int):TyOf K H (.int i) (.type "int")
 |str (x:Str):TyOf K H (.str x) (.type "str")
 |flt (x:UInt64):TyOf K H (.flt x) (.type "float")
 |lst {a:Addr}{xs:List V}(e:H a=some (.lst xs)):TyOf K H (.ref a) (.type "list")
 |frz {a:Addr}{o:Obj}{xs:List V}(e:H a=some (.frz o (.lst xs))):TyOf K H (.ref a) (.type "list")
 |tup {a:Addr}{xs:List V}(e:H a=some (.tup xs)):TyOf K H (.ref a) (.type "tuple")
 |dK {a:Addr}{aB:List (Key×V)}(e:H a=some (.dK aB)):TyOf K H (.ref a) (.type "dict")
 |dT {a:Addr}{aB:List (List Key×V)}(e:H a=some (.dT aB)):TyOf K H (.ref a) (.type "dict")
 |ins {a C dx:Addr}{fs:List (Str×V)}(e:H a=some (.ins C dx fs)) (cl:Cls K C) (ha:Yh K (.ref C) "__class__"=some (some (.builtin "object.__class__")))
   (hn:PySem.W.specialIn K (.builtin "object.__class__") "__get__"=some (some (.builtin "getset_descriptor.__get__"))) (Tu:PySem.W.takesIn K (.builtin "object.__class__")=some true)
   (hm:Zs K C (.type "object")=some true):TyOf K H (.ref a) (.ref C)
def Dh{x:V}{u t:Value}(I:Inv X f8 σ H s)(rx:RelV x u)(ty:TyOf X.K H x t)(e:WV X.K t c=some b)(h:∀tk,Q (.bool b) {s with toks:=tk}):
 wpAny (model X.prog X.w) A (call (.builtin "isinstance") [u,c]) Q E s:=by
 cases ty with
 |non=>cases (show u=Xi from rx);exact XN PySem.W.kitx_none I.kIn YE e (λz=>nomatch z) h
 |bl y=>cases (show u=X3 y from rx);exact XN PySem.W.kitx_bool I.kIn YE e (λz=>nomatch z) h
 |int i=>obtain⟨t,q⟩:=(show∃t,u=acr i t from rx);cases q;exact XN PySem.W.kitx_int I.kIn YE e (λz=>nomatch z) h
 |str y=>obtain⟨t,q⟩:=(show∃t,u=acq y t from rx);cases q;exact XN PySem.W.kitx_str I.kIn YE e (λz=>nomatch z) h
 |flt y=>obtain⟨t,q⟩:=(show∃t,u=Value.float y t from rx);cases q;exact XN PySem.W.kitx_float I.kIn YE e (λz=>nomatch z) h
 | @lst a xs ea=>
   cases (show u=WY a from rx);obtain⟨_,_,n,_,h1⟩:=(show ObjOk X.prog X.w H s.heap a (.lst xs) from I.hok a _ ea)
   exact XN acM I.kIn ⟨_,h1,rfl⟩ e (λz=>nomatch z) h
 | @frz a ob xs ea=>
   cases (show u=WY a from rx);obtain⟨_,_,_,n,_,h1⟩:=(show ObjOk X.prog X.w H s.heap a (.frz ob (.lst xs)) from I.hok a _ ea)
   exact XN acM I.kIn ⟨_,h1,rfl⟩ e (λz=>nomatch z) h
 | @tup a xs ea=>
   cases (show u=WY a from rx);obtain⟨_,_,_,p⟩:=(show ObjOk X.prog X.w H s.heap a (.tup xs) from I.hok a _ ea)
   obtain⟨o,h1,h2,_⟩:=p;exact XN PySem.W.kitx_tuple I.kIn ⟨o,h1,h2⟩ e (λz=>nomatch z) h
 | @dK a aB ea=>
   cases (show u=WY a from rx);obtain⟨_,_,vs,_,p⟩:=(show ObjOk X.prog X.w H s.heap a (.dK aB) from I.hok a _ ea)
   obtain⟨o,es,ep,h1,h2,_⟩:=p;exact XN acN I.kIn ⟨o,h1,h2.1⟩ e (λz=>nomatch z) h
 | @dT a aB ea=>
   cases (show u=WY a from rx);obtain⟨_,_,xs,_,o,es,ep,h1,h2,_⟩:=(show ObjOk X.prog X.w H s.heap a (.dT aB) from I.hok a _ ea)
   exact XN acN I.kIn ⟨o,h1,h2.1⟩ e (λz=>nomatch z) h
 | @ins a C dx fs ea cl ha hn Tu hm=>
   cases (show u=WY a from rx);obtain⟨mA,O,_⟩:=Ie I.hok ea;obtain⟨od,J,_⟩:=O.look;exact XN (PySem.W.kitx_own (cl.get _) cl.hd ha hn Tu hm) I.kIn J e (λz=>nomatch z) h
end
structure Room (k:Nat) (A:Xu):Prop where
 hd:A.handled=none
 dp:A.depth+3*k+5<abi
 un:A.units+16*k+200<cLine
def Room.mono{j k:Nat}{A:Xu}(r:Room k A)(h:j<=k):Room j A:=⟨r.hd,by have:=r.dp;omega,by have:=r.un;omega⟩
def Room.deeper{k:Nat}{A:Xu}(r:Room (k+1) A)(env:Env):Room k (A.deeper env):=
 ⟨r.hd,by have:=r.dp;show A.depth+1+3*k+5<_;omega,by have:=r.un;show A.units+3+16*k+200<_;omega⟩
def Room.depth{k:Nat}{A:Xu}(r:Room k A):A.depth<abi:=by have:=r.dp;omega
def Room.units{k:Nat}{A:Xu}(r:Room k A):A.units+64<cLine:=by have:=r.un;omega
def MP:TA:=λ_ H Q=>Q [] H
def G4(ta:TE)(tr:TA):TA:=λσ H Q=>ta σ H λx H1=>tr σ H1 λxs H2=>Q (x::xs) H2
section
variable{X:Cx}{e:Expr}{es:List Expr}{te:TE}{t:TA}{pos:Pos}
def rB:PA X [] MP:=λ_ _ _ _ H Q I h=>ZI ⟨[],H,I, .nil,h⟩
def kx(ha:PE X e te)(hr:PA X es t)(hs:WS (e::es) X.env=(false,eval e X.env)::WS es X.env:=by rfl):PA X (e::es) (G4 te t):=by
 intro pos f8 s σ H Q I h;rw[hs];show wpAny _ _ (spliced ((false,eval e X.env)::Yt pos (WS es X.env))) _ _ s;refine Y2 (ck (ha f8 s σ H _ I h) λu s1 ⟨x,H1,I1,r1,q1⟩=>?_);exact ck (hr pos f8 s1 σ H1 _ I1 q1) λus s2 ⟨xs,H2,I2,r2,q2⟩=>⟨x::xs,H2,I2, .cons r1 r2,q2⟩
def Sx(t:TA):TE:=λσ H Q=>t σ H λxs H1=>xs.length<=WX/\∀p,H1 p=none->Q (.ref p) (upd H1 p (.tup xs))
def Sr(t:TA):TE:=λσ H Q=>t σ H λxs H1=>xs.length<=WX/\∀p,H1 p=none->Q (.ref p) (upd H1 p (.lst xs))
def Mo{x1}(h:PA X es t):PE X (.Tuple es x1 pos) (Sx t):=by
 intro f8 s σ H Q I hq;refine wpAny_Tuple_spliced (ck (h pos f8 s σ H _ I hq) λus s1 ⟨xs,H1,I1,r,z,q⟩=>⟨by rw[<-r.length];exact z,?_⟩);have hf:H1 s1.heap.objs.size=none:=I1.hok.fresh (WO _);refine⟨.ref s1.heap.objs.size,upd H1 s1.heap.objs.size (.tup xs),I1.laid (t':=s1.toks) (λb u e=>Wx _ e) (WO _) ?_,rfl,q _ hf⟩;exact⟨z,us,r,⟨_,WN _ rfl,rfl,_,rfl⟩⟩
def AL(h:PA X es t):PE X (.List es pos) (Sr t):=by
 intro f8 s σ H Q I hq;refine wpAny_List_spliced (ck (h pos f8 s σ H _ I hq) λus s1 ⟨xs,H1,I1,r,z,q⟩=>⟨by rw[<-r.length];exact z,?_⟩);have hf:H1 s1.heap.objs.size=none:=I1.hok.fresh (WO _);refine⟨.ref s1.heap.objs.size,upd H1 s1.heap.objs.size (.lst xs),I1.laid (t':=s1.toks) (λb u e=>Wx _ e) (WO _) ?_,rfl,q _ hf⟩;exact⟨z,us,0,r,WN _ rfl⟩
end
abbrev Sp:=List V->Hp->VK->XK->Prop
abbrev A_:=List Env->Hp->WC->XK->Value->WC->Prop
structure Env0 (P:Xc) (w:World) (K:WI) (mg:Str->Option Value) (base:Heap) (A:Xu) (outer:List Env) (s:WC) (H:Hp):Prop where
 frames:A.frames=some outer
 mod:Mod K mg base
 bs:∀b o,base.get? b=some o->s.heap.get? b=some o/\H b=none
 bsz:base.objs.size<=s.heap.objs.size
 funs:s.heap.FunFrames base outer
 frf:∀b∈iy outer,H b=none
 hok:HOk P w H s.heap
 bare:aa3 s.gens
def CE(outer:List Env)(P:Xc)(w:World)(H:Hp)(s:WC)(Q:VK)(u:Value)(s':WC):Prop:=
 ∃v H',s'.os=s.os/\aa3 s'.gens/\Un (iy outer) [] H H' s.heap s'.heap/\HOk P w H' s'.heap/\RelV v u/\Q v H'
def CR(CX:A_)(outer:List Env)(P:Xc)(w:World)(H:Hp)(s:WC)(Q:VK)(E:XK)(r:Result)(s':WC):Prop:=
 match r with
 | .ok (.ret u)=>CE outer P w H s Q u s'
 | .ok _=>False
 | .error e=>CX outer H s E e s'
structure FnOk (P:Xc) (w:World) (K:WI) (mg:Str->Option Value) (base:Heap) (CX:A_) (k:Nat) (f:Addr) (fd:Ze) (ps:List Str) (sp:Sp):Prop where
 len:∀vs H Q E,sp vs H Q E->vs.length=ps.length
 run:∀(A:Xu) (outer:List Env) (s:WC) (H:Hp) (args:Args) (us:List Value) (vs:List V) (Q:VK) (E:XK),Room k A->Env0 P w K mg base A outer s H->acx s fd args (ps.zip us)->Vals vs us->sp vs H Q E->
  ZD (model P w) A (.call (.ref f) args) (CR CX outer P w H s Q E) s
def FnOk.mono{P:Xc}{w:World}{K:WI}{mg:Str->Option Value}{base:Heap}{CX:A_}{j k:Nat}{f:Addr}{fd:Ze}{ps:List Str}{sp:Sp}(F:FnOk P w K mg base CX j f fd ps sp)(h:j<=k):
 FnOk P w K mg base CX k f fd ps sp:=⟨F.len,λA outer s H args us vs Q E hr=>F.run A outer s H args us vs Q E (hr.mono h)⟩
section
variable{X:Cx}{f8:List (Addr×Obj)}{σ:St}{H:Hp}{s s':WC}
def Inv.env0(I:Inv X f8 σ H s):Env0 X.prog X.w X.K X.mg X.base X.A X.stack s H:=
 ⟨I.ok.frames,I.ok.mod,I.bs,Xf I.ok.bsz I.sz,I.stack,I.stkFree,I.hok,I.bare⟩
def Inv.after{Q:VK}{u:Value}(I:Inv X f8 σ H s)(h:CE X.stack X.prog X.w H s Q u s'):EP X f8 σ Q u s':=by
 obtain⟨v,H',os,bare,un,hok,r,q⟩:=h;obtain⟨hh,g,d,t,VZ⟩:=s';obtain rfl:VZ=s.os:=os;exact⟨v,H',I.call (h':=hh) (g':=g) (d':=d) (t':=t) (ch:=[]) un hok bare (λb z=>adK z (by simp)),r,q⟩
end
def Pu(sp:Sp)(JX:List V)(E:XK)(t:TA):TE:=λσ H Q=>t σ H λvs H1=>sp (vs++JX) H1 Q E
def Binds(K:WI)(fd:Ze)(ps:List Str)(ds:List Value):Prop:=
 ∀(s:WC) (us:List Value),K.In s.heap->(us++ds).length=ps.length->acx s fd ⟨us,[]⟩ (ps.zip (us++ds))
def Binds.all{K:WI}{fd:Ze}{ps:List Str}(h:∀us:List Value,us.length=ps.length->bindArgs fd ⟨us,[]⟩=pure (ps.zip us)):Binds K fd ps []:=λs us _ hl=>by
 rw[Xp] at hl⊢;exact .of_eq (h us hl)
def Passes(CX:A_)(X:Cx)(E:XK):Prop:=∀(f8:List (Addr×Obj)) (σ:St) (H:Hp) (s:WC) (e:Value) (s':WC),Inv X f8 σ H s->CX X.stack H s E e s'->X.xe e s'
section
variable{X:Cx}{CX:A_}{k:Nat}{f:Addr}{fd:Ze}{ps:List Str}{sp:Sp}{JX:List V}{ds:List Value}{E:XK}{x:Str}{p pos:Pos}{e:Expr}{es:List Expr}{t:TA}
def GK{f8:List (Addr×Obj)}{σ:St}{H:Hp}{s:WC}{Q:VK}{us:List Value}{vs:List V}(F:FnOk X.prog X.w X.K X.mg X.base CX k f fd ps sp)(hr:Room k X.A)(hb:Binds X.K fd ps ds)(hd:Vals JX ds)(hx:Passes CX X E)
 (I:Inv X f8 σ H s)(r:Vals vs us)(h:sp (vs++JX) H Q E):wpAny (model X.prog X.w) X.A (call (.ref f) us) (EP X f8 σ Q) X.xe s:=by
 have r2:Vals (vs++JX) (us++ds):=r.append hd;have hl:(us++ds).length=ps.length:=by rw[<-r2.length];exact F.len _ _ _ _ h
 refine wpAny_call (aaX (F.run X.A X.stack s H ⟨us,[]⟩ (us++ds) (vs++JX) Q E hr I.env0 (hb s us I.kIn hl) r2 h) λr s' hq=>?_);cases r with
 |error e=>exact hx f8 σ H s e s' I hq
 |ok fl=>
  cases fl with
  |ret u=>exact I.after hq
  |next=>exact Yi hq
  |brk=>exact Yi hq
  |cont=>exact Yi hq
def Ja(F:FnOk X.prog X.w X.K X.mg X.base CX k f fd ps sp)(hr:Room k X.A)(hg:Gl X x)(hm:X.mg x=some (.ref f))(hk:Yg X.K (.ref f)=true)(hb:Binds X.K fd ps ds)(hd:Vals JX ds)(hx:Passes CX X E)
 (ha:PA X (e::es) t)(lW:(x==("__debug__":Str))=false:=by decide)(he:WS (e::es) X.env=(false,eval e X.env)::WS es X.env:=by rfl)(kL:(Yt pos (WS es X.env)).any (·.1)=false:=by rfl):
 PE X (.Call (.Name x p) (e::es) [] pos) (Pu sp JX E t):=by
 intro f8 s σ H Q I h;refine ZM (l8 I hg hm ?_ lW);refine aaP (h₀:=X.base) I.ok.mod.kin hk (ck (ha pos f8 s σ H _ I h) λus s1 ⟨vs,H1,I1,r,q⟩=>⟨I1.kIn,?_⟩) he kL;exact GK F hr hb hd hx I1 r q
end
section
variable{ks:List Str}
end
structure FnScope (N P:List Str) (sc:Scope):Prop where
 kind:sc.kind= .function
 co:sc.isCoroutine=false
 gen:sc.isGenerator=false
 nd:N.Nodup
 pre:N.take P.length=P
 par:∀x∈P,sc.names.lookup x=some .local\/sc.names.lookup x=some .cell
 nofree:∀y∈sc.names,y.2≠ .free
def tH{aaO:Str->Option aan}{x:Str}:∀{binds:List (Str×Value)}{m:Str->Option Value},(∀v,(x,v)∉binds)->bindL aaO binds m x=m x
 |[],_,_=>rfl
 |(n,v)::r,m,h=>by
  unfold bindL;rw[tH λw hw=>h w (Wz _ hw)];split
  ·have:x≠n:=by rintro rfl;exact h v WB
   simp[this]
  ·rfl
def tE{aaO:Str->Option aan}{x:Str}:∀{binds:List (Str×Value)}{m:Str->Option Value},(∀v,(x,v)∉binds)->bindC aaO binds m x=m x
 |[],_,_=>rfl
 |(n,v)::r,m,h=>by
  unfold bindC;rw[tE λw hw=>h w (Wz _ hw)];split
  ·rfl
  ·have:x≠n:=by rintro rfl;exact h v WB
   simp[this]
def tG{aaO:Str->Option aan}{x:Str}{v:Value}:∀{P:List Str}{vs:List Value}{i:Nat}{m:Str->Option Value},P.Nodup->P[i]? =some x->vs[i]? =some v->aaO x=some .local->
 bindL aaO (P.zip vs) m x=some v
 |[],_,_,_,_,h,_,_=>by simp at h
 |_::_,[],_,_,_,_,h,_=>by simp at h
 |p::P,w::vs,0,m,nd,h1,h2,hk=>by
  simp at h1 h2;subst h1;subst h2;show bindL aaO ((p,w)::P.zip vs) m p=_;unfold bindL;rw[tH λv hv=>(X9.mp nd).1 (aaB hv).1,adF hk];simp
 |p::P,w::vs,i+1,m,nd,h1,h2,hk=>by
  show bindL aaO ((p,w)::P.zip vs) m x=_;unfold bindL;exact tG (i:=i) (X9.mp nd).2 (by simpa using h1) (by simpa using h2) hk
def tB{aaO:Str->Option aan}{x:Str}{v:Value}:∀{P:List Str}{vs:List Value}{i:Nat}{m:Str->Option Value},P.Nodup->P[i]? =some x->vs[i]? =some v->aaO x≠some .local->
 bindC aaO (P.zip vs) m x=some v
 |[],_,_,_,_,h,_,_=>by simp at h
 |_::_,[],_,_,_,_,h,_=>by simp at h
 |p::P,w::vs,0,m,nd,h1,h2,hk=>by
  simp at h1 h2;subst h1;subst h2;show bindC aaO ((p,w)::P.zip vs) m p=_;unfold bindC;rw[tE λv hv=>(X9.mp nd).1 (aaB hv).1,adG hk];simp
 |p::P,w::vs,i+1,m,nd,h1,h2,hk=>by
  show bindC aaO ((p,w)::P.zip vs) m x=_;unfold bindC;exact tB (i:=i) (X9.mp nd).2 (by simpa using h1) (by simpa using h2) hk
def start(N:List Str)(vs:List V):St:=vs.map some++WU (N.length - vs.length) none
def bh(CX:A_)(P:Xc)(w:World)(K:WI)(mg:Str->Option Value)(base:Heap)(N:List Str)(qual:Str)(scope:Scope)(f:Addr)(cd:Value)(A:Xu)(outer:List Env)(s:WC)(H:Hp)(E:XK):Cx where
 prog:=P
 w:=w
 K:=K
 mg:=mg
 base:=base
 A:=A.deeper (YD qual scope s.heap.objs.size f cd)
 N:=N
 adQ:=s
 adP:=H
 env:=YD qual scope s.heap.objs.size f cd
 outer:=outer
 stack:=YD qual scope s.heap.objs.size f cd::outer
 ex:=[]
 calm:=true
 fn:=λ_=>true
 pn:=[]
 xe:=λe s'=>wpAny (model P w) (A.deeper (YD qual scope s.heap.objs.size f cd)) (leaving (YD qual scope s.heap.objs.size f cd) e) (λ_ Sd=>CX outer H s E e Sd) (λe' Sd=>CX outer H s E e' Sd) s'
def xB{sc:Scope}{n:Nat}{x:Str}(h:sc.names.lookup x=some .cell):∃c,(acp n sc.names []).lookup x=some c:=by
 have q:=aaj sc.names n [] (.inl h);exact XA.mp q
def t5{CX:A_}{P:Xc}{w:World}{K:WI}{mg:Str->Option Value}{base:Heap}{N ps:List Str}{qual:Str}{scope:Scope}{f:Addr}{cd:Value}{A:Xu}{outer:List Env}{s s1:WC}{H:Hp}{E:XK}{us:List Value}{vs:List V}
 (S:FnScope N ps scope)(hd:A.handled=none)(e0:Env0 P w K mg base A outer s H)(hl:vs.length=ps.length)(r:Vals vs us)
 (x:InCallC s s.heap.objs.size (bindL (YD qual scope s.heap.objs.size f cd).kindOf (ps.zip us) λ_=>none) (acp (s.heap.objs.size+1) scope.names []) (bindC (YD qual scope s.heap.objs.size f cd).kindOf (ps.zip us) λ_=>none) s1):
 Inv (bh CX P w K mg base N qual scope f cd A outer s H E) [] (start N vs) H s1:=by
 have kL:ps.length<=N.length:=by have:=adM ac1 S.pre;rw[aau] at this;omega
 obtain⟨h1,tk,rfl,hk⟩:=x.done;have OQ:∀b:Addr,b∉(bh CX P w K mg base N qual scope f cd A outer s H E).ex:=λb z=>adK (show b∈([]:List Addr) from z) (by simp);refine⟨⟨e0.mod,S.kind,rfl,rfl,WO _,λy z c h1 h2=>?_,λy hy=>?_,λy c _ h=>?_,λ_=>hd,acy e0.frames, .inr ⟨rfl,rfl⟩,λb z=>adK z (OQ b),e0.bs,e0.bsz,λb _ _=>OQ b,λb z=>adK z (OQ b),e0.funs,e0.frf⟩,
  rfl,e0.bare,Un.kept hk,⟨_,x.toInCall.ns,λi y v h1 h2 h3=>?_⟩,λy c h=>⟨_,x.cell y c h⟩,e0.hok.fresh (WO _),λy c h=>?_,λp hp=>adK (show p∈([]:List (Addr×Obj)) from hp) (by simp),e0.hok.kept hk,?_⟩
 ·exact name_of_addr x.apart (Yu h1) (Yu h2)
 ·have hy:scope.names.lookup y=some .cell\/scope.names.lookup y=some .free:=hy;rcases hy with hy | hy
  ·exact xB hy
  ·exact adK rfl (S.nofree _ (Yu hy))
 ·exact Yc (x.above y c (Yu h))
 ·have hi:i<vs.length:=by
   unfold start at h2;by_cases hi:i<vs.length
   ·exact hi
   ·rw[Xk (by simpa using hi)] at h2;rw[Yb] at h2;split at h2<;>cases h2
  have ha:vs[i]? =some v:=by
   unfold start at h2;rw[Xh (by simpa using hi),WT] at h2;cases e:vs[i]? with
   |none=>rw[e] at h2;cases h2
   |some a=>rw[e] at h2;cases h2;rfl
  obtain⟨u,hu,rv⟩:=r.get ha;have hp:ps[i]? =some y:=by
   rw[<-S.pre,List.getElem?_take_of_lt (by omega)];exact h1
  have TR:ps.Nodup:=by rw[<-S.pre];exact S.nd.sublist (List.take_sublist _ _)
  refine⟨u,rv,?_⟩;rcases S.par y (Xd hp) with k | k
  ·exact .inl ⟨k,tG TR hp hu k⟩
  ·obtain⟨c,e⟩:=xB (n:=s.heap.objs.size+1) k;refine .inr ⟨.inl k,c,e,?_⟩;have q:=x.cell y c e;rw[tB TR hp hu (by show scope.names.lookup y≠_;rw[k];decide)] at q;exact q
 ·exact e0.hok.fresh (Yc (x.above y c (Yu h)))
 ·unfold start;show _=N.length;rw[WL,Ww,aaD];omega
def JZ{CX:A_}{P:Xc}{w:World}{K:WI}{mg:Str->Option Value}{base:Heap}{k:Nat}{f:Addr}{name qual:Str}{params:Arguments}{body:List Stmt}{scope:Scope}{dV kV doc pm cu ct oc:Value}{an od:Option Addr}
 {F8:Array (Option Value)}{N ps:List Str}{sp:Sp}(lk:K.lookup f=some ⟨oc,od, .func (X8 name qual params body scope dV kV doc pm an cu ct),F8⟩)(tX:Zg K cu qual=true)(S:FnScope N ps scope)
 (len:∀vs H Q E,sp vs H Q E->vs.length=ps.length)
 (iG:∀(A:Xu) (outer:List Env) (s:WC) (H:Hp) (vs:List V) (Q:VK) (E:XK),Room k (A.deeper (YD qual scope s.heap.objs.size f cu))->sp vs H Q E->
  ∃t,PSs (bh CX P w K mg base N qual scope f cu A outer s H E) body t/\t {nx:=λ_ H'=>Q .non H',rt:=Q} (start N vs) H):
 FnOk P w K mg base CX (k+1) f (X8 name qual params body scope dV kV doc pm an cu ct) ps sp:=by
 refine⟨len,λA outer s H args us vs Q E hr e0 hb r xj=>?_⟩;have hl:=len _ _ _ _ xj;have KX:K.In s.heap:=e0.mod.kin.keeps λb o e=>(e0.bs b o e).1;have lim:s.heap.NoLimit:=e0.mod.nolimit.keeps λb o e=>(e0.bs b o e).1;have ya:∀y∈ps.zip us,scope.names.lookup y.1=some .local\/(scope.names.lookup y.1=some .cell/\((acp (s.heap.objs.size+1) scope.names []).lookup y.1).isSome=true):=λ⟨n,v⟩ hy=>by
  rcases S.par n (aaB hy).1 with q | q
  ·exact .inl q
  ·exact .inr ⟨q,aaj _ _ _ (.inl q)⟩
 refine codeAny_call_function hr.depth (KX _ _ lk) rfl S.co S.gen rfl (acB KX tX) (hb _ _ _ _ ?_);refine acz S.kind ya λenv he s1 x=>?_;subst he;refine⟨lim.keeps x.toInCall.keep,codeAny_func ?_⟩;obtain⟨t,ht,hq⟩:=iG A outer s H vs Q E (hr.deeper _) xj;have I:Inv (bh CX P w K mg base N qual scope f cu A outer s H E) [] (start N vs) H s1:=t5 S hr.hd e0 hl r x;refine XG (ht [] s1 (start N vs) H _ I hq) (λfl s' hs=>?_) λe s' hs=>hs;have fin:∀{σ':St}{H':Hp}{v:V}{u:Value},Inv (bh CX P w K mg base N qual scope f cu A outer s H E) [] σ' H' s'->RelV v u->Q v H'->CE outer P w H s Q u s':=
  λ{σ' H' v u} J rv q=>⟨v,H',J.os,J.bare,J.base,J.hok,rv,q⟩
 cases fl with
 |ret u=>
  obtain⟨v,σ',H',J,rv,q⟩:=hs;exact fin J rv q
 |next=>
  obtain⟨σ',H',J,q⟩:=hs;exact fin (v:=V.non) (u:=Xi) J rfl q
 |brk=>
  obtain⟨_,_,_,q⟩:=hs;exact Yi q
 |cont=>
  obtain⟨_,_,_,q⟩:=hs;exact Yi q
section
variable{X:Cx}{x:Str}{p pos:Pos}{e:Expr}{es:List Expr}{t:TA}{id T:String}{r:List V->Hp->VK->Prop}
def Sk(r:List V->Hp->VK->Prop)(t:TA):TE:=λσ H Q=>t σ H λvs H1=>r vs H1 Q
def Gj(hc:CallR X (.builtin id) r)(hg:Gl X x)(hm:X.mg x=none)(hv:Xl x=some (.builtin id))(ha:PA X (e::es) t)(hn:x≠"__name__":=by decide)(lW:(x==("__debug__":Str))=false:=by decide)
 (he:WS (e::es) X.env=(false,eval e X.env)::WS es X.env:=by rfl)(kL:(Yt pos (WS es X.env)).any (·.1)=false:=by rfl):PE X (.Call (.Name x p) (e::es) [] pos) (Sk r t):=by
 intro f8 s σ H Q I h;refine ZM (lA I hg hm hv ?_ hn lW);exact aaL (ck (ha pos f8 s σ H _ I h) λus s1 ⟨vs,H1,I1,r1,q1⟩=>hc f8 s1 σ H1 vs us Q I1 r1 q1) he kL
def uz(hc:CallR X (.type T) r)(hg:Gl X x)(hm:X.mg x=none)(hv:Xl x=some (.type T))(ha:PA X (e::es) t)(hn:x≠"__name__":=by decide)(lW:(x==("__debug__":Str))=false:=by decide)
 (he:WS (e::es) X.env=(false,eval e X.env)::WS es X.env:=by rfl)(kL:(Yt pos (WS es X.env)).any (·.1)=false:=by rfl):PE X (.Call (.Name x p) (e::es) [] pos) (Sk r t):=by
 intro f8 s σ H Q I h;refine ZM (lA I hg hm hv ?_ hn lW);exact YW (ck (ha pos f8 s σ H _ I h) λus s1 ⟨vs,H1,I1,r1,q1⟩=>hc f8 s1 σ H1 vs us Q I1 r1 q1) he kL
end
end L2
namespace HT
open PySem PyProof.Rows
def lexLt:List Int->List Int->Bool
 |[],[]=>false
 |[],_::_=>true
 |_::_,[]=>false
 |x::xs,y::ys=>if x=y then lexLt xs ys else decide (x<y)
def lexLt_cons(x y:Int)(xs ys:List Int):lexLt (x::xs) (y::ys)=if x=y then lexLt xs ys else decide (x<y):=rfl
def lexLt_nil_nil:lexLt [] []=false:=rfl
def lexLt_nil_cons(y:Int)(ys:List Int):lexLt [] (y::ys)=true:=rfl
def lexLt_cons_nil(x:Int)(xs:List Int):lexLt (x::xs) []=false:=rfl
def eqAt_int(A:Xu)(s:WC)(a:Int)(t:Tok)(c:Int)(u:Tok):∃e,adf A s (.int a t) (.int c u) e/\(e=true↔a=c):=
 ⟨(a==c),ab_ a t c u,by simp⟩
def rcLt_int(A:Xu)(s:WC)(a:Int)(t:Tok)(c:Int)(u:Tok)(prog:Xc)(w:World)(E:Value->WC->Prop)(Q:Value->WC->Prop)(h:Q (.bool (decide (a<c))) s):
 wpAny (model prog w) A (aco .Lt (.int a t) (.int c u)) Q E s:=
 (aam h:wpAny (model prog w) A (XB .Lt (.int a t) (.int c u)) Q E s)
section
open PySem.SeqAt
open PySem.AutoSeq1 (wpAny_loadPart')
open PySem.MeetsSeq PySem.MeetsSeq2 PySem.MeetsSeq3
def tuple_lt_ints(l b:Addr)(items ip:Array Value)(n n2:Nat)(dd zG:Option Addr)(sl Kl:Array (Option Value))(ns ms:List Int)(hi:YH items.toList ns)(hj:YH ip.toList ms):
 Meets (Z8.«tuple.__lt__» ⟨[.ref l, .ref b],[]⟩)
  (λ_ R s=>s.heap.get? l=some {cls:= .type "tuple",dict:=dd,data:= .seq items n,slots:=sl}/\s.heap.get? b=some {cls:= .type "tuple",dict:=zG,data:= .seq ip n2,slots:=Kl}/\
   R (.ok (.ret (.bool (lexLt ns ms)))) s):=
 .of_wp λprog w A R s h=>by
  obtain⟨hp,g,d,tk,os⟩:=s;obtain⟨hl,hb,h⟩:=h;have f2:=AutoSeq1.sub_tuple_tuple;have z1:items.size=ns.length:=by rw[<-hi.length];simp
  have z2:ip.size=ms.length:=by rw[<-hj.length];simp
  wp_walk using wpAny_loadPart' hl,wpAny_loadPart' hb,ab5 _ (λrest b s'=>b.1=none/\s'=⟨hp,g,d,tk,os⟩/\∃(vs ws:List Value) (Nh Nf:List Int),rest=vs.zip ws/\
   YH vs Nh/\YH ws Nf/\Nh.length+ip.size=Nf.length+items.size/\R (.ok (.ret (.bool (lexLt Nh Nf)))) ⟨hp,g,d,tk,os⟩) _
  case turn=>
   rintro⟨y,x⟩ rest b s' ⟨By,rfl,vs,ws,Nh,Nf,hz,RA,Qi,P3,hR⟩;cases RA with
   |nil=>rw[List.zip_nil_left] at hz;cases hz
   |cons a t RB=>
    cases Qi with
    |nil=>rw[List.zip_nil_right] at hz;cases hz
    |cons c u RE=>
     rw[YK] at hz;injection hz with VM Oh
     injection VM with hy hx
     subst hy hx;rw[lexLt_cons] at hR;simp only[WE] at P3;obtain⟨e,he,N4⟩:=eqAt_int A.in1 ⟨hp,g,d,tk,os⟩ a t c u;refine Wv (he prog w _ _ ?_);cases e with
     |true=>
      rw[adF (N4.mp rfl)] at hR
      wp_walk
      exact⟨rfl,rfl,_,_,_,_,Oh,RB,RE,by omega,hR⟩
     |false=>
      rw[adG (λq=>adK (N4.mpr q) WZ)] at hR;have Vw:=rcLt_int A.in1 ⟨hp,g,d,tk,os⟩ a t c u prog w
      wp_walk using Vw
      exact⟨_,rfl,by simpa using hR⟩
  case fin=>
   rintro⟨b1,b2⟩ s' ⟨By,rfl,vs,ws,Nh,Nf,hz,RA,Qi,P3,hR⟩;simp only at By;subst By;have hv:lexLt Nh Nf=decide (items.size<ip.size):=by
    cases RA with
    |nil=>
     cases Qi with
     |nil=>
      simp only[Xx] at P3;rw[lexLt_nil_nil];exact(adI (by omega)).symm
     |cons c u hw=>
      simp only[Xx,WE] at P3;rw[lexLt_nil_cons];exact(adJ (by omega)).symm
    |cons a t hv=>
     cases Qi with
     |nil=>
      simp only[Xx,WE] at P3;rw[lexLt_cons_nil];exact(adI (by omega)).symm
     |cons c u hw=>
      rw[YK] at hz;cases hz
   rw[hv] at hR
   wp_walk
   exact⟨_,rfl,by simpa[Builtin.Tuple.tupleCompareSizes] using hR⟩
  case h=>
   exact⟨rfl,rfl,items.toList,ip.toList,ns,ms,rfl,hi,hj,by omega,h⟩
end
section
variable{prog:Xc}{w:World}{A:Xu}{E:Value->WC->Prop}{s:WC}
def lt_tupInts{l b:Addr}{items ip:Array Value}{ns ms:List Int}{Q:Value->WC->Prop}(hl:IsTup s.heap l items)(hb:IsTup s.heap b ip)(hi:YH items.toList ns)(hj:YH ip.toList ms)
 (hu:A.units<cLine)(h:Q (.bool (lexLt ns ms)) s):wpAny (model prog w) A (XB .Lt (.ref l) (.ref b)) Q E s:=by
 obtain⟨⟨cls,dd,data,sl⟩,ho,hc,n,hd⟩:=id hl;obtain⟨⟨Nz,zG,data2,Kl⟩,Hm,E4,n2,hd2⟩:=id hb;simp only at hc hd E4 hd2;subst hc hd E4 hd2;exact richCompare_meets_room (op:= .Lt) ⟨_,ho,rfl⟩ ⟨_,Hm,rfl⟩ PySem.F.slot_tuple_lt PySem.F.entry_tuple_lt (PySem.F.args_tuple_lt_2 _ _) (tuple_lt_ints l b items ip n n2 dd zG sl Kl ns ms hi hj)
  ⟨ho,Hm,show X3 (lexLt ns ms)≠Value.notImplemented/\Q (.bool (lexLt ns ms)) s from⟨(λx=>nomatch x),h⟩⟩ hu
def cat_tup{t b:Addr}{vs ws:List Value}{Q:Value->WC->Prop}(ht:IsTup s.heap t vs.toArray)(hb:IsTup s.heap b ws.toArray)(hv:vs≠[])
 (h1:ws=[]->Q (.ref t) s)(h2:ws≠[]->Q (.ref s.heap.objs.size) {s with heap:=s.heap.push {cls:= .type "tuple",data:= .seq (vs++ws).toArray} })
 (hsz:vs.length+ws.length<=WX):wpAny (model prog w) A (ZY .Add (.ref t) (.ref b)) Q E s:=by
 obtain⟨⟨cls,dd,data,sl⟩,ho,hc,n,hd⟩:=id ht;obtain⟨⟨Nz,zG,data2,Kl⟩,Hm,E4,n2,hd2⟩:=id hb;simp only at hc hd E4 hd2;subst hc hd E4 hd2;have e:vs.toArray++ws.toArray=(vs++ws).toArray:=by simp
 by_cases hw:ws=[]
 ·exact concat_meets ⟨_,ho,rfl⟩ ⟨_,Hm,rfl⟩ ab7 ac9 aak aag (aaa _ _)
   (tuple_addW1 t b vs.toArray ws.toArray n n2 dd zG sl Kl (by simpa using hv) (by simp[hw])) ⟨ho,Hm,h1 hw⟩
 ·refine concat_meets ⟨_,ho,rfl⟩ ⟨_,Hm,rfl⟩ ab7 ac9 aak aag (aaa _ _)
   (tuple_addW2 t b vs.toArray ws.toArray n n2 dd zG sl Kl (by simpa using hv) (by simpa using hw) (by rw[WJ,WJ];exact hsz)) ⟨ho,Hm,?_⟩
  rw[e];exact h2 hw
def sIx(n d:Nat):Option Int->Nat
 |none=>d
 |some v=>if v<0 then(v+(n:Int)).toNat else min v.toNat n
end
end HT
namespace L2
open PySem PySem.Spec PyProof.Rows
abbrev TO:=St->Hp->(Option Int->Hp->Prop)->Prop
def intsAre_of{ns:List Int}:∀{us:List Value},Vals (ns.map V.int) us->YH us ns:=by
 induction ns with
 |nil=>intro us r;rw[YL] at r;cases r;exact .nil
 |cons n ns ih=>
  intro us r;rw[WD] at r;cases r with
  |cons r1 r2=>
   obtain⟨t,e⟩:=r1;subst e;exact .cons n t (ih r2)
section
variable{X:Cx}{lo hi:Option Expr}{p2:Pos}
def T7(X:Cx)(r:V->Option Int->Option Int->Hp->VK->Prop):Prop:=
 ∀(f8:List (Addr×Obj)) (s:WC) (σ:St) (H:Hp) (x:V) (v vl vu:Value) (lo hi:Option Int) (sl:Addr) (Q:VK),Inv X f8 σ H s->RelV x v->s.heap.IsSliceOf sl vl vu .none->IsPart vl lo->IsPart vu hi->r x lo hi H Q->
  ∃T id,aa4 (.type T) "__getitem__"=pure (some (.builtin id))/\s.TypeIs v T/\wpAny (model X.prog X.w) X.A (ada v (.ref sl)) (EP X f8 σ Q) X.xe s
def Hz(xs:List V)(lo hi:Option Int):List V:=(xs.drop (HT.sIx xs.length 0 lo)).take (HT.sIx xs.length xs.length hi - HT.sIx xs.length 0 lo)
def xF(xs:List V)(lo hi:Option Int):(Hz xs lo hi).length<=xs.length:=by
 unfold Hz;rw[aau,List.length_drop];omega
def Pg(K:WI):R2:=λx y H Q=>∃a b ns ms,x= .ref a/\y= .ref b/\SqT K H a (ns.map V.int)/\SqT K H b (ms.map V.int)/\Q (.bl (HT.lexLt ns ms)) H
def L4(hu:X.A.units<cLine):OpR X (XB .Lt) (Pg X.K):=by
 intro f8 s σ H x y v u Q I rx ry h;obtain⟨a,b,ns,ms,rfl,rfl,ha,hb,q⟩:=h;cases rx;cases ry;obtain⟨aI,r1,p1,_⟩:=I.tuple ha;obtain⟨fZ,r2,p2,_⟩:=I.tuple hb;have i1:YH aI.toArray.toList ns:=intsAre_of r1;have i2:YH fZ.toArray.toList ms:=intsAre_of r2;exact HT.lt_tupInts p1 p2 i1 i2 hu ⟨.bl (HT.lexLt ns ms),H,I,rfl,q⟩
def O_(K:WI):R2:=λx y H Q=>∃a b xs ys,x= .ref a/\y= .ref b/\SqT K H a xs/\SqT K H b ys/\xs≠[]/\xs.length+ys.length<=WX/\
 (ys=[]->Q (.ref a) H)/\(ys≠[]->∀p,H p=none->Q (.ref p) (upd H p (.tup (xs++ys))))
def Vals.nil_iff{xs:List V}{us:List Value}(r:Vals xs us):us=[]↔xs=[]:=by
 cases r with
 |nil=>simp
 |cons _ _=>simp
def IH:OpR X (ZY .Add) (O_ X.K):=by
 intro f8 s σ H x y v u Q I rx ry h;obtain⟨a,b,xs,ys,rfl,rfl,ha,hb,hx,hz,q1,q2⟩:=h;cases rx;cases ry;obtain⟨aI,r1,p1,_⟩:=I.tuple ha;obtain⟨fZ,r2,p2,_⟩:=I.tuple hb;refine HT.cat_tup p1 p2 (λz=>hx (r1.nil_iff.mp z)) (λz=>⟨.ref a,H,I,rfl,q1 (r2.nil_iff.mp z)⟩) (λz=>?_) (by rw[<-r1.length,<-r2.length];exact hz);refine⟨.ref s.heap.objs.size,_,I.laid (t':=s.toks) (o:= .tup (xs++ys)) (λb ob q=>Wx _ q) (WO _) ?_,rfl,q2 (λw=>z (r2.nil_iff.mpr w)) _ (I.hok.fresh (WO _))⟩;exact⟨by rw[WL];exact hz,_,r1.append r2,IsTup.new _ _⟩
end
def Fs(n:Nat)(i:Int):Option Nat:=if 0<=i then(if i<n then some i.toNat else none) else if -(n:Int)<=i then some (i+n).toNat else none
def atI{α:Type}(xs:List α)(i:Int):Option α:=(Fs xs.length i).bind λj=>xs[j]?
def Ik{n:Nat}{i:Int}{j:Nat}(h:Fs n i=some j):seqIndex? i n=some j/\j<n/\ -(n:Int)<=i/\i<n:=by
 unfold Fs at h;by_cases h0:0<=i
 ·rw[adF h0] at h;by_cases h1:i<n
  ·rw[adF h1] at h;have e:i.toNat=j:=Xg h;exact⟨by rw[seqIndex_of h0 h1,e],by omega,by omega,h1⟩
  ·rw[adG h1] at h;cases h
 ·rw[adG h0] at h;by_cases h1: -(n:Int)<=i
  ·rw[adF h1] at h;have e:(i+n).toNat=j:=Xg h;exact⟨by rw[seqIndex_neg (by omega) h1,e],by omega,h1,by omega⟩
  ·rw[adG h1] at h;cases h
def uW{α:Type}{xs:List α}{i:Int}{v:α}(h:atI xs i=some v):∃j,seqIndex? i xs.length=some j/\xs[j]? =some v/\j<xs.length/\ -(xs.length:Int)<=i/\i<xs.length:=by
 unfold atI at h;cases e:Fs xs.length i with
 |none=>rw[e] at h;cases h
 |some j=>
  rw[e] at h;obtain⟨h1,h2,h3,h4⟩:=Ik e;exact⟨j,h1,h,h2,h3,h4⟩
def iS(b:Expr):Prop:=∀o i,subscripted b false o i=operate [o,i] (ada o i)
def Nq(X:Cx)(r:R2):Prop:=
 ∀(value slice:Expr) (f8:List (Addr×Obj)) (s:WC) (σ:St) (H:Hp) (x y:V) (v u:Value) (Q:VK),Inv X f8 σ H s->RelV x v->RelV y u->r x y H Q->
  subscripted slice false v u=operate [v,u] (ada v u)->wpAny (model X.prog X.w) X.A (subscriptTail value slice v u) (EP X f8 σ Q) X.xe s
def MY(X:Cx)(id:String)(r:V->List V->Hp->VK->Prop):Prop:=
 ∀(f8:List (Addr×Obj)) (s:WC) (σ:St) (H:Hp) (x:V) (xs:List V) (v:Value) (us:List Value) (Q:VK),Inv X f8 σ H s->RelV x v->Vals xs us->r x xs H Q->
  wpAny (model X.prog X.w) X.A (call (.builtin id) (v::us)) (EP X f8 σ Q) X.xe s
section
variable{X:Cx}{a b:Expr}{ta tb:TE}{pos:Pos}
def Ki{r:R2}(hr:Nq X r)(ha:PE X a ta)(hb:PE X b tb)(hs:iS b):PE X (.Subscript a b pos) (Pz r ta tb):=by
 intro f8 s σ H Q I h;exact Subscript_ (Ky ha hb I h λv u s2 x y H2 I2 rx ry q=>hr a b f8 s2 σ H2 x y v u Q I2 rx ry q (hs _ _))
def MF(K:WI):R2:=λx y H Q=>∃p xs i v,x= .ref p/\y= .int i/\SqL K H p xs/\atI xs i=some v/\Q v H
def Pf(K:WI):R2:=λx y H Q=>∃p xs i v,x= .ref p/\y= .int i/\SqT K H p xs/\atI xs i=some v/\Q v H
def Pe:R2:=λx y H Q=>∃z i c,x= .str z/\y= .int i/\z.length<=WX/\atI z.cps.toList i=some c/\Q (.str ⟨#[c]⟩) H
def vx:Nq X (MF X.K):=by
 intro value slice f8 s σ H x y v u Q I rx ry h hs;obtain⟨p,xs,i,z,rfl,rfl,hq,he,q⟩:=h;cases rx;obtain⟨t,rfl⟩:=ry;obtain⟨aI,r,pl,hz⟩:=I.list hq;obtain⟨j,h1,h2,h3,h4,h5⟩:=uW he;obtain⟨w,ew,zM⟩:=r.get h2;have hl:=r.length;have hn:=nv;have fin:EP X f8 σ Q w s:=⟨z,H,I,zM,q⟩
 by_cases h0:0<=i
 ·have hj:i.toNat=j:=by
   rw[seqIndex_of h0 h5] at h1;exact Xg h1
  exact item_listR pl.isList h0 (by omega) (by rw[hj];simpa using ew) fin hs
 ·have hj:(i+(aI.toArray.size:Int)).toNat=j:=by
   rw[seqIndex_neg (by omega) h4] at h1;rw[WJ,<-hl];exact Xg h1
  exact adu (x:=w) pl.isList.typeIs slot_list_getitem.lookup
   (wpAny_getItem_list_neg (Q:=λr s'=>r=w/\EP X f8 σ Q r s') pl.isList (by omega) (by rw[WJ]<;>omega) (by omega) (by rw[hj];simpa using ew) ⟨rfl,fin⟩) hs
def LA:Nq X (Pf X.K):=by
 intro value slice f8 s σ H x y v u Q I rx ry h hs;obtain⟨p,xs,i,z,rfl,rfl,hq,he,q⟩:=h;cases rx;obtain⟨t,rfl⟩:=ry;obtain⟨aI,r,pl,hz⟩:=I.tuple hq;obtain⟨j,h1,h2,h3,h4,h5⟩:=uW he;obtain⟨w,ew,zM⟩:=r.get h2;have hl:=r.length;have hn:=nv;have fin:EP X f8 σ Q w s:=⟨z,H,I,zM,q⟩
 exact adu (x:=w) pl.typeIs slot_tuple_getitem.lookup
  (getItem_tuple (j:=j) (Q:=λr s'=>r=w/\EP X f8 σ Q r s') pl (by omega) (by omega) (by rw[WJ,<-hl];exact h1) (by simpa using ew) ⟨rfl,fin⟩) hs
def Lz:Nq X Pe:=by
 intro value slice f8 s σ H x y v u Q I rx ry h hs;obtain⟨z,i,c,rfl,rfl,hz,he,q⟩:=h;obtain⟨t,rfl⟩:=rx;obtain⟨t',rfl⟩:=ry;obtain⟨j,h1,h2,h3,h4,h5⟩:=uW he;have hl:z.cps.toList.length=z.length:=by simp[Str.length]
 rw[hl] at h1 h4 h5;have hn:=nv;exact tail_any (typeIs_str s z t) slot_str_getitem.lookup (getItem_str (c:=c) (by
  have e1:decide (i< -(2 ^ 63:Int))=false:=adI (by omega);have e2:decide (i>=2 ^ 63)=false:=adI (by omega);rw[e1,e2,aba]) (by rw[h1];simpa using h2) ⟨.str ⟨#[c]⟩,H,I.tok _,⟨_,rfl⟩,q⟩) hs
def Inv.lst{f8:List (Addr×Obj)}{σ:St}{H:Hp}{s:WC}{p:Addr}{xs:List V}(I:Inv X f8 σ H s)(h:H p=some (.lst xs)):
 ∃(aI:List Value) (n:Nat),Vals xs aI/\s.heap.get? p=some {cls:= .type "list",data:= .seq aI.toArray n}/\xs.length<=WX:=by
 obtain⟨z,aI,n,r,e⟩:=I.hok p _ h;exact⟨aI,n,r,e,z⟩
def wH(lo hi:Option Int)(n:Nat):(aad lo hi none n).1=((HT.sIx n 0 lo:Nat):Int)/\(aad lo hi none n).2.1=((HT.sIx n n hi:Nat):Int)/\(aad lo hi none n).2.2=1:=by
 refine⟨?_,?_,rfl⟩
 ·cases lo with
  |none=>simp[aad,HT.sIx]
  |some i=>
   simp only[aad,HT.sIx,adi,show (1:Int)>0 by decide,if_true];by_cases h:i<0
   ·simp only[h,if_true]<;>omega
   ·simp only[h,if_false]<;>omega
 ·cases hi with
  |none=>simp[aad,HT.sIx]
  |some i=>
   simp only[aad,HT.sIx,adi,show (1:Int)>0 by decide,if_true];by_cases h:i<0
   ·simp only[h,if_true]<;>omega
   ·simp only[h,if_false]<;>omega
def sX(aI:List Value)(lo hi:Option Int):slicePick aI.toArray lo hi none=((aI.drop (HT.sIx aI.length 0 lo)).take (HT.sIx aI.length aI.length hi - HT.sIx aI.length 0 lo)).toArray:=by
 obtain⟨h1,h2,h3⟩:=wH lo hi aI.toArray.size;unfold slicePick;rw[h1,h2,h3];simp only[sliceRange_one,pick_run,WJ]<;>rfl
def Sb(K:WI):V->Option Int->Option Int->Hp->VK->Prop:=λx lo hi H Q=>∃a xs,x= .ref a/\SqL K H a xs/\∀p,H p=none->Q (.ref p) (upd H p (.lst (Hz xs lo hi)))
def Qt:T7 X (Sb X.K):=by
 intro f8 s σ H x v vl vu lo hi sl Q I rx hs pl pu h;obtain⟨a,xs,rfl,hx,q⟩:=h;cases rx;obtain⟨aI,r,ht,hz⟩:=I.list hx;have P3:=r.length;refine⟨"list",_,slot_list_getitem.lookup,ht.isList.typeIs,?_⟩;refine wpAny_getItem_list_slice ht.isList hs pl pu .none (by simp) ?_ (by rw[WJ]<;>omega);rw[sX,<-P3];refine⟨.ref s.heap.objs.size,_,I.laid (t':=s.toks) (o:= .lst (Hz xs lo hi)) (λb ob q=>Wx _ q) (WO _) ?_,rfl,q _ (I.hok.fresh (WO _))⟩;exact⟨Xf (xF xs lo hi) hz,_,0,(r.drop (HT.sIx xs.length 0 lo)).take (HT.sIx xs.length xs.length hi - HT.sIx xs.length 0 lo),WN _ rfl⟩
def n_:V->Bool
 | .non=>true
 | .bl _=>true
 | .int _=>true
 | .str _=>true
 |_=>false
def He:V->V->Bool
 | .non, .non=>true
 | .bl a, .bl b=>a==b
 | .bl a, .int b=>(if a then 1 else 0)==b
 | .int a, .bl b=>a==(if b then 1 else 0)
 | .int a, .int b=>a==b
 | .str a, .str b=>a==b
 |_,_=>false
def KQ{A:Xu}{s:WC}{y x:V}{u v:Value}(ry:RelV y u)(rx:RelV x v)(fy:n_ y=true)(fx:n_ x=true):adf A s u v (He y x):=by
 cases y with
 |non=>
  cases ry;cases x with
  |non=>cases rx;exact SeqAt.EqAt.same _
  |bl b=>cases rx;exact SeqAt.EqAt.none_bool b
  |int b=>obtain⟨t,rfl⟩:=rx;exact SeqAt.EqAt.none_int b t
  |str b=>obtain⟨t,rfl⟩:=rx;exact SeqAt.EqAt.none_str b t
  |_=>exact adK (show false=true from fx) WZ
 |bl a=>
  cases ry;cases x with
  |non=>cases rx;exact SeqAt.EqAt.bool_none a
  |bl b=>cases rx;exact SeqAt.EqAt.bool_bool a b
  |int b=>obtain⟨t,rfl⟩:=rx;exact SeqAt.EqAt.bool_int a b t
  |str b=>obtain⟨t,rfl⟩:=rx;exact SeqAt.EqAt.bool_str a b t
  |_=>exact adK (show false=true from fx) WZ
 |int a=>
  obtain⟨t',rfl⟩:=ry;cases x with
  |non=>cases rx;exact SeqAt.EqAt.int_none a t'
  |bl b=>cases rx;exact SeqAt.EqAt.int_bool a t' b
  |int b=>obtain⟨t,rfl⟩:=rx;exact ab_ a t' b t
  |str b=>obtain⟨t,rfl⟩:=rx;exact ab9 a t' b t
  |_=>exact adK (show false=true from fx) WZ
 |str a=>
  obtain⟨t',rfl⟩:=ry;cases x with
  |non=>cases rx;exact SeqAt.EqAt.str_none a t'
  |bl b=>cases rx;exact SeqAt.EqAt.str_bool a t' b
  |int b=>obtain⟨t,rfl⟩:=rx;exact ab8 a t' b t
  |str b=>obtain⟨t,rfl⟩:=rx;exact SeqAt.EqAt.str_str a t' b t
  |_=>exact adK (show false=true from fx) WZ
 |_=>exact adK (show false=true from fy) WZ
def z6(x:V)(u:Value):Bool:=match u with
 | .none=>He .non x
 | .bool b=>He (.bl b) x
 | .int i _=>He (.int i) x
 | .str z _=>He (.str z) x
 |_=>false
def EO{x y:V}{u:Value}(r:RelV y u)(f:n_ y=true):z6 x u=He y x:=by
 cases y with
 |non=>cases r;rfl
 |bl b=>cases r;rfl
 |int i=>obtain⟨t,rfl⟩:=r;rfl
 |str z=>obtain⟨t,rfl⟩:=r;rfl
 |_=>exact adK (show false=true from f) WZ
def lN{x:V}:∀{xs:List V}{us:List Value},Vals xs us->xs.all n_=true->us.any (z6 x)=xs.any λy=>He y x
 |_,_, .nil,_=>rfl
 |y::xs,u::us, .cons r t,f=>by
  rw[Zz,WR] at f;rw[YY,YY,EO r f.1,lN t f.2]
def jK{A:Xu}{s:WC}{x:V}{v:Value}(rx:RelV x v)(fx:n_ x=true):∀{xs:List V}{us:List Value},Vals xs us->xs.all n_=true->∀u∈us,adf A s u v (z6 x u)
 |_,_, .nil,_=>λu hu=>by cases hu
 |y::xs,u::us, .cons r t,f=>λu' hu=>by
  rw[Zz,WR] at f;rcases WG.mp hu with rfl | hu
  ·rw[EO r f.1];exact KQ r rx f.1 fx
  ·exact jK rx fx t f.2 u' hu
def Qk(x:V)(xs:List V):Bool:=xs.any λy=>He y x
def Qs(K:WI)(neg:Bool):R2:=λx y H Q=>∃p xs,y= .ref p/\(SqL K H p xs\/SqT K H p xs)/\n_ x=true/\xs.all n_=true/\Q (.bl (if neg then !Qk x xs else Qk x xs)) H
def uo:OpR X (XB .In) (Qs X.K false):=by
 intro f8 s σ H x y v u Q I rx ry h;obtain⟨p,xs,rfl,hq,fx,fs,q⟩:=h;cases ry;rcases hq with hq | hq
 ·obtain⟨aI,r,pl,hz⟩:=I.list hq;refine SeqAt.in_listAt (z6 x) pl.isList (λw hw=>jK rx fx r fs w (by simpa using hw)) ⟨.bl _,H,I,rfl,?_⟩;rw[show aI.toArray.any (z6 x)=aI.any (z6 x) by simp,lN r fs];exact q
 ·obtain⟨aI,r,pl,hz⟩:=I.tuple hq;refine adv (z6 x) pl (λw hw=>jK rx fx r fs w (by simpa using hw)) ⟨.bl _,H,I,rfl,?_⟩;rw[show aI.toArray.any (z6 x)=aI.any (z6 x) by simp,lN r fs];exact q
def vX:OpR X (XB .NotIn) (Qs X.K true):=by
 intro f8 s σ H x y v u Q I rx ry h;obtain⟨p,xs,rfl,hq,fx,fs,q⟩:=h;cases ry;rcases hq with hq | hq
 ·obtain⟨aI,r,pl,hz⟩:=I.list hq;refine acY (z6 x) pl.isList (λw hw=>jK rx fx r fs w (by simpa using hw)) ⟨.bl _,H,I,rfl,?_⟩;rw[show aI.toArray.any (z6 x)=aI.any (z6 x) by simp,lN r fs];exact q
 ·obtain⟨aI,r,pl,hz⟩:=I.tuple hq;refine acL (z6 x) pl (λw hw=>jK rx fx r fs w (by simpa using hw)) ⟨.bl _,H,I,rfl,?_⟩;rw[show aI.toArray.any (z6 x)=aI.any (z6 x) by simp,lN r fs];exact q
def u9:CallR X (.builtin "len") (λxs H Q=>∃p ys,xs=[.ref p]/\(SqL X.K H p ys\/SqT X.K H p ys)/\Q (.int ys.length) H):=by
 intro f8 s σ H xs us Q I r h;obtain⟨p,ys,rfl,hq,q⟩:=h;obtain⟨u,rfl,rx⟩:=vals1 r;cases rx;have hn:=nv;rcases hq with hq | hq
 ·obtain⟨aI,r',pl,hz⟩:=I.list hq;have P3:=r'.length;exact Calls.call_len_list pl.isList (by simp only[WJ]<;>omega) ⟨.int ys.length,H,I.tok _,⟨s.toks+1,by rw[WJ,P3]⟩,q⟩
 ·obtain⟨aI,r',pl,hz⟩:=I.tuple hq;have P3:=r'.length;exact len_tuple pl (by simp only[WJ]<;>omega) ⟨.int ys.length,H,I.tok _,⟨s.toks+1,by rw[WJ,P3]⟩,q⟩
def u_:CallR X (.builtin "len") (λxs H Q=>∃z,xs=[.str z]/\z.length<=WX/\Q (.int z.length) H):=by
 intro f8 s σ H xs us Q I r h;obtain⟨z,rfl,hz,q⟩:=h;obtain⟨u,rfl,t,rfl⟩:=vals1 r;have hn:=nv;exact len_str (by omega) ⟨.int z.length,H,I.tok _,⟨_,rfl⟩,q⟩
def CallR.or{f:Value}{r r':List V->Hp->VK->Prop}(h:CallR X f r)(h':CallR X f r'):CallR X f (λxs H Q=>r xs H Q\/r' xs H Q):=by
 intro f8 s σ H xs us Q I rs q;rcases q with q | q
 ·exact h f8 s σ H xs us Q I rs q
 ·exact h' f8 s σ H xs us Q I rs q
def va:CallR X (.type "list") (λxs H Q=>∃p ys,xs=[.ref p]/\(SqL X.K H p ys\/SqT X.K H p ys)/\∀l,H l=none->Q (.ref l) (upd H l (.lst ys))):=by
 intro f8 s σ H xs us Q I r h;obtain⟨p,ys,rfl,hq,q⟩:=h;obtain⟨u,rfl,rx⟩:=vals1 r;cases rx;have fin:∀(aI:List Value),Vals ys aI->ys.length<=WX->∀(h':Heap) (c':Nat),(∀b o',s.heap.get? b=some o'->h'.get? b=some o')->
  h'.get? s.heap.objs.size=some {cls:= .type "list",dict:=none,data:= .seq aI.toArray c',slots:= #[]}->EP X f8 σ Q (.ref s.heap.objs.size) {s with heap:=h'}:=λaI r' hz h' c' kp e=>
  ⟨.ref s.heap.objs.size,_,I.laid (t':=s.toks) kp (WO _) (show ObjOk X.prog X.w _ h' _ (.lst ys) from⟨hz,aI,c',r',e⟩),rfl,q _ (I.hok.fresh (WO _))⟩
 rcases hq with hq | hq
 ·obtain⟨aI,r',pl,hz⟩:=I.list hq;have P3:=r'.length;obtain⟨o,ho,hc,n,hd⟩:=pl.isList;exact call_list_seq p (.inl rfl) ho hc hd (λh' c' kp e=>fin aI r' hz h' c' kp e) (by simp only[WJ]<;>omega)
 ·obtain⟨aI,r',pl,hz⟩:=I.tuple hq;have P3:=r'.length;obtain⟨o,ho,hc,n,hd⟩:=pl;exact call_list_seq p (.inr rfl) ho hc hd (λh' c' kp e=>fin aI r' hz h' c' kp e) (by simp only[WJ]<;>omega)
def PF(K:WI)(T:String)(x:V)(H:Hp):Prop:=match x with
 | .str _=>T="str"
 | .int _=>T="int"
 | .ref p=>(T="list"/\∃xs,SqL K H p xs)\/(T="tuple"/\∃o,K.lookup p=some o/\o.cls= .type "tuple"/\o.dict=none)\/
    (T="dict"/\((∃aB,H p=some (.dK aB))\/∃aB,H p=some (.dT aB)))\/(T="set"/\∃S n,H p=some (.set S n))
 |_=>False
def MU{f8:List (Addr×Obj)}{σ:St}{H:Hp}{s:WC}{T:String}{x:V}{v:Value}(I:Inv X f8 σ H s)(r:RelV x v)(ty:PF X.K T x H):
 s.TypeIs v T/\∀a,v= .ref a->∃ob,s.heap.get? a=some ob/\ob.dict=none:=by
 cases x with
 |str z=>
  obtain⟨t,rfl⟩:=r;cases (show T="str" from ty);exact⟨typeIs_str s z t,λ_ e=>nomatch e⟩
 |int i=>
  obtain⟨t,rfl⟩:=r;cases (show T="int" from ty);exact⟨typeIs_int s i t,λ_ e=>nomatch e⟩
 |ref p=>
  cases r;rcases ty with⟨rfl,xs,hq⟩ | ⟨rfl,o,hk,hc,hd⟩ | ⟨rfl,hk⟩ | ⟨rfl,S,n,hk⟩
  ·obtain⟨aI,_,pl,_⟩:=I.list hq;refine⟨pl.isList.typeIs,λa e=>?_⟩;cases e;obtain⟨o,n,e,c,hd,_⟩:=pl;exact⟨o,e,hd⟩
  ·refine⟨⟨o,I.kIn p o hk,hc⟩,λa e=>?_⟩;cases e;exact⟨o,I.kIn _ o hk,hd⟩
  ·have z:∃o,s.heap.get? p=some o/\o.ExactDict:=by
    rcases hk with⟨aB,hk⟩ | ⟨aB,hk⟩
    ·obtain⟨_,_,_,_,o,_,_,e,ex,_⟩:=I.hok p _ hk;exact⟨o,e,ex⟩
    ·obtain⟨_,_,_,_,o,_,_,e,ex,_⟩:=I.hok p _ hk;exact⟨o,e,ex⟩
   obtain⟨o,e,ex⟩:=z;refine⟨⟨o,e,ex.1⟩,λa e2=>?_⟩;cases e2;exact⟨o,e,ex.2.1⟩
  ·obtain⟨o,_,_,_,e,ex,_⟩:=I.hok p _ hk;refine⟨⟨o,e,ex.1⟩,λa e2=>?_⟩;cases e2;exact⟨o,e,ex.2.1⟩
 |_=>exact Yi ty
def Sj(K:WI)(T:String)(r:V->List V->Hp->VK->Prop)(to:TE)(t:TA):TE:=λσ H Q=>to σ H λx H1=>PF K T x H1/\t σ H1 λxs H2=>r x xs H2 Q
variable{o e:Expr}{es:List Expr}{to:TE}{t:TA}{name:Str}{T0 a9:Pos}{T id:String}{r:V->List V->Hp->VK->Prop}
def Gi(pa:PlainAttrs T)(slot:Slot T name id)(Ry:typeOf (.builtin id)=pure (.type "method_descriptor"))(hm:MY X id r)(ho:PE X o to)(ha:PA X (e::es) t)
 (fG:Yw o name X.env (eval o X.env)=eval o X.env:=by rfl)
 (ly:((Yt a9 (WS (e::es) X.env)).all (λx=>!x.1)&&(Z_ a9 (Y4 [] X.env)).all (λx=>x.1.isSome)
  &&decide ((e::es).length+([]:List Za).length+(if ([]:List Za).isEmpty then 0 else 1)<30))=true:=by rfl)
 (fH:(T0.endLine==a9.line)=true:=by rfl) (hs:WS (e::es) X.env=(false,eval e X.env)::WS es X.env:=by rfl) (Ae:(Yt a9 (WS es X.env)).any (·.1)=false:=by rfl):
 PE X (.Call (.Attribute o name T0) (e::es) [] a9) (Sj X.K T r to t):=by
 intro f8 s σ H Q I h;refine wpAny_Call_method_late fG ly fH rfl (ck (ho f8 s σ H _ I h) λv s1 ⟨x,H1,I1,r1,ty,q1⟩=>?_);obtain⟨h1,h2⟩:=MU I1 r1 ty;refine⟨T,id,pa,slot,Ry,h1,h2,?_⟩;have hA:=ha a9 f8 s1 σ H1 _ I1 q1;rw[hs] at hA⊢;refine Y1 (by show (false||(Yt a9 (WS es X.env)).any (·.1))=false;rw[Ae]<;>rfl) (Zi ?_);exact ck hA λus s2 ⟨vs,H2,I2,r2,q2⟩=>hm f8 s2 σ H2 x vs v us Q I2 r1 r2 q2
end
def SH(X:Cx)(id:String)(r:V->List V->Hp->VK->Prop):Prop:=
 ∀(f8:List (Addr×Obj)) (s:WC) (σ:St) (H:Hp) (x:V) (xs:List V) (v:Value) (us:List Value) (Q:VK),Inv X f8 σ H s->RelV x v->Vals xs us->r x xs H Q->
  wpAny (model X.prog X.w) X.A (call (.builtin id) (v::us)) (EP X f8 σ Q) X.xe s
def Vals.one:∀{x:V}{us:List Value},Vals [x] us->∃u,us=[u]/\RelV x u
 |_,_, .cons r .nil=>⟨_,rfl,r⟩
def Vals.rep{xs:List V}{us:List Value}(h:Vals xs us):∀k:Nat,Vals (WU k xs).flatten (WU k us).flatten
 |0=> .nil
 |k+1=>by
  rw[Yv,Yv,Zd,Zd];exact Vals.append h (Vals.rep h k)
def foldl_rep(aI:List Value):∀(k:Nat) (u8:List Value),
 adC (λx1 x2=>x1++x2) u8.toArray (WU k aI.toArray)=(u8++(WU k aI).flatten).toArray
 |0,u8=>by simp
 |k+1,u8=>by
  have e:u8.toArray++aI.toArray=(u8++aI).toArray:=by simp
  have e2:(u8++aI)++(WU k aI).flatten=u8++(WU (k+1) aI).flatten:=by
   rw[Yv,Zd,ZJ]
  rw[<-e2,<-foldl_rep aI k (u8++aI),<-e,Yv,Z3]
section
variable{X:Cx}{f8:List (Addr×Obj)}{σ:St}{H:Hp}{s:WC}{l:Addr}{xs ys:List V}
def Inv.lset{aI its':List Value}{n:Nat}{f:Array Value->Array Value}{t':Nat}(I:Inv X f8 σ H s)(hH:H l=some (.lst xs))
 (e:s.heap.get? l=some {cls:= .type "list",data:= .seq aI.toArray n})(hf:f aI.toArray=its'.toArray)(hv:Vals ys its')(hz:ys.length<=WX):
 Inv X f8 σ (upd H l (.lst ys)) {s with heap:=s.heap.update l (XC f),toks:=t'}:=by
 have q:=PySem.IsL.update e f;rw[hf] at q;refine I.write (x:=l) (e:=l) (by rw[hH];exact trivial) (.inl rfl) (λb' u hb hu=>(Yx s.heap (XC f) (XD hb)).trans hu) ⟨_,q⟩ ?_;exact⟨hz,its',_,hv,q⟩
def Inv.lnew{aI:List Value}{t':Nat}(I:Inv X f8 σ H s)(hv:Vals ys aI)(hz:ys.length<=WX):
 Inv X f8 σ (upd H s.heap.objs.size (.lst ys)) {s with heap:=s.heap.push {cls:= .type "list",data:= .seq aI.toArray},toks:=t'}:=
 I.laid (λ_ _ q=>Wx _ q) (WO _) ⟨hz,aI,0,hv,WN _ rfl⟩
def Inv.fresh(I:Inv X f8 σ H s):H s.heap.objs.size=none:=I.hok.fresh (WO _)
def Inv.lstM(I:Inv X f8 σ H s)(hH:H l=some (.lst xs)):xs.length<=WX/\∃(aI:List Value) (n:Nat),Vals xs aI/\xs.length=aI.length/\s.heap.get? l=some {cls:= .type "list",data:= .seq aI.toArray n}:=by
 obtain⟨z,aI,n,r,e⟩:=I.hok l _ hH;exact⟨z,aI,n,r,r.length,e⟩
def yF{n:Nat}(h:n<=WX):Zb n=false:=by
 unfold Zb;exact adI (by omega)
end
section
variable{X:Cx}
def B7:V->List V->Hp->VK->Prop:=λx vs H Q=>∃l xs y,x= .ref l/\vs=[y]/\H l=some (.lst xs)/\xs.length<WX/\Q .non (upd H l (.lst (xs++[y])))
def uf:SH X "list.append" B7:=by
 intro f8 s σ H x vs v us Q I rx rv h;obtain⟨l,xs,y,rfl,rfl,hH,hz,q⟩:=h;cases rx;obtain⟨u,rfl,ru⟩:=rv.one;obtain⟨z,aI,n,r,hl,e⟩:=I.lstM hH;refine aab F.slot_list_append ⟨_,e,rfl⟩ F.entry_list_append (F.args_list_append_2 _ _) (PySem.list_append l aI.toArray n u (by rw[WJ];omega)) ⟨e,?_⟩;refine⟨.non,_,I.lset (its':=aI++[u]) hH e (by simp) (r.append (.cons ru .nil)) ?_,rfl,q⟩;rw[WL,List.length_singleton];omega
def B8:V->List V->Hp->VK->Prop:=λx vs H Q=>∃l b xs zs,x= .ref l/\vs=[.ref b]/\H l=some (.lst xs)/\H b=some (.lst zs)/\xs.length+zs.length<=WX/\Q .non (upd H l (.lst (xs++zs)))
def Dw:SH X "list.extend" B8:=by
 intro f8 s σ H x vs v us Q I rx rv h;obtain⟨l,b,xs,zs,rfl,rfl,hH,hB,hz,q⟩:=h;cases rx;obtain⟨u,rfl,ru⟩:=rv.one;cases ru;obtain⟨z,aI,n,r,hl,e⟩:=I.lstM hH;obtain⟨z2,fZ,n2,r2,C8,e2⟩:=I.lstM hB;have hsz:aI.toArray.size+fZ.toArray.size<=WX:=by rw[WJ,WJ];omega
 have E_:¬(!aI.toArray.isEmpty&&Zb (aI.toArray.size+fZ.toArray.size))=true:=by
  rw[yF hsz,aaR];exact WZ
 refine aab F.slot_list_extend ⟨_,e,rfl⟩ F.entry_list_extend (F.args_list_extend_2 _ _)
  (AutoSeq1.list_extend_list_list_0 l aI.toArray n b fZ.toArray n2 E_ (by rw[WJ];omega) (by omega)) ⟨e,e2,?_⟩
 refine⟨.non,_,I.lset (its':=aI++fZ) hH e (by simp) (r.append r2) ?_,rfl,q⟩;rw[WL];omega
def R7:R2:=λx y H Q=>∃l b xs zs,x= .ref l/\y= .ref b/\H l=some (.lst xs)/\H b=some (.lst zs)/\xs.length+zs.length<=WX/\∀p,H p=none->Q (.ref p) (upd H p (.lst (xs++zs)))
def LY:OpR X (ZY .Add) R7:=by
 intro f8 s σ H x y v u Q I rx ry h;obtain⟨l,b,xs,zs,rfl,rfl,hH,hB,hz,q⟩:=h;cases rx;cases ry;obtain⟨z,aI,n,r,hl,e⟩:=I.lstM hH;obtain⟨z2,fZ,n2,r2,C8,e2⟩:=I.lstM hB;refine PySem.P.add_list e e2 ?_ (by rw[WJ,WJ];omega);have ea:aI.toArray++fZ.toArray=(aI++fZ).toArray:=by simp
 rw[ea];exact⟨.ref _,_,I.lnew (t':=s.toks) (r.append r2) (by rw[WL];omega),rfl,q _ I.fresh⟩
def Sa:R2:=λx y H Q=>∃l k xs,x= .ref l/\y= .int k/\H l=some (.lst xs)/\ -(2 ^ 63)<=k/\k<2 ^ 63/\xs.length*k.toNat<=WX/\
 ∀p,H p=none->Q (.ref p) (upd H p (.lst (WU k.toNat xs).flatten))
def len_rep{α:Type}(xs:List α)(k:Nat):(WU k xs).flatten.length=k*xs.length:=by
 induction k with
 |zero=>simp
 |succ k ih=>rw[Yv,Zd,WL,ih,Nat.succ_mul,abt]
def L8:OpR X (ZY .Mult) Sa:=by
 intro f8 s σ H x y v u Q I rx ry h;obtain⟨l,k,xs,rfl,rfl,hH,h1,h2,hz,q⟩:=h;cases rx;obtain⟨t,rfl⟩:=ry;obtain⟨z,aI,n,r,hl,e⟩:=I.lstM hH;have P3:aI.toArray.size*k.toNat<=WX:=by rw[WJ,<-hl];exact hz
 have QY:¬aI.toArray.size*k.toNat>(2 ^ 63 - 1) / 8:=by
  have:(WX:Nat)<=(2 ^ 63 - 1) / 8:=by decide
  omega
 have Q7:¬(!Builtin.List.listFitsIndex k)=true:=by
  rw[fitsIndex_both h1 h2];exact WZ
 have E_:¬Zb (aI.toArray.size*k.toNat)=true:=by
  rw[yF P3];exact WZ
 have pk:adC (λx1 x2=>x1++x2) #[] (WU (if aI.toArray.isEmpty=true then 0 else k.toNat) aI.toArray)=(WU k.toNat aI).flatten.toArray:=by
  have f0:∀m:Nat,adC (λx1 x2=>x1++x2) #[] (WU m aI.toArray)=(WU m aI).flatten.toArray:=λm=>by
   have:=foldl_rep aI m [];rw[Xa] at this;exact this
  rw[f0];cases aI with
  |nil=>simp
  |cons a r'=>rw[adG (by simp)]
 refine wpAny_binaryOp_repeat_ref (T:="list") (U:="int") (by decide) ⟨_,e,rfl⟩ (λs'=>typeIs_int s' k t) noFill_list_mul F.fills_int_mul F.slot_int_rmul repeat_list F.slot_int_index.lookup
  (aab F.slot_int_rmul (typeIs_int s k t) F.entry_int_rmul (F.args_int_rmul_2 _ _) (int___rmul___int_list k t l aI.toArray n)
   ⟨e,rfl,⟨_,e,rfl⟩,aab F.slot_list_mul ⟨_,e,rfl⟩ F.entry_list_mul (F.args_list_mul_2 _ _) (AutoListH.list___mul___list_int_3 l aI.toArray n k t Q7 QY E_) ⟨e,?_⟩⟩)
 rw[pk];exact⟨.ref _,_,I.lnew (t':=s.toks) (r.rep k.toNat) (by rw[len_rep,acP];exact hz),rfl,q _ I.fresh⟩
end
end L2
namespace Att
open PySem PySem.W PySem.Calls PyProof.Rows
def ints_of_wellAll{P:Params}{h:Heap}:∀(ns:List Int) (vs:List Value),WellAll P h vs (ns.map WData.int)->YH vs ns:=by
 intro ns;induction ns with
 |nil=>
  intro vs w;rw[YL] at w;cases w;exact .nil
 |cons n ns ih=>
  intro vs w;rw[WD] at w;cases w with
  |cons a b=>
   cases a;exact .cons _ _ (ih _ b)
def script_of{l:OpenLaw}{n:Nat}(hn:l.most=some n){P:Params}{h:Heap}{args:List WData}{vals:List Value}
 (HX:l.row.toRowW.claim.pre args=true)(RF:WellAll P h vals args):
 ∃a vs ns,vals=[WY a]/\args=[WData.list (ns.map WData.int)]/\h.get? a=some {cls:= .type "list",data:= .seq vs.toArray}/\YH vs ns/\ns.length<=n:=by
 have Vy:WShape.hasAll [] args [.list .int]=true:=(pre_splitW HX).1;have hc:l.pre.holds [] {args:=args}=true:=(pre_splitW HX).2;obtain⟨d,r,rfl,h1,h2⟩:=hasAllW_cons Vy;obtain rfl:=hasAllW_nil h2;obtain⟨xs,rfl,h3⟩:=hasW_list h1;obtain⟨ns,rfl⟩:=items_int h3;have P3:ns.length<=n:=by
  unfold OpenLaw.pre at hc;have h4:(WTm.not (.lt (.lit (.int (n:Int))) (.len (.arg 0)))).holds [] {args:=[.list (ns.map .int)]}=true:=by
   have h4:=(holds_andW hc).1;rw[hn] at h4;exact h4
  have h5:=condW_of h4 (w_not (w_lt w_lit (w_len_list (w_arg rfl))));rw[Ww] at h5;refine Nat.le_of_not_lt λq=>?_;have q':(n:Int)<((ns.length:Nat):Int):=by omega
  first
   |(rw [adJ q'] at h5;exact adK h5 (by decide))
   |(simp at h5;omega)
 cases RF with
 |cons w1 w2=>
  cases w2;cases w1 with
  |list ho QU=>exact⟨_,_,ns,rfl,rfl,ho,ints_of_wellAll ns _ QU,P3⟩
def post_true(l:OpenLaw)(args:List WData):l.row.toRowW.claim.post args (.bool true) args=true:=
 postW_of (r:=l.row.toRowW) (X:=(true==true))
  (show WShape.has [] (.bool true) .bool=true by first | rfl | decide | simp[WShape.has,WShape.arms,WShape.armsAll])
  (show (WTm.eq .res (.lit (.bool true))).value [] {args:=args,res:=some (.bool true),after:=args}=some (.bool (true==true)) from w_eq_bool (w_res rfl) w_lit) rfl
def attach_call{l:OpenLaw}{n:Nat}{q:Xc}{loose:List Str}{XP:(Str->Option Value)->Heap->Prop}{YP:World->Heap->Prop}{d:DefRec}
 (hn:l.most=some n)(NY:d.params.defaults=[])
 (call:∀(w:World) (adQ v6:WC) (mg mb:Str->Option Value) (fa:Addr) (o:Obj) (pm cd doc:Value) (a:Addr) (vs:List Value) (ns:List Int),
  Ground q loose [] XP w adQ mg mb v6.heap->YP w v6.heap->
  v6.heap.get? fa=some o->o.data= .func (docDef d.name d.params d.body d.scope pm cd doc)->v6.heap.CodeRec cd d.name->mg d.name=some (.ref fa)->
  v6.heap.get? a=some {cls:= .type "list",data:= .seq vs.toArray}->YH vs ns->ns.length<=n->v6.gens= #[]->
  ZD (model l.prog w) abM (.call (.ref fa) ⟨[.ref a],[]⟩) (λr s'=>r= .ok (.ret (.bool true))/\OldK v6.heap s'.heap/\s'.os=v6.os/\aa3 s'.gens) v6):
 WalkO q loose XP YP l.row.toRowW d [] (λf vs=>adg f vs):=by
 intro w adQ v6 mg mb G Y fa o pm cd doc dV kV ho hd tX hD Ld hg args vals as HX Ve Tr RF Wn;obtain rfl:dV= .none:=Dflts.none hD NY;obtain rfl:kV= .none:=Dflts.noKw hD;obtain⟨a,vs,ns,rfl,rfl,Fc,hints,P3⟩:=script_of hn HX RF;refine enter_call (aaX (call w adQ v6 mg mb fa o pm cd doc a vs ns G Y ho (fd_plain hd) tX Ld Fc hints P3 hg) λr s' hq=>?_);obtain⟨rfl,h2,h3,h4⟩:=hq;exact⟨.inl ⟨.bool true, .bool true,[],rfl,λ_=>rfl, .bool true,post_true l _,λ_=>⟨abS,λ_ hm=>(nomatch hm)⟩⟩,h2,h3,h4⟩
def ledger(h:Heap)(L d:Addr):List (Addr×Obj):=(W8 h.objs.size).filterMap λa=>if a=L\/a=d then none else(h.get? a).map λo=>(a,o)
end Att
namespace L2
open PySem PySem.Spec PyProof.Rows
def uO:∀{vs:List Value}{ns:List Int},YH vs ns->Vals (ns.map V.int) vs
 |_,_, .nil=> .nil
 |_,_, .cons n t h=> .cons ⟨t,rfl⟩ (uO h)
def Kt(H:Hp):Prop:=∀b,H b=none\/∃o xs,H b=some (.frz o (.lst xs))
def yk{P:Xc}{w:World}{K:WI}{mg mb:Str->Option Value}{CX:A_}{k:Nat}{fa a:Addr}{fd:Ze}{x:Str}{sp:Sp}{v6:WC}{vs:List Value}{ns:List Int}
 (KX:K.In v6.heap)(Hl:v6.heap.Ns W0 mg)(hb:v6.heap.Ns builtinsNs mb)(UI:∀x:Str,x≠"__name__"->mb x=Xl x)(N8:v6.heap.NoLimit)(hg:v6.gens= #[])
 (ha:v6.heap.get? a=some {cls:= .type "list",data:= .seq vs.toArray})(hi:YH vs ns)(hl:ns.length<=WX)(hr:Room k abM)
 (F:∀base:Heap,K.In base->base.Ns W0 mg->FnOk P w K mg base CX k fa fd [x] sp)(NV:∀(s:WC) (u:Value),acx s fd ⟨[u],[]⟩ [(x,u)])
 (xj:∀H:Hp,Kt H->SqL K H a (ns.map V.int)->sp [.ref a] H (λv _=>v= .bl true) λ_ _ _=>False)
 (QQ:∀H e s',CX [] H v6 (λ_ _ _=>False) e s'->False):
 ZD (model P w) abM (.call (.ref fa) ⟨[.ref a],[]⟩) (λr s'=>r= .ok (.ret (.bool true))/\OldK v6.heap s'.heap/\s'.os=v6.os/\aa3 s'.gens) v6:=by
 have rv:=uO hi;have RT:=hi.length;have core:∀H:Hp,Kt H->SqL K H a (ns.map V.int)->HOk P w H v6.heap->(∀b,H b≠none->b=a)->(H a≠none->K.lookup a=none)->
  ZD (model P w) abM (.call (.ref fa) ⟨[.ref a],[]⟩) (λr s'=>r= .ok (.ret (.bool true))/\OldK v6.heap s'.heap/\s'.os=v6.os/\aa3 s'.gens) v6:=by
  intro H hO hS hok hA hK;have Bg:∀{b:Addr}{o:Obj},v6.heap.get? b=some o->H b=none->(vn v6.heap H).get? b=some o:=λe n=>E8 e n;have OQ:∀{b:Addr}{o:Obj}{es:Array Yd}{ep:Nat},v6.heap.get? b=some o->o.data= .dict es ep->H b=none:=λ{b o es ep} e d=>by
   cases q:H b with
   |none=>rfl
   |some u=>
    have e':b=a:=hA b (by rw[q];simp);subst e';rw[ha] at e;cases e;have d':Data.seq vs.toArray _=ZA es ep:=d;cases d'
  have Qo:∀{b:Addr}{m:Str->Option Value},v6.heap.Ns b m->(vn v6.heap H).Ns b m:=λ{b m} ⟨o,es,ep,e,d,r⟩=>⟨o,es,ep,Bg e (OQ e d),d,r⟩
  have S5:K.In (vn v6.heap H):=λb o e=>Bg (KX b o e) (by
   cases q:H b with
   |none=>rfl
   |some u=>
    have e':b=a:=hA b (by rw[q];simp);subst e';rw[hK (by rw[q];simp)] at e;cases e)
  have hM:Mod K mg (vn v6.heap H):=⟨S5,Qo Hl,⟨mb,Qo hb,UI⟩,let ⟨mc,h1,h2⟩:=N8;⟨mc,Qo h1,h2⟩⟩
  have e0:Env0 P w K mg (vn v6.heap H) abM [] v6 H:=⟨rfl,hM,λb o e=>IE e,Nat.le_of_eq (CZ _ _),trivial,λb hb=>adK (show b∈([]:List Addr) from hb) (by simp),hok, .of_eq hg⟩
  refine aaX ((F _ S5 (Qo Hl)).run abM [] v6 H ⟨[.ref a],[]⟩ [.ref a] [.ref a] _ _ hr e0 (NV v6 (.ref a)) (.cons rfl .nil) (xj H hO hS)) λr s' h=>?_;cases r with
  |error e=>exact(QQ H e s' h).elim
  |ok fl=>
   cases fl with
   |next=>exact Yi h
   |brk=>exact Yi h
   |cont=>exact Yi h
   |ret u=>
    obtain⟨v,H',os,bare,un,Oc,r',q⟩:=h;have q':v= .bl true:=q;subst q';obtain rfl:u=X3 true:=r';refine⟨rfl,OldK.of_keep λb o e=>?_,os,bare⟩;cases q:H b with
    |none=>exact un.keep b o e q (by intro z;exact adK (show b∈([]:List Addr) from z) (by simp)) (by simp)
    |some u=>
     rcases hO b with z | ⟨ob,xs,z⟩
     ·rw[q] at z;cases z
     ·have z2:=un.frzs b ob _ z;obtain⟨e1,_⟩:=hok b _ z;obtain⟨e2,_⟩:=Oc b _ z2;rw[e] at e1;cases e1;exact e2
 cases hk:K.lookup a with
 |some o=>
  have e:=KX a o hk;rw[ha] at e;cases e;refine core (λ_=>none) (λ_=> .inl rfl) (.inr ⟨_,vs.toArray,_,hk,rfl,rfl,rfl,by rw[WJ,RT];exact hl,by simpa using rv⟩) (λb u z=>by have z':(none:Option HO)=some u:=z;cases z') (λb z=>adK rfl z) λz=>adK rfl z
 |none=>
  refine core (λb=>if b=a then some (.frz {cls:= .type "list",data:= .seq vs.toArray} (.lst (ns.map V.int))) else none) (λb=>?_) (.inl (.inr ⟨{cls:= .type "list",data:= .seq vs.toArray},adF rfl⟩)) (λb u z=>?_) (λb z=>?_) λ_=>hk
  ·by_cases hb:b=a
   ·exact .inr ⟨_,_,adF hb⟩
   ·exact .inl (adG hb)
  ·by_cases hb:b=a
   ·have z':=(adF hb).symm.trans z;cases z';subst hb;exact⟨ha,by rw[Ww];exact hl,vs,_,rv,ha⟩
   ·have z':=(adG hb).symm.trans z;cases z'
  ·by_cases hb:b=a
   ·exact hb
   ·exact adK (adG hb) z
abbrev We{K:WI}{h:Heap}(_:K.In h):WI:=K
def Qz{l:adh}{n k:Nat}{q:Xc}{loose:List Str}{XP:(Str->Option Value)->Heap->Prop}{YP:World->Heap->Prop}{d:DefRec}{K:Params->WI}{CX:World->A_}{sp:World->Sp}{x:Str}
 (hn:l.most=some n)(Qe:n<=WX)(NY:d.params.defaults=[])(hr:Room k abM)
 (hY:∀(w:World) (h:Heap),YP w h->(K w.params).In h)
 (F:∀(w:World) (mg:Str->Option Value) (fa:Addr) (h:Heap),(K w.params).In h->h.Ns W0 mg->mg d.name=some (.ref fa)->
  ∃fd:Ze,(∀(s:WC) (u:Value),acx s fd ⟨[u],[]⟩ [(x,u)])/\
   ∀base:Heap,(K w.params).In base->base.Ns W0 mg->FnOk l.prog w (K w.params) mg base (CX w) k fa fd [x] (sp w))
 (xj:∀(w:World) (H:Hp) (a:Addr) (ns:List Int),ns.length<=n->Kt H->SqL (K w.params) H a (ns.map V.int)->sp w [.ref a] H (λv _=>v= .bl true) λ_ _ _=>False)
 (QQ:∀(w:World) (H:Hp) (s:WC) (e:Value) (s':WC),CX w [] H s (λ_ _ _=>False) e s'->False):
 PySem.W.WalkO q loose XP YP l.row.toRowW d [] (λf vs=>adg f vs):=by
 refine Att.attach_call hn NY λw adQ v6 mg mb fa o pm cd doc a vs ns G Y ho hd tX Ld Fc hints P3 hg=>?_;have KX:=hY w _ Y;obtain⟨fd,hb,hF⟩:=F w mg fa _ KX G.T.g Ld;exact yk KX G.T.g G.T.b G.T.builtins G.T.nolimit hg Fc hints (Xf P3 Qe) hr hF hb (λH hO hS=>xj w H a ns P3 hO hS) λH e s'=>QQ w H v6 e s'
abbrev Nl:A_:=λ_ _ _ _ _ _=>False
abbrev E0:XK:=λ_ _ _=>False
structure Fun (K:WI) (x qual:Str) (st:Stmt) (f:Addr) (fd:Ze):Prop where
 ex:∃(oc:Value) (od:Option Addr) (kV doc pm:Value) (an:Option Addr) (cu ct:Value) (F8:Array (Option Value)),
  fd=X8 x qual (eM st) (bf st) (ai st) .none kV doc pm an cu ct/\K.lookup f=some ⟨oc,od, .func fd,F8⟩/\Zg K cu qual=true
 kp:Yg K (.ref f)=true
section
variable{P:Xc}{w:World}{K:WI}{mg:Str->Option Value}{base:Heap}
def Fun.ok{x qual:Str}{st:Stmt}{f:Addr}{fd:Ze}{N ps:List Str}{k:Nat}{sp:Sp}(F:Fun K x qual st f fd)(S:FnScope N ps (ai st))(len:∀vs H Q E,sp vs H Q E->vs.length=ps.length)
 (iG:∀(cu:Value) (A:Xu) (outer:List Env) (s:WC) (H:Hp) (vs:List V) (Q:VK) (E:XK),Room k (A.deeper (YD qual (ai st) s.heap.objs.size f cu))->sp vs H Q E->
  ∃t,PSs (bh Nl P w K mg base N qual (ai st) f cu A outer s H E).nox (bf st) t/\t {nx:=λ_ H'=>Q .non H',rt:=Q} (start N vs) H):FnOk P w K mg base Nl (k+1) f fd ps sp:=by
 obtain⟨oc,od,kV,doc,pm,an,cu,ct,F8,rfl,lk,tX⟩:=F.ex;refine JZ lk tX S len λA outer s H vs Q E hr xj=>?_;obtain⟨t,h,q⟩:=iG cu A outer s H vs Q E hr xj;exact⟨t,h.nox,q⟩
def Fun.binds{x qual:Str}{st:Stmt}{f:Addr}{fd:Ze}{ps:List Str}(F:Fun K x qual st f fd)
 (h:∀(kV doc pm:Value) (an:Option Addr) (cu ct:Value) (us:List Value),us.length=ps.length->bindArgs (X8 x qual (eM st) (bf st) (ai st) .none kV doc pm an cu ct) ⟨us,[]⟩=pure (ps.zip us)):Binds K fd ps []:=by
 obtain⟨oc,od,kV,doc,pm,an,cu,ct,F8,rfl,lk,tX⟩:=F.ex;exact .all (h kV doc pm an cu ct)
def ES{x qual:Str}{st:Stmt}{f:Addr}{oc:Value}{od an:Option Addr}{F8:Array (Option Value)}{kV doc pm cu ct:Value}(l:K.lookup f=some ⟨oc,od, .func (X8 x qual (eM st) (bf st) (ai st) .none kV doc pm an cu ct),F8⟩)
 (c:Zg K cu qual=true)(k:Yg K (.ref f)=true):Fun K x qual st f (X8 x qual (eM st) (bf st) (ai st) .none kV doc pm an cu ct):=⟨⟨oc,od,kV,doc,pm,an,cu,ct,F8,rfl,l,c⟩,k⟩
end
section
variable{X:Cx}
def pv(i:Nat){x:Str}{pos:Pos}(hN:X.N[i]? =some x:=by rfl)(hv:PY X.env.scope x:=by first | exact Or.inl rfl | exact Or.inr (Or.inl rfl) | exact Or.inr (Or.inr rfl))(hd:(x==("__debug__":Str))=false:=by decide)
 (tX:(x==("__classdict__":Str))=false:=by decide):PE X (.Name x pos) (rZ i):=Mq hN hv hd tX
end
def Same(H H':Hp):Prop:=∀b o,H b=some o->H' b=some o
def Same.refl(H:Hp):Same H H:=λ_ _ h=>h
def Same.trans{H H1 H2:Hp}(a:Same H H1)(b:Same H1 H2):Same H H2:=λc o h=>b c o (a c o h)
def Same.free{H H':Hp}(e:Same H H'){l:Addr}(h:H' l=Option.none):H l=Option.none:=by
 cases q:H l with
 |none=>rfl
 |some o=>
  rw[e l o q] at h;cases h
def Same.seq{K:WI}{H H':Hp}{a:Addr}{xs:List V}(e:Same H H')(h:SqL K H a xs):SqL K H' a xs:=by
 rcases h with(h | ⟨o,h⟩) | h
 ·exact .inl (.inl (e _ _ h))
 ·exact .inl (.inr ⟨o,e _ _ h⟩)
 ·exact .inr h
section
variable{κ:Type}[DecidableEq κ]
def mU(aB:List (κ×V))(k:κ):Option V:=(aB.find? λkv=>decide (kv.1=k)).map (·.2)
def putK(aB:List (κ×V))(k:κ)(v:V):List (κ×V):=
 if (aB.any λkv=>decide (kv.1=k))=true then aB.map (λkv=>if kv.1=k then(kv.1,v) else kv) else aB++[(k,v)]
def JW(aB:List (κ×V))(k:κ):List (κ×V):=aB.filter λkv=>decide (kv.1≠k)
def mW{p:κ×V}{r:List (κ×V)}{k:κ}(e:p.1=k):mU (p::r) k=some p.2:=by simp[mU,Zy,e]
def mV{p:κ×V}{r:List (κ×V)}{k:κ}(e:¬p.1=k):mU (p::r) k=mU r k:=by simp[mU,Zy,e]
def se(k:κ):∀aB:List (κ×V),(aB.any λkv=>decide (kv.1=k))=(mU aB k).isSome
 |[]=>rfl
 |p::r=>by
  rw[YY];by_cases e:p.1=k
  ·simp only[mW e,adJ e,Bool.true_or,Option.isSome_some]
  ·rw[mV e,adI e,Bool.false_or];exact se k r
def fI(aB:List (κ×V))(k:κ)(v:V):(putK aB k v).length<=aB.length+1:=by
 unfold putK;split
 ·rw[Ww];omega
 ·rw[WL,WE,Xx];omega
def RelO.isSome_eq{o:Option V}{u:Option Value}(r:RelO o u):o.isSome=u.isSome:=by
 cases o with
 |none=>cases u with
  |none=>rfl
  |some _=>exact(show False from r).elim
 |some _=>cases u with
  |none=>exact(show False from r).elim
  |some _=>rfl
def RelO.getD{o:Option V}{u:Option Value}{d:V}{d':Value}(r:RelO o u)(rd:RelV d d'):RelV (o.getD d) (u.getD d'):=by
 cases o with
 |none=>cases u with
  |none=>exact rd
  |some _=>exact(show False from r).elim
 |some _=>cases u with
  |none=>exact(show False from r).elim
  |some _=>exact r
def KV.val{aB:List (κ×V)}{vs:List (κ×Value)}(r:KV aB vs)(k:κ):RelO (mU aB k) (acj vs k):=by
 unfold KV at r;induction r with
 |nil=>exact YE
 | @cons p q ps qs h t ih=>
   obtain⟨h1,h2⟩:=h;by_cases e:p.1=k
   ·have e':q.1=k:=h1.symm.trans e;have b:acj (q::qs) k=some q.2:=by simp[acj,Zy,e']
    rw[mW e,b];exact h2
   ·have e':¬q.1=k:=λz=>e (h1.trans z);have b:acj (q::qs) k=acj qs k:=by simp[acj,Zy,e']
    rw[mV e,b];exact ih
def KV.any{aB:List (κ×V)}{vs:List (κ×Value)}(r:KV aB vs)(k:κ):(aB.any λkv=>decide (kv.1=k))=vs.any λkv=>decide (kv.1=k):=by
 unfold KV at r;induction r with
 |nil=>rfl
 |cons h t ih=>rw[YY,YY,ih,h.1]
def KV.repl{aB:List (κ×V)}{vs:List (κ×Value)}(r:KV aB vs)(k:κ){y:V}{u:Value}(ry:RelV y u):
 KV (aB.map λkv=>if kv.1=k then(kv.1,y) else kv) (vs.map λkv=>if kv.1=k then(kv.1,u) else kv):=by
 unfold KV at r⊢;induction r with
 |nil=>exact .nil
 | @cons p q ps qs h t ih=>
   rw[WD,WD];refine .cons ?_ ih;obtain⟨h1,h2⟩:=h;by_cases e:p.1=k
   ·rw[adF e,adF (h1.symm.trans e)];exact⟨h1,ry⟩
   ·rw[adG e,adG (λz=>e (h1.trans z))];exact⟨h1,h2⟩
def KV.put{aB:List (κ×V)}{vs:List (κ×Value)}(r:KV aB vs)(k:κ){y:V}{u:Value}(ry:RelV y u):KV (putK aB k y) (stored vs k u):=by
 unfold putK stored;rw[r.any k];by_cases e:(vs.any λkv=>decide (kv.1=k))=true
 ·rw[adF e,adF e];exact r.repl k ry
 ·rw[adG e,adG e];exact Paired.snoc r ⟨rfl,ry⟩
def KV.drop{aB:List (κ×V)}{vs:List (κ×Value)}(r:KV aB vs)(k:κ):KV (JW aB k) (without vs k):=by
 unfold KV at r⊢;unfold JW without;induction r with
 |nil=>exact .nil
 | @cons p q ps qs h t ih=>
   obtain⟨h1,h2⟩:=h;rw[XR,XR];by_cases e:p.1=k
   ·have a:¬decide (p.1≠k)=true:=by simp[e]
    have b:¬decide (q.1≠k)=true:=by simp[h1.symm.trans e]
    rw[adG a,adG b];exact ih
   ·have e':¬q.1=k:=λz=>e (h1.trans z);have a:decide (p.1≠k)=true:=by simp[e]
    have b:decide (q.1≠k)=true:=by simp[e']
    rw[adF a,adF b];exact .cons ⟨h1,h2⟩ ih
def KV.length{aB:List (κ×V)}{vs:List (κ×Value)}(r:KV aB vs):aB.length=vs.length:=YA r
end
def oj{P:Xc}{w:World}{k:Key}{u:Value}(r:RelV (kV k) u):(bg P w).is k u=true:=by
 cases k with
 |inl i=>obtain⟨t,e⟩:=(show∃t,u=acr i t from r);subst e;exact yx P w i t
 |inr x=>obtain⟨t,e⟩:=(show∃t,u=acq x t from r);subst e;exact yy P w x t
def LF{a b:Key}(e:kV a=kV b):a=b:=by
 cases a with
 |inl i=>cases b with
  |inl j=>have e':V.int i=V.int j:=e;injection e' with e';rw[e']
  |inr y=>exact nomatch (show V.int i=V.str y from e)
 |inr x=>cases b with
  |inl j=>exact nomatch (show V.str x=V.int j from e)
  |inr y=>have e':V.str x=V.str y:=e;injection e' with e';rw[e']
def BG:∀{a b:List Key},a.map kV=b.map kV->a=b
 |[],[],_=>rfl
 |[],_::_,e=>by simp at e
 |_::_,[],e=>by simp at e
 |x::xs,y::ys,e=>by
  rw[WD,WD] at e;injection e with e1 e2
  rw[LF e1,BG e2]
def t7{P:Xc}{w:World}:∀{ks:List Key}{us:List Value},Vals (ks.map kV) us->ItemsAre (bg P w) ks us
 |[],_,r=>by rw[YL] at r;cases r;exact .nil
 |k::ks,_,r=>by
  rw[WD] at r;cases r with
  |cons h t=>exact .cons (oj h) (t7 t)
abbrev KT(H:Hp):List (List Key×V)->List (List Key×Addr×Value)->Prop:=abj λp q=>p.1=q.1/\H q.2.1=some (.tup (p.1.map kV))/\RelV p.2 q.2.2
def KT.val{H:Hp}{aB:List (List Key×V)}{xs:List (List Key×Addr×Value)}(r:KT H aB xs)(k:List Key):RelO (mU aB k) ((atKey xs k).map (·.2)):=by
 induction r with
 |nil=>exact YE
 | @cons p q ps qs h t ih=>
   obtain⟨h1,_,h2⟩:=h;by_cases e:p.1=k
   ·have e':q.1=k:=h1.symm.trans e;have b:atKey (q::qs) k=some q.2:=by simp[atKey,Zy,e']
    rw[mW e,b];exact h2
   ·have e':¬q.1=k:=λz=>e (h1.trans z);have b:atKey (q::qs) k=atKey qs k:=by simp[atKey,Zy,e']
    rw[mV e,b];exact ih
def KT.repl{H:Hp}{aB:List (List Key×V)}{xs:List (List Key×Addr×Value)}(r:KT H aB xs)(k:List Key){y:V}{u:Value}(ry:RelV y u):
 KT H (aB.map λkv=>if kv.1=k then(kv.1,y) else kv) (xs.map (putAt k u)):=by
 induction r with
 |nil=>exact .nil
 | @cons p q ps qs h t ih=>
   rw[WD,WD];refine .cons ?_ ih;obtain⟨h1,h2,h3⟩:=h;unfold putAt;by_cases e:p.1=k
   ·rw[adF e,adF (h1.symm.trans e)];exact⟨h1,h2,ry⟩
   ·rw[adG e,adG (λz=>e (h1.trans z))];exact⟨h1,h2,h3⟩
def KT.put{H:Hp}{aB:List (List Key×V)}{xs:List (List Key×Addr×Value)}(r:KT H aB xs)(k:List Key){b:Addr}{y:V}{u:Value}(hb:H b=some (.tup (k.map kV)))(ry:RelV y u):
 KT H (putK aB k y) (Z4 xs k b u):=by
 have e:(aB.any λkv=>decide (kv.1=k))=(atKey xs k).isSome:=by
  rw[se,(r.val k).isSome_eq,aa6]
 unfold putK Z4;rw[e];by_cases q:(atKey xs k).isSome=true
 ·rw[adF q,adF q];exact r.repl k ry
 ·rw[adG q,adG q];exact Paired.snoc r ⟨rfl,hb,ry⟩
def KT.keeps{H H':Hp}{aB:List (List Key×V)}{xs:List (List Key×Addr×Value)}(r:KT H aB xs)(ht:∀b ys,H b=some (.tup ys)->H' b=some (.tup ys)):KT H' aB xs:=
 Paired.mapP r λ_ _ z=>⟨z.1,ht _ _ z.2.1,z.2.2⟩
section
variable{P:Xc}{w:World}{H:Hp}{h:Heap}{a:Addr}
def Kk{u:HO}(ok:HOk P w H h)(e:Rd H a u):ObjOk P w H h a u:=e.ok ok
def n8{aB:List (Key×V)}(ok:HOk P w H h)(e:Rd H a (.dK aB)):aB.length<=WX/\(a==Ye)=false/\∃vs,KV aB vs/\h.DictOf (bg P w) a vs:=
 show ObjOk P w H h a (.dK aB) from Kk ok e
def JV{aB:List (Key×V)}(ok:HOk P w H h)(e:H a=some (.dK aB)):aB.length<=WX/\(a==Ye)=false/\∃vs,KV aB vs/\h.DictOf (bg P w) a vs:=n8 ok (.inl e)
def i6{ks:List Key}(ok:HOk P w H h)(e:H a=some (.tup (ks.map kV))):(Y0 (bg P w)).is h ks a:=by
 obtain⟨_,aI,r,o,h1,h2,n,h3⟩:=(show ObjOk P w H h a (.tup (ks.map kV)) from ok a _ e)
 exact⟨o,aI.toArray,n,h1,h2,h3,by simpa using t7 r⟩
def lQ{aB:List (List Key×V)}(ok:HOk P w H h)(e:Rd H a (.dT aB)):aB.length<=WX/\(a==Ye)=false/\
 ∃xs,KT H aB xs/\h.DictOfH (Y0 (bg P w)) a xs:=by
 obtain⟨z,y,xs,r,o,es,ep,h1,h2,h3,h4,h5⟩:=(show ObjOk P w H h a (.dT aB) from Kk ok e)
 refine⟨z,y,xs,r,o,es,ep,h1,h2,h3,h4,λx hx=>?_,h5⟩;have all:∀{l:List (List Key×V)}{m:List (List Key×Addr×Value)},KT H l m->∀x∈m,(Y0 (bg P w)).is h x.1 x.2.1:=by
  intro l m q;induction q with
  |nil=>intro x hx;exact nomatch hx
  | @cons p q ps qs hq t ih=>
    intro x hx;rcases WG.mp hx with e | hx
    ·subst e;exact i6 ok (by rw[<-hq.1];exact hq.2.1)
    ·exact ih x hx
 exact all r x hx
def EJ{aB:List (List Key×V)}(ok:HOk P w H h)(e:H a=some (.dT aB)):aB.length<=WX/\(a==Ye)=false/\
 ∃xs,KT H aB xs/\h.DictOfH (Y0 (bg P w)) a xs:=lQ ok (.inl e)
end
def k_(H:Hp)(a:Addr)(y:V)(r:Option V):Prop:=
 (∃aB k,Rd H a (.dK aB)/\y=kV k/\r=mU aB k)\/∃aB k b,Rd H a (.dT aB)/\y= .ref b/\H b=some (.tup (k.map kV))/\r=mU aB k
def DPut(H:Hp)(a:Addr)(y v:V)(H':Hp):Prop:=
 (∃aB k,H a=some (.dK aB)/\y=kV k/\aB.length<WX/\H'=upd H a (.dK (putK aB k v)))\/
 ∃aB k b,H a=some (.dT aB)/\y= .ref b/\H b=some (.tup (k.map kV))/\aB.length<WX/\H'=upd H a (.dT (putK aB k v))
def DPut.k{H:Hp}{a:Addr}{aB:List (Key×V)}{k:Key}{v:V}(e:H a=some (.dK aB))(hl:aB.length<WX):DPut H a (kV k) v (upd H a (.dK (putK aB k v))):= .inl ⟨aB,k,e,rfl,hl,rfl⟩
def DPut.t{H:Hp}{a b:Addr}{aB:List (List Key×V)}{k:List Key}{v:V}(e:H a=some (.dT aB))(eb:H b=some (.tup (k.map kV)))(hl:aB.length<WX):
 DPut H a (.ref b) v (upd H a (.dT (putK aB k v))):= .inr ⟨aB,k,b,e,rfl,eb,hl,rfl⟩
section
variable{X:Cx}{f8:List (Addr×Obj)}{σ:St}{H:Hp}{s:WC}{a:Addr}{y v:V}{u r:Value}{o:Option V}{A:Xu}{E:Value->WC->Prop}
def Inv.big(I:Inv X f8 σ H s):Ye<s.heap.objs.size:=by
 have h:W0<s.heap.objs.size:=(I.mod.glob.keeps I.bk).lt;exact YX (by decide) h
def CM{Q:Value->WC->Prop}(hu:A.units+1<cLine)(I:Inv X f8 σ H s)(g:k_ H a y (some v))(ry:RelV y u)(h:∀w' s',Inv X f8 σ H s'->RelV v w'->Q w' s'):
 wpAny (model X.prog X.w) A (ada (.ref a) u) Q E s:=by
 rcases g with⟨aB,k,e,ey,l⟩ | ⟨aB,k,b,e,ey,eb,l⟩
 ·subst ey;obtain⟨z,hd,vs,rel,dd⟩:=n8 I.hok e;obtain⟨w',hw,zM⟩:=RelO.some_of (v:=v) (o:=acj vs k) (by rw[l];exact rel.val k);exact wpAny_getItem_of (oj ry) dd.mapOf hw (h w' _ (I.tok _) zM)
 ·subst ey;cases (show u=WY b from ry);obtain⟨z,hd,xs,rel,dd⟩:=lQ I.hok e;obtain⟨w',hw,zM⟩:=RelO.some_of (v:=v) (o:=(atKey xs k).map (·.2)) (by rw[l];exact rel.val k);obtain⟨p,hp,Ro⟩:=Option.map_eq_some_iff.mp hw;refine wpAny_getItem_heap (Zc hu) (i6 I.hok eb) dd hp ?_;rw[Ro];exact h w' _ (I.tok _) zM
def ND{Q:Value->WC->Prop}(hu:A.units+1<cLine)(I:Inv X f8 σ H s)(g:k_ H a y o)(ry:RelV y u)(h:∀s',Inv X f8 σ H s'->Q (.bool o.isSome) s'):
 wpAny (model X.prog X.w) A (XB .In u (.ref a)) Q E s:=by
 rcases g with⟨aB,k,e,ey,l⟩ | ⟨aB,k,b,e,ey,eb,l⟩
 ·subst ey;obtain⟨z,hd,vs,rel,dd⟩:=n8 I.hok e;refine wpAny_in_of (oj ry) hd dd.mapOf ?_;rw[<-(rel.val k).isSome_eq,<-l];exact h _ (I.tok _)
 ·subst ey;cases (show u=WY b from ry);obtain⟨z,hd,xs,rel,dd⟩:=lQ I.hok e;refine wpAny_in_heap (Zc hu) (i6 I.hok eb) hd dd ?_;have q:=(rel.val k).isSome_eq;rw[aa6] at q;rw[<-q,<-l];exact h _ (I.tok _)
def HD{Q:Value->WC->Prop}(hu:A.units+1<cLine)(I:Inv X f8 σ H s)(g:k_ H a y o)(ry:RelV y u)(h:∀s',Inv X f8 σ H s'->Q (.bool (!o.isSome)) s'):
 wpAny (model X.prog X.w) A (XB .NotIn u (.ref a)) Q E s:=by
 rcases g with⟨aB,k,e,ey,l⟩ | ⟨aB,k,b,e,ey,eb,l⟩
 ·subst ey;obtain⟨z,hd,vs,rel,dd⟩:=n8 I.hok e;refine wpAny_notIn_of (oj ry) hd dd.mapOf ?_;rw[<-(rel.val k).isSome_eq,<-l];exact h _ (I.tok _)
 ·subst ey;cases (show u=WY b from ry);obtain⟨z,hd,xs,rel,dd⟩:=lQ I.hok e;refine wpAny_notIn_heap (Zc hu) (i6 I.hok eb) hd dd ?_;have q:=(rel.val k).isSome_eq;rw[aa6] at q;rw[<-q,<-l];exact h _ (I.tok _)
def lP{h':Heap}{t':Nat}{ob:HO}(I:Inv X f8 σ H s)(mu:Nr (H a))(hs:XQ a s.heap h')(he:∃q,h'.get? a=some q)(new:ObjOk X.prog X.w (upd H a ob) h' a ob):
 Inv X f8 σ (upd H a ob) {s with heap:=h',toks:=t'}:=
 I.write (x:=a) (e:=a) mu (.inl rfl) (λb q hb z=>(hs.2 b hb).trans z) he new
def EH{P:Xc}{w:World}{H':Hp}{h':Heap}{aB:List (Key×V)}{vs:List (Key×Value)}(z:aB.length<=WX)(hd:(a==Ye)=false)(rel:KV aB vs)(dd:h'.DictOf (bg P w) a vs):
 ObjOk P w H' h' a (.dK aB):=⟨z,hd,vs,rel,dd⟩
def CN{H':Hp}{Q:Unit->WC->Prop}(hu:A.units+1<cLine)(I:Inv X f8 σ H s)(g:DPut H a y v H')(ry:RelV y u)(rv:RelV v r)(h:∀s',Inv X f8 σ H' s'->Q () s'):
 wpAny (model X.prog X.w) A (setItem (.ref a) u r) Q E s:=by
 rcases g with⟨aB,k,e,ey,l,eH⟩ | ⟨aB,k,b,e,ey,eb,l,eH⟩
 ·subst ey eH;obtain⟨z,hd,vs,rel,dd⟩:=JV I.hok e;have hz:vs.length<=WX:=by rw[<-rel.length];exact z
  have hl:(putK aB k v).length<=WX:=by have:=fI aB k v;omega
  refine wpAny_setItem_pairs (hsz:=hz) (oj ry) dd λh' CO hs=>h _ ?_;have he:∃q,h'.get? a=some q:=let ⟨q,_,_,hq,_⟩:=CO;⟨q,hq⟩
  exact lP I (by rw[e];exact YE) hs he (EH hl hd (rel.put k rv) CO)
 ·subst ey eH;cases (show u=WY b from ry);obtain⟨z,hd,xs,rel,dd⟩:=EJ I.hok e;have hz:xs.length<=WX:=by rw[<-YA rel];exact z
  have hl:(putK aB k v).length<=WX:=by have:=fI aB k v;omega
  refine wpAny_setItem_heap (hsz:=hz) (Zc hu) (i6 I.hok eb) dd λh' CO hs=>h _ ?_;obtain⟨q,es,ep,hq,h2,h3,h4,_,h5⟩:=CO;refine lP I (by rw[e];exact YE) hs ⟨q,hq⟩ ⟨hl,hd,_,(rel.put k eb rv).keeps λc ys ec=>?_,q,es,ep,hq,h2,h3,h4,h5⟩;rw[aA (FK ec e (λz=>nomatch z))];exact ec
end
def Ks(i:Expr):Prop:=∀ov iv,subscripted i false ov iv=operate [ov,iv] (ada ov iv)
def JE{prog:Xc}{w:World}{A:Xu}{E:Value->WC->Prop}{s:WC}{env:Env}{value slice:Expr}{pos:Pos}{T id:String}{Q:Value->WC->Prop}
 (hl:aa4 (.type T) "__getitem__"=pure (some (.builtin id)))(hs:Ks slice)
 (h:wpAny (model prog w) A (eval value env) (λo v6=>wpAny (model prog w) A (eval slice env) (λi v4=>v4.TypeIs o T/\wpAny (model prog w) A (ada o i) Q E v4) E v6) E s):
 wpAny (model prog w) A (eval (.Subscript value slice pos) env) Q E s:=by
 refine Subscript_ (XG h (λo v6 h₁=>XG h₁ (λi v4 h₂=>?_) λ_ _ x=>x) λ_ _ x=>x);obtain⟨hT,h₂⟩:=h₂;unfold subscriptTail;refine Wv ?_;rw[getitemInPython_of_ne hT.not_modules];refine Wv (aci hT hl ?_);have fin:wpAny (model prog w) A (subscripted slice false o i) (λr s₃=>wpAny (model prog w) A (letTemporaryGo value o r>>=λ_=>pure r) Q E s₃) E v4:=by
  rw[hs o i];exact wpAny_operating (XG h₂ (λr s₃ h₃=>Wv (wpAny_letTemporaryGo (WA h₃))) λ_ _ x=>x)
 first
  |exact WA (Wv fin)
  |exact Wv (WA (Wv fin))
  |exact Wv fin
def xK{X:Cx}{f8:List (Addr×Obj)}{σ:St}{H:Hp}{s:WC}{a:Addr}{y:V}{o:Option V}(I:Inv X f8 σ H s)(g:k_ H a y o):s.TypeIs (.ref a) "dict":=by
 rcases g with⟨aB,k,e,_,_⟩ | ⟨aB,k,b,e,_,_,_⟩
 ·obtain⟨_,_,vs,_,dd⟩:=n8 I.hok e;exact dd.typeIs
 ·obtain⟨_,_,xs,_,dd⟩:=lQ I.hok e;exact dd.typeIs
def Pw(td ty:TE):TE:=λσ H Q=>td σ H λx H1=>ty σ H1 λy H2=>∃a v,x= .ref a/\k_ H2 a y (some v)/\Q v H2
def Sm(ty td:TE):TE:=λσ H Q=>ty σ H λy H1=>td σ H1 λx H2=>∃a o,x= .ref a/\k_ H2 a y o/\Q (.bl o.isSome) H2
def Pn(td ty tv:TE):TS:=λD σ H=>tv σ H λv H1=>td σ H1 λx H2=>ty σ H2 λy H3=>∃a H4,x= .ref a/\DPut H3 a y v H4/\D.nx σ H4
section
variable{X:Cx}{o i value:Expr}{pos pos':Pos}{td ty tv:TE}
def Jc(hu:X.A.units+1<cLine)(ho:PE X o td)(hi:PE X i ty)(hs:Ks i):PE X (.Subscript o i pos) (Pw td ty):=by
 intro f8 s σ H Q I h;refine JE PySem.F.slot_dict_getitem.lookup hs (ck (ho f8 s σ H _ I h) λu s1 ⟨x,H1,I1,rx,q1⟩=>ck (hi f8 s1 σ H1 _ I1 q1) λiv s2 ⟨y,H2,I2,ry,a,v,ex,g,q2⟩=>?_);subst ex;obtain rfl:u=WY a:=rx;exact⟨xK I2 g,CM hu I2 g ry λw' s3 I3 zM=>⟨v,H2,I3,zM,q2⟩⟩
def Ma(hu:X.A.units+1<cLine)(hi:PE X i ty)(ho:PE X o td):PC X .In i o (Sm ty td):=by
 intro f8 s σ H Q I h;refine ck (hi f8 s σ H _ I h) λiv s1 ⟨y,H1,I1,ry,q1⟩=>ck (ho f8 s1 σ H1 _ I1 q1) λu s2 ⟨x,H2,I2,rx,a,ov,ex,g,q2⟩=>?_;subst ex;obtain rfl:u=WY a:=rx;exact ND hu I2 g ry λs3 I3=>⟨.bl ov.isSome,H2,I3,rfl,q2⟩
def Jh(hu:X.A.units+1<cLine)(ho:PE X o td)(hi:PE X i ty)(hv:PE X value tv)(hs:aay value (some (.Subscript o i pos')) pos.line X.env=pure false):
 PS X (.Assign [.Subscript o i pos'] value pos) (Pn td ty tv):=by
 intro f8 s σ H D I h;refine wpAny_Assign_Subscript (ck (hv f8 s σ H _ I h) λr s1 ⟨v,H1,I1,rv,q1⟩=>ck (ho f8 s1 σ H1 _ I1 q1) λu s2 ⟨x,H2,I2,rx,q2⟩=>ck (hi f8 s2 σ H2 _ I2 q2) λiv s3 ⟨y,H3,I3,ry,a,H4,ex,g,q3⟩=>?_) hs;subst ex;obtain rfl:u=WY a:=rx;exact CN hu I3 g ry rv λs4 I4=>⟨σ,H4,I4,q3⟩
end
def xM{P:Xc}{w:World}{H:Hp}(h:Heap)(hb:Ye<h.objs.size):ObjOk P w H (h.push {cls:= .type "dict",data:= .dict #[]}) h.objs.size (.dT []):=
 ⟨Xq _,adO.mpr (XD (W4 hb)),[], .nil,_,#[],0,WN _ rfl,⟨rfl,rfl,rfl⟩,rfl,rfl,YN⟩
def MO:TE:=λ_ H Q=>∀p,H p=none->Q (.ref p) (upd H p (.dT []))
section
variable{X:Cx}{pos:Pos}
def Gp:PE X (.Dict [] [] pos) MO:=λf8 s σ H Q I h=>
 wpAny_Dict_empty ⟨.ref s.heap.objs.size,_,I.laid (a:=s.heap.objs.size) (o:= .dT []) (t':=s.toks) (λ_ _ q=>Wx _ q) (WO _) (xM s.heap I.big),rfl,h _ (I.hok.fresh (WO _))⟩
end
def G6:List (TE×TE)->St->Hp->(List (V×V)->Hp->Prop)->Prop
 |[],_,H,Q=>Q [] H
 |(tk,tv)::r,σ,H,Q=>tk σ H λx H1=>tv σ H1 λy H2=>G6 r σ H2 λps H3=>Q ((x,y)::ps) H3
abbrev VV:List (V×V)->List (Value×Value)->Prop:=abj λp q=>RelV p.1 q.1/\RelV p.2 q.2
def QE(X:Cx)(pos:Pos)(keys:List (Option Expr))(values:List Expr)(Qy:List (TE×TE)):Prop:=
 ∀(f8:List (Addr×Obj)) (s:WC) (σ:St) (H:Hp) (Q:List (V×V)->Hp->Prop),Inv X f8 σ H s->G6 Qy σ H Q->
  wpAny (model X.prog X.w) X.A (evalPairs (pairTrees keys values X.env pos)) (λvs s'=>∃ps H',Inv X f8 σ H' s'/\VV ps vs/\Q ps H') X.xe s
def Je{X:Cx}{pos:Pos}:QE X pos [] [] []:=λf8 s σ H Q I h=>pairTrees_nil_walk ⟨[],H,I, .nil,h⟩
def Gq{X:Cx}{pos:Pos}{k v:Expr}{ks:List (Option Expr)}{vs:List Expr}{tk tv:TE}{Qy:List (TE×TE)}(hk:PE X k tk)(hv:PE X v tv)(hr:QE X pos ks vs Qy):
 QE X pos (some k::ks) (v::vs) ((tk,tv)::Qy):=λf8 s σ H Q I h=>
 pairTrees_cons_walk (ck (hk f8 s σ H _ I h) λu s1 ⟨x,H1,I1,rx,q1⟩=>ck (hv f8 s1 σ H1 _ I1 q1) λw2 s2 ⟨y,H2,I2,ry,q2⟩=>
  ck (hr f8 s2 σ H2 _ I2 q2) λws s3 ⟨ps,H3,I3,rel,q3⟩=>⟨(x,y)::ps,H3,I3, .cons ⟨rx,ry⟩ rel,q3⟩)
structure M1 (X:Cx) (o:Expr) (m:Str) (T0:Pos) (e:Expr) (a9:Pos):Prop where
 base:Yw o m X.env (eval o X.env)=eval o X.env
 few:((Yt a9 (WS [e] X.env)).all (λx=>!x.1)&&(Z_ a9 (Y4 [] X.env)).all (λx=>x.1.isSome)
  &&decide (([e]:List Expr).length+([]:List Za).length+(if ([]:List Za).isEmpty then 0 else 1)<30))=true
 line:(T0.endLine==a9.line)=true
 trees:Yt a9 (WS [e] X.env)=[(false,eval e X.env)]
structure M2 (X:Cx) (o:Expr) (m:Str) (T0:Pos) (e f:Expr) (a9:Pos):Prop where
 base:Yw o m X.env (eval o X.env)=eval o X.env
 few:((Yt a9 (WS [e,f] X.env)).all (λx=>!x.1)&&(Z_ a9 (Y4 [] X.env)).all (λx=>x.1.isSome)
  &&decide (([e,f]:List Expr).length+([]:List Za).length+(if ([]:List Za).isEmpty then 0 else 1)<30))=true
 line:(T0.endLine==a9.line)=true
 trees:Yt a9 (WS [e,f] X.env)=[(false,eval e X.env),(false,eval f X.env)]
def Nm(H:Hp)(a:Addr):Prop:=(∃aB,Rd H a (.dK aB))\/∃aB,Rd H a (.dT aB)
def Ah{X:Cx}{f8:List (Addr×Obj)}{σ:St}{H:Hp}{s:WC}{a:Addr}(I:Inv X f8 σ H s)(d:Nm H a):
 s.TypeIs (.ref a) "dict"/\(∀b,WY a= .ref b->∃ob,s.heap.get? b=some ob/\ob.dict=none)/\(a==Ye)=false:=by
 rcases d with⟨aB,e⟩ | ⟨aB,e⟩
 ·obtain⟨_,hd,vs,_,dd⟩:=n8 I.hok e;refine⟨dd.typeIs,λb q=>?_,hd⟩;cases q;obtain⟨ob,_,_,h1,h2,_⟩:=dd;exact⟨ob,h1,h2.2.1⟩
 ·obtain⟨_,hd,xs,_,dd⟩:=lQ I.hok e;refine⟨dd.typeIs,λb q=>?_,hd⟩;cases q;obtain⟨ob,_,_,h1,h2,_⟩:=dd;exact⟨ob,h1,h2.2.1⟩
section
variable{X:Cx}{f8:List (Addr×Obj)}{σ:St}{H:Hp}{s:WC}{a:Addr}{y d:V}{u r:Value}{o:Option V}{A:Xu}{E:Value->WC->Prop}
def KL{Q:Value->WC->Prop}(hu:A.units+1<cLine)(I:Inv X f8 σ H s)(g:k_ H a y o)(ry:RelV y u)(h:∀w' s',Inv X f8 σ H s'->RelV (o.getD .non) w'->Q w' s'):
 wpAny (model X.prog X.w) A (call (.builtin "dict.get") [.ref a,u]) Q E s:=by
 rcases g with⟨aB,k,e,ey,l⟩ | ⟨aB,k,b,e,ey,eb,l⟩
 ·subst ey;obtain⟨z,hd,vs,rel,dd⟩:=n8 I.hok e;refine abZ Yy dd.typeIs Zx (abR _ _) (meets_dict_get (bg X.prog X.w) a (oj ry) hd) ⟨_,dd.mapOf,h _ _ (I.tok _) ?_⟩;rw[l];exact(rel.val k).getD rfl
 ·subst ey;cases (show u=WY b from ry);obtain⟨z,hd,xs,rel,dd⟩:=lQ I.hok e;refine abZ Yy dd.typeIs Zx (abR _ _) (meetsH_dict_get (Y0 (bg X.prog X.w)) a b hd) ⟨Zc hu,k,xs,i6 I.hok eb,dd,h _ _ (I.tok _) ?_⟩;rw[l];exact(rel.val k).getD rfl
def KN{Q:Value->WC->Prop}(hu:A.units+1<cLine)(I:Inv X f8 σ H s)(g:k_ H a y o)(ry:RelV y u)(rd:RelV d r)(h:∀w' s',Inv X f8 σ H s'->RelV (o.getD d) w'->Q w' s'):
 wpAny (model X.prog X.w) A (call (.builtin "dict.get") [.ref a,u,r]) Q E s:=by
 rcases g with⟨aB,k,e,ey,l⟩ | ⟨aB,k,b,e,ey,eb,l⟩
 ·subst ey;obtain⟨z,hd,vs,rel,dd⟩:=n8 I.hok e;refine abZ Yy dd.typeIs Zx (abQ _ _ _) (meets_dict_get_default (bg X.prog X.w) a (oj ry) hd r) ⟨_,dd.mapOf,h _ _ (I.tok _) ?_⟩;rw[l];exact(rel.val k).getD rd
 ·subst ey;cases (show u=WY b from ry);obtain⟨z,hd,xs,rel,dd⟩:=lQ I.hok e;refine abZ Yy dd.typeIs Zx (abQ _ _ _) (meetsH_dict_get_default (Y0 (bg X.prog X.w)) a b hd r) ⟨Zc hu,k,xs,i6 I.hok eb,dd,h _ _ (I.tok _) ?_⟩;rw[l];exact(rel.val k).getD rd
end
def MM(td ty:TE):TE:=λσ H Q=>td σ H λx H1=>∃a,x= .ref a/\Nm H1 a/\ty σ H1 λy H2=>∃o,k_ H2 a y o/\Q (o.getD .non) H2
def MN(td ty tx:TE):TE:=λσ H Q=>td σ H λx H1=>∃a,x= .ref a/\Nm H1 a/\ty σ H1 λy H2=>tx σ H2 λz H3=>∃o,k_ H3 a y o/\Q (o.getD z) H3
section
variable{X:Cx}{o e f:Expr}{T0 a9:Pos}{td ty tx:TE}
def Gm(hu:X.A.units+1<cLine)(ho:PE X o td)(he:PE X e ty)(m:M1 X o "get" T0 e a9):PE X (.Call (.Attribute o "get" T0) [e] [] a9) (MM td ty):=by
 intro f8 s σ H Q I h;refine abK m.base m.few m.line Zt Yy aca (ck (ho f8 s σ H _ I h) λu s1 ⟨x,H1,I1,rx,a,ex,d,q1⟩=>?_);subst ex;obtain rfl:u=WY a:=rx;obtain⟨t1,t2,_⟩:=Ah I1 d;refine⟨t1,t2,?_⟩;rw[m.trees];refine Y1 rfl (Zi (Y2 (ck (he f8 s1 σ H1 _ I1 q1) λiv s2 ⟨y,H2,I2,ry,ov,g,q2⟩=>ZI ?_)));exact KL hu I2 g ry λw' s3 I3 zM=>⟨_,H2,I3,zM,q2⟩
def Gn(hu:X.A.units+1<cLine)(ho:PE X o td)(he:PE X e ty)(hf:PE X f tx)(m:M2 X o "get" T0 e f a9):PE X (.Call (.Attribute o "get" T0) [e,f] [] a9) (MN td ty tx):=by
 intro f8 s σ H Q I h;refine abK m.base m.few m.line Zt Yy aca (ck (ho f8 s σ H _ I h) λu s1 ⟨x,H1,I1,rx,a,ex,d,q1⟩=>?_);subst ex;obtain rfl:u=WY a:=rx;obtain⟨t1,t2,_⟩:=Ah I1 d;refine⟨t1,t2,?_⟩;rw[m.trees];refine Y1 rfl (Zi (Y2 (ck (he f8 s1 σ H1 _ I1 q1) λiv s2 ⟨y,H2,I2,ry,q2⟩=>
  Y2 (ck (hf f8 s2 σ H2 _ I2 q2) λfv s3 ⟨z,H3,I3,rz,ov,g,q3⟩=>ZI ?_))))
 exact KN hu I3 g ry rz λw' s4 I4 zM=>⟨_,H3,I4,zM,q3⟩
end
end L2
namespace L3
open PySem PySem.Spec L2
open PyProof.Rows hiding St
inductive Rs (α:Type) where
 |ok (a:α) | ex (n:Nat)
def M(α:Type):=Option (Rs α)
def ae(a:α):M α:=some (.ok a)
def M.bind(m:M α)(k:α->M β):M β:=match m with
 |none=>none
 |some (.ex n)=>some (.ex n)
 |some (.ok a)=>k a
def ag:M α:=none
def br(n:Nat):M α:=some (.ex n)
instance:Monad M where
 pure:=ae
 bind:=M.bind
@[simp] def ax{α β:Type}(a:α)(k:α->M β):(ae a>>=k)=k a:=rfl
@[simp] def Kz{α β:Type}(a:α)(k:α->M β):((pure a:M α)>>=k)=k a:=rfl
@[simp] def KA{α β:Type}(n:Nat)(k:α->M β):(br n>>=k)=br n:=rfl
@[simp] def KC{α β:Type}(k:α->M β):((ag:M α)>>=k)=ag:=rfl
def M.cs(m:M α):m=ag\/(∃n,m=br n)\/∃a,m=ae a:=by
 match m with
 |none=>exact .inl rfl
 |some (.ex n)=>exact .inr (.inl ⟨n,rfl⟩)
 |some (.ok a)=>exact .inr (.inr ⟨a,rfl⟩)
def gh(h:ae a=ae b):a=b:=by
 have h:some (Rs.ok a)=some (Rs.ok b):=h;cases h;rfl
def gU(h:ag=ae a):False:=by
 have h:none=some (Rs.ok a):=h;cases h
def GF(h:br n=ae a):False:=by
 have h:some (Rs.ex n)=some (Rs.ok a):=h;cases h
def iT(h:(m>>=k)=ae r):∃a,m=ae a/\k a=ae r:=by
 rcases m.cs with e | ⟨n,e⟩ | ⟨a,e⟩
 ·subst e;exact(gU h).elim
 ·subst e;exact(GF h).elim
 ·subst e;exact⟨a,rfl,h⟩
def Ba(h:Heap)(ea D:Addr):Prop:=∃ox,h.get? ea=some ox/\ox.cls= .ref D
def Kr(ea D:Addr):HO:= .ext λh=>Ba h ea D
inductive D where
 |non | bl (b:Bool) | int (i:Int) | str (x:Str) | raw (v:V) | exc (C:Addr) | scr (l:List Int) | tup (l:List D) | lst (l:List D)
 |dct (ks:List (List Key)) (l:List D) | dci (ks:List Key) (l:List D)
instance:Inhabited D:=⟨.non⟩
def lim:Nat:=4096
def eA:lim<WX:=by rw[YC];decide
mutual
def Den(K:WI)(F:Hp):D->V->Prop
 | .non,v=>v= .non
 | .bl b,v=>v= .bl b
 | .int i,v=>v= .int i
 | .str x,v=>v= .str x/\x.length<=lim
 | .raw u,v=>v=u
 | .exc C,v=>∃ea,v= .ref ea/\F ea=some (Kr ea C)
 | .scr ns,v=>∃a,v= .ref a/\SqL K F a (ns.map V.int)/\ns.length<=lim
 | .tup ds,v=>∃a vs,v= .ref a/\F a=some (.tup vs)/\DenL K F ds vs/\ds.length<=lim
 | .lst ds,v=>∃a vs,v= .ref a/\F a=some (.lst vs)/\DenL K F ds vs/\ds.length<=lim
 | .dct ks ds,v=>∃a ob vs,v= .ref a/\F a=some (.frz ob (.dT (ks.zip vs)))/\DenL K F ds vs/\ks.length=ds.length/\ds.length<=lim
 | .dci ks ds,v=>∃a ob vs,v= .ref a/\F a=some (.frz ob (.dK (ks.zip vs)))/\DenL K F ds vs/\ks.length=ds.length/\ds.length<=lim
def DenL(K:WI)(F:Hp):List D->List V->Prop
 |[],vs=>vs=[]
 |d::ds,vs=>∃v r,vs=v::r/\Den K F d v/\DenL K F ds r
end
def Same.rd(e:Same H H')(h:Rd H a u):Rd H' a u:=by
 rcases h with h | ⟨o,h⟩
 ·exact .inl (e _ _ h)
 ·exact .inr ⟨o,e _ _ h⟩
def Same.tup{K:WI}(e:Same H H')(h:SqT K H a xs):SqT K H' a xs:=by
 rcases h with h | h
 ·exact .inl (Same.rd e h)
 ·exact .inr h
section
variable{K:WI}{F F':Hp}
mutual
def Den.mono(e:Same F F'):∀{d:D}{v:V},Den K F d v->Den K F' d v
 | .non,_,h=>h
 | .bl _,_,h=>h
 | .int _,_,h=>h
 | .str _,_,h=>h
 | .raw _,_,h=>h
 | .exc _,_,⟨a,h1,h2⟩=>⟨a,h1,e _ _ h2⟩
 | .scr _,_,⟨a,h1,h2,h3⟩=>⟨a,h1,Same.seq e h2,h3⟩
 | .tup _,_,⟨a,vs,h1,h2,h3,h4⟩=>⟨a,vs,h1,e _ _ h2,DenL.mono e h3,h4⟩
 | .lst _,_,⟨a,vs,h1,h2,h3,h4⟩=>⟨a,vs,h1,e _ _ h2,DenL.mono e h3,h4⟩
 | .dct _ _,_,⟨a,ob,vs,h1,h2,h3,h4⟩=>⟨a,ob,vs,h1,e _ _ h2,DenL.mono e h3,h4⟩
 | .dci _ _,_,⟨a,ob,vs,h1,h2,h3,h4⟩=>⟨a,ob,vs,h1,e _ _ h2,DenL.mono e h3,h4⟩
def DenL.mono(e:Same F F'):∀{ds:List D}{vs:List V},DenL K F ds vs->DenL K F' ds vs
 |[],_,h=>h
 |_::_,_,⟨v,r,h1,h2,h3⟩=>⟨v,r,h1,Den.mono e h2,DenL.mono e h3⟩
end
def DenL.nil:DenL K F [] []:=rfl
def DenL.cons(h:Den K F d v)(r:DenL K F ds vs):DenL K F (d::ds) (v::vs):=⟨v,vs,rfl,h,r⟩
def DenL.len:∀{ds:List D}{vs:List V},DenL K F ds vs->ds.length=vs.length
 |[],_,h=>by cases (show _=_ from h);rfl
 |_::ds,_,⟨v,r,h1,_,h3⟩=>by subst h1;rw[WE,WE,DenL.len h3]
def DenL.get:∀{ds:List D}{vs:List V}{i:Nat}{d:D},DenL K F ds vs->ds[i]? =some d->∃v,vs[i]? =some v/\Den K F d v
 |[],_,_,_,_,e=>by simp at e
 |d::ds,_,0,_,⟨v,r,h1,h2,h3⟩,e=>by subst h1;simp at e;subst e;exact⟨v,rfl,h2⟩
 |d::ds,_,i+1,_,⟨v,r,h1,h2,h3⟩,e=>by
  subst h1;obtain⟨w,e1,e2⟩:=DenL.get h3 (by simpa using e);exact⟨w,by simpa using e1,e2⟩
def DenL.at:∀{ds:List D}{vs:List V}{i:Nat}{v:V},DenL K F ds vs->vs[i]? =some v->∃d,ds[i]? =some d/\Den K F d v
 |[],_,_,_,h,e=>by cases (show _=_ from h);simp at e
 |d::ds,_,0,_,⟨v,r,h1,h2,h3⟩,e=>by subst h1;simp at e;subst e;exact⟨d,rfl,h2⟩
 |d::ds,_,i+1,_,⟨v,r,h1,h2,h3⟩,e=>by
  subst h1;obtain⟨w,e1,e2⟩:=DenL.at h3 (by simpa using e);exact⟨w,by simpa using e1,e2⟩
def DenL.append:∀{ds es:List D}{vs ws:List V},DenL K F ds vs->DenL K F es ws->DenL K F (ds++es) (vs++ws)
 |[],_,_,_,h,h'=>by cases (show _=_ from h);exact h'
 |d::ds,_,_,_,⟨v,r,h1,h2,h3⟩,h'=>by subst h1;exact⟨v,_,rfl,h2,DenL.append h3 h'⟩
def DenL.take:∀{ds:List D}{vs:List V}(n:Nat),DenL K F ds vs->DenL K F (ds.take n) (vs.take n)
 |_,_,0,_=>by simp[List.take];rfl
 |[],_,_+1,h=>by cases (show _=_ from h);rfl
 |d::ds,_,n+1,⟨v,r,h1,h2,h3⟩=>by subst h1;exact⟨v,_,rfl,h2,DenL.take n h3⟩
def DenL.drop:∀{ds:List D}{vs:List V}(n:Nat),DenL K F ds vs->DenL K F (ds.drop n) (vs.drop n)
 |_,_,0,h=>by simpa using h
 |[],_,_+1,h=>by cases (show _=_ from h);rfl
 |d::ds,_,n+1,⟨v,r,h1,h2,h3⟩=>by subst h1;exact DenL.drop n h3
def DenL.ints(ns:List Int):DenL K F (ns.map D.int) (ns.map V.int):=by
 induction ns with
 |nil=>rfl
 |cons n ns ih=>exact .cons rfl ih
end
structure Ext (F H F' H':Hp):Prop where
 hh:Same H H'
 ff:Same F F'
 fh:Same F' H'
 new:∀a,H a≠none->F' a=F a\/∃ts,H a=some (.tup ts)
def Ext.old(e:Ext F H F' H')(h:H a=some o)(hn:∀ts,o≠ .tup ts):F' a=F a:=by
 rcases e.new a (by rw[h];exact λz=>nomatch z) with q | ⟨ts,q⟩
 ·exact q
 ·rw[h] at q;cases q;exact adK rfl (hn ts)
def Ext.refl(h:Same F H):Ext F H F H:=⟨Same.refl _,Same.refl _,h,λ_ _=> .inl rfl⟩
def Ext.trans(a:Ext F H F' H')(b:Ext F' H' F'' H''):Ext F H F'' H'':=
 ⟨a.hh.trans b.hh,a.ff.trans b.ff,b.fh,λc hc=>by
  have:H' c≠none:=by
   cases q:H c with
   |none=>exact adK q hc
   |some o=>rw[a.hh c o q];exact λz=>nomatch z
  rcases a.new c hc with p | p
  ·rcases b.new c this with q | ⟨ts,q⟩
   ·exact .inl (q.trans p)
   ·cases z:H c with
    |none=>exact adK z hc
    |some o=>
     rw[a.hh c o z] at q;exact .inr ⟨ts,q⟩
  ·exact .inr p⟩
def Ext.lay(h:Same F H)(n:H a=none):Ext F H (upd F a o) (upd H a o):=by
 have nf:F a=none:=Same.free h n;refine⟨λb u e=>?_,λb u e=>?_,λb u e=>?_,λb hb=>?_⟩
 ·rw[aA (bz e n)];exact e
 ·rw[aA (bz e nf)];exact e
 ·by_cases q:b=a
  ·subst q;rw[aP] at e⊢;exact e
  ·rw[aA q] at e⊢;exact h b u e
 ·exact .inl (aA λz=>hb (by rw[z];exact n))
def Ext.free(h:Same F H)(n:H a=none):Ext F H F (upd H a o):=
 ⟨λb u e=>by rw[aA (bz e n)];exact e,Same.refl _,λb u e=>by rw[aA (bz (h b u e) n)];exact h b u e,λ_ _=> .inl rfl⟩
def Ext.tup(h:Same F H)(e:H a=some (.tup ts)):Ext F H (upd F a (.tup ts)) H:=by
 refine⟨Same.refl _,λb u q=>?_,λb u q=>?_,λb hb=>?_⟩
 ·by_cases z:b=a
  ·subst z;rw[aP,<-e];exact h b u q
  ·rw[aA z];exact q
 ·by_cases z:b=a
  ·subst z;rw[aP] at q;rw[e];exact q
  ·rw[aA z] at q;exact h b u q
 ·by_cases z:b=a
  ·subst z;exact .inr ⟨ts,e⟩
  ·exact .inl (aA z)
def WP(K:WI)(Xw:Nat->Hp->Prop)(F H:Hp)(m:M D)(Q:VK):Prop:=
 match m with
 |none=>False
 |some (.ok d)=>∀v H' F',Ext F H F' H'->Den K F' d v->Q v H'
 |some (.ex n)=>∀F' H',Ext F H F' H'->Xw n H'
def WPL(K:WI)(Xw:Nat->Hp->Prop)(F H:Hp)(m:M (List D))(Q:List V->Hp->Prop):Prop:=
 match m with
 |none=>False
 |some (.ok ds)=>∀vs H' F',Ext F H F' H'->DenL K F' ds vs->Q vs H'
 |some (.ex n)=>∀F' H',Ext F H F' H'->Xw n H'
def WPB(Xw:Nat->Hp->Prop)(F H:Hp)(m:M Bool)(Q:Bool->Hp->Prop):Prop:=
 match m with
 |none=>False
 |some (.ok b)=>∀H' F',Ext F H F' H'->Q b H'
 |some (.ex n)=>∀F' H',Ext F H F' H'->Xw n H'
section
variable{K:WI}{Xw:Nat->Hp->Prop}{F F' H H':Hp}{Q:VK}
def WP.ext(e:Ext F H F' H')(h:WP K Xw F H m Q):WP K Xw F' H' m Q:=by
 match m,h with
 |none,h=>exact h
 |some (.ok d),h=>exact λv H2 F2 e2 q=>h v H2 F2 (e.trans e2) q
 |some (.ex n),h=>exact λF2 H2 e2=>h F2 H2 (e.trans e2)
def WPL.ext{Q:List V->Hp->Prop}(e:Ext F H F' H')(h:WPL K Xw F H m Q):WPL K Xw F' H' m Q:=by
 match m,h with
 |none,h=>exact h
 |some (.ok d),h=>exact λv H2 F2 e2 q=>h v H2 F2 (e.trans e2) q
 |some (.ex n),h=>exact λF2 H2 e2=>h F2 H2 (e.trans e2)
def WPB.ext{Q:Bool->Hp->Prop}(e:Ext F H F' H')(h:WPB Xw F H m Q):WPB Xw F' H' m Q:=by
 match m,h with
 |none,h=>exact h
 |some (.ok d),h=>exact λH2 F2 e2=>h H2 F2 (e.trans e2)
 |some (.ex n),h=>exact λF2 H2 e2=>h F2 H2 (e.trans e2)
def WP.fin(h:WP K Xw F H (ae d) Q)(e:Ext F H F' H')(q:Den K F' d v):Q v H':=h v H' F' e q
def WP.now(h:WP K Xw F H (ae d) Q)(s:Same F H)(q:Den K F d v):Q v H:=h v H F (Ext.refl s) q
def WP.bind(h:WP K Xw F H (m>>=k) Q):WP K Xw F H m λv H1=>∃F1 d,Ext F H F1 H1/\Den K F1 d v/\WP K Xw F1 H1 (k d) Q:=by
 match m,h with
 |none,h=>exact h
 |some (.ok d),h=>exact λv H2 F2 e2 q=>⟨F2,d,e2,q,WP.ext e2 (show WP K Xw F H (k d) Q from h)⟩
 |some (.ex n),h=>exact h
def WP.bindL(h:WP K Xw F H (m>>=k) Q):WPL K Xw F H m λvs H1=>∃F1 ds,Ext F H F1 H1/\DenL K F1 ds vs/\WP K Xw F1 H1 (k ds) Q:=by
 match m,h with
 |none,h=>exact h
 |some (.ok d),h=>exact λv H2 F2 e2 q=>⟨F2,d,e2,q,WP.ext e2 (show WP K Xw F H (k d) Q from h)⟩
 |some (.ex n),h=>exact h
def WPB.bind{Q:Bool->Hp->Prop}(h:WPB Xw F H (m>>=k) Q):WP K Xw F H m λv H1=>∃F1 d,Ext F H F1 H1/\Den K F1 d v/\WPB Xw F1 H1 (k d) Q:=by
 match m,h with
 |none,h=>exact h
 |some (.ok d),h=>exact λv H2 F2 e2 q=>⟨F2,d,e2,q,WPB.ext e2 (show WPB Xw F H (k d) Q from h)⟩
 |some (.ex n),h=>exact h
def WPB.bindB{Q:Bool->Hp->Prop}(h:WPB Xw F H (m>>=k) Q):WPB Xw F H m λb H1=>∃F1,Ext F H F1 H1/\WPB Xw F1 H1 (k b) Q:=by
 match m,h with
 |none,h=>exact h
 |some (.ok d),h=>exact λH2 F2 e2=>⟨F2,e2,WPB.ext e2 (show WPB Xw F H (k d) Q from h)⟩
 |some (.ex n),h=>exact h
def WPL.bind{Q:List V->Hp->Prop}(h:WPL K Xw F H (m>>=k) Q):WP K Xw F H m λv H1=>∃F1 d,Ext F H F1 H1/\Den K F1 d v/\WPL K Xw F1 H1 (k d) Q:=by
 match m,h with
 |none,h=>exact h
 |some (.ok d),h=>exact λv H2 F2 e2 q=>⟨F2,d,e2,q,WPL.ext e2 (show WPL K Xw F H (k d) Q from h)⟩
 |some (.ex n),h=>exact h
def WPL.bindL{Q:List V->Hp->Prop}(h:WPL K Xw F H (m>>=k) Q):WPL K Xw F H m λvs H1=>∃F1 ds,Ext F H F1 H1/\DenL K F1 ds vs/\WPL K Xw F1 H1 (k ds) Q:=by
 match m,h with
 |none,h=>exact h
 |some (.ok d),h=>exact λv H2 F2 e2 q=>⟨F2,d,e2,q,WPL.ext e2 (show WPL K Xw F H (k d) Q from h)⟩
 |some (.ex n),h=>exact h
def WP.mono(h:WP K Xw F H m Q)(k:∀v H',Q v H'->Q' v H'):WP K Xw F H m Q':=by
 match m,h with
 |none,h=>exact h
 |some (.ok d),h=>exact λv H2 F2 e2 q=>k _ _ (h v H2 F2 e2 q)
 |some (.ex n),h=>exact h
def WPL.mono{Q Q':List V->Hp->Prop}(h:WPL K Xw F H m Q)(k:∀v H',Q v H'->Q' v H'):WPL K Xw F H m Q':=by
 match m,h with
 |none,h=>exact h
 |some (.ok d),h=>exact λv H2 F2 e2 q=>k _ _ (h v H2 F2 e2 q)
 |some (.ex n),h=>exact h
def WPB.mono{Q Q':Bool->Hp->Prop}(h:WPB Xw F H m Q)(k:∀v H',Q v H'->Q' v H'):WPB Xw F H m Q':=by
 match m,h with
 |none,h=>exact h
 |some (.ok d),h=>exact λH2 F2 e2=>k _ _ (h H2 F2 e2)
 |some (.ex n),h=>exact h
end
inductive C where
 |lst (l:List D) | dct (ks:List (List Key)) (l:List D) | dci (ks:List Key) (l:List D)
def C.d:C->D
 | .lst ds=> .lst ds
 | .dct ks ds=> .dct ks ds
 | .dci ks ds=> .dci ks ds
inductive Sl where
 |fz (d:D) | ow (c:C)
abbrev cQ:=List (Option Sl)
def DenC(K:WI)(F:Hp):C->HO->Prop
 | .lst ds,o=>∃vs,o= .lst vs/\DenL K F ds vs/\ds.length<=lim
 | .dct ks ds,o=>∃vs,o= .dT (ks.zip vs)/\DenL K F ds vs/\ks.length=ds.length/\ds.length<=lim
 | .dci ks ds,o=>∃vs,o= .dK (ks.zip vs)/\DenL K F ds vs/\ks.length=ds.length/\ds.length<=lim
def DenC.mono{K:WI}(e:Same F F'):∀{c:C}{o:HO},DenC K F c o->DenC K F' c o
 | .lst _,_,⟨vs,h1,h2,h3⟩=>⟨vs,h1,DenL.mono e h2,h3⟩
 | .dct _ _,_,⟨vs,h1,h2,h3⟩=>⟨vs,h1,DenL.mono e h2,h3⟩
 | .dci _ _,_,⟨vs,h1,h2,h3⟩=>⟨vs,h1,DenL.mono e h2,h3⟩
def DenC.notup{K:WI}:∀{c:C}{o:HO},DenC K F c o->∀ts,o≠ .tup ts
 | .lst _,_,⟨_,h1,_⟩,ts,z=>by rw[h1] at z;cases z
 | .dct _ _,_,⟨_,h1,_⟩,ts,z=>by rw[h1] at z;cases z
 | .dci _ _,_,⟨_,h1,_⟩,ts,z=>by rw[h1] at z;cases z
def ph(ob:Obj):HO->HO
 | .dT aB=> .frz ob (.dT aB)
 | .dK aB=> .frz ob (.dK aB)
 |o=>o
def DenC.den{K:WI}:∀{c:C}{o:HO},DenC K F c o->Same F F'->F' a=some (ph ob o)->Den K F' c.d (.ref a)
 | .lst _,_,⟨vs,h1,h2,h3⟩,e,q=>by subst h1;exact⟨a,vs,rfl,q,DenL.mono e h2,h3⟩
 | .dct _ _,_,⟨vs,h1,h2,h3⟩,e,q=>by subst h1;exact⟨a,ob,vs,rfl,q,DenL.mono e h2,h3⟩
 | .dci _ _,_,⟨vs,h1,h2,h3⟩,e,q=>by subst h1;exact⟨a,ob,vs,rfl,q,DenL.mono e h2,h3⟩
def DenO(K:WI)(F H:Hp):Sl->V->Prop
 | .fz d,v=>Den K F d v
 | .ow c,v=>∃a o,v= .ref a/\H a=some o/\F a=none/\DenC K F c o
structure StE (K:WI) (F H:Hp) (σ:St) (ρ:cQ):Prop where
 fh:Same F H
 den:∀(i:Nat) (sl:Sl),ρ[i]? =some (some sl)->∃v,σ[i]? =some (some v)/\DenO K F H sl v
def DenO.ext{K:WI}(e:Ext F H F' H'):∀{sl:Sl}{v:V},DenO K F H sl v->DenO K F' H' sl v
 | .fz _,_,h=>Den.mono e.ff h
 | .ow _,_,⟨a,o,h1,h2,h3,h4⟩=>⟨a,o,h1,e.hh _ _ h2,by rw[e.old h2 h4.notup];exact h3,DenC.mono e.ff h4⟩
def StE.ext{K:WI}(s:StE K F H σ ρ)(e:Ext F H F' H'):StE K F' H' σ ρ:=
 ⟨e.fh,λi sl q=>let ⟨v,h1,h2⟩:=s.den i sl q;⟨v,h1,h2.ext e⟩⟩
abbrev DE:=cQ->M D
abbrev DT:=cQ->M Bool
abbrev DA:=cQ->M (List D)
def tD(K:WI)(Xw:Nat->Hp->Prop)(δ:DE):TE:=λσ H Q=>∃F ρ,StE K F H σ ρ/\WP K Xw F H (δ ρ) Q
def Sn(K:WI)(Xw:Nat->Hp->Prop)(δ:DT):TT:=λσ H Q=>∃F ρ,StE K F H σ ρ/\WPB Xw F H (δ ρ) Q
def T2(K:WI)(Xw:Nat->Hp->Prop)(δ:DA):TA:=λσ H Q=>∃F ρ,StE K F H σ ρ/\WPL K Xw F H (δ ρ) Q
def PD(X:Cx)(Xw:Nat->Hp->Prop)(e:Expr)(δ:DE):Prop:=PE X e (tD X.K Xw δ)
def pL(X:Cx)(Xw:Nat->Hp->Prop)(e:Expr)(δ:DT):Prop:=PT X e (Sn X.K Xw δ)
def jz(X:Cx)(Xw:Nat->Hp->Prop)(es:List Expr)(δ:DA):Prop:=PA X es (T2 X.K Xw δ)
def PE.weak(h:PE X e t)(k:∀σ H Q,t' σ H Q->t σ H Q):PE X e t':=λf8 s σ H Q I w=>h f8 s σ H Q I (k σ H Q w)
def PT.weak(h:PT X e t)(k:∀σ H Q,t' σ H Q->t σ H Q):PT X e t':=λf8 s σ H Q I w=>h f8 s σ H Q I (k σ H Q w)
def PA.weak(h:PA X e t)(k:∀σ H Q,t' σ H Q->t σ H Q):PA X e t':=λpos f8 s σ H Q I w=>h pos f8 s σ H Q I (k σ H Q w)
def dV(i:Nat):DE:=λρ=>match ρ[i]? with
 |some (some (.fz d))=>ae d
 |_=>ag
def dC(d:D):DE:=λ_=>ae d
def d1(g:D->M D)(a:DE):DE:=λρ=>a ρ>>=g
def d2(g:D->D->M D)(a b:DE):DE:=λρ=>a ρ>>=λx=>b ρ>>=λy=>g x y
def aN:DA:=λ_=>ae []
def aC(a:DE)(r:DA):DA:=λρ=>a ρ>>=λx=>r ρ>>=λxs=>ae (x::xs)
def dA(g:List D->M D)(a:DA):DE:=λρ=>a ρ>>=g
def Ed:D->M Bool
 | .bl b=>ae b
 |_=>ag
def cW(a:DE):DT:=λρ=>a ρ>>=Ed
def lq(a b:DT):DT:=λρ=>a ρ>>=λx=>if x then b ρ else ae false
def pe(a b:DT):DT:=λρ=>a ρ>>=λx=>if x then ae true else b ρ
def e9(a:DT):DT:=λρ=>a ρ>>=λx=>ae (!x)
def fU(a b:DE):DE:=λρ=>a ρ>>=λx=>Ed x>>=λc=>if c then b ρ else ae (.bl false)
def HB(a b:DE):DE:=λρ=>a ρ>>=λx=>Ed x>>=λc=>if c then ae (.bl true) else b ρ
def JU(a:DE):DE:=λρ=>a ρ>>=λx=>Ed x>>=λc=>ae (.bl (!c))
section
variable{X:Cx}{Xw:Nat->Hp->Prop}{a b:Expr}{δa δb:DE}{pos:Pos}
def af(h:PE X (.Name x pos) (rZ i)):PD X Xw (.Name x pos) (dV i):=PE.weak h λσ H Q ⟨F,ρ,s,w⟩=>by
 unfold dV at w;split at w
 ·rename_i d e;obtain⟨v,h1,h2⟩:=s.den i _ e;exact⟨v,h1,WP.now w s.fh h2⟩
 ·exact w.elim
def iM(h:PE X e (tC v))(hd:∀F,Den X.K F d v):PD X Xw e (dC d):=PE.weak h λσ H Q ⟨F,ρ,s,w⟩=>WP.now w s.fh (hd F)
def ak:PD X Xw (.Constant (.int i) j pos) (dC (.int i)):=iM Mj λ_=>rfl
def h9:PD X Xw (.Constant (.bool i) j pos) (dC (.bl i)):=iM O2 λ_=>rfl
def wc:PD X Xw (.Constant .none j pos) (dC .non):=iM Mk λ_=>rfl
def eU(h:x.length<=lim:=by decide):PD X Xw (.Constant (.str x) j pos) (dC (.str x)):=iM Mn λ_=>⟨rfl,h⟩
def xi(K:WI)(r:R2)(g:D->D->M D):Prop:=∀(Xw:Nat->Hp->Prop) (F H:Hp) (x y:V) (dx dy:D) (Q:VK),Same F H->Den K F dx x->Den K F dy y->WP K Xw F H (g dx dy) Q->r x y H Q
def wW(hg:xi X.K r g):∀σ H Q,tD X.K Xw (d2 g δa δb) σ H Q->Pz r (tD X.K Xw δa) (tD X.K Xw δb) σ H Q:=λσ H Q ⟨F,ρ,s,w⟩=>by
 refine⟨F,ρ,s,WP.mono (WP.bind w) λv H1 ⟨F1,d,e1,q1,w1⟩=>?_⟩;refine⟨F1,ρ,s.ext e1,WP.mono (WP.bind w1) λu H2 ⟨F2,d',e2,q2,w2⟩=>?_⟩;exact hg Xw F2 H2 v u d d' Q e2.fh (Den.mono e2.ff q1) q2 w2
def oO(ho:OpR X (ZY op) r)(hg:xi X.K r g)(ha:PD X Xw a δa)(hb:PD X Xw b δb):PD X Xw (.BinOp a op b pos) (d2 g δa δb):=
 PE.weak (O3 ho ha hb) (wW hg)
def AI(ho:OpR X (XB op) r)(hg:xi X.K r g)(ha:PD X Xw a δa)(hb:PD X Xw b δb)(hm:XJ op b=false:=by first | exact FR _ | rfl):PD X Xw (.Compare a [op] [b] pos) (d2 g δa δb):=
 PE.weak (Jb ho ha hb hm) (wW hg)
def gf(ho:OpR X (XB op) r)(hg:xi X.K r g)(ha:PD X Xw a δa)(hb:PD X Xw b δb)(hm:XJ op b=false:=by first | exact FR _ | rfl):pL X Xw (.Compare a [op] [b] pos) (cW (d2 g δa δb)):=
 PT.weak (Jp ho ha hb hm) λσ H Q ⟨F,ρ,s,w⟩=>by
  refine wW hg σ H _ ⟨F,ρ,s,WP.mono (WPB.bind w) λv H1 ⟨F1,d,e1,q1,w1⟩=>?_⟩;cases d with
  |bl k=>exact⟨k,q1,w1 _ _ (Ext.refl e1.fh)⟩
  |_=>exact w1.elim
def B3(hr:Nq X r)(hg:xi X.K r g)(ha:PD X Xw a δa)(hb:PD X Xw b δb)(hs:iS b:=by intro _ _;rfl):PD X Xw (.Subscript a b pos) (d2 g δa δb):=
 PE.weak (Ki hr ha hb hs) (wW hg)
def ah:jz X Xw [] aN:=PA.weak rB λσ H Q ⟨F,ρ,s,w⟩=>w [] H F (Ext.refl s.fh) rfl
def aa(ha:PD X Xw a δa)(hr:jz X Xw es δs)(hs:WS (a::es) X.env=(false,eval a X.env)::WS es X.env:=by rfl):jz X Xw (a::es) (aC δa δs):=
 PA.weak (kx ha hr hs) λσ H Q ⟨F,ρ,s,w⟩=>by
  refine⟨F,ρ,s,WP.mono (WPL.bind w) λv H1 ⟨F1,d,e1,q1,w1⟩=>?_⟩;refine⟨F1,ρ,s.ext e1,WPL.mono (WPL.bindL w1) λvs H2 ⟨F2,ds,e2,q2,w2⟩=>?_⟩;exact w2 _ _ _ (Ext.refl e2.fh) (.cons (Den.mono e2.ff q1) q2)
def aS(ds:List D):M D:=if ds.length<=lim then ae (.tup ds) else ag
def bS(ds:List D):M D:=if ds.length<=lim then ae (.lst ds) else ag
def Aq{f:List D->D}(w:WP X.K Xw F H (if ds.length<=lim then ae (f ds) else ag) Q):ds.length<=lim/\WP X.K Xw F H (ae (f ds)) Q:=by
 split at w
 ·rename_i h;exact⟨h,w⟩
 ·exact w.elim
def bA(h:jz X Xw es δs):PD X Xw (.Tuple es x1 pos) (dA aS δs):=PE.weak (Mo h) λσ H Q ⟨F,ρ,s,w⟩=>by
 refine⟨F,ρ,s,WPL.mono (WP.bindL w) λvs H1 ⟨F1,ds,e1,q1,w1⟩=>?_⟩;obtain⟨hl,w1⟩:=Aq w1;have hv:=q1.len;refine⟨by have:=eA;omega,λp hp=>WP.fin w1 (Ext.lay e1.fh hp) ⟨p,vs,rfl,aP,DenL.mono (Ext.lay e1.fh hp).ff q1,hl⟩⟩
def dj(h:jz X Xw es δs):PD X Xw (.List es pos) (dA bS δs):=PE.weak (AL h) λσ H Q ⟨F,ρ,s,w⟩=>by
 refine⟨F,ρ,s,WPL.mono (WP.bindL w) λvs H1 ⟨F1,ds,e1,q1,w1⟩=>?_⟩;obtain⟨hl,w1⟩:=Aq w1;have hv:=q1.len;refine⟨by have:=eA;omega,λp hp=>WP.fin w1 (Ext.lay e1.fh hp) ⟨p,vs,rfl,aP,DenL.mono (Ext.lay e1.fh hp).ff q1,hl⟩⟩
end
def ItD(K:WI)(F:Hp)(J:It)(ds:List D):Prop:=∀(F' H':Hp) (i:Nat),Same F F'->Same F' H'->
 (∀d,ds[i]? =some d->J.go i H'/\∀x H'',J.yld i H' x H''->∃F'',Ext F' H' F'' H''/\Den K F'' d x)/\(ds.length<=i->J.stop i H')
def ItD.mono{K:WI}(h:ItD K F J ds)(e:Same F F1):ItD K F1 J ds:=λF' H' i s1 s2=>h F' H' i (e.trans s1) s2
def WPI(K:WI)(Xw:Nat->Hp->Prop)(F H:Hp)(m:M (List D))(R:It->Hp->Prop):Prop:=
 match m with
 |none=>False
 |some (.ok ds)=>∀J H' F',Ext F H F' H'->ItD K F' J ds->R J H'
 |some (.ex n)=>∀F' H',Ext F H F' H'->Xw n H'
def V8(K:WI)(Xw:Nat->Hp->Prop)(δ:DA):TI:=λσ H R=>∃F ρ,StE K F H σ ρ/\WPI K Xw F H (δ ρ) R
def Bb(X:Cx)(Xw:Nat->Hp->Prop)(tg iter:Expr)(δ:DA):Prop:=PI X tg iter (V8 X.K Xw δ)
def PI.weak{X:Cx}(h:PI X tg e t)(k:∀σ H Q,t' σ H Q->t σ H Q):PI X tg e t':=λf8 s σ H Q I w=>h f8 s σ H Q I (k σ H Q w)
def WPI.bind{K:WI}(h:WPI K Xw F H (m>>=k) R):
 WP K Xw F H m λv H1=>∃F1 d,Ext F H F1 H1/\Den K F1 d v/\WPI K Xw F1 H1 (k d) R:=by
 match m,h with
 |none,h=>exact h
 |some (.ok d),h=>
  refine λv H2 F2 e2 q=>⟨F2,d,e2,q,?_⟩
  have h:WPI K Xw F H (k d) R:=h;show WPI K Xw F2 H2 (k d) R
  match k d,h with
  |none,h=>exact h
  |some (.ok ds),h=>exact λJ H3 F3 e3 q3=>h J H3 F3 (e2.trans e3) q3
  |some (.ex n),h=>exact λF3 H3 e3=>h F3 H3 (e2.trans e3)
 |some (.ex n),h=>exact h
def WPI.bindL{K:WI}(h:WPI K Xw F H (m>>=k) R):
 WPL K Xw F H m λv H1=>∃F1 d,Ext F H F1 H1/\DenL K F1 d v/\WPI K Xw F1 H1 (k d) R:=by
 match m,h with
 |none,h=>exact h
 |some (.ok d),h=>
  refine λv H2 F2 e2 q=>⟨F2,d,e2,q,?_⟩
  have h:WPI K Xw F H (k d) R:=h;show WPI K Xw F2 H2 (k d) R
  match k d,h with
  |none,h=>exact h
  |some (.ok ds),h=>exact λJ H3 F3 e3 q3=>h J H3 F3 (e2.trans e3) q3
  |some (.ex n),h=>exact λF3 H3 e3=>h F3 H3 (e2.trans e3)
 |some (.ex n),h=>exact h
def lstM:D->M (List D)
 | .lst ds=>ae ds
 |_=>ag
def Sz:D->M (List D)
 | .tup ds=>ae ds
 |_=>ag
def bX(a:DE):DA:=λρ=>a ρ>>=lstM
def pd(a:DE):DA:=λρ=>a ρ>>=Sz
def Fq{K:WI}(h:SqL K F a vs)(hd:DenL K F ds vs):ItD K F (QA K a) ds:=λF' H' i s1 s2=>by
 have hs:=Same.seq s2 (Same.seq s1 h);refine⟨λd e=>?_,λhl=>⟨vs,hs,by rw[<-hd.len];exact hl⟩⟩;obtain⟨v,e1,q⟩:=hd.get e;refine⟨⟨vs,v,hs,e1⟩,λx H'' y=>?_⟩;obtain⟨e2,y⟩:=y;subst e2;have:=y vs hs;rw[e1] at this;cases this;exact⟨F',Ext.refl s2,Den.mono s1 q⟩
def Ij{K:WI}(h:SqT K F a vs)(hd:DenL K F ds vs):ItD K F (QB K a) ds:=λF' H' i s1 s2=>by
 have hs:=Same.tup s2 (Same.tup s1 h);refine⟨λd e=>?_,λhl=>⟨vs,hs,by rw[<-hd.len];exact hl⟩⟩;obtain⟨v,e1,q⟩:=hd.get e;refine⟨⟨vs,v,hs,e1⟩,λx H'' y=>?_⟩;obtain⟨e2,y⟩:=y;subst e2;have:=y vs hs;rw[e1] at this;cases this;exact⟨F',Ext.refl s2,Den.mono s1 q⟩
def iP(lo:Int)(n:Nat):List D:=(W8 n).map λ(i:Nat)=>D.int (lo+(i:Int))
def t6{K:WI}{F:Hp}(lo:Int)(n:Nat):ItD K F (Np lo n) (iP lo n):=λF' H' i s1 s2=>by
 refine⟨λd e=>?_,λhl=>show n<=i by simpa[iP] using hl⟩;unfold iP at e;rw[WT] at e;have hi:i<n:=by
  by_cases hi:i<n
  ·exact hi
  ·rw[ZO (by simpa using hi)] at e;cases e
 rw[aaT hi] at e;cases e;refine⟨hi,λx H'' y=>?_⟩;obtain⟨e2,y⟩:=y;subst e2 y;exact⟨F',Ext.refl s2,rfl⟩
section
variable{X:Cx}{Xw:Nat->Hp->Prop}{tg l:Expr}{δ:DE}{pos:Pos}
def aY(h:PD X Xw l δ):Bb X Xw tg l (bX δ):=PI.weak (Jd h) λσ H R ⟨F,ρ,s,w⟩=>by
 refine⟨F,ρ,s,WP.mono (WPI.bind w) λv H1 ⟨F1,d,e1,q1,w1⟩=>?_⟩;cases d with
 |lst ds=>
  obtain⟨a,vs,h1,h2,h3,h4⟩:=q1;exact⟨a,h1,⟨vs,Same.seq e1.fh (SqL.of h2)⟩,w1 _ _ _ (Ext.refl e1.fh) (Fq (SqL.of h2) h3)⟩
 |_=>exact w1.elim
def mI(h:PD X Xw l δ):Bb X Xw tg l (pd δ):=PI.weak (Ms h) λσ H R ⟨F,ρ,s,w⟩=>by
 refine⟨F,ρ,s,WP.mono (WPI.bind w) λv H1 ⟨F1,d,e1,q1,w1⟩=>?_⟩;cases d with
 |tup ds=>
  obtain⟨a,vs,h1,h2,h3,h4⟩:=q1;exact⟨a,h1,⟨vs,Same.tup e1.fh (SqT.of h2)⟩,w1 _ _ _ (Ext.refl e1.fh) (Ij (SqT.of h2) h3)⟩
 |_=>exact w1.elim
def fJ:List D->M (List D)
 |[.int j]=>if -4096<=j/\j<=4096 then ae (iP 0 j.toNat) else ag
 |_=>ag
def uJ:List D->M (List D)
 |[.int i, .int j]=>if (-4096<=i/\i<=4096)/\(-4096<=j/\j<=4096) then ae (iP i (j - i).toNat) else ag
 |_=>ag
def DenL.one{K:WI}(h:DenL K F [d] vs):∃v,vs=[v]/\Den K F d v:=by
 obtain⟨v,r,h1,h2,h3⟩:=h;cases (show r=[] from h3);exact⟨v,h1,h2⟩
def DenL.two{K:WI}(h:DenL K F [d,d'] vs):∃v v',vs=[v,v']/\Den K F d v/\Den K F d' v':=by
 obtain⟨v,r,h1,h2,h3⟩:=h;obtain⟨v',h4,h5⟩:=h3.one;subst h4;exact⟨v,v',h1,h2,h5⟩
def cM{a:Expr}(hg:Gl X "range")(hm:X.mg "range"=none)(ha:jz X Xw [a] δs)(hs:WS [a] X.env=[(false,eval a X.env)]:=by rfl):Bb X Xw tg (.Call (.Name "range" p) [a] [] pos) (λρ=>δs ρ>>=fJ):=
 PI.weak (DR hg hm ha hs) λσ H R ⟨F,ρ,s,w⟩=>by
  refine⟨F,ρ,s,WPL.mono (WPI.bindL w) λvs H1 ⟨F1,ds,e1,q1,w1⟩=>?_⟩;unfold fJ at w1;split at w1
  ·rename_i j;obtain⟨v,h1,h2⟩:=q1.one;cases (show v=_ from h2);split at w1
   ·exact⟨j,h1,by omega,by omega,w1 _ _ _ (Ext.refl e1.fh) (t6 0 _)⟩
   ·exact w1.elim
  ·exact w1.elim
def rH{a b:Expr}(hg:Gl X "range")(hm:X.mg "range"=none)(ha:jz X Xw [a,b] δs)(hs:WS [a,b] X.env=[(false,eval a X.env),(false,eval b X.env)]:=by rfl)
 (HY:WS [b] X.env=[(false,eval b X.env)]:=by rfl):Bb X Xw tg (.Call (.Name "range" p) [a,b] [] pos) (λρ=>δs ρ>>=uJ):=
 PI.weak (DU hg hm ha hs HY) λσ H R ⟨F,ρ,s,w⟩=>by
  refine⟨F,ρ,s,WPL.mono (WPI.bindL w) λvs H1 ⟨F1,ds,e1,q1,w1⟩=>?_⟩;unfold uJ at w1;split at w1
  ·rename_i i j;obtain⟨v,v',h1,h2,h3⟩:=q1.two;cases (show v=_ from h2);cases (show v'=_ from h3);split at w1
   ·exact⟨i,j,h1,⟨by omega,by omega,by omega,by omega⟩,w1 _ _ _ (Ext.refl e1.fh) (t6 i _)⟩
   ·exact w1.elim
  ·exact w1.elim
end
def b6(tg N:List Str):List Str:=N.map λy=>if tg.contains y then y++(" ":Str) else y
def kO(X:Cx)(scope:Scope)(tn:List Str)(f8:List (Addr×Obj))(cl:List (Str×Addr))(C:Addr)(fp:List Addr)(v4:WC)(H:Hp):Cx:=
 {X with N:=tn++b6 tn X.N,adQ:=v4,adP:=H,env:=compEnvC scope cl C X.env,outer:=X.stack,ex:=fp,fn:=λ_=>false,pn:=X.pn++f8,xe:=λ_ _=>False}
structure CompSc (X:Cx) (scope:Scope) (tn:List Str):Prop where
 kind:scope.kind= .function
 nocell:∀y∈scope.names,y.2≠ .cell
 names:∀y∈scope.names,y.2= .local->scope.names.lookup y.1=some .local
 frees:∀y∈scope.names,y.2= .free->X.env.kindOf y.1=some .cell\/X.env.kindOf y.1=some .free
 vis:∀p∈(b6 tn X.N).zip X.N,scope.names.lookup p.1=none\/(p.1=p.2/\scope.names.lookup p.1=some .free)
def ll{env:Env}:∀(names:List (Str×aan)) (u8:List (Str×Addr)),(∀y∈names,y.2= .free->∃c,env.cells.lookup y.1=some c)->
 (∀x c,u8.lookup x=some c->env.cells.lookup x=some c)->
 ∃cl,(forIn names u8 (λ(x:Str×aan) (r:List (Str×Addr))=>do
   let __x:=x
   if (__x.2==adz)=true then do let c<-cellOf env __x.1;pure (XU ((__x.1,c)::r)) else pure (XU r)):Sem (List (Str×Addr)))=pure cl/\
  (∀x c,cl.lookup x=some c->env.cells.lookup x=some c)/\(∀x c,u8.lookup x=some c->∃c',cl.lookup x=some c')/\(∀x,names.lookup x=some .free->∃c,cl.lookup x=some c)
 |[],u8,_,h2=>⟨u8,rfl,h2,λx c e=>⟨c,e⟩,λx e=>by simp at e⟩
 |(n,k)::r,u8,h1,h2=>by
  by_cases hk:k= .free
  ·subst hk;obtain⟨c,hc⟩:=h1 (n, .free) WB rfl;obtain⟨cl,e,a1,a2,a3⟩:=ll r ((n,c)::u8) (λy hy=>h1 y (Wz _ hy)) (λx c' q=>by
    rw[YF] at q;split at q
    ·rename_i hx;cases q;rw[show x=n from by simpa using hx];exact hc
    ·exact h2 x c' q)
   refine⟨cl,?_,a1,λx c' q=>?_,λx q=>?_⟩
   ·rw[abC];have:cellOf env n=pure c:=by unfold cellOf;rw[hc]
    simp only[beq_self_eq_true,if_true,this,pure_bind];exact e
   ·by_cases hx:x=n
    ·subst hx;exact a2 x c (by simp[YF])
    ·exact a2 x c' (by rw[YF,show (x==n)=false from by simpa using hx];exact q)
   ·rw[YF] at q;split at q
    ·rename_i hx;exact a2 x c (by rw[YF,hx])
    ·exact a3 x q
  ·obtain⟨cl,e,a1,a2,a3⟩:=ll r u8 (λy hy=>h1 y (Wz _ hy)) h2;refine⟨cl,?_,a1,a2,λx q=>?_⟩
   ·rw[abC];have:((k==adz)=true)=False:=by simpa using hk
    simp only[this,if_false,pure_bind];exact e
   ·rw[YF] at q;split at q
    ·cases q;exact adK rfl hk
    ·exact a3 x q
def p9{scope:Scope}(h:∀y∈scope.names,y.2= .free->∃c,env.cells.lookup y.1=some c):
 ∃cl,closureFor scope env=pure cl/\(∀x c,cl.lookup x=some c->env.cells.lookup x=some c)/\(∀x,scope.names.lookup x=some .free->∃c,cl.lookup x=some c):=by
 obtain⟨cl,e,a1,_,a3⟩:=ll scope.names [] h (λx c q=>by simp at q);refine⟨cl,?_,a1,a3⟩;unfold closureFor;show (forIn scope.names [] _>>=λr=>pure r)=_;rw[bind_pure];exact e
def noex:M α->M α
 |some (.ok a)=>some (.ok a)
 |_=>none
def d6(f:D->M (Option D)):List D->M (List D)
 |[]=>ae []
 |d::ds=>f d>>=λo=>d6 f ds>>=λr=>ae (match o with | some y=>y::r | none=>r)
def T3(n:Nat):D->M (List D):=λd=>match n,d with
 |0,d=>ae [d]
 |n, .tup ds=>if ds.length=n then ae ds else ag
 |_,_=>ag
def iB(n:Nat)(δt:DT)(δe:DE)(ρ:cQ):D->M (Option D):=λd=>
 T3 n d>>=λts=>δt (ts.map (λt=>some (Sl.fz t))++ρ)>>=λb=>if b then δe (ts.map (λt=>some (Sl.fz t))++ρ)>>=λy=>ae (some y) else ae none
def a7(n:Nat)(δi:DA)(δt:DT)(δe:DE):DE:=λρ=>δi ρ>>=λds=>noex (d6 (iB n δt δe ρ) ds)>>=bS
def bI:DT:=λ_=>ae true
def df(f:D->M (Option D))(d:D)(ds:List D):d6 f (d::ds)=(f d>>=λo=>d6 f ds>>=λr=>ae (match o with | some y=>y::r | none=>r)):=rfl
def z4(hd:ds[i]? =some d)
 (h:d6 f ds=(d6 f (ds.drop i)>>=λr=>ae (ys++r)))(hR:d6 f ds=ae R):
 ∃o,f d=ae o/\d6 f ds=(d6 f (ds.drop (i+1))>>=λr=>ae ((match o with | some y=>ys++[y] | none=>ys)++r)):=by
 have e:ds.drop i=d::ds.drop (i+1):=by
  obtain⟨hi,e⟩:=WQ.mp hd;rw[ab1 hi,e]
 rw[e,df] at h;have h':=h.symm.trans hR;obtain⟨r,h1,h2⟩:=iT h';obtain⟨o,h3,h4⟩:=iT h1;refine⟨o,h3,?_⟩;obtain⟨r',h5,h6⟩:=iT h4;rw[h5,hR];rw[<-h2,<-gh h6];show ae _=ae _;cases o with
 |none=>rfl
 |some y=>simp
def ze(x:HOk P w H h1)(s:XQ a h1 h2)(n:H a=none):HOk P w H h2:=λb o e=>by
 refine(x b o e).stay (λc v hc q=>(s.2 c ?_).trans q) (λ_ q=>q) λ_ _ q=>q;rintro rfl;rcases hc with rfl | hc
 ·rw[n] at e;cases e
 ·rw[n] at hc;cases hc
def CK(I:Nat->WC->Prop)
 (turn:∀n s,I n s->wpAny (model prog w) A (ZN it) (λr v6=>match r with
  |none=>R (.ok .next) v6
  |some v=>wpAny (model prog w) A (aaV target it v) (λ_ T1=>wpAny (model prog w) A (assign target env v) (λ_ v4=>
    wpAny (model prog w) A (forIn ifs true λc r=>if r=true then do let ok<-isTrue c env (eval c env);pure (XU ok) else pure (XU r)) (λok s₃=>
     if ok=true then wpAny (model prog w) A (eval elt env) (λx s₄=>
      wpAny (model prog w) A (call (.builtin "list.append") [u8,x]) (λ_ s₅=>∃m,m<n/\I m s₅) (ac_ (model prog w) A env λe s'=>R (.error e) s') s₄) (ac_ (model prog w) A env λe s'=>R (.error e) s') s₃
     else∃m,m<n/\I m s₃) (ac_ (model prog w) A env λe s'=>R (.error e) s') v4) (ac_ (model prog w) A env λe s'=>R (.error e) s') T1) (ac_ (model prog w) A env λe s'=>R (.error e) s') v6) (ac_ (model prog w) A env λe s'=>R (.error e) s') s)
 (n:Nat) (h:I n s):
 ZD (model prog w) A (.compLoop (.ListComp elt [⟨target,iter,ifs,0⟩] scope pos) 0 it u8 env) R s:=by
 refine codeAny_loop rfl I (λn s hI=>?_) n h;show wpAny _ A ((compTurn (.ListComp elt [⟨target,iter,ifs,0⟩] scope pos) 0 it u8 env).onRaise (λx=>do noteFrame x env;theTreesLotGoes x)) _ _ s;refine wpAny_noted ?_;rw[compTurn_list];refine Wv (wpAny_standAt (Wv (XG (turn n s hI) (λr v6 h₁=>?_) λ_ _ h'=>h')));cases r with
 |none=>exact WA h₁
 |some v=>
  refine Wv (XG h₁ (λ_ T1 h₁=>?_) λ_ _ h'=>h');refine Wv (XG h₁ (λ_ v4 h₂=>Wv (XG h₂ (λok s₃ h₃=>?_) λ_ _ h'=>h')) λ_ _ h'=>h');cases ok with
  |false=>exact WA ⟨rfl,h₃⟩
  |true=>
   exact Wv (Wv (XG h₃ (λx s₄ h₄=>Wv (XG h₄ (λ_ s₅ h₅=>WA (WA ⟨rfl,h₅⟩)) λ_ _ h'=>h')) λ_ _ h'=>h'))
def Cq(X:Cx)(tg:Expr)(n:Nat)(σ:St):Prop:=∀(f8:List (Addr×Obj)) (s:WC) (σ':St) (F H:Hp) (d:D) (ts:List D) (v:V) (u:Value),Inv X f8 σ' H s->Same F H->σ'.drop (max n 1)=σ->RelV v u->Den X.K F d v->T3 n d=ae ts->
 wpAny (model X.prog X.w) X.A (assign tg X.env u) (λ_ s'=>∃vs,Inv X f8 (vs.map some++σ) H s'/\DenL X.K F ts vs) X.xe s
def m7(X:Cx)(ifs:List Expr)(δt:DT):Prop:=∀(f8:List (Addr×Obj)) (s:WC) (σ:St) (H:Hp) (Q:Bool->Hp->Prop),Inv X f8 σ H s->Sn X.K (λ_ _=>False) δt σ H Q->
 wpAny (model X.prog X.w) X.A (forIn ifs true λc r=>if r=true then do let ok<-isTrue c X.env (eval c X.env);pure (XU ok) else pure (XU r)) (TP X f8 σ Q) X.xe s
def bE:m7 X [] bI:=λf8 s σ H Q I ⟨F,ρ,S,w⟩=>wpAny_tests_nil ⟨H,I,w H F (Ext.refl S.fh)⟩
def mQ(h:pL X (λ_ _=>False) c δ):m7 X [c] δ:=λf8 s σ H Q I w=>wpAny_tests_one (h f8 s σ H Q I w)
def StE.cons{K:WI}(s:StE K F H σ ρ)(h:DenL K F ts vs):StE K F H (vs.map some++σ) (ts.map (λt=>some (Sl.fz t))++ρ):=by
 refine⟨s.fh,λi sl e=>?_⟩;have hl:=h.len;by_cases hi:i<ts.length
 ·rw[Xh (by simpa using hi),WT] at e;cases q:ts[i]? with
  |none=>rw[q] at e;cases e
  |some t=>
   rw[q] at e;cases e;obtain⟨v,e1,e2⟩:=h.get q;exact⟨v,by rw[Xh (by simp;omega),WT,e1];rfl,e2⟩
 ·rw[Xk (by simpa using hi)] at e;obtain⟨v,e1,e2⟩:=s.den _ _ e;refine⟨v,?_,e2⟩;rw[Xk (by simp;omega)];simpa[hl] using e1
def WPB.take:WPB Xw F H (ae b) λb' H'=>b'=b/\∃F',Ext F H F' H':=λH' F' e=>⟨rfl,F',e⟩
def WP.take{K:WI}:WP K Xw F H (ae d) λv H'=>∃F',Ext F H F' H'/\Den K F' d v:=λv H' F' e q=>⟨F',e,q⟩
def nN(env:Env)(p:Str×aan):Str×aan:=if (p.2== .free&&env.scope.kind== .function&&env.kindOf p.1==some .cell) then(p.1, .cell) else(p.1,p.2)
def iq(scope:Scope)(env:Env):(relabel scope env).names=scope.names.map (nN env):=rfl
def GG(env:Env)(p:Str×aan):(nN env p).1=p.1:=by unfold nN;split<;>rfl
def i8(env:Env)(x:Str):∀ns:List (Str×aan),(ns.map (nN env)).lookup x=(ns.lookup x).map λk=>(nN env (x,k)).2
 |[]=>rfl
 |(m,k)::r=>by
  rw[WD,YF,YF];have e:nN env (m,k)=(m,(nN env (m,k)).2):=ace (GG env (m,k)) rfl;rw[e]
  dsimp only
  by_cases hx:(x==m)=true
  ·have hm:x=m:=by simpa using hx
   subst hm;rw[hx];rfl
  ·have hx:(x==m)=false:=by simpa using hx
   rw[hx];exact i8 env x r
def wx(h:scope.names.lookup x=none):(relabel scope env).names.lookup x=none:=by
 rw[iq,i8,h];rfl
def wu(hc:∀y∈scope.names,y.2≠ .cell)(h:(relabel scope env).names.lookup x=some .cell\/(relabel scope env).names.lookup x=some .free):scope.names.lookup x=some .free:=by
 rw[iq,i8] at h;cases q:scope.names.lookup x with
 |none=>rw[q] at h;rcases h with h | h<;>cases h
 |some k=>
  rw[q] at h;have hk:k≠ .cell:=hc _ (Yu q);have h:(nN env (x,k)).2= .cell\/(nN env (x,k)).2= .free:=by simpa using h
  by_cases hf:k= .free
  ·rw[hf]
  ·have:(nN env (x,k)).2=k:=by
    unfold nN;rw[adG];simp[hf]
   rw[this] at h;rcases h with h | h
   ·exact adK h hk
   ·exact adK h hf
def nO(h:scope.names.lookup x=some .free):¬(relabel scope env).names.lookup x=some .local:=by
 rw[iq,i8,h];intro z;have z:(nN env (x, .free)).2= .local:=by simpa using z
 unfold nN at z;split at z<;>cases z
structure BlockEnd (X:Cx) (f8:List (Addr×Obj)) (C:Addr) (H':Hp) (s1:WC):Prop where
 ns:∃m,s1.heap.Ns C m
 free:H' C=none
 nl:C≠X.env.locals
 nw:X.adQ.heap.objs.size<=C
 nc:∀x c,X.env.cells.lookup x=some c->c≠C
 np:∀p∈X.pn++f8,p.1≠C
def xD{RR:Value->Addr->Result->WC->Prop}
 (sc:CompSc X scope tn)(hn:tn.length=max n 1)(hc:X.calm=true)(hi:Bb X Xw tg iter δi)
 (hg:∀f8 cl C fp v4 H σ,Cq (kO X scope tn f8 cl C fp v4 H) tg n σ)
 (ht:∀f8 cl C fp v4 H,m7 (kO X scope tn f8 cl C fp v4 H) ifs δt)
 (he:∀f8 cl C fp v4 H,PD (kO X scope tn f8 cl C fp v4 H) (λ_ _=>False) elt δe)
 (I:Inv X f8 σ H s)(S:StE X.K F H σ ρ)(w:WP X.K Xw F H (a7 n δi δt δe ρ) Q)
 (cl1:∀x c,cl.lookup x=some c->X.env.cells.lookup x=some c)(MZ:∀x,scope.names.lookup x=some .free->∃c,cl.lookup x=some c)
 (UC:∀(s1:WC) (C D:Addr) (H':Hp),Inv X f8 σ H' s1->Q (.ref D) H'->BlockEnd X f8 C H' s1->RR (.ref D) C (.ok .next) s1):
 wpAny (model X.prog X.w) X.A (eval iter X.env) (λx v6=>wpAny (model X.prog X.w) X.A (pyIter x) (λit v4=>wpAny (model X.prog X.w) X.A (newList []) (λu8 s₃=>
  wpAny (model X.prog X.w) X.A (newFunctionEnv scope X.env.globals cl [] X.env.qual none .none (some X.env)) (λNx s₄=>
   ZD (model X.prog X.w) X.A (.compStart (.ListComp elt [⟨tg,iter,ifs,0⟩] scope pos) 0 it u8 {Nx with scope:=relabel scope X.env}) (RR u8 Nx.locals) s₄) X.xe s₃) X.xe v4) X.xe v6) X.xe s:=by
 refine ck (hi f8 s σ H (λJ H2=>∃F2 ds,Ext F H F2 H2/\ItD X.K F2 J ds/\WP X.K Xw F2 H2 (noex (d6 (iB n δt δe ρ) ds)>>=bS) Q) I ⟨F,ρ,S,?_⟩) λxv v6 h₁=>ck h₁ λit v4 h₂=>?_
 ·unfold a7 at w;rcases(δi ρ).cs with hq | ⟨m,hq⟩ | ⟨ds,hq⟩
  ·rw[hq] at w;exact w.elim
  ·rw[hq] at w⊢;exact w
  ·rw[hq] at w⊢;exact λJ H' F' e q=>⟨F',ds,e,q,WP.ext e w⟩
 obtain⟨ia,fp,T4,J,H2,rfl,I2,T,xl,f2,F2,ds,e2,TB,w2⟩:=h₂;obtain⟨R,hR,S7,w2⟩:∃R,d6 (iB n δt δe ρ) ds=ae R/\R.length<=lim/\WP X.K Xw F2 H2 (ae (.lst R)) Q:=by
  rcases(d6 (iB n δt δe ρ) ds).cs with hq | ⟨m,hq⟩ | ⟨R,hq⟩
  ·rw[hq] at w2;exact w2.elim
  ·rw[hq] at w2;exact w2.elim
  ·rw[hq] at w2;obtain⟨h1,h2⟩:=Aq (show WP X.K Xw F2 H2 (bS R) Q from w2);exact⟨R,hq,h1,h2⟩
 refine XX (wpAny_newFunctionEnv sc.nocell (by intro y hy;simp at hy) (λh₁ Le HZ=>?_) sc.kind)
 dsimp only at Le HZ⊢
 generalize QT:v4.heap.push {cls:= .type "list",dict:=none,data:= .seq ([]:List Value).toArray}=HL at Le HZ⊢;have hC:HL.objs.size=v4.heap.objs.size+1:=by rw[<-QT,YO]
 have CU:v4.heap.objs.size<HL.objs.size:=by rw[hC];exact Zq _
 have old:∀b o,v4.heap.get? b=some o->h₁.get? b=some o:=λb o e=>HZ.extBut b o (W4 (YX (WH e) CU)) (Wx _ (QT▸Wx _ e));have kK:h₁.get? v4.heap.objs.size=some {cls:= .type "list",data:= .seq ([]:List Value).toArray}:=HZ.extBut _ _ (W4 CU) (Wx _ (QT▸WN _ rfl));have nD:H2 v4.heap.objs.size=none:=I2.hok.fresh (WO _);have nC:H2 HL.objs.size=none:=I2.hok.fresh (Yc CU);have gC:v4.heap.get? HL.objs.size=none:=acU (Yc CU);have fl:∀b∈fp,b<v4.heap.objs.size:=λb hb=>by
  obtain⟨o,e,_⟩:=T.obj 0 _ xl b hb;exact WH e
 generalize xY:kO X scope tn f8 cl HL.objs.size fp v4 H2=X';have TV:X'.Ok:=by
  subst xY;refine⟨I2.ok.mod,sc.kind,I2.ok.glob,I2.ok.blt,Yc CU,λx y c h1 h2=>I2.ok.inj x y c (cl1 _ _ h1) (cl1 _ _ h2),λx hx=>?_,λ_ _ h=>(by cases h),I2.ok.hd,I2.ok.frames, .inl rfl,
   λb hb=>⟨W4 (YX (fl b hb) CU),λx c h=>(f2 b hb).2.2.2.2.1 x c (cl1 _ _ h)⟩,I2.bs,Xf I2.ok.bsz I2.sz,λb o e hb=>?_,λb hb z=>?_,I2.stack,I2.stkFree⟩
  ·have hx:(relabel scope X.env).names.lookup x=some .cell\/(relabel scope X.env).names.lookup x=some .free:=hx;exact MZ x (wu sc.nocell hx)
  ·rcases(f2 b hb).2.2.2.1 with z | z
   ·exact I2.ok.noex b o e z
   ·exact adK (W_ (WH (I2.ok.bs b o e).1) z) (Xz _)
  ·rcases WG.mp (I2.stkSub b z) with q | q
   ·exact(f2 b hb).2.1 q
   ·exact(f2 b hb).2.2.1 q
 have RW:∀b o,H2 b=some o->b≠v4.heap.objs.size:=λb o e=>bz e nD;have K2:∀{H':Hp},(∀b∈fp,H' b=none)->∀b∈fp,sx X' [] H' b:=λVq b hb=>by
  subst xY;refine⟨Vq b hb,W4 (YX (fl b hb) CU),λz=>TV.exfs b hb z, .inl hb,λx c h=>(f2 b hb).2.2.2.2.1 x c (cl1 _ _ h),λp hp=>?_⟩;rw[Xp] at hp;exact(f2 b hb).2.2.2.2.2 p hp
 have I0:Inv X' [] (WU (max n 1) none++σ) (upd H2 v4.heap.objs.size (.lst [])) {v4 with heap:=h₁,toks:=v4.toks+([]:List (Str×Value)).length}:=by
  subst xY;have Rn:HOk X.prog X.w (upd H2 v4.heap.objs.size (.lst [])) h₁:=I2.hok.laid old (WO _) ⟨Xq _,[],_, .nil,kK⟩;refine⟨TV,rfl,I2.bare,Un.laid old (WO _) nD,⟨_,Le,λi x v h1 h2 h3=>?_⟩,λx c h=>?_,?_,λx c h=>?_,λp hp=>?_,Rn,?_⟩
  ·by_cases hi:i<max n 1
   ·rw[Xh (by simpa using hi),Yb,adF hi] at h2;cases h2
   ·have HU:tn.length<=i:=by omega
    have h1:(tn++b6 tn X.N)[i]? =some x:=h1;rw[Xk HU] at h1;rw[Xk (by simpa using hi),aaD,<-hn] at h2;have hN:∃y,X.N[i - tn.length]? =some y/\(x,y)∈(b6 tn X.N).zip X.N:=by
     have fM:=(WQ.mp h1).1;have C9:i - tn.length<X.N.length:=by simpa[b6] using fM
     refine⟨X.N[i - tn.length],Wy C9,?_⟩;refine acE.mpr ⟨i - tn.length,?_⟩;rw[ab0];exact⟨h1,Wy C9⟩
    obtain⟨y,hy,hm⟩:=hN;have hV:(relabel scope X.env).names.lookup x=some .local\/(relabel scope X.env).names.lookup x=some .cell\/(relabel scope X.env).names.lookup x=some .free:=h3;rcases sc.vis _ hm with HW | ⟨Ow,BA⟩
    ·have HW:scope.names.lookup x=none:=HW;have:(relabel scope X.env).names.lookup x=none:=wx HW;rw[this] at hV;rcases hV with z | z | z<;>cases z
    ·have Ow:x=y:=Ow;subst Ow;have BA:scope.names.lookup x=some .free:=BA;have hk:=sc.frees (x, .free) (Yu BA) rfl;obtain⟨m,M_,C8⟩:=I2.loc;obtain⟨u,ru,lk⟩:=C8 _ x v hy h2 (by rcases hk with z | z;exact .inr (.inl z);exact .inr (.inr z));refine⟨u,ru, .inr ⟨?_,?_⟩⟩
     ·rcases hV with z | z | z
      ·exact adK z (nO BA)
      ·exact .inl z
      ·exact .inr z
     ·rcases lk with⟨z,_⟩ | ⟨_,c,Tb,E4⟩
      ·rcases hk with q | q
       ·rw[show X.env.kindOf x=some .local from z] at q;cases q
       ·rw[show X.env.kindOf x=some .local from z] at q;cases q
      ·obtain⟨c',J3⟩:=MZ x BA;have:=cl1 _ _ J3;rw[Tb] at this;cases this;obtain⟨o,ho,hd⟩:=E4;exact⟨c,J3,o,old _ _ ho,hd⟩
  ·obtain⟨v,o,ho,hd⟩:=I2.cell x c (cl1 _ _ h);exact⟨v,o,old _ _ ho,hd⟩
  ·show upd H2 v4.heap.objs.size (.lst []) HL.objs.size=none;rw[aA (Xy CU)];exact nC
  ·have NW:=cl1 _ _ h;obtain⟨v,q⟩:=I2.cell x c NW;rw[aA (W4 q.lt)];exact I2.freeC x c NW
  ·rw[Xp] at hp;obtain⟨e,nn,ne,nf,d⟩:=I2.pin p hp;have fM:=WH e;refine⟨old _ _ e,by rw[aA (W4 fM)];exact nn,W4 (YX fM CU),λz=>?_,d⟩;rcases WG.mp (I2.stkSub p.1 z) with q | q
   ·exact ne q
   ·exact nf q
  ·show (WU (max n 1) none++σ).length=(tn++b6 tn X.N).length;rw[WL,WL,aaD,hn,show (b6 tn X.N).length=X.N.length from by simp[b6],I2.len]
 have loop:∀s₃:WC,s₃={v4 with heap:=h₁,toks:=v4.toks+([]:List (Str×Value)).length}->
  ZD (model X.prog X.w) X.A (.compLoop (.ListComp elt [⟨tg,iter,ifs,0⟩] scope pos) 0 (.ref ia) (.ref v4.heap.objs.size) (compEnvC scope cl HL.objs.size X.env))
   (RR (.ref v4.heap.objs.size) HL.objs.size) s₃:=by
  intro s₃ C_;have EM:X'.env=compEnvC scope cl HL.objs.size X.env:=by subst xY;rfl
  have hA:X'.A=X.A:=by subst xY;rfl
  have hP:X'.prog=X.prog:=by subst xY;rfl
  have hw:X'.w=X.w:=by subst xY;rfl
  have hK:X'.K=X.K:=by subst xY;rfl
  have VH:X'.xe=λ_ _=>False:=by subst xY;rfl
  have J4:X'.calm=true:=by subst xY;exact hc
  have UU:X'.fs=iy X.stack:=by subst xY;rfl
  have hex:X'.ex=fp:=by subst xY;rfl
  have Uu:X'.adP=H2:=by subst xY;rfl
  have Tt:X'.adQ=v4:=by subst xY;rfl
  have pass:∀{α:Type}{t:Sem α}{P:α->WC->Prop}{E':Value->WC->Prop}{s:WC},wpAny (model X'.prog X'.w) X'.A t P X'.xe s->wpAny (model X.prog X.w) X.A t P E' s:=λ{α t P E' s} h=>by
   rw[hP,hw,hA,VH] at h;exact XG h (λ_ _ q=>q) λ_ _ q=>q.elim
  refine CK (λm s'=>∃(i:Nat) (F' H':Hp) (vs:List V) (ys:List D) (σt:St),m=ds.length - i/\i<=ds.length/\σt.length=max n 1/\Inv X' [] (σt++σ) H' s'/\T4 i s'.heap/\(∀b∈fp,H' b=none)/\Ext F2 H2 F' H'/\
   H' v4.heap.objs.size=some (.lst vs)/\F' v4.heap.objs.size=none/\DenL X.K F' ys vs/\d6 (iB n δt δe ρ) ds=(d6 (iB n δt δe ρ) (ds.drop i)>>=λr=>ae (ys++r))) ?_ ds.length ?_
  ·rintro m s' ⟨i,F',H',vs,ys,σt,rfl,Q_,VO,I',oT,SS,z8,hD,fD,Qj,heq⟩;by_cases fM:i<ds.length
   ·
    obtain⟨d,hd⟩:∃d,ds[i]? =some d:=⟨_,Wy fM⟩
    obtain⟨Q9,Lk⟩:=(TB F' H' i z8.ff z8.fh).1 d hd;obtain⟨o,ho,N1⟩:=z4 hd heq hR;have RH:ys.length<=lim:=by
     rw[heq] at hR;obtain⟨r,_,hr⟩:=iT hR;rw[<-gh hr,WL] at S7;omega
    obtain⟨ts,VD,ho⟩:=iT ho;refine pass ?_;rw[hP,hw];refine ck (T.item X' hP hw hK J4 i [] s' (σt++σ) H' X'.xe I' (K2 SS) oT Q9) ?_;rintro r s1 ⟨u,rfl,h1⟩;refine pass ?_;rw[hP,hw];refine ck h1 ?_;rintro _ s2 ⟨x,H3,I3,rx,y3,Kn,P4⟩;obtain⟨F3,Hf,q3⟩:=Lk x H3 y3;have SX:H3 v4.heap.objs.size=some (.lst vs):=Hf.hh _ _ hD;have Ui:F3 v4.heap.objs.size=none:=by rw[Hf.old hD (λ_ z=>nomatch z)];exact fD
    have I3':=I3.pinned (K2 P4) (T.obj _ _ Kn);have BH:∀{σ7:St}{H7:Hp}{s7:WC},Inv X' ([]++rK fp s2.heap) σ7 H7 s7->T4 (i+1) s7.heap/\∀b∈fp,H7 b=none:=λ{σ7 H7 s7} I7=>
     ⟨T.keep _ _ _ Kn λb hb o e=>(I7.pin (b,o) (Xv _ (Xv _ (i9 hb e)))).1,λb hb=>by
      obtain⟨o,e,_⟩:=T.obj _ _ Kn b hb;exact(I7.pin (b,o) (Xv _ (Xv _ (i9 hb e)))).2.1⟩
    have UZ:Cq X' tg n σ:=by subst xY;exact hg _ _ _ _ _ _ _
    have VA:m7 X' ifs δt:=by subst xY;exact ht _ _ _ _ _ _
    have UQ:PD X' (λ_ _=>False) elt δe:=by subst xY;exact he _ _ _ _ _ _
    refine pass ?_;rw[<-EM];refine ck (UZ _ s2 (σt++σ) F3 H3 d ts x u I3' Hf.fh (by rw[<-VO];simp) rx (by rw[hK];exact q3) VD) ?_;rintro _ s4 ⟨vt,I4,dt⟩;rw[hK] at dt;have S4:StE X.K F3 H3 (vt.map some++σ) (ts.map (λt=>some (Sl.fz t))++ρ):=StE.cons ((S.ext e2).ext (z8.trans Hf)) dt;obtain⟨b,hb,ho⟩:=iT ho;refine pass ?_
    try rw[<-EM]
    refine ck (VA _ s4 _ H3 (λb' H5=>b'=b/\∃F5,Ext F3 H3 F5 H5) I4 ⟨F3,_,by rw[hK];exact S4,by rw[hb];exact WPB.take⟩) ?_;rintro b' s5 ⟨H5,I5,rfl,F5,KS⟩;have QR:H5 v4.heap.objs.size=some (.lst vs):=KS.hh _ _ SX;have SQ:F5 v4.heap.objs.size=none:=by rw[KS.old SX (λ_ z=>nomatch z)];exact Ui
    cases b' with
    |false=>
     rw[adG WZ] at ho⊢;obtain rfl:=gh ho;refine⟨ds.length - (i+1),by omega,i+1,F5,H5,vs,ys,vt.map some,rfl,fM,?_,I5.unpinned,(BH I5).1,(BH I5).2,z8.trans (Hf.trans KS),QR,SQ,DenL.mono (Hf.trans KS).ff Qj,N1⟩;have h1:=I5.len;have h2:=I3.len;rw[WL] at h1 h2;omega
    |true=>
     rw[adF rfl] at ho⊢;obtain⟨yv,hy,ho⟩:=iT ho;obtain rfl:=gh ho;refine pass ?_
     try rw[<-EM]
     refine ck (UQ _ s5 _ H5 (λv H6=>∃F6,Ext F5 H5 F6 H6/\Den X.K F6 yv v) I5 ⟨F5,_,by rw[hK];exact S4.ext KS,by rw[hy,hK];exact WP.take⟩) ?_;rintro xv s6 ⟨v,H6,I6,rv,F6,P2,qv⟩;have Ut:H6 v4.heap.objs.size=some (.lst vs):=P2.hh _ _ QR;have SR:F6 v4.heap.objs.size=none:=by rw[P2.old QR (λ_ z=>nomatch z)];exact SQ
     have RC:vs.length<WX:=by
      have:=Qj.len;have:=eA;omega
     refine pass ?_;refine ck (uf _ s6 _ H6 (.ref v4.heap.objs.size) [v] (.ref v4.heap.objs.size) [xv] (λ_ H7=>H7=upd H6 v4.heap.objs.size (.lst (vs++[v]))) I6 rfl (.cons rv .nil) ⟨_,vs,v,rfl,rfl,Ut,RC,rfl⟩) ?_;rintro _ s7 ⟨_,H7,I7,_,rfl⟩;have Uh:Ext F2 H2 F6 (upd H6 v4.heap.objs.size (.lst (vs++[v]))):=by
      have e:=z8.trans (Hf.trans (KS.trans P2));refine⟨λb u q=>?_,e.ff,λb u q=>?_,e.new⟩
      ·rw[aA (RW b u q)];exact e.hh b u q
      ·rw[aA (λz=>by rw[z,SR] at q;cases q)];exact e.fh b u q
     refine⟨ds.length - (i+1),by omega,i+1,F6,_,vs++[v],ys++[yv],vt.map some,rfl,fM,?_,I7.unpinned,(BH I7).1,(BH I7).2,Uh,aP,SR,
      DenL.append (DenL.mono (Hf.trans (KS.trans P2)).ff Qj) (.cons qv .nil),N1⟩
     have h1:=I5.len;have h2:=I3.len;rw[WL] at h1 h2;omega
   ·
    have hi:i=ds.length:=by omega
    subst hi;rw[List.drop_length] at heq;have UD:R=ys:=by
     rw[heq] at hR;have hR:ae (ys++[])=ae R:=hR;rw[<-gh hR,Xp]
    subst UD;refine pass ?_;rw[hP,hw];refine ck (T.done X' hP hw hK J4 ds.length [] s' (σt++σ) H' X'.xe I' (K2 SS) oT ((TB F' H' ds.length z8.ff z8.fh).2 (WO _))) ?_;rintro r s1 ⟨rfl,I1⟩;obtain⟨m,hm,_⟩:=I1.loc;rw[EM] at hm;have Ur:H' HL.objs.size=none:=by
     have:=I1.free;rw[EM] at this;exact this
    have u:=I1.base;rw[UU,hex,Uu,Tt] at u;have Oe:s1.os=v4.os:=by have:=I1.os;rw[Tt] at this;exact this
    have N3:=I1.hok;rw[hP,hw] at N3;refine UC s1 HL.objs.size v4.heap.objs.size H' (I2.call' Oe u N3 I1.bare (λb hb=>⟨(f2 b hb).2.2.2.1,(f2 b hb).2.1,(f2 b hb).2.2.2.2.1,(f2 b hb).2.2.2.2.2⟩)) ?_
     ⟨⟨m,hm⟩,Ur,Xy (YX I2.lt CU),Xf I2.sz (Yc CU),λx c q z=>?_,λp hp z=>?_⟩
    rotate_left
    ·obtain⟨v,q'⟩:=I2.cell x c q;exact adK (YX q'.lt CU) (by rw[z];exact Xz _)
    ·exact adK (YX (WH (I2.pin p hp).1) CU) (by rw[z];exact Xz _)
    refine WP.fin w2 (F':=upd F' v4.heap.objs.size (.lst vs)) ⟨z8.hh,λb u q=>?_,λb u q=>?_,λa ha=>?_⟩ ⟨_,vs,rfl,aP,DenL.mono (λb u q=>?_) Qj,S7⟩
    ·rw[aA (λz=>by have:=z8.ff b u q;rw[z,fD] at this;cases this)];exact z8.ff b u q
    ·by_cases z:b=v4.heap.objs.size
     ·rw[z,aP] at q;rw[z,hD];exact q
     ·rw[aA z] at q;exact z8.fh b u q
    ·rcases z8.new a ha with q | q
     ·exact .inl (by rw[aA (λz=>ha (by rw[z];exact nD))];exact q)
     ·exact .inr q
    ·rw[aA (λz=>by rw[z,fD] at q;cases q)];exact q
  ·rw[C_];refine⟨0,F2,_,[],[],WU (max n 1) none,by simp,Xq _,by simp,I0,T.keep _ _ _ xl (λb hb o e=>old b o e),λb hb=>?_,⟨λb u q=>?_,Same.refl _,λb u q=>?_,λ_ _=> .inl rfl⟩,aP,Same.free e2.fh nD,rfl,?_⟩
   ·rw[aA (W4 (fl b hb))];exact(f2 b hb).1
   ·rw[aA (RW b u q)];exact q
   ·rw[aA (RW b u (e2.fh b u q))];exact e2.fh b u q
   ·rw[List.drop_zero];rcases(d6 (iB n δt δe ρ) ds).cs with hq | ⟨m,hq⟩ | ⟨R,hq⟩<;>rw[hq]<;>rfl
 exact codeAny_compStart_list (loop _ rfl) (T.self X.A 0 _ _ _ (T.keep _ _ _ xl (λb hb o e=>old b o e)) (loop _ rfl))
def Inv.block{C:Addr}(I:Inv X f8 σ H' s1)(b:BlockEnd X f8 C H' s1)(BB:XQ C s1.heap h'):Inv X f8 σ H' {s1 with heap:=h'}:=
 I.turned (λa o ha e=>(BB.2 a ha).trans e) b.free b.nl (.inr b.nw) b.nc b.np
section
variable{X:Cx}{Xw:Nat->Hp->Prop}{elt iter tg:Expr}{ifs:List Expr}{scope:Scope}{pos:Pos}{tn:List Str}{n:Nat}{δi:DA}{δt:DT}{δe:DE}
def cw(sc:CompSc X scope tn)(hn:tn.length=max n 1)(hc:X.calm=true)(hi:Bb X Xw tg iter δi)
 (hg:∀f8 cl C fp v4 H σ,Cq (kO X scope tn f8 cl C fp v4 H) tg n σ)
 (ht:∀f8 cl C fp v4 H,m7 (kO X scope tn f8 cl C fp v4 H) ifs δt)
 (he:∀f8 cl C fp v4 H,PD (kO X scope tn f8 cl C fp v4 H) (λ_ _=>False) elt δe)
 (hs:∀x,aaz iter X.env x=pure x:=by intro _;rfl):
 PD X Xw (.ListComp elt [⟨tg,iter,ifs,0⟩] scope pos) (a7 n δi δt δe):=by
 intro f8 s σ H Q I ⟨F,ρ,S,w⟩;obtain⟨cl,E5,cl1,MZ⟩:=p9 λy hy hf=>I.ok.has y.1 (sc.frees y hy hf);rw[eval_ListComp];refine acX rfl hs E5 sc.kind sc.names (xD (RR:=λu8 C=>compPost (model X.prog X.w) X.A X.xe none (EP X f8 σ Q) u8 C) sc hn hc hi hg ht he I S w cl1 MZ λs1 C D H' I1 q b=>?_);obtain⟨m,hm⟩:=b.ns;exact⟨m,hm,λh' BB=>⟨.ref D,H',Inv.block I1 b BB,rfl,q⟩⟩
end
inductive Out where
 |nx (ρ:cQ) | rt (d:D)
abbrev DS:=cQ->M Out
structure StOk (K:WI) (s0 adP F H:Hp) (σ:St) (ρ:cQ):Prop where
 ext:Ext s0 adP F H
 st:StE K F H σ ρ
 len:ρ.length=σ.length
 own:∀(i:Nat) (c:C) (a:Addr),ρ[i]? =some (some (.ow c))->σ[i]? =some (some (.ref a))->adP a=none
 sep:∀(i j:Nat) (c c':C) (a:Addr),ρ[i]? =some (some (.ow c))->ρ[j]? =some (some (.ow c'))->σ[i]? =some (some (.ref a))->σ[j]? =some (some (.ref a))->i=j
def WPS(K:WI)(Xw:Nat->Hp->Prop)(s0 adP:Hp)(m:M Out)(Dn:Ends):Prop:=
 match m with
 |none=>False
 |some (.ok (.nx ρ))=>∀σ F H,StOk K s0 adP F H σ ρ->Dn.nx σ H
 |some (.ok (.rt d))=>∀v F H,Ext s0 adP F H->Den K F d v->Dn.rt v H
 |some (.ex n)=>∀F H,Ext s0 adP F H->Xw n H
def tS(K:WI)(Xw:Nat->Hp->Prop)(s0 adP:Hp)(τ:DS):TS:=λDn σ H=>∃F ρ,StOk K s0 adP F H σ ρ/\WPS K Xw s0 adP (τ ρ) Dn
def iR(X:Cx)(Xw:Nat->Hp->Prop)(st:Stmt)(τ:DS):Prop:=∀s0 adP,PS X st (tS X.K Xw s0 adP τ)
def PSDs(X:Cx)(Xw:Nat->Hp->Prop)(st:List Stmt)(τ:DS):Prop:=∀s0 adP,PSs X st (tS X.K Xw s0 adP τ)
def PS.weak{st:Stmt}(h:PS X st t)(k:∀D σ H,t' D σ H->t D σ H):PS X st t':=λf8 s σ H D I w=>h f8 s σ H D I (k D σ H w)
def PSs.weak{st:List Stmt}(h:PSs X st t)(k:∀D σ H,t' D σ H->t D σ H):PSs X st t':=λf8 s σ H D I w=>h f8 s σ H D I (k D σ H w)
section
variable{K:WI}{s0 adP F H F' H':Hp}{σ:St}{ρ:cQ}
def StOk.ext'(s:StOk K s0 adP F H σ ρ)(e:Ext F H F' H'):StOk K s0 adP F' H' σ ρ:=⟨s.ext.trans e,s.st.ext e,s.len,s.own,s.sep⟩
def StOk.set(s:StOk K s0 adP F H σ ρ){d:D}(h:Den K F d v):StOk K s0 adP F H (σ.set i (some v)) (ρ.set i (some (.fz d))):=by
 have hl:=s.len;have get:∀(j:Nat) (sl:Sl),(ρ.set i (some (.fz d)))[j]? =some (some sl)->(j=i/\i<ρ.length/\sl= .fz d)\/(j≠i/\ρ[j]? =some (some sl)):=λj sl e=>by
  by_cases hj:j=i
  ·subst hj;have hi:j<ρ.length:=by
    have:=(WQ.mp e).1;simpa using this
   rw[W2 hi] at e;cases e;exact .inl ⟨rfl,hi,rfl⟩
  ·rw[WW (XD hj)] at e;exact .inr ⟨hj,e⟩
 refine⟨s.ext,⟨s.st.fh,λj sl e=>?_⟩,by simp[hl],λj c a e e'=>?_,λj k c c' a e1 e2 e3 e4=>?_⟩
 ·rcases get j sl e with⟨rfl,hi,rfl⟩ | ⟨hj,e⟩
  ·exact⟨v,by rw[W2 (by omega)],h⟩
  ·obtain⟨u,h1,h2⟩:=s.st.den j sl e;exact⟨u,by rw[WW (XD hj)];exact h1,h2⟩
 ·rcases get j _ e with⟨_,_,z⟩ | ⟨hj,e⟩
  ·cases z
  ·rw[WW (XD hj)] at e';exact s.own j c a e e'
 ·rcases get j _ e1 with⟨_,_,z⟩ | ⟨hj,e1⟩
  ·cases z
  ·rcases get k _ e2 with⟨_,_,z⟩ | ⟨hk,e2⟩
   ·cases z
   ·rw[WW (XD hj)] at e3;rw[WW (XD hk)] at e4;exact s.sep j k c c' a e1 e2 e3 e4
def StOk.setNew(s:StOk K s0 adP F H σ ρ){o:HO}(n:H a=none)(h:DenC K F c₀ o):
 StOk K s0 adP F (upd H a o) (σ.set i (some (.ref a))) (ρ.set i (some (.ow c₀))):=by
 have hle:=s.len;have e0:=Ext.free (o:=o) s.st.fh n;have nF:F a=none:=Same.free s.st.fh n;have get:∀(j:Nat) (sl:Sl),(ρ.set i (some (.ow c₀)))[j]? =some (some sl)->(j=i/\i<ρ.length/\sl= .ow c₀)\/(j≠i/\ρ[j]? =some (some sl)):=λj sl e=>by
  by_cases hj:j=i
  ·subst hj;have hi:j<ρ.length:=by
    have:=(WQ.mp e).1;simpa using this
   rw[W2 hi] at e;cases e;exact .inl ⟨rfl,hi,rfl⟩
  ·rw[WW (XD hj)] at e;exact .inr ⟨hj,e⟩
 have old:∀(j:Nat) (c:C) (b:Addr),ρ[j]? =some (some (.ow c))->σ[j]? =some (some (.ref b))->b≠a:=λj c b e e' z=>by
  obtain⟨u,h1,b',o,h2,h3,_⟩:=s.st.den j _ e;rw[h1] at e';cases e';cases h2;rw[z,n] at h3;cases h3
 refine⟨s.ext.trans e0,⟨e0.fh,λj sl e=>?_⟩,by simp[hle],λj c b e e'=>?_,λj k c c' b e1 e2 e3 e4=>?_⟩
 ·rcases get j sl e with⟨rfl,hi,rfl⟩ | ⟨hj,e⟩
  ·exact⟨.ref a,by rw[W2 (by omega)],a,_,rfl,aP,nF,h⟩
  ·obtain⟨u,h1,h2⟩:=s.st.den j sl e;exact⟨u,by rw[WW (XD hj)];exact h1,h2.ext e0⟩
 ·rcases get j _ e with⟨rfl,hi,_⟩ | ⟨hj,e⟩
  ·rw[W2 (by omega)] at e';cases e';exact Same.free s.ext.hh n
  ·rw[WW (XD hj)] at e';exact s.own j c b e e'
 ·rcases get j _ e1 with⟨rfl,hi,_⟩ | ⟨hj,e1⟩
  ·rw[W2 (by omega)] at e3;cases e3;rcases get k _ e2 with⟨rfl,_,_⟩ | ⟨hk,e2⟩
   ·rfl
   ·rw[WW (XD hk)] at e4;exact adK rfl (old k c' a e2 e4)
  ·rcases get k _ e2 with⟨Rg,hi,_⟩ | ⟨hk,e2⟩
   ·rw[Rg,W2 (by omega)] at e4;cases e4;rw[WW (XD hj)] at e3;exact adK rfl (old j c a (by assumption) e3)
   ·rw[WW (XD hj)] at e3;rw[WW (XD hk)] at e4;exact s.sep j k c c' b e1 e2 e3 e4
def StOk.chg(s:StOk K s0 adP F H σ ρ){c c₀:C}(hi:ρ[i]? =some (some (.ow c)))(ha:σ[i]? =some (some (.ref a)))(h:DenC K F c₀ o₀):
 StOk K s0 adP F (upd H a o₀) σ (ρ.set i (some (.ow c₀))):=by
 have hle:=s.len;have h0:=s.own i c a hi ha;obtain⟨u,q1,a',o,q2,q3,q4,q5⟩:=s.st.den i _ hi;rw[ha] at q1;cases q1;cases q2;have C7:i<ρ.length:=(WQ.mp hi).1;have get:∀(j:Nat) (sl:Sl),(ρ.set i (some (.ow c₀)))[j]? =some (some sl)->(j=i/\sl= .ow c₀)\/(j≠i/\ρ[j]? =some (some sl)):=λj sl e=>by
  by_cases hj:j=i
  ·subst hj;rw[W2 C7] at e;cases e;exact .inl ⟨rfl,rfl⟩
  ·rw[WW (XD hj)] at e;exact .inr ⟨hj,e⟩
 have fh:Same F (upd H a o₀):=λb o e=>by
  rw[aA (λz=>by rw[z,q4] at e;cases e)];exact s.st.fh b o e
 refine⟨⟨λb o e=>?_,s.ext.ff,fh,s.ext.new⟩,⟨fh,λj sl e=>?_⟩,by simp[hle],λj c' b e e'=>?_,λj k c1 c2 b e1 e2 e3 e4=>?_⟩
 ·rw[aA (λz=>by rw[z,h0] at e;cases e)];exact s.ext.hh b o e
 ·rcases get j sl e with⟨rfl,rfl⟩ | ⟨hj,e⟩
  ·exact⟨.ref a,ha,a,_,rfl,aP,q4,h⟩
  ·obtain⟨u,h1,h2⟩:=s.st.den j sl e;refine⟨u,h1,?_⟩;cases sl with
   |fz d=>exact h2
   |ow c'=>
    obtain⟨b,o',r1,r2,r3,r4⟩:=h2;refine⟨b,o',r1,?_,r3,r4⟩;rw[aA (λz=>hj (s.sep j i c' c a e hi (by rw[h1,r1,z]) ha))];exact r2
 ·rcases get j _ e with⟨rfl,_⟩ | ⟨hj,e⟩
  ·rw[ha] at e';cases e';exact h0
  ·exact s.own j c' b e e'
 ·have k1:∃c,ρ[j]? =some (some (.ow c)):=by
   rcases get j _ e1 with⟨rfl,_⟩ | ⟨_,e⟩
   ·exact⟨c,hi⟩
   ·exact⟨_,e⟩
  have k2:∃c,ρ[k]? =some (some (.ow c)):=by
   rcases get k _ e2 with⟨rfl,_⟩ | ⟨_,e⟩
   ·exact⟨c,hi⟩
   ·exact⟨_,e⟩
  obtain⟨_,k1⟩:=k1;obtain⟨_,k2⟩:=k2;exact s.sep j k _ _ b k1 k2 e3 e4
def frz(i:Nat)(ρ:cQ):cQ:=match ρ[i]? with
 |some (some (.ow c))=>ρ.set i (some (.fz c.d))
 |_=>ρ
def StOk.frz(s:StOk K s0 adP F H σ ρ)(i:Nat)(obj:Addr->Obj):(∃a o,H a=some o/\DenC K F (ρ[i]?.elim (.lst []) λx=>x.elim (.lst []) λy=>match y with | .ow c=>c | _=> .lst []) o/\σ[i]? =some (some (.ref a))/\StOk K s0 adP (upd F a (ph (obj a) o)) (upd H a (ph (obj a) o)) σ (frz i ρ))\/frz i ρ=ρ:=by
 unfold L3.frz;split
 ·rename_i c₀ hi;have hle:=s.len;obtain⟨u,ha,a,o,rfl,q3,q4,Tf⟩:=s.st.den i _ hi;refine .inl ⟨a,o,q3,by rw[hi];exact Tf,ha,?_⟩;have h0:=s.own i _ a hi ha;have C7:i<ρ.length:=(WQ.mp hi).1;have ff:Same F (upd F a (ph (obj a) o)):=λb o e=>by rw[aA (λz=>by rw[z,q4] at e;cases e)];exact e
  have fh:Same (upd F a (ph (obj a) o)) (upd H a (ph (obj a) o)):=λb o e=>by
   by_cases z:b=a
   ·rw[z,aP] at e⊢;exact e
   ·rw[aA z] at e⊢;exact s.st.fh b o e
  have get:∀(j:Nat) (sl:Sl),(ρ.set i (some (.fz c₀.d)))[j]? =some (some sl)->(j=i/\sl= .fz c₀.d)\/(j≠i/\ρ[j]? =some (some sl)):=λj sl e=>by
   by_cases hj:j=i
   ·subst hj;rw[W2 C7] at e;cases e;exact .inl ⟨rfl,rfl⟩
   ·rw[WW (XD hj)] at e;exact .inr ⟨hj,e⟩
  refine⟨⟨λb u q=>?_,s.ext.ff.trans ff,fh,λb hb=>?_⟩,⟨fh,λj sl e=>?_⟩,by simp[hle],λj c' b e e'=>?_,λj k c1 c2 b e1 e2 e3 e4=>?_⟩
  ·rw[aA (λz=>by rw[z,h0] at q;cases q)];exact s.ext.hh b u q
  ·rcases s.ext.new b hb with q | q
   ·exact .inl (by rw[aA (λz=>hb (by rw[z];exact h0))];exact q)
   ·exact .inr q
  ·rcases get j sl e with⟨rfl,rfl⟩ | ⟨hj,e⟩
   ·exact⟨.ref a,ha,DenC.den Tf ff aP⟩
   ·obtain⟨u,h1,h2⟩:=s.st.den j sl e;refine⟨u,h1,?_⟩;cases sl with
    |fz d=>exact Den.mono ff h2
    |ow c'=>
     obtain⟨b,o',r1,r2,r3,r4⟩:=h2;have g6:b≠a:=λz=>hj (s.sep j i c' _ a e hi (by rw[h1,r1,z]) ha);exact⟨b,o',r1,by rw[aA g6];exact r2,by rw[aA g6];exact r3,DenC.mono ff r4⟩
  ·rcases get j _ e with⟨_,z⟩ | ⟨hj,e⟩
   ·cases z
   ·exact s.own j c' b e e'
  ·rcases get j _ e1 with⟨_,z⟩ | ⟨_,e1⟩
   ·cases z
   ·rcases get k _ e2 with⟨_,z⟩ | ⟨_,e2⟩
    ·cases z
    ·exact s.sep j k _ _ b e1 e2 e3 e4
 ·exact .inr rfl
end
def join(F H:Hp):Hp:=λa=>match F a with
 |some o=>some o
 |none=>H a
def StOk.rebase{K:WI}{s0 adP F H:Hp}(s:StOk K s0 adP F H σ ρ):StOk K F (join F adP) F H σ ρ/\∀F' H',Ext F (join F adP) F' H'->Ext s0 adP F' H':=by
 have hj:Same (join F adP) H:=λb o e=>by
  unfold join at e;cases q:F b with
  |some u=>rw[q] at e;cases e;exact s.st.fh b _ q
  |none=>rw[q] at e;exact s.ext.hh b o e
 have h0:Same adP (join F adP):=λb o e=>by
  unfold join;cases q:F b with
  |some u=>
   have h1:=s.st.fh b u q;rw[s.ext.hh b o e] at h1;exact h1.symm
  |none=>exact e
 refine⟨⟨⟨hj,Same.refl _,s.st.fh,λ_ _=> .inl rfl⟩,s.st,s.len,λi c a e e'=>?_,s.sep⟩,λF' H' x=>⟨h0.trans x.hh,s.ext.ff.trans x.ff,x.fh,λa ha=>?_⟩⟩
 ·have h1:=s.own i c a e e';obtain⟨v,q1,a',o,q2,q3,q4,_⟩:=s.st.den i _ e;rw[e'] at q1;cases q1;cases q2;unfold join;rw[q4];exact h1
 ·have:join F adP a≠none:=by
   cases q:adP a with
   |none=>exact adK q ha
   |some o=>rw[h0 a o q];exact λz=>nomatch z
  rcases s.ext.new a ha with p | p
  ·rcases x.new a this with q | ⟨ts,q⟩
   ·exact .inl (q.trans p)
   ·cases z:adP a with
    |none=>exact adK z ha
    |some o=>
     rw[h0 a o z] at q;exact .inr ⟨ts,q⟩
  ·exact .inr p
def StOk.unbase{K:WI}{s0 adP F U F' H':Hp}(k:∀F' H',Ext F U F' H'->Ext s0 adP F' H')(s:StOk K F U F' H' σ ρ)(h:Same adP U):StOk K s0 adP F' H' σ ρ:=
 ⟨k _ _ s.ext,s.st,s.len,λi c a e e'=>Same.free h (s.own i c a e e'),s.sep⟩
def Dj{K:WI}{s0 adP F H:Hp}(s:StOk K s0 adP F H σ ρ):Same adP (join F adP):=λb o e=>by
 unfold join;cases q:F b with
 |some u=>
  have h1:=s.st.fh b u q;rw[s.ext.hh b o e] at h1;exact h1.symm
 |none=>exact e
def Inv.refrz(I:Inv X f8 σ H s)(e:H a=some o)
 (ho:o'=o\/∃u,o'= .frz ((s.heap.get? a).getD {cls:= .none,data:= .fields #[]}) u/\((∃k,o= .dT k/\u= .dT k)\/∃k,o= .dK k/\u= .dK k)):Inv X f8 σ (upd H a o') s:=by
 rcases ho with rfl | ⟨u,rfl,hu⟩
 ·have:upd H a o'=H:=by
   funext b;by_cases z:b=a
   ·rw[z,aP,e]
   ·rw[aA z]
  rw[this];exact I
 have Vt:o=u:=by rcases hu with⟨k,h1,h2⟩ | ⟨k,h1,h2⟩<;>rw[h1,h2]
 subst Vt;have nt:∀ts,o≠ .tup ts:=λts z=>by rcases hu with⟨k,h1,_⟩ | ⟨k,h1,_⟩<;>rw[h1] at z<;>cases z
 have nf:∀ob v,o≠ .frz ob v:=λob v z=>by rcases hu with⟨k,h1,_⟩ | ⟨k,h1,_⟩<;>rw[h1] at z<;>cases z
 have nb:∀p,o≠ .tbl p:=λp z=>by rcases hu with⟨k,h1,_⟩ | ⟨k,h1,_⟩<;>rw[h1] at z<;>cases z
 have no:∀p,o≠ .own p:=λp z=>by rcases hu with⟨k,h1,_⟩ | ⟨k,h1,_⟩<;>rw[h1] at z<;>cases z
 have ne:∀b,H b=none->b≠a:=λb hb z=>by rw[z,e] at hb;cases hb
 have hk:=I.hok a o e;have fM:=hk.lt;obtain⟨ob,Ob⟩:∃ob,s.heap.get? a=some ob:=by
  rcases hu with⟨k,h1,_⟩ | ⟨k,h1,_⟩
  ·subst h1;obtain⟨_,_,_,_,ob,_,_,q,_⟩:=hk;exact⟨ob,q⟩
  ·subst h1;obtain⟨_,_,_,_,ob,_,_,q,_⟩:=hk;exact⟨ob,q⟩
 rw[Ob];refine⟨I.ok,I.os,I.bare,⟨I.base.keep,I.base.slot,λb q h1 h2 h3=>?_,I.base.there,λb xs q=>?_,λb q1 v q=>?_,λb ps q=>?_⟩,I.loc,I.cell,?_,λx c q=>?_,λp hp=>?_,λb v q=>?_,I.len⟩
 ·have:=I.base.free b q h1 h2 h3;rw[aA (ne b this)];exact this
 ·have:=I.base.tups b xs q;rw[aA (λz=>by rw[z,e] at this;exact nt xs (Xg this))];exact this
 ·have:=I.base.frzs b q1 v q;rw[aA (λz=>by rw[z,e] at this;exact nf _ _ (Xg this))];exact this
 ·obtain⟨m,this⟩:=I.base.tbls b ps q;exact⟨m,by rw[aA (λz=>by rw[z,e] at this;exact nb _ (Xg this))];exact this⟩
 ·rw[aA (ne _ I.free)];exact I.free
 ·rw[aA (ne _ (I.freeC x c q))];exact I.freeC x c q
 ·obtain⟨h1,h2,h3⟩:=I.pin p hp;exact⟨h1,by rw[aA (ne _ h2)];exact h2,h3⟩
 ·have st:∀{c:Addr}{v:HO},ObjOk X.prog X.w H s.heap c v->ObjOk X.prog X.w (upd H a (.frz ob o)) s.heap c v:=λ{c v} k=>k.stay (λ_ _ _ q=>q)
   (λc' q=>by rw[aA (λz=>by rw[z,e] at q;exact no _ (Xg q))];exact q) λc' xs q=>by rw[aA (λz=>by rw[z,e] at q;exact nt _ (Xg q))];exact q
  by_cases z:b=a
  ·subst z;rw[show (some ob).getD _=ob from rfl,aP] at q;cases q;exact⟨Ob,st hk⟩
  ·rw[aA z] at q;exact st (I.hok b v q)
def aF(a b:DS):DS:=λρ=>a ρ>>=λo=>match o with | .nx ρ'=>b ρ' | .rt d=>ae (.rt d)
def eB:DS:=λρ=>ae (.nx ρ)
def bO(δ:DE):DS:=λρ=>δ ρ>>=λd=>ae (.rt d)
def kM(δ:DE):DS:=λρ=>δ ρ>>=λ_=>ae (.nx ρ)
def bu(i:Nat)(δ:DE):DS:=λρ=>δ ρ>>=λd=>ae (.nx (ρ.set i (some (.fz d))))
def jy(c:DT)(a b:DS):DS:=λρ=>c ρ>>=λx=>if x then a ρ else b ρ
def xk(i:Nat)(a:DS):DS:=λρ=>a (frz i ρ)
def wA(i:Nat):DS:=λρ=>ae (.nx (ρ.set i (some (.ow (.lst [])))))
def DN(ρ:cQ)(i:Nat):Option (List D):=match ρ[i]? with
 |some (some (.ow (.lst ds)))=>some ds
 |_=>none
def ur{i:Nat}(h:DN ρ i=some ds):ρ[i]? =some (some (.ow (.lst ds))):=by
 unfold DN at h;split at h
 ·rename_i ds' e;cases h;exact e
 ·cases h
def pG(i:Nat)(δ:DE):DS:=λρ=>match DN ρ i with
 |some ds=>δ ρ>>=λd=>if ds.length<lim then ae (.nx (ρ.set i (some (.ow (.lst (ds++[d])))))) else ag
 |none=>ag
def GN(i:Nat)(δ:DE):DS:=λρ=>match DN ρ i with
 |some ds=>δ ρ>>=λd=>lstM d>>=λes=>if ds.length+es.length<=lim then ae (.nx (ρ.set i (some (.ow (.lst (ds++es)))))) else ag
 |none=>ag
def forL(put:D->cQ->Option cQ)(body:DS):List D->DS
 |[],ρ=>ae (.nx ρ)
 |d::ds,ρ=>(match put d ρ with | none=>ag | some ρ1=>body ρ1>>=λo=>match o with | .nx ρ2=>forL put body ds ρ2 | .rt v=>ae (.rt v))
def putN(i:Nat):D->cQ->Option cQ:=λd ρ=>some (ρ.set i (some (.fz d)))
def cN(put:D->cQ->Option cQ)(δi:DA)(body:DS):DS:=λρ=>δi ρ>>=λds=>forL put body ds ρ
section
variable{X:Cx}{Xw:Nat->Hp->Prop}{s0 adP:Hp}{st:Stmt}{rest:List Stmt}{τ τ':DS}{e:Expr}{δ:DE}{pos:Pos}
def bN:PSDs X Xw [] eB:=λs0 adP=>PSs.weak Jn λD σ H ⟨F,ρ,s,w⟩=>w σ F H s
def aj(h1:iR X Xw st τ)(h2:PSDs X Xw rest τ'):PSDs X Xw (st::rest) (aF τ τ'):=λs0 adP=>PSs.weak (Gu (h1 s0 adP) (h2 s0 adP)) λD σ H ⟨F,ρ,s,w⟩=>by
 refine⟨F,ρ,s,?_⟩;unfold aF at w
 match τ ρ,w with
 |none,w=>exact w
 |some (.ok (.nx ρ')),w=>exact λσ' F' H' s'=>⟨F',ρ',s',w⟩
 |some (.ok (.rt d)),w=>exact w
 |some (.ex n),w=>exact w
def ar(h1:iR X Xw st τ):PSDs X Xw [st] τ:=λs0 adP=>Jo (h1 s0 adP)
def dm{i:Nat}(h:iR X Xw st τ):iR X Xw st (xk i τ):=λs0 adP f8 sh σ H D I ⟨F,ρ,s,w⟩=>by
 rcases s.frz i (λa=>(sh.heap.get? a).getD {cls:= .none,data:= .fields #[]}) with⟨a,o,ha,hc,hσ,s'⟩ | e
 ·refine h s0 adP f8 sh σ _ D (L3.Inv.refrz I ha ?_) ⟨_,_,s',w⟩;generalize (ρ[i]?.elim (C.lst []) λx=>x.elim (.lst []) λy=>match y with | .ow c=>c | _=> .lst [])=c at hc;cases c with
  |lst ds=>obtain⟨vs,rfl,_⟩:=hc;exact .inl rfl
  |dct ks ds=>obtain⟨vs,rfl,_⟩:=hc;exact .inr ⟨_,rfl, .inl ⟨_,rfl,rfl⟩⟩
  |dci ks ds=>obtain⟨vs,rfl,_⟩:=hc;exact .inr ⟨_,rfl, .inr ⟨_,rfl,rfl⟩⟩
 ·exact h s0 adP f8 sh σ H D I ⟨F,ρ,s,by unfold xk at w;rw[e] at w;exact w⟩
def aG(h:PD X Xw e δ):iR X Xw (.Return (some e) pos) (bO δ):=λs0 adP=>PS.weak (Mw h) λD σ H ⟨F,ρ,s,w⟩=>by
 refine⟨F,ρ,s.st,?_⟩;unfold bO at w
 match δ ρ,w with
 |none,w=>exact w
 |some (.ok d),w=>exact λv H' F' e' q=>w v F' H' (s.ext.trans e') q
 |some (.ex n),w=>exact λF' H' e'=>w F' H' (s.ext.trans e')
def gc(h:PD X Xw e δ)(hs:aay e none pos.line X.env=pure false:=by rfl):iR X Xw (.Expr e pos) (kM δ):=λs0 adP=>PS.weak (pS h hs) λD σ H ⟨F,ρ,s,w⟩=>by
 refine⟨F,ρ,s.st,?_⟩;unfold kM at w
 match δ ρ,w with
 |none,w=>exact w
 |some (.ok d),w=>exact λv H' F' e' q=>w σ F' H' (s.ext' e')
 |some (.ex n),w=>exact λF' H' e'=>w F' H' (s.ext.trans e')
def aL{x:Str}(hN:X.N.Nodup)(hi:X.N[i]? =some x)(hx:Loc X.env.scope x)(he:PD X Xw e δ)(hf:X.fn x=true\/X.env.scope.names.lookup x=some .local:=by first | exact .inl rfl | exact .inr rfl)
 (hs:ac7 [.Name x pos'] e pos.line X.env=pure false:=by rfl):
 iR X Xw (.Assign [.Name x pos'] e pos) (bu i δ):=λs0 adP=>PS.weak (wk he (aR hN hi hx hf) hs) λD σ H ⟨F,ρ,s,w⟩=>by
 refine⟨F,ρ,s.st,?_⟩;unfold bu at w
 match δ ρ,w with
 |none,w=>exact w
 |some (.ok d),w=>exact λv H' F' e' q=>w _ F' H' ((s.ext' e').set q)
 |some (.ex n),w=>exact λF' H' e'=>w F' H' (s.ext.trans e')
def dP(hN:X.N.Nodup)(HU:X.N[i]? =some x)(hx:Loc X.env.scope x)
 (sc:CompSc X scope tn)(hn:tn.length=max n 1)(hc:X.calm=true)(hi:Bb X Xw tg iter δi)
 (hg:∀f8 cl C fp v4 H σ,Cq (kO X scope tn f8 cl C fp v4 H) tg n σ)
 (ht:∀f8 cl C fp v4 H,m7 (kO X scope tn f8 cl C fp v4 H) ifs δt)
 (he:∀f8 cl C fp v4 H,PD (kO X scope tn f8 cl C fp v4 H) (λ_ _=>False) elt δe)
 (hf:X.fn x=true\/X.env.scope.names.lookup x=some .local:=by first | exact .inl rfl | exact .inr rfl)
 (Vz:aay (.ListComp elt [⟨tg,iter,ifs,0⟩] scope a9) (some (.Name x pos')) pos.line X.env=pure true:=by rfl)
 (hs:∀x,aaz iter X.env x=pure x:=by intro _;rfl):
 iR X Xw (.Assign [.Name x pos'] (.ListComp elt [⟨tg,iter,ifs,0⟩] scope a9) pos) (bu i (a7 n δi δt δe)):=λs0 adP f8 s σ H D I ⟨F,ρ,S,w⟩=>by
 obtain⟨cl,E5,cl1,MZ⟩:=p9 λy hy hf=>I.ok.has y.1 (sc.frees y hy hf);have w':WP X.K Xw F H (a7 n δi δt δe ρ) (λv H'=>D.nx (σ.set i (some v)) H'):=by
  have w:WPS X.K Xw s0 adP (a7 n δi δt δe ρ>>=λd=>ae (.nx (ρ.set i (some (.fz d))))) D:=w
  match a7 n δi δt δe ρ,w with
  |none,w=>exact w
  |some (.ok d),w=>exact λv H' F' e' q=>w _ F' H' ((S.ext' e').set q)
  |some (.ex n),w=>exact λF' H' e'=>w F' H' (S.ext.trans e')
 rw[exec_Assign_Name_used _ _ _ _ Vz];refine Wv (wpAny_standAt (Wv ?_));show wpAny _ X.A (do let _<-comprehension (.ListComp elt [⟨tg,iter,ifs,0⟩] scope a9) scope X.env _ (newList []) false (eval iter X.env) (some (assign (.Name x pos') X.env))) _ _ s;refine Wv (XG (acX rfl hs E5 sc.kind sc.names
  (xD sc hn hc hi hg ht he I S.st w' cl1 MZ λs1 C D' H' I1 q b=>?_)) (λ_ s' hq=>WA (WA hq)) λ_ _ e=>e)
 show wpAny _ X.A (assign (.Name x pos') X.env (.ref D')) _ _ _;refine abJ (nW I1 hN HU hx (v:= .ref D') rfl (λs2 I2 ⟨a,sb,ha⟩=>?_) hf);have Uq:C≠a:=by
  rcases ha with z | z
  ·rw[z];exact b.nl
  ·exact XD (b.nc x a z)
 obtain⟨m,hm⟩:=b.ns;have M_:s2.heap.Ns C m:=hm.sameBut sb Uq;refine⟨m,M_,λh' BB=>⟨_,H',Inv.block I2 ⟨⟨m,M_⟩,b.free,b.nl,b.nw,b.nc,b.np⟩ BB,q⟩⟩
def cq{a b:List Stmt}(hc:pL X Xw c tc)(ha:PSDs X Xw a τ)(hb:PSDs X Xw b τ'):iR X Xw (.If c a b pos) (jy tc τ τ'):=λs0 adP=>PS.weak (O7 hc (ha s0 adP) (hb s0 adP)) λD σ H ⟨F,ρ,s,w⟩=>by
 refine⟨F,ρ,s.st,?_⟩;unfold jy at w
 match tc ρ,w with
 |none,w=>exact w
 |some (.ok true),w=>exact λH' F' e'=>⟨F',ρ,s.ext' e',w⟩
 |some (.ok false),w=>exact λH' F' e'=>⟨F',ρ,s.ext' e',w⟩
 |some (.ex n),w=>exact λF' H' e'=>w F' H' (s.ext.trans e')
def jg{pos' Mt:Pos}(hN:X.N.Nodup)(hi:X.N[i]? =some x)(hx:Loc X.env.scope x)(hf:X.fn x=true\/X.env.scope.names.lookup x=some .local:=by first | exact .inl rfl | exact .inr rfl):
 iR X Xw (.Assign [.Name x pos'] (.List [] Mt) pos) (wA i):=λs0 adP=>PS.weak (wk (AL rB) (aR hN hi hx hf) rfl) λD σ H ⟨F,ρ,s,w⟩=>by
 refine⟨Xq _,λp hp=>?_⟩;exact w _ F _ (s.setNew hp ⟨[],rfl,rfl,Xq _⟩)
def Em(K:WI)(g:TG)(put:D->cQ->Option cQ):Prop:=∀(s0 adP F H:Hp) (σ:St) (ρ ρ':cQ) (d:D) (v:V) (Q:St->Hp->Prop),StOk K s0 adP F H σ ρ->Den K F d v->put d ρ=some ρ'->
 (∀σ',StOk K s0 adP F H σ' ρ'->Q σ' H)->g v σ H Q
def bD{K:WI}{i:Nat}:Em K (EW i) (putN i):=λs0 adP F H σ ρ ρ' d v Q s q e k=>by
 cases e;exact k _ (s.set q)
def V_(K:WI)(Xw:Nat->Hp->Prop)(τ:DS):TS:=λD σ H=>∃s0 adP,tS K Xw s0 adP τ D σ H
def PSDs.ex{body:List Stmt}(h:PSDs X Xw body τ):PSs X body (V_ X.K Xw τ):=λf8 s σ H D I ⟨s0,adP,w⟩=>h s0 adP f8 s σ H D I w
def bC{tg iter:Expr}{body:List Stmt}(hp:PassesOwn (model X.prog X.w) X.A X.env X.xe)(hc:X.calm=true)(hi:Bb X Xw tg iter δi)(hg:PG X tg g)(Rt:Em X.K g put)(hb:PSDs X Xw body τ)
 (hs:∀x,aaz iter X.env x=pure x:=by intro _;rfl):iR X Xw (.For tg iter body [] pos) (cN put δi τ):=λs0 adP=>PS.weak (Mv hp hc hi hg hb.ex hs) λD σ H ⟨F,ρ,s,w⟩=>by
 refine⟨F,ρ,s.st,?_⟩;unfold cN at w
 match δi ρ,w with
 |none,w=>exact w
 |some (.ex n),w=>exact λF' H' e'=>w F' H' (s.ext.trans e')
 |some (.ok ds),w=>
  have w:WPS X.K Xw s0 adP (forL put τ ds ρ) D:=w;intro J H1 F1 e1 TC;obtain⟨s1,back⟩:=(s.ext' e1).rebase;have hU:=Dj (s.ext' e1);generalize join F1 adP=U at s1 back hU;refine⟨λi m σ H=>m=ds.length - i/\i<=ds.length/\∃F ρ,StOk X.K F1 U F H σ ρ/\WPS X.K Xw s0 adP (forL put τ (ds.drop i) ρ) D,⟨ds.length,by simp,Xq _,F1,ρ,s1,by simpa using w⟩,?_⟩;rintro i m σ2 H2 ⟨rfl,Q_,F2,ρ2,s2,w2⟩;by_cases fM:i<ds.length
  ·obtain⟨d,hd⟩:∃d,ds[i]? =some d:=⟨_,Wy fM⟩
   obtain⟨Q9,Lk⟩:=(TC F2 H2 i s2.ext.ff s2.st.fh).1 d hd;have ed:ds.drop i=d::ds.drop (i+1):=by
    obtain⟨hi,e⟩:=WQ.mp hd;rw[ab1 hi,e]
   rw[ed] at w2;unfold forL at w2;refine .inr ⟨Q9,λσ' H'=>∃F' ρ',StOk X.K F1 U F' H' σ' ρ'/\WPS X.K Xw s0 adP (forL put τ (ds.drop (i+1)) ρ') D,λσ' H' ⟨F',ρ',h2,h3⟩=>⟨ds.length - (i+1),by omega,rfl,fM,F',ρ',h2,h3⟩,λx H3 y3=>?_⟩;obtain⟨F3,Hf,q3⟩:=Lk x H3 y3
   match Rp:put d ρ2,w2 with
   |none,w2=>exact w2.elim
   |some ρ3,w2=>
    refine Rt F1 U F3 H3 σ2 ρ2 ρ3 d x _ (s2.ext' Hf) q3 Rp λσ3 s3=>⟨F1,U,F3,ρ3,s3,?_⟩
    have w2:WPS X.K Xw s0 adP (τ ρ3>>=λo=>match o with | .nx ρ2=>forL put τ (ds.drop (i+1)) ρ2 | .rt v=>ae (.rt v)) D:=w2
    match τ ρ3,w2 with
    |none,w2=>exact w2
    |some (.ok (.nx ρ')),w2=>exact λσ' F' H' s'=>⟨F',ρ',s',w2⟩
    |some (.ok (.rt d)),w2=>exact λv F' H' e q=>w2 v F' H' (back _ _ e) q
    |some (.ex n),w2=>exact λF' H' e=>w2 F' H' (back _ _ e)
  ·have hi:i=ds.length:=by omega
   subst hi;rw[List.drop_length] at w2;exact .inl ⟨(TC F2 H2 ds.length s2.ext.ff s2.st.fh).2 (WO _),w2 σ2 F2 H2 (s2.unbase back hU)⟩
end
def gI(f:Int->Int->D):D->D->M D
 | .int i, .int j=>ae (f i j)
 |_,_=>ag
def NO(c:Int->Int->Bool)(f:Int->Int->D):D->D->M D
 | .int i, .int j=>if c i j then ae (f i j) else ag
 |_,_=>ag
def BW{K:WI}{gd:Int->Int->D}(h:∀F i j,Den K F (gd i j) (gv i j)):xi K (DX gv) (gI gd):=λXw F H x y dx dy Q s hx hy w=>by
 unfold gI at w;split at w
 ·rename_i i j;exact⟨i,j,hx,hy,WP.now w s (h F i j)⟩
 ·exact w.elim
def AD{K:WI}{C:Int->Int->Prop}(h:∀F i j,Den K F (gd i j) (gv i j))(hc:∀i j,c i j=true->C i j):xi K (rI C gv) (NO c gd):=λXw F H x y dx dy Q s hx hy w=>by
 unfold NO at w;split at w
 ·rename_i i j;split at w
  ·rename_i P9;exact⟨i,j,hx,hy,hc i j P9,WP.now w s (h F i j)⟩
  ·exact w.elim
 ·exact w.elim
def cV:=gI λi j=> .int (i+j)
def gJ:=gI λi j=> .int (i - j)
def iV:=NO (λi j=>decide ((-(2 ^ 64)<i/\i<2 ^ 64)\/(-(2 ^ 64)<j/\j<2 ^ 64))) λi j=> .int (i*j)
def sC:=NO (λ_ j=>decide (0<j/\j<1073741824)) λi j=> .int (i / j)
def lV:=NO (λ_ j=>decide (0<j)) λi j=> .int (i % j)
def P5:=gI λi j=> .bl (decide (i<j))
section
variable{X:Cx}{Xw:Nat->Hp->Prop}{a b:Expr}{δa δb:DE}{pos:Pos}
def cb(ha:PD X Xw a δa)(hb:PD X Xw b δb):PD X Xw (.BinOp a .Add b pos) (d2 cV δa δb):=oO LX (BW λ_ _ _=>rfl) ha hb
def fR(ha:PD X Xw a δa)(hb:PD X Xw b δb):PD X Xw (.BinOp a .Sub b pos) (d2 gJ δa δb):=oO L9 (BW λ_ _ _=>rfl) ha hb
def jU(ha:PD X Xw a δa)(hb:PD X Xw b δb):PD X Xw (.BinOp a .Mult b pos) (d2 iV δa δb):=oO L6 (AD (λ_ _ _=>rfl) λi j h=>by unfold CMul;exact adL h) ha hb
def vZ(ha:PD X Xw a δa)(hb:PD X Xw b δb):PD X Xw (.BinOp a .FloorDiv b pos) (d2 sC δa δb):=oO II (AD (λ_ _ _=>rfl) λi j h=>by unfold Nk;exact adL h) ha hb
def nH(ha:PD X Xw a δa)(hb:PD X Xw b δb):PD X Xw (.BinOp a .Mod b pos) (d2 lV δa δb):=oO L5 (AD (λ_ _ _=>rfl) λi j h=>adL h) ha hb
def Kj(ha:PD X Xw a δa)(hb:PD X Xw b δb):pL X Xw (.Compare a [.Lt] [b] pos) (cW (d2 P5 δa δb)):=gf BV (BW λ_ _ _=>rfl) ha hb
def pj:D->D->M D
 | .lst ds, .int i=>match atI ds i with | some d=>ae d | none=>ag
 |_,_=>ag
def ba:D->D->M D
 | .tup ds, .int i=>match atI ds i with | some d=>ae d | none=>ag
 |_,_=>ag
def EU:D->D->M D
 | .scr ns, .int i=>match atI ns i with | some n=>ae (.int n) | none=>ag
 |_,_=>ag
def ni:D->D->M D
 | .str x, .int i=>match atI x.cps.toList i with | some c=>ae (.str ⟨#[c]⟩) | none=>ag
 |_,_=>ag
def DenL.atI{K:WI}(h:DenL K F ds vs){d:D}(e:L2.atI ds i=some d):∃v,L2.atI vs i=some v/\Den K F d v:=by
 unfold L2.atI at e⊢;rw[<-h.len];cases q:Fs ds.length i with
 |none=>rw[q] at e;cases e
 |some j=>
  rw[q] at e;exact h.get e
def IJ{K:WI}:xi K (MF K) pj:=λXw F H x y dx dy Q s hx hy w=>by
 unfold pj at w;split at w
 ·rename_i ds i;obtain⟨a,vs,h1,h2,h3,h4⟩:=hx;split at w
  ·rename_i d e;obtain⟨v,e1,q⟩:=h3.atI e;exact⟨a,vs,i,v,h1,hy,SqL.of (s _ _ h2),e1,WP.now w s q⟩
  ·exact w.elim
 ·exact w.elim
def IM{K:WI}:xi K (Pf K) ba:=λXw F H x y dx dy Q s hx hy w=>by
 unfold ba at w;split at w
 ·rename_i ds i;obtain⟨a,vs,h1,h2,h3,h4⟩:=hx;split at w
  ·rename_i d e;obtain⟨v,e1,q⟩:=h3.atI e;exact⟨a,vs,i,v,h1,hy,SqT.of (s _ _ h2),e1,WP.now w s q⟩
  ·exact w.elim
 ·exact w.elim
def IK{K:WI}:xi K (MF K) EU:=λXw F H x y dx dy Q s hx hy w=>by
 unfold EU at w;split at w
 ·rename_i ns i;obtain⟨a,h1,h2,h3⟩:=hx;split at w
  ·rename_i n e;refine⟨a,_,i, .int n,h1,hy,Same.seq s h2,?_,WP.now w s rfl⟩;unfold L2.atI at e⊢;rw[Ww];cases q:Fs ns.length i with
   |none=>rw[q] at e;cases e
   |some j=>
    rw[q] at e;have e:ns[j]? =some n:=e;show (ns.map V.int)[j]? =some (.int n);rw[WT,e];rfl
  ·exact w.elim
 ·exact w.elim
def IL{K:WI}:xi K Pe ni:=λXw F H x y dx dy Q s hx hy w=>by
 unfold ni at w;split at w
 ·rename_i z i;obtain⟨h1,h2⟩:=hx;split at w
  ·rename_i c e;exact⟨z,i,c,h1,hy,by have:=eA;omega,e,WP.now w s ⟨rfl,by show 1<=lim;decide⟩⟩
  ·exact w.elim
 ·exact w.elim
def rG(ha:PD X Xw a δa)(hb:PD X Xw b δb)(hs:iS b:=by intro _ _;rfl):PD X Xw (.Subscript a b pos) (d2 pj δa δb):=B3 vx IJ ha hb hs
def Mf(ha:PD X Xw a δa)(hb:PD X Xw b δb)(hs:iS b:=by intro _ _;rfl):PD X Xw (.Subscript a b pos) (d2 EU δa δb):=B3 vx IK ha hb hs
def bj(ha:PD X Xw a δa)(hb:PD X Xw b δb)(hs:iS b:=by intro _ _;rfl):PD X Xw (.Subscript a b pos) (d2 ba δa δb):=B3 LA IM ha hb hs
def v9(ha:PD X Xw a δa)(hb:PD X Xw b δb)(hs:iS b:=by intro _ _;rfl):PD X Xw (.Subscript a b pos) (d2 ni δa δb):=B3 Lz IL ha hb hs
def gG:D->D->M D
 | .lst x, .lst y=>if x.length+y.length<=lim then ae (.lst (x++y)) else ag
 |_,_=>ag
def EY:D->D->M D
 | .lst x, .int k=>if (0<=k/\k<=64)/\x.length*k.toNat<=lim then ae (.lst (WU k.toNat x).flatten) else ag
 |_,_=>ag
def j5(x y:Str):(x++y).length=x.length+y.length:=by
 show (x.cps++y.cps).size=_;simp[Str.length]
def mG(ha:PD X Xw a δa)(hb:PD X Xw b δb):PD X Xw (.BinOp a .Add b pos) (d2 gG δa δb):=oO LY (λXw F H x y dx dy Q s hx hy w=>by
 unfold gG at w;split at w
 ·rename_i i j;obtain⟨a,vs,h1,h2,h3,h4⟩:=hx;obtain⟨a',xm,k1,k2,k3,k4⟩:=hy;split at w
  ·rename_i hl;have e1:=h3.len;have e2:=k3.len;have:=eA;refine⟨a,a',vs,xm,h1,k1,s _ _ h2,s _ _ k2,by omega,λp hp=>?_⟩;exact WP.fin w (Ext.lay s hp) ⟨p,_,rfl,aP,DenL.mono (Ext.lay s hp).ff (h3.append k3),by rw[WL];exact hl⟩
  ·exact w.elim
 ·exact w.elim) ha hb
def DenL.rep{K:WI}{vs:List V}(h:DenL K F ds vs):∀n:Nat,DenL K F (WU n ds).flatten (WU n vs).flatten
 |0=>rfl
 |n+1=>by
  rw[Yv,Yv,Zd,Zd];exact h.append (DenL.rep h n)
def AK(ha:PD X Xw a δa)(hb:PD X Xw b δb):PD X Xw (.BinOp a .Mult b pos) (d2 EY δa δb):=oO L8 (λXw F H x y dx dy Q s hx hy w=>by
 unfold EY at w;split at w
 ·rename_i i k;obtain⟨a,vs,h1,h2,h3,h4⟩:=hx;split at w
  ·rename_i hl;obtain⟨⟨l1,l2⟩,l3⟩:=hl;have e1:=h3.len;have:=eA;refine⟨a,k,vs,h1,hy,s _ _ h2,by omega,by omega,by rw[<-e1];omega,λp hp=>?_⟩;exact WP.fin w (Ext.lay s hp) ⟨p,_,rfl,aP,DenL.mono (Ext.lay s hp).ff (h3.rep _),by rw[len_rep,acP];exact l3⟩
  ·exact w.elim
 ·exact w.elim) ha hb
end
end L3
namespace L3
open PySem PySem.Spec L2 SeqAt
open PyProof.Rows hiding St
def lM(f:D->D->Option Bool):List D->List D->Option Bool
 |[],[]=>some true
 |x::xs,y::ys=>match f x y,lM f xs ys with
  |some b,some r=>some (b&&r)
  |_,_=>none
 |[],_::_=>some false
 |_::_,[]=>some false
def z5:D->D->Option Bool
 | .non, .non=>some true
 | .bl a, .bl b=>some (a==b)
 | .bl a, .int j=>some ((if a then 1 else 0)==j)
 | .int i, .bl b=>some (i==(if b then 1 else 0))
 | .int i, .int j=>some (i==j)
 | .str x, .str y=>some (x==y)
 | .non, .bl _=>some false
 | .non, .int _=>some false
 | .non, .str _=>some false
 | .non, .lst _=>some false
 | .non, .tup _=>some false
 | .bl _, .non=>some false
 | .bl _, .str _=>some false
 | .bl _, .lst _=>some false
 | .bl _, .tup _=>some false
 | .int _, .non=>some false
 | .int _, .str _=>some false
 | .int _, .lst _=>some false
 | .int _, .tup _=>some false
 | .str _, .non=>some false
 | .str _, .bl _=>some false
 | .str _, .int _=>some false
 | .str _, .lst _=>some false
 | .str _, .tup _=>some false
 | .lst _, .non=>some false
 | .lst _, .bl _=>some false
 | .lst _, .int _=>some false
 | .lst _, .str _=>some false
 | .lst _, .tup _=>some false
 | .tup _, .non=>some false
 | .tup _, .bl _=>some false
 | .tup _, .int _=>some false
 | .tup _, .str _=>some false
 | .tup _, .lst _=>some false
 |_,_=>none
def fW:Nat->D->D->Option Bool
 |n+1, .tup xs, .tup ys=>lM (fW n) xs ys
 |n+1, .lst xs, .lst ys=>lM (fW n) xs ys
 |n+1, .scr xs, .lst ys=>lM (fW n) (xs.map D.int) ys
 |_,x,y=>z5 x y
structure EqAll (A:Xu) (s:WC) (u v:Value) (b:Bool):Prop where
 rc:RcAt A s u v b
 ne:RcNeAt A s u v (!b)
 eq:EqAt A s u v b
section
variable{X:Cx}{f8:List (Addr×Obj)}{σ:St}{F H:Hp}{s:WC}{A:Xu}
def fT(I:Inv X f8 σ H s)(hs:Same F H)(h:Den X.K F (.tup ds) v)(r:RelV v u):∃a vs aI,u= .ref a/\v= .ref a/\F a=some (.tup vs)/\DenL X.K F ds vs/\Vals vs aI/\s.heap.IsTuple a aI.toArray:=by
 obtain⟨a,vs,rfl,h2,h3,h4⟩:=h;obtain⟨aI,r1,p1,_⟩:=I.tuple (SqT.of (hs _ _ h2));exact⟨a,vs,aI,r,rfl,h2,h3,r1,p1⟩
def fi(I:Inv X f8 σ H s)(hs:Same F H)(h:Den X.K F (.lst ds) v)(r:RelV v u):∃a vs aI,u= .ref a/\v= .ref a/\F a=some (.lst vs)/\DenL X.K F ds vs/\Vals vs aI/\s.heap.IsList a aI.toArray:=by
 obtain⟨a,vs,rfl,h2,h3,h4⟩:=h;obtain⟨aI,r1,p1,_⟩:=I.list (SqL.of (hs _ _ h2));exact⟨a,vs,aI,r,rfl,h2,h3,r1,p1.isList⟩
def MJ(I:Inv X f8 σ H s)(hs:Same F H)(h:Den X.K F (.scr ns) v)(r:RelV v u):∃a aI,u= .ref a/\v= .ref a/\SqL X.K F a (ns.map V.int)/\Vals (ns.map V.int) aI/\s.heap.IsList a aI.toArray:=by
 obtain⟨a,rfl,h2,h3⟩:=h;obtain⟨aI,r1,p1,_⟩:=I.list (Same.seq hs h2);exact⟨a,aI,r,rfl,h2,r1,p1.isList⟩
def xR(I:Inv X f8 σ H s)(hs:Same F H)(hu:A.units<cLine)(hx:Den X.K F x v)(hy:Den X.K F y w)(rx:RelV v u)(ry:RelV w t)(e:z5 x y=some b):EqAll A s u t b:=by
 cases x with
 |non=>
  cases y with
  |non=>
   cases e;cases (show _=_ from hx);cases rx;cases (show _=_ from hy);cases ry;exact⟨RcAt.none_none,RcNeAt.none_none,EqAt.same _⟩
  |bl d=>
   cases e;cases (show _=_ from hx);cases rx;cases (show _=_ from hy);cases ry;exact⟨RcAt.none_bool _,RcNeAt.none_bool _,EqAt.none_bool _⟩
  |int d=>
   cases e;cases (show _=_ from hx);cases rx;cases (show _=_ from hy);obtain⟨t2,rfl⟩:=ry;exact⟨RcAt.none_int _ _,RcNeAt.none_int _ _,EqAt.none_int _ _⟩
  |str d=>
   cases e;cases (show _=_ from hx);cases rx;cases (show _=_ from hy.1);obtain⟨t2,rfl⟩:=ry;exact⟨RcAt.none_str _ _,RcNeAt.none_str _ _,EqAt.none_str _ _⟩
  |raw d=>cases e
  |dct _ _=>cases e
  |dci _ _=>cases e
  |exc d=>cases e
  |scr d=>cases e
  |tup d=>
   cases e;cases (show _=_ from hx);cases rx;obtain⟨a2,_,_,rfl,_,_,_,_,p2⟩:=fT I hs hy ry;exact⟨RcAt.none_tuple p2 hu,RcNeAt.none_tuple p2 hu,EqAt.none_tuple p2 hu⟩
  |lst d=>
   cases e;cases (show _=_ from hx);cases rx;obtain⟨a2,_,_,rfl,_,_,_,_,p2⟩:=fi I hs hy ry;exact⟨RcAt.none_list p2 hu,RcNeAt.none_list p2 hu,EqAt.none_list p2 hu⟩
 |bl c=>
  cases y with
  |non=>
   cases e;cases (show _=_ from hx);cases rx;cases (show _=_ from hy);cases ry;exact⟨RcAt.bool_none _,RcNeAt.bool_none _,EqAt.bool_none _⟩
  |bl d=>
   cases e;cases (show _=_ from hx);cases rx;cases (show _=_ from hy);cases ry;exact⟨RcAt.bool_bool _ _,RcNeAt.bool_bool _ _,EqAt.bool_bool _ _⟩
  |int d=>
   cases e;cases (show _=_ from hx);cases rx;cases (show _=_ from hy);obtain⟨t2,rfl⟩:=ry;exact⟨RcAt.bool_int _ _ _,RcNeAt.bool_int _ _ _,EqAt.bool_int _ _ _⟩
  |str d=>
   cases e;cases (show _=_ from hx);cases rx;cases (show _=_ from hy.1);obtain⟨t2,rfl⟩:=ry;exact⟨RcAt.bool_str _ _ _,RcNeAt.bool_str _ _ _,EqAt.bool_str _ _ _⟩
  |raw d=>cases e
  |dct _ _=>cases e
  |dci _ _=>cases e
  |exc d=>cases e
  |scr d=>cases e
  |tup d=>
   cases e;cases (show _=_ from hx);cases rx;obtain⟨a2,_,_,rfl,_,_,_,_,p2⟩:=fT I hs hy ry;exact⟨RcAt.bool_tuple _ p2 hu,RcNeAt.bool_tuple _ p2 hu,EqAt.bool_tuple _ p2 hu⟩
  |lst d=>
   cases e;cases (show _=_ from hx);cases rx;obtain⟨a2,_,_,rfl,_,_,_,_,p2⟩:=fi I hs hy ry;exact⟨RcAt.bool_list _ p2 hu,RcNeAt.bool_list _ p2 hu,EqAt.bool_list _ p2 hu⟩
 |int c=>
  cases y with
  |non=>
   cases e;cases (show _=_ from hx);obtain⟨t1,rfl⟩:=rx;cases (show _=_ from hy);cases ry;exact⟨RcAt.int_none _ _,RcNeAt.int_none _ _,EqAt.int_none _ _⟩
  |bl d=>
   cases e;cases (show _=_ from hx);obtain⟨t1,rfl⟩:=rx;cases (show _=_ from hy);cases ry;exact⟨RcAt.int_bool _ _ _,RcNeAt.int_bool _ _ _,EqAt.int_bool _ _ _⟩
  |int d=>
   cases e;cases (show _=_ from hx);obtain⟨t1,rfl⟩:=rx;cases (show _=_ from hy);obtain⟨t2,rfl⟩:=ry;exact⟨RcAt.int_int _ _ _ _,RcNeAt.int_int _ _ _ _,EqAt.int_int _ _ _ _⟩
  |str d=>
   cases e;cases (show _=_ from hx);obtain⟨t1,rfl⟩:=rx;cases (show _=_ from hy.1);obtain⟨t2,rfl⟩:=ry;exact⟨RcAt.int_str _ _ _ _,RcNeAt.int_str _ _ _ _,EqAt.int_str _ _ _ _⟩
  |raw d=>cases e
  |dct _ _=>cases e
  |dci _ _=>cases e
  |exc d=>cases e
  |scr d=>cases e
  |tup d=>
   cases e;cases (show _=_ from hx);obtain⟨t1,rfl⟩:=rx;obtain⟨a2,_,_,rfl,_,_,_,_,p2⟩:=fT I hs hy ry;exact⟨RcAt.int_tuple _ _ p2 hu,RcNeAt.int_tuple _ _ p2 hu,EqAt.int_tuple _ _ p2 hu⟩
  |lst d=>
   cases e;cases (show _=_ from hx);obtain⟨t1,rfl⟩:=rx;obtain⟨a2,_,_,rfl,_,_,_,_,p2⟩:=fi I hs hy ry;exact⟨RcAt.int_list _ _ p2 hu,RcNeAt.int_list _ _ p2 hu,EqAt.int_list _ _ p2 hu⟩
 |str c=>
  cases y with
  |non=>
   cases e;cases (show _=_ from hx.1);obtain⟨t1,rfl⟩:=rx;cases (show _=_ from hy);cases ry;exact⟨RcAt.str_none _ _,RcNeAt.str_none _ _,EqAt.str_none _ _⟩
  |bl d=>
   cases e;cases (show _=_ from hx.1);obtain⟨t1,rfl⟩:=rx;cases (show _=_ from hy);cases ry;exact⟨RcAt.str_bool _ _ _,RcNeAt.str_bool _ _ _,EqAt.str_bool _ _ _⟩
  |int d=>
   cases e;cases (show _=_ from hx.1);obtain⟨t1,rfl⟩:=rx;cases (show _=_ from hy);obtain⟨t2,rfl⟩:=ry;exact⟨RcAt.str_int _ _ _ _,RcNeAt.str_int _ _ _ _,EqAt.str_int _ _ _ _⟩
  |str d=>
   cases e;cases (show _=_ from hx.1);obtain⟨t1,rfl⟩:=rx;cases (show _=_ from hy.1);obtain⟨t2,rfl⟩:=ry;exact⟨RcAt.str_str _ _ _ _,RcNeAt.str_str _ _ _ _,EqAt.str_str _ _ _ _⟩
  |raw d=>cases e
  |dct _ _=>cases e
  |dci _ _=>cases e
  |exc d=>cases e
  |scr d=>cases e
  |tup d=>
   cases e;cases (show _=_ from hx.1);obtain⟨t1,rfl⟩:=rx;obtain⟨a2,_,_,rfl,_,_,_,_,p2⟩:=fT I hs hy ry;exact⟨RcAt.str_tuple _ _ p2 hu,RcNeAt.str_tuple _ _ p2 hu,EqAt.str_tuple _ _ p2 hu⟩
  |lst d=>
   cases e;cases (show _=_ from hx.1);obtain⟨t1,rfl⟩:=rx;obtain⟨a2,_,_,rfl,_,_,_,_,p2⟩:=fi I hs hy ry;exact⟨RcAt.str_list _ _ p2 hu,RcNeAt.str_list _ _ p2 hu,EqAt.str_list _ _ p2 hu⟩
 |raw _=>cases y<;>cases e
 |dct _ _=>cases y<;>cases e
 |dci _ _=>cases y<;>cases e
 |exc _=>cases y<;>cases e
 |scr c=>cases y<;>cases e
 |tup c=>
  cases y with
  |non=>
   cases e;obtain⟨a1,_,_,rfl,_,_,_,_,p1⟩:=fT I hs hx rx;cases (show _=_ from hy);cases ry;exact⟨RcAt.tuple_none p1 hu,RcNeAt.tuple_none p1 hu,EqAt.tuple_none p1 hu⟩
  |bl d=>
   cases e;obtain⟨a1,_,_,rfl,_,_,_,_,p1⟩:=fT I hs hx rx;cases (show _=_ from hy);cases ry;exact⟨RcAt.tuple_bool _ p1 hu,RcNeAt.tuple_bool _ p1 hu,EqAt.tuple_bool _ p1 hu⟩
  |int d=>
   cases e;obtain⟨a1,_,_,rfl,_,_,_,_,p1⟩:=fT I hs hx rx;cases (show _=_ from hy);obtain⟨t2,rfl⟩:=ry;exact⟨RcAt.tuple_int _ _ p1 hu,RcNeAt.tuple_int _ _ p1 hu,EqAt.tuple_int _ _ p1 hu⟩
  |str d=>
   cases e;obtain⟨a1,_,_,rfl,_,_,_,_,p1⟩:=fT I hs hx rx;cases (show _=_ from hy.1);obtain⟨t2,rfl⟩:=ry;exact⟨RcAt.tuple_str _ _ p1 hu,RcNeAt.tuple_str _ _ p1 hu,EqAt.tuple_str _ _ p1 hu⟩
  |raw d=>cases e
  |dct _ _=>cases e
  |dci _ _=>cases e
  |exc d=>cases e
  |scr d=>cases e
  |tup d=>cases e
  |lst d=>
   cases e;obtain⟨a1,_,_,rfl,_,_,_,_,p1⟩:=fT I hs hx rx;obtain⟨a2,_,_,rfl,_,_,_,_,p2⟩:=fi I hs hy ry;exact⟨RcAt.tuple_list p1 p2 hu,RcNeAt.tuple_list p1 p2 hu,EqAt.tuple_list p1 p2 hu⟩
 |lst c=>
  cases y with
  |non=>
   cases e;obtain⟨a1,_,_,rfl,_,_,_,_,p1⟩:=fi I hs hx rx;cases (show _=_ from hy);cases ry;exact⟨RcAt.list_none p1 hu,RcNeAt.list_none p1 hu,EqAt.list_none p1 hu⟩
  |bl d=>
   cases e;obtain⟨a1,_,_,rfl,_,_,_,_,p1⟩:=fi I hs hx rx;cases (show _=_ from hy);cases ry;exact⟨RcAt.list_bool _ p1 hu,RcNeAt.list_bool _ p1 hu,EqAt.list_bool _ p1 hu⟩
  |int d=>
   cases e;obtain⟨a1,_,_,rfl,_,_,_,_,p1⟩:=fi I hs hx rx;cases (show _=_ from hy);obtain⟨t2,rfl⟩:=ry;exact⟨RcAt.list_int _ _ p1 hu,RcNeAt.list_int _ _ p1 hu,EqAt.list_int _ _ p1 hu⟩
  |str d=>
   cases e;obtain⟨a1,_,_,rfl,_,_,_,_,p1⟩:=fi I hs hx rx;cases (show _=_ from hy.1);obtain⟨t2,rfl⟩:=ry;exact⟨RcAt.list_str _ _ p1 hu,RcNeAt.list_str _ _ p1 hu,EqAt.list_str _ _ p1 hu⟩
  |raw d=>cases e
  |dct _ _=>cases e
  |dci _ _=>cases e
  |exc d=>cases e
  |scr d=>cases e
  |tup d=>
   cases e;obtain⟨a1,_,_,rfl,_,_,_,_,p1⟩:=fi I hs hx rx;obtain⟨a2,_,_,rfl,_,_,_,_,p2⟩:=fT I hs hy ry;exact⟨RcAt.list_tuple p1 p2 hu,RcNeAt.list_tuple p1 p2 hu,EqAt.list_tuple p1 p2 hu⟩
  |lst d=>cases e
end
def ev(f:D->D->Option Bool)(xs ys:List D)(j:Nat):Bool:=match xs[j]?,ys[j]? with
 |some x,some y=>(f x y).getD false
 |_,_=>false
def xO:∀{xs ys:List D}{b:Bool},lM f xs ys=some b->∀(j:Nat) (x y:D),xs[j]? =some x->ys[j]? =some y->∃c,f x y=some c
 |[],_,_,_,_,_,_,h,_=>by simp at h
 |_::_,[],_,_,_,_,_,_,h=>by simp at h
 |x::xs,y::ys,b,e,j,x',y',hx,hy=>by
  unfold lM at e;split at e
  ·rename_i b1 r1 e1 e2;cases j with
   |zero=>simp at hx hy;subst hx hy;exact⟨_,e1⟩
   |succ j=>exact xO e2 j x' y' (by simpa using hx) (by simpa using hy)
  ·cases e
def vh:∀{xs ys:List D}{b:Bool},lM f xs ys=some b->b=((W8 (min xs.length ys.length)).all (ev f xs ys)&&xs.length==ys.length)
 |[],[],_,e=>by cases e;rfl
 |[],_::_,_,e=>by cases e;simp
 |_::_,[],_,e=>by cases e;simp
 |x::xs,y::ys,b,e=>by
  unfold lM at e;split at e
  ·rename_i b1 r1 e1 e2;cases e;have h:=vh e2;rw[WE,WE,Nat.succ_min_succ,aaw,Zz,Zu];have e0:ev f (x::xs) (y::ys) 0=b1:=by unfold ev;simp[e1]
   have e3:(ev f (x::xs) (y::ys)∘Nat.succ)=ev f xs ys:=by funext j;simp[ev,abE]
   have e4:(xs.length+1==ys.length+1)=(xs.length==ys.length):=by simp
   rw[e0,e3,e4,h,Bool.and_assoc]
  ·cases e
section
variable{X:Cx}{f8:List (Addr×Obj)}{σ:St}{F H:Hp}{s:WC}
def lS(h:∀x y v b,Den X.K F x v->Den X.K F y v->f x y=some b->b=true):∀{xs ys:List D}{vs:List V}{b:Bool},DenL X.K F xs vs->DenL X.K F ys vs->lM f xs ys=some b->b=true
 |[],[],_,_,_,_,e=>by cases e;rfl
 |[],_::_,_,_,h1,h2,_=>by
  cases (show _=_ from h1);obtain⟨v,r,z,_⟩:=h2;cases z
 |_::_,[],_,_,h1,h2,_=>by
  cases (show _=_ from h2);obtain⟨v,r,z,_⟩:=h1;cases z
 |x::xs,y::ys,_,b,⟨v,r,e1,q1,q2⟩,⟨v',r',e2,q3,q4⟩,e=>by
  subst e1;cases e2;unfold lM at e;split at e
  ·rename_i b1 r1 f1 f2;cases e;rw[h x y v b1 q1 q3 f1,lS h q2 q4 f2];rfl
  ·cases e
def tV(hx:Den X.K F x v)(hy:Den X.K F y v)(e:z5 x y=some b):b=true:=by
 cases x<;>cases y<;>first
  |(cases e;done)
  |(cases e;cases (show _=_ from hx);cases (show _=_ from hy);first | rfl | simp)
  |(cases e;cases (show _=_ from hx.1);cases (show _=_ from hy.1);simp)
  |(cases e;cases (show _=_ from hx);cases (show _=_ from hy.1))
  |(cases e;cases (show _=_ from hx.1);cases (show _=_ from hy))
  |(cases e;obtain⟨_,_,z,_⟩:=hx;subst z;cases (show _=_ from hy);done)
  |(cases e;obtain⟨_,_,z,_⟩:=hx;subst z;cases (show _=_ from hy.1);done)
  |(cases e;obtain⟨_,z,_⟩:=hx;subst z;cases (show _=_ from hy);done)
  |(cases e;obtain⟨_,z,_⟩:=hx;subst z;cases (show _=_ from hy.1);done)
  |(cases e;obtain⟨_,_,z,_⟩:=hy;subst z;cases (show _=_ from hx);done)
  |(cases e;obtain⟨_,_,z,_⟩:=hy;subst z;cases (show _=_ from hx.1);done)
  |(cases e;obtain⟨_,z,_⟩:=hy;subst z;cases (show _=_ from hx);done)
  |(cases e;obtain⟨_,z,_⟩:=hy;subst z;cases (show _=_ from hx.1);done)
  |(cases e;obtain⟨_,_,z,h2,_⟩:=hx;obtain⟨_,_,z',NQ,_⟩:=hy;subst z;cases z';rw[h2] at NQ;cases NQ;done)
  |(cases e;cases (show _=_ from hx);cases (show _=_ from hy);done)
  |(cases e;cases (show _=_ from hx.1);cases (show _=_ from hy.1);done)
def lR(I:Inv X f8 σ H s)(hs:Same F H):∀(n:Nat) (x y:D) (v:V) (b:Bool),Den X.K F x v->Den X.K F y v->fW n x y=some b->b=true
 |0,x,y,v,b,hx,hy,e=>tV hx hy (by unfold fW at e;exact e)
 |n+1,x,y,v,b,hx,hy,e=>by
  unfold fW at e;split at e
  ·rename_i xs ys _;obtain⟨a,vs,rfl,h2,h3,_⟩:=hx;obtain⟨a',xm,z,k2,k3,_⟩:=hy;cases z;rw[h2] at k2;cases k2;exact lS (lR I hs _) h3 k3 (by simpa using e)
  ·rename_i xs ys _;obtain⟨a,vs,rfl,h2,h3,_⟩:=hx;obtain⟨a',xm,z,k2,k3,_⟩:=hy;cases z;rw[h2] at k2;cases k2;exact lS (lR I hs _) h3 k3 (by simpa using e)
  ·rename_i xs ys _;obtain⟨a,rfl,h2,_⟩:=hx;obtain⟨a',xm,z,k2,k3,_⟩:=hy;cases z;have hv:=I.list_inj (Same.seq hs h2) (SqL.of (hs _ _ k2));rw[<-hv] at k3;exact lS (lR I hs _) (DenL.ints xs) k3 (by simpa using e)
  ·exact tV hx hy e
def Vals.at(r:Vals vs aI)(h:j<aI.toArray.size):∃v,vs[j]? =some v/\RelV v aI.toArray[j]:=by
 have hl:=r.length;have hj:j<vs.length:=by rw[WJ] at h;omega
 obtain⟨u,e1,e2⟩:=r.get (Wy hj);refine⟨vs[j],Wy hj,?_⟩;have:aI.toArray[j]=u:=by
  have:=(WQ.mp e1).2;simpa using this
 rw[this];exact e2
def pM(h1:DenL X.K F xs vs)(h2:DenL X.K F ys ws)(r1:Vals vs aI)(r2:Vals ws fZ)(e:lM f xs ys=some b)
 (ih:∀x y v w u t c,Den X.K F x v->Den X.K F y w->RelV v u->RelV w t->f x y=some c->EqAt A s u t c):
 ∀j (k1:j<aI.toArray.size) (k2:j<fZ.toArray.size),EqAt A s aI.toArray[j] fZ.toArray[j] (ev f xs ys j):=λj k1 k2=>by
 obtain⟨v,e1,q1⟩:=Vals.at r1 k1;obtain⟨w,e2,q2⟩:=Vals.at r2 k2;obtain⟨x,e3,q3⟩:=h1.at e1;obtain⟨y,e4,q4⟩:=h2.at e2;obtain⟨c,hc⟩:=xO e j x y e3 e4;have:ev f xs ys j=c:=by unfold ev;rw[e3,e4];simp[hc]
 rw[this];exact ih x y v w _ _ c q3 q4 q1 q2 hc
def ud(hu:A.units<cLine)(h1:DenL X.K F xs vs)(h2:DenL X.K F ys ws)(r1:Vals vs aI)(r2:Vals ws fZ)
 (p1:s.heap.IsList a aI.toArray)(p2:s.heap.IsList a' fZ.toArray)(e:lM f xs ys=some b)(hr:a=a'->b=true)
 (ih:∀x y v w u t c,Den X.K F x v->Den X.K F y w->RelV v u->RelV w t->f x y=some c->EqAt A.in1 s u t c):EqAll A s (.ref a) (.ref a') b:=by
 have l1:=h1.len;have l2:=h2.len;have l3:=r1.length;have l4:=r2.length;have hv:=vh e;have core:RcAt A s (.ref a) (.ref a') b/\RcNeAt A s (.ref a) (.ref a') (!b):=by
  by_cases hl:xs.length=ys.length
  ·have hsz:aI.toArray.size=fZ.toArray.size:=by rw[WJ,WJ];omega
   have hb:b=(W8 aI.toArray.size).all (ev f xs ys):=by
    rw[hv,hl,Nat.min_self,beq_self_eq_true,acg];congr 2;rw[WJ];omega
   rw[hb];exact⟨RcAt.lists p1 p2 hsz hu (pM h1 h2 r1 r2 e ih),RcNeAt.lists p1 p2 hsz hu (pM h1 h2 r1 r2 e ih)⟩
  ·have hb:b=false:=by rw[hv,show (xs.length==ys.length)=false from by simpa using hl,aaR]
   have hsz:(aI.toArray.size !=fZ.toArray.size)=true:=by
    rw[WJ,WJ];simp;omega
   rw[hb];exact⟨RcAt.lists_lengths p1 p2 hsz hu,RcNeAt.lists_lengths p1 p2 hsz hu⟩
 refine⟨core.1,core.2,?_⟩;by_cases hq:a=a'
 ·rw[hr hq];subst hq;exact EqAt.same _
 ·exact EqAt.of_refs hq core.1
def A1(hu:A.units<cLine)(h1:DenL X.K F xs vs)(h2:DenL X.K F ys ws)(r1:Vals vs aI)(r2:Vals ws fZ)
 (p1:s.heap.IsTuple a aI.toArray)(p2:s.heap.IsTuple a' fZ.toArray)(e:lM f xs ys=some b)(hr:a=a'->b=true)
 (ih:∀x y v w u t c,Den X.K F x v->Den X.K F y w->RelV v u->RelV w t->f x y=some c->EqAt A.in1 s u t c):EqAll A s (.ref a) (.ref a') b:=by
 have l1:=h1.len;have l2:=h2.len;have l3:=r1.length;have l4:=r2.length;have hb:b=((W8 (min aI.toArray.size fZ.toArray.size)).all (ev f xs ys)&&aI.toArray.size==fZ.toArray.size):=by
  rw[vh e,WJ,WJ,<-l3,<-l4,<-l1,<-l2]
 have core:RcAt A s (.ref a) (.ref a') b/\RcNeAt A s (.ref a) (.ref a') (!b):=by
  rw[hb];exact⟨RcAt.tuples p1 p2 hu (pM h1 h2 r1 r2 e ih),RcNeAt.tuples p1 p2 hu (pM h1 h2 r1 r2 e ih)⟩
 refine⟨core.1,core.2,?_⟩;by_cases hq:a=a'
 ·rw[hr hq];subst hq;exact EqAt.same _
 ·exact EqAt.of_refs hq core.1
def qd(I:Inv X f8 σ H s)(hs:Same F H):∀(n:Nat) (A:Xu) (x y:D) (v w:V) (u t:Value) (b:Bool),A.units+n<cLine->Den X.K F x v->Den X.K F y w->RelV v u->RelV w t->fW n x y=some b->EqAll A s u t b
 |0,A,x,y,v,w,u,t,b,hu,hx,hy,rx,ry,e=>xR I hs (by omega) hx hy rx ry (by unfold fW at e;exact e)
 |n+1,A,x,y,v,w,u,t,b,hu,hx,hy,rx,ry,e=>by
  have Qh:A.units<cLine:=by omega
  have VE:A.in1.units+n<cLine:=by show A.units+1+n<cLine;omega
  have hrefl:=lR I hs (n+1) x y;have ih:∀x y v w u t c,Den X.K F x v->Den X.K F y w->RelV v u->RelV w t->fW n x y=some c->EqAt A.in1 s u t c:=λx y v w u t c q1 q2 q3 q4 q5=>(qd I hs n A.in1 x y v w u t c VE q1 q2 q3 q4 q5).eq;have e0:=e;unfold fW at e;split at e
  ·rename_i xs ys heq;cases heq;obtain⟨a,vs,aI,rfl,NJ,h2,h3,r1,p1⟩:=fT I hs hx rx;obtain⟨a',xm,its',rfl,NK,k2,k3,O9,OZ⟩:=fT I hs hy ry;exact A1 Qh h3 k3 r1 O9 p1 OZ e (λz=>by subst z;exact hrefl v b hx (by rw[NJ,<-NK];exact hy) e0) ih
  ·rename_i xs ys heq;cases heq;obtain⟨a,vs,aI,rfl,NJ,h2,h3,r1,p1⟩:=fi I hs hx rx;obtain⟨a',xm,its',rfl,NK,k2,k3,O9,OZ⟩:=fi I hs hy ry;exact ud Qh h3 k3 r1 O9 p1 OZ e (λz=>by subst z;exact hrefl v b hx (by rw[NJ,<-NK];exact hy) e0) ih
  ·rename_i xs ys heq;cases heq;obtain⟨a,aI,rfl,NJ,h2,r1,p1⟩:=MJ I hs hx rx;obtain⟨a',xm,its',rfl,NK,k2,k3,O9,OZ⟩:=fi I hs hy ry;exact ud Qh (DenL.ints _) k3 r1 O9 p1 OZ e (λz=>by subst z;exact hrefl v b hx (by rw[NJ,<-NK];exact hy) e0) ih
  ·exact xR I hs Qh hx hy rx ry e
end
def lU(x y:D):M D:=match fW 6 x y with | some b=>ae (.bl b) | none=>ag
def qi(x y:D):M D:=match fW 6 x y with | some b=>ae (.bl (!b)) | none=>ag
def Pa(K:WI):R2:=λx y H Q=>∃F dx dy b,Same F H/\Den K F dx x/\Den K F dy y/\fW 6 dx dy=some b/\Q (.bl b) H
def Pj(K:WI):R2:=λx y H Q=>∃F dx dy b,Same F H/\Den K F dx x/\Den K F dy y/\fW 6 dx dy=some b/\Q (.bl (!b)) H
section
variable{X:Cx}{Xw:Nat->Hp->Prop}{a b:Expr}{δa δb:DE}{pos:Pos}
def F4(hu:X.A.units+64<cLine):OpR X (XB .Eq) (Pa X.K):=by
 intro f8 s σ H x y v u Q I rx ry h;obtain⟨F,dx,dy,b,hs,hx,hy,e,q⟩:=h;exact(qd I hs 6 X.A dx dy x y v u b (by omega) hx hy rx ry e).rc _ _ _ _ ⟨.bl b,H,I,rfl,q⟩
def L7(hu:X.A.units+64<cLine):OpR X (XB .NotEq) (Pj X.K):=by
 intro f8 s σ H x y v u Q I rx ry h;obtain⟨F,dx,dy,b,hs,hx,hy,e,q⟩:=h;exact(qd I hs 6 X.A dx dy x y v u b (by omega) hx hy rx ry e).ne _ _ _ _ ⟨.bl (!b),H,I,rfl,q⟩
def F7{K:WI}:xi K (Pa K) lU:=λXw F H x y dx dy Q s hx hy w=>by
 unfold lU at w;split at w
 ·rename_i b e;exact⟨F,dx,dy,b,s,hx,hy,e,WP.now w s rfl⟩
 ·exact w.elim
def L_{K:WI}:xi K (Pj K) qi:=λXw F H x y dx dy Q s hx hy w=>by
 unfold qi at w;split at w
 ·rename_i b e;exact⟨F,dx,dy,b,s,hx,hy,e,WP.now w s rfl⟩
 ·exact w.elim
def uB(hu:X.A.units+64<cLine)(ha:PD X Xw a δa)(hb:PD X Xw b δb):pL X Xw (.Compare a [.Eq] [b] pos) (cW (d2 lU δa δb)):=gf (F4 hu) F7 ha hb
def oP(hu:X.A.units+64<cLine)(ha:PD X Xw a δa)(hb:PD X Xw b δb):pL X Xw (.Compare a [.NotEq] [b] pos) (cW (d2 qi δa δb)):=gf (L7 hu) L_ ha hb
def yT(hu:X.A.units+64<cLine)(ha:PD X Xw a δa)(hb:PD X Xw b δb):PD X Xw (.Compare a [.Eq] [b] pos) (d2 lU δa δb):=AI (F4 hu) F7 ha hb
end
def PDW(X:Cx)(Xw:Nat->Hp->Prop)(e:Expr)(δ:DT):Prop:=PW X e (Sn X.K Xw δ)
def PW.weak(h:PW X e t)(k:∀σ H Q,t' σ H Q->t σ H Q):PW X e t':=λwh f8 s σ H Q I w=>h wh f8 s σ H Q I (k σ H Q w)
section
variable{X:Cx}{Xw:Nat->Hp->Prop}{a b c:Expr}{rest:List Expr}{δa δb δc:DE}{τa τb:DT}{pos:Pos}
def rJ(ha:pL X Xw a τa):PDW X Xw (.BoolOp .And [a] pos) τa:=Jr ha
def jf(ha:pL X Xw a τa):PDW X Xw (.BoolOp .Or [a] pos) τa:=MB ha
def pQ(ha:pL X Xw a τa)(hb:PDW X Xw (.BoolOp .And (b::rest) pos) τb):PDW X Xw (.BoolOp .And (a::b::rest) pos) (lq τa τb):=PW.weak (MA ha hb) λσ H Q ⟨F,ρ,s,w⟩=>by
 refine⟨F,ρ,s,WPB.mono (WPB.bindB w) λv H1 ⟨F1,e1,w1⟩=>?_⟩;cases v with
 |true=>exact⟨F1,ρ,s.ext e1,w1⟩
 |false=>exact w1 _ _ (Ext.refl e1.fh)
def jV(ha:pL X Xw a τa)(hb:PDW X Xw (.BoolOp .Or (b::rest) pos) τb):PDW X Xw (.BoolOp .Or (a::b::rest) pos) (pe τa τb):=PW.weak (O8 ha hb) λσ H Q ⟨F,ρ,s,w⟩=>by
 refine⟨F,ρ,s,WPB.mono (WPB.bindB w) λv H1 ⟨F1,e1,w1⟩=>?_⟩;cases v with
 |false=>exact⟨F1,ρ,s.ext e1,w1⟩
 |true=>exact w1 _ _ (Ext.refl e1.fh)
def PDW.t(h:PDW X Xw a τa):pL X Xw a τa:=PW.pt h
def fw(ha:pL X Xw a τa):pL X Xw (.UnaryOp .Not a pos) (e9 τa):=PT.weak (My ha) λσ H Q ⟨F,ρ,s,w⟩=>
 ⟨F,ρ,s,WPB.mono (WPB.bindB w) λv H1 ⟨F1,e1,w1⟩=>w1 _ _ (Ext.refl e1.fh)⟩
def G_:D->M Bool
 | .non=>ae false
 | .bl b=>ae b
 | .lst ds=>ae (!ds.isEmpty)
 | .tup ds=>ae (!ds.isEmpty)
 |_=>ag
def du(δ:DE):DT:=λρ=>δ ρ>>=G_
def DenL.isEmpty{K:WI}(h:DenL K F ds vs):ds.isEmpty=vs.isEmpty:=by
 have:=h.len;cases ds<;>cases vs<;>simp_all
def ej(ha:PD X Xw a δa)(he:∀whole,isTrue a X.env whole=(do let v<-whole;standAt a.pos;holding [v] (truthy v)):=by intro _;rfl):pL X Xw a (du δa):=PT.weak (Gx ha he) λσ H Q ⟨F,ρ,s,w⟩=>by
 refine⟨F,ρ,s,WP.mono (WPB.bind (K:=X.K) w) λv H1 ⟨F1,d,e1,q1,w1⟩=>?_⟩;cases d with
 |non=>cases (show _=_ from q1);exact⟨false,rfl,w1 _ _ (Ext.refl e1.fh)⟩
 |bl b=>cases (show _=_ from q1);exact⟨b,rfl,w1 _ _ (Ext.refl e1.fh)⟩
 |lst ds=>
  obtain⟨a,vs,rfl,h2,h3,_⟩:=q1;exact⟨!ds.isEmpty, .inl ⟨vs,SqL.of (e1.fh _ _ h2),by rw[h3.isEmpty]⟩,w1 _ _ (Ext.refl e1.fh)⟩
 |tup ds=>
  obtain⟨a,vs,rfl,h2,h3,_⟩:=q1;exact⟨!ds.isEmpty, .inr (.inl ⟨vs,SqT.of (e1.fh _ _ h2),by rw[h3.isEmpty]⟩),w1 _ _ (Ext.refl e1.fh)⟩
 |_=>exact w1.elim
def we(h:PD X Xw a δa):PD X Xw (.BoolOp op [a] pos) δa:=Mm h
def vY(ha:PD X Xw a δa)(hb:PD X Xw (.BoolOp .And (b::rest) pos) δb):PD X Xw (.BoolOp .And (a::b::rest) pos) (fU δa δb):=PE.weak (Mh ha hb) λσ H Q ⟨F,ρ,s,w⟩=>by
 refine⟨F,ρ,s,WP.mono (WP.bind w) λv H1 ⟨F1,d,e1,q1,w1⟩=>?_⟩;cases d with
 |bl k=>
  refine⟨k,q1,?_⟩;cases k with
  |true=>exact⟨F1,ρ,s.ext e1,w1⟩
  |false=>exact WP.now w1 e1.fh rfl
 |_=>exact w1.elim
def O0(ha:PD X Xw a δa)(hb:PD X Xw (.BoolOp .Or (b::rest) pos) δb):PD X Xw (.BoolOp .Or (a::b::rest) pos) (HB δa δb):=PE.weak (O4 ha hb) λσ H Q ⟨F,ρ,s,w⟩=>by
 refine⟨F,ρ,s,WP.mono (WP.bind w) λv H1 ⟨F1,d,e1,q1,w1⟩=>?_⟩;cases d with
 |bl k=>
  refine⟨k,q1,?_⟩;cases k with
  |false=>exact⟨F1,ρ,s.ext e1,w1⟩
  |true=>exact WP.now w1 e1.fh rfl
 |_=>exact w1.elim
def Mg(ha:PD X Xw a δa):PD X Xw (.UnaryOp .Not a pos) (JU δa):=PE.weak (Ml ha) λσ H Q ⟨F,ρ,s,w⟩=>by
 refine⟨F,ρ,s,WP.mono (WP.bind w) λv H1 ⟨F1,d,e1,q1,w1⟩=>?_⟩;cases d with
 |bl k=>exact⟨k,q1,WP.now w1 e1.fh rfl⟩
 |_=>exact w1.elim
def zF(p q:Int->Int->Bool)(a b c:DE):DE:=λρ=>a ρ>>=λx=>b ρ>>=λy=>match x,y with
 | .int i, .int j=>if p i j then c ρ>>=λz=>gI (λi j=> .bl (q i j)) y z else ae (.bl false)
 |_,_=>ag
def uN{p q:Int->Int->Bool}:∀σ H Q,tD X.K Xw (zF p q δa δb δc) σ H Q->AZ (DX λi j=> .bl (p i j)) (DX λi j=> .bl (q i j)) (tD X.K Xw δa) (tD X.K Xw δb) (tD X.K Xw δc) σ H Q:=λσ H Q ⟨F,ρ,s,w⟩=>by
 refine⟨F,ρ,s,WP.mono (WP.bind w) λv H1 ⟨F1,d,e1,q1,w1⟩=>?_⟩;refine⟨F1,ρ,s.ext e1,WP.mono (WP.bind w1) λu H2 ⟨F2,d',e2,q2,w2⟩=>?_⟩;cases d with
 |int i=>
  cases d' with
  |int j=>
   refine⟨i,j,q1,q2,p i j,rfl,?_⟩;have w2:WP X.K Xw F2 H2 (if p i j then δc ρ>>=λz=>gI (λi j=> .bl (q i j)) (.int j) z else ae (.bl false)) Q:=w2;cases hp:p i j with
   |false=>
    rw[hp] at w2;exact WP.now w2 e2.fh rfl
   |true=>
    rw[hp] at w2;refine⟨F2,ρ,(s.ext e1).ext e2,WP.mono (WP.bind w2) λu' H3 ⟨F3,Ua,e3,q3,w3⟩=>?_⟩;exact BW (gd:=λi j=> .bl (q i j)) (λ_ _ _=>rfl) Xw F3 H3 u u' (.int j) Ua Q e3.fh q2 q3 w3
  |_=>exact w2.elim
 |_=>exact w2.elim
def Ge(ho:OpR X (XB op) (DX λi j=> .bl (p i j)))(lX:OpR X (XB DJ) (DX λi j=> .bl (q i j)))(ha:PD X Xw a δa)(hb:PD X Xw b δb)(hc:PD X Xw c δc)
 (hm:lastMarks [op,DJ] [b,c]=false:=by with_unfolding_all rfl):PD X Xw (.Compare a [op,DJ] [b,c] pos) (zF p q δa δb δc):=PE.weak (Gk ho lX ha hb hc hm) uN
def AN(ho:OpR X (XB op) (DX λi j=> .bl (p i j)))(lX:OpR X (XB DJ) (DX λi j=> .bl (q i j)))(ha:PD X Xw a δa)(hb:PD X Xw b δb)(hc:PD X Xw c δc)
 (hm:lastMarks [op,DJ] [b,c]=false:=by with_unfolding_all rfl):pL X Xw (.Compare a [op,DJ] [b,c] pos) (cW (zF p q δa δb δc)):=PT.weak (Gv ho lX ha hb hc hm) λσ H Q ⟨F,ρ,s,w⟩=>by
 refine uN σ H _ ⟨F,ρ,s,WP.mono (WPB.bind w) λv H1 ⟨F1,d,e1,q1,w1⟩=>?_⟩;cases d with
 |bl k=>exact⟨k,q1,w1 _ _ (Ext.refl e1.fh)⟩
 |_=>exact w1.elim
def xn(K:WI)(r:List V->Hp->VK->Prop)(g:List D->M D):Prop:=∀(Xw:Nat->Hp->Prop) (F H:Hp) (vs:List V) (ds:List D) (Q:VK),Same F H->DenL K F ds vs->WP K Xw F H (g ds) Q->r vs H Q
variable{x:Str}{p:Pos}{e:Expr}{es:List Expr}{δs:DA}{id T:String}{r:List V->Hp->VK->Prop}{g:List D->M D}
def G3(h:xn X.K r g):∀σ H Q,tD X.K Xw (dA g δs) σ H Q->Sk r (T2 X.K Xw δs) σ H Q:=λσ H Q ⟨F,ρ,s,w⟩=>
 ⟨F,ρ,s,WPL.mono (WP.bindL w) λvs H1 ⟨F1,ds,e1,q1,w1⟩=>h Xw F1 H1 vs ds Q e1.fh q1 w1⟩
def dw(hc:CallR X (.builtin id) r)(hd:xn X.K r g)(hg:Gl X x)(hm:X.mg x=none)(hv:Xl x=some (.builtin id))(ha:jz X Xw (e::es) δs)(hn:x≠"__name__":=by decide)(lW:(x==("__debug__":Str))=false:=by decide)
 (he:WS (e::es) X.env=(false,eval e X.env)::WS es X.env:=by rfl)(kL:(Yt pos (WS es X.env)).any (·.1)=false:=by rfl):PD X Xw (.Call (.Name x p) (e::es) [] pos) (dA g δs):=
 PE.weak (Gj hc hg hm hv ha hn lW he kL) (G3 hd)
def DP(hc:CallR X (.type T) r)(hd:xn X.K r g)(hg:Gl X x)(hm:X.mg x=none)(hv:Xl x=some (.type T))(ha:jz X Xw (e::es) δs)(hn:x≠"__name__":=by decide)(lW:(x==("__debug__":Str))=false:=by decide)
 (he:WS (e::es) X.env=(false,eval e X.env)::WS es X.env:=by rfl)(kL:(Yt pos (WS es X.env)).any (·.1)=false:=by rfl):PD X Xw (.Call (.Name x p) (e::es) [] pos) (dA g δs):=
 PE.weak (uz hc hg hm hv ha hn lW he kL) (G3 hd)
def bx:List D->M D
 |[.lst ds]=>ae (.int ds.length)
 |[.tup ds]=>ae (.int ds.length)
 |[.str x]=>ae (.int x.length)
 |[.scr ns]=>ae (.int ns.length)
 |_=>ag
def Dq:xn X.K (λxs H Q=>(∃p ys,xs=[.ref p]/\(SqL X.K H p ys\/SqT X.K H p ys)/\Q (.int ys.length) H)\/∃z,xs=[.str z]/\z.length<=WX/\Q (.int z.length) H) bx:=λXw F H vs ds Q s h w=>by
 unfold bx at w;split at w
 ·obtain⟨v,rfl,h1⟩:=h.one;obtain⟨a,vs,rfl,h2,h3,_⟩:=h1;exact .inl ⟨a,vs,rfl, .inl (SqL.of (s _ _ h2)),by rw[<-h3.len];exact WP.now w s rfl⟩
 ·obtain⟨v,rfl,h1⟩:=h.one;obtain⟨a,vs,rfl,h2,h3,_⟩:=h1;exact .inl ⟨a,vs,rfl, .inr (SqT.of (s _ _ h2)),by rw[<-h3.len];exact WP.now w s rfl⟩
 ·obtain⟨v,rfl,h1⟩:=h.one;cases (show _=_ from h1.1);exact .inr ⟨_,rfl,by have:=h1.2;have:=eA;omega,WP.now w s rfl⟩
 ·obtain⟨v,rfl,h1⟩:=h.one;obtain⟨a,rfl,h2,_⟩:=h1;exact .inl ⟨a,_,rfl, .inl (Same.seq s h2),by rw[Ww];exact WP.now w s rfl⟩
 ·exact w.elim
def bQ(hg:Gl X "len")(hm:X.mg "len"=none)(ha:jz X Xw [e] δs)(he:WS [e] X.env=[(false,eval e X.env)]:=by rfl):PD X Xw (.Call (.Name "len" p) [e] [] pos) (dA bx δs):=
 dw (u9.or u_) Dq hg hm PySem.boot_len ha (by decide) (by decide) he rfl
def En:List D->M D
 |[.int i]=>ae (.int (if i<0 then -i else i))
 |_=>ag
def vH:List D->M D
 |[.int i, .int j]=>ae (.int (if j>i then j else i))
 |_=>ag
def yt:List D->M D
 |[.int i, .int j]=>ae (.int (if j<i then j else i))
 |_=>ag
def Gb(hg:Gl X "abs")(hm:X.mg "abs"=none)(ha:jz X Xw [e] δs)(hb:Xl "abs"=some (.builtin "abs"))(he:WS [e] X.env=[(false,eval e X.env)]:=by rfl):PD X Xw (.Call (.Name "abs" p) [e] [] pos) (dA En δs):=
 dw Ey (λXw F H vs ds Q s h w=>by
  unfold En at w;split at w
  ·obtain⟨v,rfl,h1⟩:=h.one;cases (show _=_ from h1);exact⟨_,rfl,WP.now w s rfl⟩
  ·exact w.elim) hg hm hb ha (by decide) (by decide) he rfl
end
def WP.xw{K:WI}(h:WP K Xw F H m Q)(k:∀n H,Xw n H->Xw' n H):WP K Xw' F H m Q:=by
 match m,h with
 |none,h=>exact h
 |some (.ok d),h=>exact h
 |some (.ex n),h=>exact λF' H' e=>k n H' (h F' H' e)
def cx{X:Cx}{st:Stmt}(h:iR X.nox (λ_ _=>False) st τ):iR X Xw st (λρ=>noex (τ ρ)):=λs0 adP f8 s σ H D I ⟨F,ρ,S,w⟩=>by
 have w:WPS X.K Xw s0 adP (noex (τ ρ)) D:=w;have w':tS X.K (λ_ _=>False) s0 adP τ D σ H:=by
  refine⟨F,ρ,S,?_⟩;rcases(τ ρ).cs with e | ⟨n,e⟩ | ⟨o,e⟩
  ·rw[e] at w;exact w.elim
  ·rw[e] at w;exact w.elim
  ·rw[e] at w⊢;cases o with
   |nx ρ'=>exact w
   |rt d=>exact w
 refine XG (h s0 adP f8 s σ H D (I.wish _) w') (λf s' q=>SP.unwish q) λ_ _ z=>z.elim
def EX(cv:Nat->Value)(Xw:Nat->Hp->Prop):XK:=λc _ H=>∃n,c=cv n/\Xw n H
def El(K:WI)(cv:Nat->Value)(k:Nat)(f:List D->M D):Sp:=λvs H Q E=>∃F ds,Same F H/\DenL K F ds vs/\vs.length=k/\WP K (λn H'=>E (cv n) none H') F H (f ds) Q
def bV(n:Nat)(τ:DS):List D->M D:=λds=>τ (ds.map (λd=>some (Sl.fz d))++WU (n - ds.length) none)>>=λo=>match o with
 | .nx _=>ae .non
 | .rt d=>ae d
section
variable{P:Xc}{w:World}{K:WI}{mg:Str->Option Value}{base:Heap}{CX:A_}{cv:Nat->Value}
def NM{x qual:Str}{st:Stmt}(Fn:Fun K x qual st f fd)(S:FnScope N ps (ai st))
 (iG:∀(cu:Value) (A:Xu) (outer:List Env) (s:WC) (H:Hp) (E:XK),Room k (A.deeper (YD qual (ai st) s.heap.objs.size f cu))->
  PSDs (bh CX P w K mg base N qual (ai st) f cu A outer s H E) (λn H'=>E (cv n) none H') (bf st) τ):FnOk P w K mg base CX (k+1) f fd ps (El K cv ps.length (bV N.length τ)):=by
 obtain⟨oc,od,kV,doc,pm,an,cu,ct,F8,rfl,lk,tX⟩:=Fn.ex;refine JZ lk tX S (λvs H Q E ⟨_,_,_,_,hl,_⟩=>hl) λA outer s H vs Q E hr xj=>?_;obtain⟨F,ds,fh,hd,hl,hw⟩:=xj;refine⟨_,iG cu A outer s H E hr F H,F,ds.map (λd=>some (Sl.fz d))++WU (N.length - ds.length) none,⟨Ext.refl fh,⟨fh,λi sl e=>?_⟩,?_,λi c a e=>?_,λi j c c' a e=>?_⟩,?_⟩
 ·have P3:=hd.len;by_cases hi:i<ds.length
  ·rw[Xh (by simpa using hi),WT] at e;cases q:ds[i]? with
   |none=>rw[q] at e;cases e
   |some d=>
    rw[q] at e;cases e;obtain⟨v,e1,e2⟩:=hd.get q;refine⟨v,?_,e2⟩;unfold L2.start;rw[Xh (by simp;omega),WT,e1];rfl
  ·rw[Xk (by simpa using hi),Yb] at e;split at e<;>cases e
 ·have P3:=hd.len;unfold L2.start;simp[P3]
 ·exfalso
  by_cases hi:i<ds.length
  ·rw[Xh (by simpa using hi),WT] at e;cases q:ds[i]? with
   |none=>rw[q] at e;cases e
   |some d=>rw[q] at e;cases e
  ·rw[Xk (by simpa using hi),Yb] at e;split at e<;>cases e
 ·exfalso
  by_cases hi:i<ds.length
  ·rw[Xh (by simpa using hi),WT] at e;cases q:ds[i]? with
   |none=>rw[q] at e;cases e
   |some d=>rw[q] at e;cases e
  ·rw[Xk (by simpa using hi),Yb] at e;split at e<;>cases e
 ·have hw:WP K (λn H'=>E (cv n) none H') F H (τ (ds.map (λd=>some (Sl.fz d))++WU (N.length - ds.length) none)>>=λo=>match o with | .nx _=>ae .non | .rt d=>ae d) Q:=hw;rcases(τ (ds.map (λd=>some (Sl.fz d))++WU (N.length - ds.length) none)).cs with e | ⟨n,e⟩ | ⟨o,e⟩
  ·rw[e] at hw;exact hw.elim
  ·rw[e] at hw⊢;exact hw
  ·rw[e] at hw⊢;cases o with
   |nx ρ'=>exact λσ' F' H' s'=>hw .non H' F' s'.ext rfl
   |rt d=>exact λv F' H' e' q=>hw v H' F' e' q
end
section
variable{X:Cx}{Xw:Nat->Hp->Prop}{CX:A_}{cv:Nat->Value}{k m:Nat}{f:Addr}{fd:Ze}{ps:List Str}{g:List D->M D}{x:Str}{p pos:Pos}{e:Expr}{es:List Expr}{δs:DA}
def IS(F:FnOk X.prog X.w X.K X.mg X.base CX k f fd ps (El X.K cv m g))(hr:Room k X.A)(hg:Gl X x)(hm:X.mg x=some (.ref f))(hk:Yg X.K (.ref f)=true)(hb:Binds X.K fd ps [])(hx:Passes CX X (EX cv Xw))
 (ha:jz X Xw (e::es) δs)(hl:(e::es).length=m)(lW:(x==("__debug__":Str))=false:=by decide)(he:WS (e::es) X.env=(false,eval e X.env)::WS es X.env:=by rfl)(kL:(Yt pos (WS es X.env)).any (·.1)=false:=by rfl):
 PD X Xw (.Call (.Name x p) (e::es) [] pos) (λρ=>δs ρ>>=λds=>if ds.length=m then g ds else ag):=PE.weak (Ja F hr hg hm hk hb .nil hx ha lW he kL) λσ H Q ⟨F,ρ,s,w⟩=>by
 refine⟨F,ρ,s,WPL.mono (WP.bindL w) λvs H1 ⟨F1,ds,e1,q1,w1⟩=>?_⟩;split at w1
 ·rename_i E9;refine⟨F1,ds,e1.fh,by simpa using q1,by rw[Xp,<-q1.len];exact E9,WP.xw w1 λn H h=>⟨n,rfl,h⟩⟩
 ·exact w1.elim
def v8{x:Str}(hg:Gl X x)(hm:X.mg x=some u)(r:RelV v u)(hd:∀F,Den X.K F d v)(lW:(x==("__debug__":Str))=false:=by decide):PD X Xw (.Name x pos) (dC d):=
 iM (pR hg hm r lW) hd
end
def obj_some(x:ObjOk P w H h a o):∃ob,h.get? a=some ob:=by
 cases o with
 |lst xs=>obtain⟨_,_,_,_,e⟩:=x;exact⟨_,e⟩
 |tup xs=>obtain⟨_,_,_,ob,e,_⟩:=x;exact⟨_,e⟩
 |dK aB=>obtain⟨_,_,_,_,o,_,_,e,_⟩:=x;exact⟨_,e⟩
 |dT aB=>obtain⟨_,_,_,_,o,_,_,e,_⟩:=x;exact⟨_,e⟩
 |set S n=>obtain⟨o,_,_,_,e,_⟩:=x;exact⟨_,e⟩
 |ins C dx fs=>obtain⟨_,_,_,e,_⟩:=x;exact⟨_,e⟩
 |own y=>obtain⟨_,e⟩:=x;exact⟨_,e⟩
 |xd fs=>obtain⟨_,⟨_,_,_,e,_⟩,_⟩:=x;exact⟨_,e⟩
 |rng lo hi=>obtain⟨_,_,_,e⟩:=x;exact⟨_,e⟩
 |frz ob u=>obtain⟨e,_⟩:=x;exact⟨_,e⟩
 |tbl ps=>exact⟨_,(show h.get? a=some _ from x)⟩
 |met f y=>exact⟨_,(show h.get? a=some _ from x)⟩
 |ext φ=>obtain⟨_,⟨_,e⟩,_⟩:=x;exact⟨_,e⟩
def dq(P:Xc)(w:World)(cv:Nat->Value):A_:=λouter H s E e s'=>∃(ea:Addr) (n:Nat) (a0:Value) (B:Heap) (H':Hp),e= .ref ea/\s'.os=s.os/\aa3 s'.gens/\HOk P w H' s'.heap/\Un (iy outer) [] H H' s.heap s'.heap/\
 Heap.FlyingW B outer ea (cv n) a0 s'.heap/\(∀b o,s'.heap.get? b=some o->(H' b≠none\/(s.heap.get? b).isSome=true)->b∉iy outer->B.get? b=some o)/\E (cv n) none H'
section
variable{P:Xc}{w:World}{fs:List Addr}{adP H:Hp}{h₀ h h':Heap}
def w6(u:Un fs [] adP H h₀ h)(ka:∀b o,h.get? b=some o->b∉fs->(H b≠none\/(h₀.get? b).isSome=true)->h'.get? b=some o)(kb:∀b o,h.get? b=some o->b∈fs->∃sl,h'.get? b=some {o with slots:=sl}):Un fs [] adP H h₀ h' where
 keep:=λb o e n hb hx=>ka b o (u.keep b o e n hb hx) hb (.inr (by rw[e];rfl))
 slot:=λb o e n hb hx=>by
  obtain⟨sl,q⟩:=u.slot b o e n hb hx;obtain⟨JB,q'⟩:=kb b _ q hb;exact⟨JB,q'⟩
 free:=u.free
 there:=λb o e hx=>by
  obtain⟨o',q⟩:=u.there b o e hx;by_cases hb:b∈fs
  ·obtain⟨sl,q'⟩:=kb b _ q hb;exact⟨_,q'⟩
  ·exact⟨o',ka b o' q hb (.inr (by rw[e];rfl))⟩
 tups:=u.tups
 frzs:=u.frzs
 tbls:=u.tbls
def qo(x:HOk P w H h)(hf:∀b∈fs,H b=none)(ka:∀b o,h.get? b=some o->b∉fs->H b≠none->h'.get? b=some o):HOk P w H h':=λa o e=>by
 refine(x a o e).stay (λb u hb q=>ka b u q (λz=>?_) ?_) (λ_ q=>q) λ_ _ q=>q
 ·have hz:=hf b z;rcases hb with rfl | hb
  ·rw[hz] at e;cases e
  ·rw[hz] at hb;cases hb
 ·rcases hb with rfl | hb
  ·rw[e];exact λz=>nomatch z
  ·rw[hb];exact λz=>nomatch z
end
section
variable{P:Xc}{w:World}{K:WI}{mg:Str->Option Value}{base:Heap}{N:List Str}{qual:Str}{scope:Scope}{f:Addr}{cd:Value}{A:Xu}{outer:List Env}{adQ:WC}{adP:Hp}{E:XK}{cv:Nat->Value}
def bT:Passes (dq P w cv) (bh (dq P w cv) P w K mg base N qual scope f cd A outer adQ adP E) (EX cv λn H'=>E (cv n) none H'):=by
 intro f8 σ H s e s' I ⟨ea,n,a0,B,H',he,Oe,hg,hok,un,CT,hB,m,hm,hE⟩;subst he;have Ad:((bh (dq P w cv) P w K mg base N qual scope f cd A outer adQ adP E)).env.locals=adQ.heap.objs.size:=rfl;have vo:iy ((bh (dq P w cv) P w K mg base N qual scope f cd A outer adQ adP E)).stack=adQ.heap.objs.size::iy outer:=rfl;show wpAny (model P w) (A.deeper (YD qual scope adQ.heap.objs.size f cd)) (leaving (YD qual scope adQ.heap.objs.size f cd) (.ref ea)) _ _ s';refine wpAny_leaves_onW I.ok.frames rfl CT λh' KW ups=>?_;have BA:∀b∈iy ((bh (dq P w cv) P w K mg base N qual scope f cd A outer adQ adP E)).stack,H' b=none:=λb hb=>by
  obtain⟨o,ho⟩:∃o,s.heap.get? b=some o:=by
   obtain⟨_,o,ho,_⟩:=I.stack.mem hb;exact⟨o,ho⟩
  exact un.free b o ho (I.stkFree b hb) (by simp)
 have l5:∀b o,s'.heap.get? b=some o->b∉iy ((bh (dq P w cv) P w K mg base N qual scope f cd A outer adQ adP E)).stack->(H' b≠none\/(s.heap.get? b).isSome=true)->h'.get? b=some o:=λb o e hb hc=>KW.1 b o (hB b o e hc hb);have unA:Un (iy outer) [] adP H' adQ.heap s'.heap:=by
  have u1:Un (iy outer) [] adP H adQ.heap s.heap:=I.base;refine⟨λb o e nn hb hx=>?_,λb o e nn hb hx=>?_,λb o e nn hx=>?_,λb o e hx=>?_,λb xs q=>un.tups b xs (u1.tups b xs q),λb o u q=>un.frzs b o u (u1.frzs b o u q),λb ps q=>?_⟩
  ·refine un.keep b o (u1.keep b o e nn hb hx) (u1.free b o e nn hx) (λz=>?_) (by simp);rw[vo] at z;rcases WG.mp z with z | z
   ·exact adK (WH e) (by rw[z];exact Xz _)
   ·exact hb z
  ·obtain⟨sl,q⟩:=u1.slot b o e nn hb hx;obtain⟨JB,q'⟩:=un.slot b _ q (u1.free b o e nn hx) (by rw[vo];exact Wz _ hb) (by simp);exact⟨JB,q'⟩
  ·obtain⟨o',q⟩:=u1.there b o e hx;exact un.free b o' q (u1.free b o e nn hx) (by simp)
  ·obtain⟨o',q⟩:=u1.there b o e hx;exact un.there b o' q (by simp)
  ·obtain⟨m1,q1⟩:=u1.tbls b ps q;obtain⟨m2,q2⟩:=un.tbls b _ q1;exact⟨m1++m2,by rw[q2,aa2]⟩
 have Tx:∀b,(adQ.heap.get? b).isSome=true->(s.heap.get? b).isSome=true:=λb hb=>by
  obtain⟨o,ho⟩:=XA.mp hb;obtain⟨o',q⟩:=(show Un (iy outer) [] adP H adQ.heap s.heap from I.base).there b o ho (by simp);rw[q];rfl
 have Dy:∀b,(adQ.heap.get? b).isSome=true->b≠adQ.heap.objs.size:=λb hb z=>by
  obtain⟨o,ho⟩:=XA.mp hb;exact adK (WH ho) (by rw[z];exact Xz _)
 have FT:∀b,b∉iy outer->(H' b≠none\/(adQ.heap.get? b).isSome=true)->b∉iy ((bh (dq P w cv) P w K mg base N qual scope f cd A outer adQ adP E)).stack:=λb hb hc z=>by
  rcases hc with hc | hc
  ·exact hc (BA b z)
  ·rw[vo] at z;rcases WG.mp z with z | z
   ·exact Dy b hc z
   ·exact hb z
 refine⟨ea,n,a0,B,H',rfl,Oe.trans I.os,hg,qo hok BA (λb o e hb hc=>l5 b o e hb (.inl hc)),w6 unA (λb o e hb hc=>l5 b o e (FT b hb hc) (hc.imp id (Tx b))) (λb o e hb=>?_),KW,λb o e hc hb=>?_,?_⟩
 ·obtain⟨_,o',lX,hd⟩:=CT.2.2.1.mem (show b∈iy ((bh (dq P w cv) P w K mg base N qual scope f cd A outer adQ adP E)).stack by rw[vo];exact Wz _ hb);rw[e] at lX;cases lX;exact ups b o e hd
 ·have By:=FT b hb hc;obtain⟨o',lX⟩:∃o',s'.heap.get? b=some o':=by
   rcases hc with hc | hc
   ·cases q:H' b with
    |none=>exact adK q hc
    |some u=>
     exact obj_some (hok b u q)
   ·obtain⟨o1,h1⟩:=XA.mp hc;exact unA.there b o1 h1 (by simp)
  have:=hB b o' lX (hc.imp id (Tx b)) By;rw[KW.1 b o' this] at e;cases e;exact this
 ·rw[hm];exact hE
def JR(X:Cx)(cv:Nat->Value)(Xw:Nat->Hp->Prop):Prop:=∀(n:Nat) (f8:List (Addr×Obj)) (σ:St) (H:Hp) (s:WC) (h':Heap) (ea:Addr) (args:List Value),Inv X f8 σ H s->Heap.MadeExcOf s.heap h' ea (cv n) args->Xw n H->X.xe (.ref ea) {s with heap:=h'}
def FE:JR (bh (dq P w cv) P w K mg base N qual scope f cd A outer adQ adP E) cv (λn H'=>E (cv n) none H'):=by
 intro n f8 σ H s hh ea args I hx hE;have vo:iy ((bh (dq P w cv) P w K mg base N qual scope f cd A outer adQ adP E)).stack=adQ.heap.objs.size::iy outer:=rfl;have x_:∀env∈((bh (dq P w cv) P w K mg base N qual scope f cd A outer adQ adP E)).stack,∀b,env.frame=some b->b∈iy ((bh (dq P w cv) P w K mg base N qual scope f cd A outer adQ adP E)).stack:=λenv he b hb=>aa7.mpr ⟨env,he,hb⟩;have stays:(aat s.heap (iy ((bh (dq P w cv) P w K mg base N qual scope f cd A outer adQ adP E)).stack)).StaysIn s.heap:=λb o q=>acA _ q;show wpAny (model P w) (A.deeper (YD qual scope adQ.heap.objs.size f cd)) (leaving (YD qual scope adQ.heap.objs.size f cd) (.ref ea)) _ _ _;refine wpAny_leaves_madeW I.ok.frames rfl stays (PySem.W.funFrames_hide I.stack x_) hx λh' t CT _ _ ups=>?_;have hB:∀b o,s.heap.get? b=some o->b∉iy ((bh (dq P w cv) P w K mg base N qual scope f cd A outer adQ adP E)).stack->(aat s.heap (iy ((bh (dq P w cv) P w K mg base N qual scope f cd A outer adQ adP E)).stack)).get? b=some o:=λb o e hb=>acu _ e hb;have l5:∀b o,s.heap.get? b=some o->b∉iy ((bh (dq P w cv) P w K mg base N qual scope f cd A outer adQ adP E)).stack->h'.get? b=some o:=λb o e hb=>CT.1 b o (hB b o e hb);have u1:Un (iy outer) [] adP H adQ.heap s.heap:=I.base;have Dy:∀b,(adQ.heap.get? b).isSome=true->b≠adQ.heap.objs.size:=λb hb z=>by
  obtain⟨o,ho⟩:=XA.mp hb;exact adK (WH ho) (by rw[z];exact Xz _)
 have FT:∀b,b∉iy outer->(H b≠none\/(adQ.heap.get? b).isSome=true)->b∉iy ((bh (dq P w cv) P w K mg base N qual scope f cd A outer adQ adP E)).stack:=λb hb hc z=>by
  rcases hc with hc | hc
  ·exact hc (I.stkFree b z)
  ·rw[vo] at z;rcases WG.mp z with z | z
   ·exact Dy b hc z
   ·exact hb z
 refine⟨ea,n, .ref t,aat s.heap (iy ((bh (dq P w cv) P w K mg base N qual scope f cd A outer adQ adP E)).stack),H,rfl,I.os,I.bare,qo I.hok I.stkFree (λb o e hb hc=>l5 b o e hb),w6 u1 (λb o e hb hc=>l5 b o e (FT b hb hc)) (λb o e hb=>?_),CT,λb o e hc hb=>?_,hE⟩
 ·obtain⟨_,o',lX,hd⟩:=I.stack.mem (show b∈iy ((bh (dq P w cv) P w K mg base N qual scope f cd A outer adQ adP E)).stack by rw[vo];exact Wz _ hb);rw[e] at lX;cases lX;exact ups b o (hx.keeps b o e) hd
 ·obtain⟨o',lX⟩:∃o',s.heap.get? b=some o':=by
   rcases hc with hc | hc
   ·cases q:H b with
    |none=>exact adK q hc
    |some u=>exact obj_some (I.hok b u q)
   ·obtain⟨o1,h1⟩:=XA.mp hc;exact u1.there b o1 h1 (by simp)
  have By:=FT b hb hc;rw[l5 b o' lX By] at e;cases e;exact hB b o lX By
end
section
variable{X:Cx}{Xw:Nat->Hp->Prop}{cv:Nat->Value}{n:Nat}{C:Addr}{x:Str}{np a9 pos:Pos}{e:Expr}{es:List Expr}{δs:DA}{bm:List Value}{B newId Ls:String}
def nL(O:OwnCls x C bm newId X.mg X.base)(FB:ExcBaseFacts B newId Ls bm)(hg:Gl X x)(hc:X.calm=true)(M8:cv n= .ref C)(hx:JR X cv Xw)(ha:jz X Xw (e::es) δs)(lW:(x==("__debug__":Str))=false:=by decide)
 (he:WS (e::es) X.env=(false,eval e X.env)::WS es X.env:=by rfl)(kL:(Yt a9 (WS es X.env)).any (·.1)=false:=by rfl):
 iR X Xw (.Raise (some (.Call (.Name x np) (e::es) [] a9)) none pos) (λρ=>δs ρ>>=λds=>if ds.length<=lim then br n else ag):=λs0 adP f8 s σ H D I ⟨F,ρ,S,w⟩=>by
 obtain⟨tl,Nn,nm,q,bs,hdct,sn,sub,ab,col,dd,k0,k1,k2,k3,k5,mN,hC,hN,Vp,T⟩:=O.obj;refine wpAny_Raise_call_subT (nm:=nm) (q:=q) (N:=Nn) (bs:=bs) (hdct:=hdct) (sn:=sn) (sub:=sub) (ab:=ab) (col:=col) (dd:=dd) (k0:=k0) (k1:=k1) (k2:=k2) (k3:=k3) (k5:=k5)
  FB (mN:=mN) (T.hasType FB.hasBase) (I.ok.hd hc) (by rw[he];show (false||(Yt a9 (WS es X.env)).any (·.1))=false;rw[kL];rfl) Vp (l8 I hg O.bound ⟨rfl,?_⟩ lW)
 have w:WPS X.K Xw s0 adP (δs ρ>>=λds=>if ds.length<=lim then br n else ag) D:=w;have hA:=ha a9 f8 s σ H (λvs H1=>vs.length<=lim/\Xw n H1) I ⟨F,ρ,S.st,by
  rcases(δs ρ).cs with q | ⟨m,q⟩ | ⟨ds,q⟩
  ·rw[q] at w;exact w.elim
  ·rw[q] at w⊢;exact λF' H' e'=>w F' H' (S.ext.trans e')
  ·rw[q] at w⊢;intro vs H' F' e' hd;have w:WPS X.K Xw s0 adP (if ds.length<=lim then br n else ag) D:=w;split at w
   ·rename_i hl;exact⟨by rw[<-hd.len];exact hl,w F' H' (S.ext.trans e')⟩
   ·exact w.elim⟩
 rw[he] at hA⊢;refine Zi (ck hA λus v4 ⟨vs,H1,I1,r,hl,hX⟩=>⟨rfl,by rw[<-r.length];have:=eA;omega,I1.bk _ _ hC,hN.keeps I1.bk,T.keeps I1.bk,λh' ea hm=>hx n f8 σ H1 v4 h' ea us I1 (by rw[M8];exact hm) hX⟩)
end
def Ka:D->Option String
 | .non=>some "NoneType"
 | .bl _=>some "bool"
 | .int _=>some "int"
 | .str _=>some "str"
 | .tup _=>some "tuple"
 | .lst _=>some "list"
 |_=>none
def Ly(k T:String):Option Bool:=if T="str"\/T="int"\/T="bool"\/T="tuple"\/T="list" then some (decide (k=T)||(decide (k="bool")&&decide (T="int"))) else none
def lz:List D->M D
 |[d, .raw (.ty T)]=>match Ka d with
  |some k=>match Ly k T with
   |some b=>ae (.bl b)
   |none=>ag
  |none=>ag
 |_=>ag
def LN{K:WI}(hk:k="NoneType"\/k="bool"\/k="int"\/k="str"\/k="tuple"\/k="list")(h:Ly k T=some b):WV K (.type k) (.type T)=some b:=by
 unfold Ly at h;split at h
 ·rename_i hT;cases h;rcases hk with rfl | rfl | rfl | rfl | rfl | rfl<;>rcases hT with rfl | rfl | rfl | rfl | rfl<;>with_unfolding_all rfl
 ·cases h
section
variable{X:Cx}{Xw:Nat->Hp->Prop}{a b e e2:Expr}{δs:DA}{pos p:Pos}
def Pc(K:WI):List V->Hp->VK->Prop:=λxs H Q=>∃x T t b,xs=[x, .ty T]/\TyOf K H x t/\WV K t (.type T)=some b/\Q (.bl b) H
def Ez:CallR X (.builtin "isinstance") (Pc X.K):=by
 intro f8 s σ H xs us Q I r h;obtain⟨x,T,t,b,rfl,ty,e,q⟩:=h;obtain⟨u,w',rfl,r1,r2⟩:=vals2 r;cases (show w'=_ from r2);exact Dh I r1 ty e λtk=>⟨.bl b,H,I.tok tk,rfl,q⟩
def Ha{K:WI}(s:Same F H)(h:Den K F d v)(hk:Ka d=some k):TyOf K H v (.type k)/\(k="NoneType"\/k="bool"\/k="int"\/k="str"\/k="tuple"\/k="list"):=by
 cases d with
 |non=>cases hk;cases (show _=_ from h);exact⟨.non, .inl rfl⟩
 |bl x=>cases hk;cases (show _=_ from h);exact⟨.bl x, .inr (.inl rfl)⟩
 |int x=>cases hk;cases (show _=_ from h);exact⟨.int x, .inr (.inr (.inl rfl))⟩
 |str x=>cases hk;cases (show _=_ from h.1);exact⟨.str x, .inr (.inr (.inr (.inl rfl)))⟩
 |tup x=>cases hk;obtain⟨a,vs,rfl,h2,_⟩:=h;exact⟨.tup (s _ _ h2), .inr (.inr (.inr (.inr (.inl rfl))))⟩
 |lst x=>cases hk;obtain⟨a,vs,rfl,h2,_⟩:=h;exact⟨.lst (s _ _ h2), .inr (.inr (.inr (.inr (.inr rfl))))⟩
 |_=>cases hk
def Dg{K:WI}:xn K (Pc K) lz:=λXw F H vs ds Q s h w=>by
 unfold lz at w;split at w
 ·rename_i d T;obtain⟨v,v',rfl,h1,h2⟩:=h.two;cases (show _=_ from h2);split at w
  ·rename_i k hk;split at w
   ·rename_i b hb;obtain⟨ty,Hj⟩:=Ha s h1 hk;exact⟨v,T, .type k,b,rfl,ty,LN Hj hb,WP.now w s rfl⟩
   ·exact w.elim
  ·exact w.elim
 ·exact w.elim
def rF(hg:Gl X "isinstance")(hm:X.mg "isinstance"=none)(hb:Xl "isinstance"=some (.builtin "isinstance"))(ha:jz X Xw [e,e2] δs)(he:WS [e,e2] X.env=(false,eval e X.env)::WS [e2] X.env:=by rfl)
 (kL:(Yt pos (WS [e2] X.env)).any (·.1)=false:=by rfl):PD X Xw (.Call (.Name "isinstance" p) [e,e2] [] pos) (dA lz δs):=
 dw Ez Dg hg hm hb ha (by decide) (by decide) he kL
def uy{x:Str}(hg:Gl X x)(hm:X.mg x=none)(hv:Xl x=some (.type T))(hn:x≠"__name__":=by decide)(hd:(x==("__debug__":Str))=false:=by decide):PD X Xw (.Name x pos) (dC (.raw (.ty T))):=
 iM (I_ hg hm hv (show RelV (.ty T) (.type T) from rfl) hn hd) λ_=>rfl
def bools:List D->Option (List Bool)
 |[]=>some []
 | .bl b::r=>(bools r).map (b:: ·)
 |_=>none
def allM:List D->M D
 |[.lst ds]=>match bools ds with
  |some bs=>ae (.bl (bs.all id))
  |none=>ag
 |_=>ag
def iA{K:WI}:∀{ds:List D}{vs:List V}{bs:List Bool},bools ds=some bs->DenL K F ds vs->vs=bs.map V.bl
 |[],_,_,e,h=>by cases e;exact h
 | .bl b::r,_,_,e,⟨v,r',h1,h2,h3⟩=>by
   unfold bools at e;cases q:bools r with
   |none=>rw[q] at e;cases e
   |some bs=>rw[q] at e;cases e;subst h1;rw[iA q h3,show v= .bl b from h2];rfl
 | .non::_,_,_,e,_=>by cases e
 | .int _::_,_,_,e,_=>by cases e
 | .str _::_,_,_,e,_=>by cases e
 | .raw _::_,_,_,e,_=>by cases e
 | .exc _::_,_,_,e,_=>by cases e
 | .scr _::_,_,_,e,_=>by cases e
 | .tup _::_,_,_,e,_=>by cases e
 | .lst _::_,_,_,e,_=>by cases e
def mX:∀{bs:List Bool}{aI:List Value},Vals (bs.map V.bl) aI->aI=bs.map X3
 |[],_,r=>by cases r;rfl
 |b::bs,_,r=>by
  cases r with
  |cons r1 r2=>cases (show _=_ from r1);rw[mX r2];rfl
def R5:List V->Hp->VK->Prop:=λxs H Q=>∃(a:Addr) (bs:List Bool),xs=[.ref a]/\H a=some (.lst (bs.map V.bl))/\Q (.bl (bs.all id)) H
def all_range{bs:List Bool}:(W8 bs.length).all (λi=>bs.getD i false)=bs.all id:=by
 induction bs with
 |nil=>rfl
 |cons b bs ih=>
  rw[WE,aaw,Zz,Zu,Zz];congr 1
def Cy(hc:X.calm=true):CallR X (.builtin "all") R5:=by
 intro f8 s σ H xs us Q I r h;obtain⟨a,bs,rfl,hH,q⟩:=h;obtain⟨u,rfl,r1⟩:=vals1 r;cases (show u=_ from r1);obtain⟨aI,r2,pl,hz⟩:=I.list (SqL.of hH);obtain rfl:=mX r2;have g6:a≠s.heap.objs.size:=W4 (I.hok.lt hH);refine call_all_walk (aax pl.isList ?_);refine⟨s.heap.objs.size,_,_,_,_,_,λi=>bs.getD i false,rfl,adb (show X.A.in1.handled=none from I.ok.hd hc) s.heap.objs.size a g6 (bs.map X3).toArray,⟨⟨_,WN _ rfl,rfl,rfl⟩,acH pl.isList λo e=>Wx _ e⟩,?_,λh' tk k=>?_⟩
 ·intro i v s' Q' E' hv hq;have hv:(bs.map X3).toArray[i]? =some v:=hv;rw[acF,WT] at hv;cases q':bs[i]? with
  |none=>rw[q'] at hv;cases hv
  |some b=>
   rw[q'] at hv;cases hv;have:bs.getD i false=b:=by rw[WK,q'];rfl
   have hq:Q' (bs.getD i false) s':=hq;rw[this] at hq;exact XW hq
 ·have e:(W8 (bs.map X3).toArray.size).all (λi=>bs.getD i false)=bs.all id:=by
   rw[WJ,Ww];exact all_range
  rw[e];refine⟨.bl (bs.all id),H,I.kept λb o e'=>k b o (λz=>?_) (Wx _ e'),rfl,q⟩;have z:b=s.heap.objs.size:=by simpa using z
  exact adK (WH e') (by rw[z];exact Xz _)
def AH(hc:X.calm=true)(hg:Gl X "all")(hm:X.mg "all"=none)(hb:Xl "all"=some (.builtin "all"))(ha:jz X Xw [e] δs)(he:WS [e] X.env=[(false,eval e X.env)]:=by rfl):PD X Xw (.Call (.Name "all" p) [e] [] pos) (dA allM δs):=
 dw (Cy hc) (λXw F H vs ds Q s h w=>by
  unfold allM at w;split at w
  ·rename_i ds;obtain⟨v,rfl,h1⟩:=h.one;obtain⟨a,ws,rfl,h2,h3,_⟩:=h1;split at w
   ·rename_i bs hb;exact⟨a,bs,rfl,by rw[<-iA hb h3];exact s _ _ h2,WP.now w s rfl⟩
   ·exact w.elim
  ·exact w.elim) hg hm hb ha (by decide) (by decide) he rfl
end
section
variable{X:Cx}{Xw:Nat->Hp->Prop}{a b e e2:Expr}{es:List Expr}{δ δa δb:DE}{pos p T0 a9:Pos}
def JF:∀s0 adP D σ H,tS X.K Xw s0 adP (pG i δ) D σ H->G5 (Sj X.K "list" B7 (rZ i) (G4 (tD X.K Xw δ) MP)) D σ H:=λs0 adP D σ H ⟨F,ρ,s,w⟩=>by
 unfold pG at w;cases ho:DN ρ i with
 |none=>rw[ho] at w;exact w.elim
 |some ds=>
  rw[ho] at w;have hi:=ur ho;obtain⟨v,hv,a,o,rfl,hH,hF,vs,rfl,hd,hl⟩:=s.st.den i _ hi;have w:WPS X.K Xw s0 adP (δ ρ>>=λd=>if ds.length<lim then ae (.nx (ρ.set i (some (.ow (.lst (ds++[d])))))) else ag) D:=w;refine⟨.ref a,hv, .inl ⟨rfl,vs,SqL.of hH⟩,F,ρ,s.st,?_⟩;rcases(δ ρ).cs with q | ⟨n,q⟩ | ⟨d,q⟩
  ·rw[q] at w;exact w.elim
  ·rw[q] at w⊢;exact λF' H' e'=>w F' H' (s.ext.trans e')
  ·rw[q] at w⊢;intro u H1 F1 e1 hq;have w:WPS X.K Xw s0 adP (if ds.length<lim then ae (.nx (ρ.set i (some (.ow (.lst (ds++[d])))))) else ag) D:=w;split at w
   ·rename_i fM;have P3:=hd.len;refine⟨a,vs,u,rfl,rfl,e1.hh _ _ hH,by have:=eA;omega,?_⟩;exact w σ F1 _ ((s.ext' e1).chg hi hv ⟨_,rfl,DenL.append (DenL.mono e1.ff hd) (.cons hq .nil),by rw[WL];exact fM⟩)
   ·exact w.elim
def JG:∀s0 adP D σ H,tS X.K Xw s0 adP (GN i δ) D σ H->G5 (Sj X.K "list" B8 (rZ i) (G4 (tD X.K Xw δ) MP)) D σ H:=λs0 adP D σ H ⟨F,ρ,s,w⟩=>by
 unfold GN at w;cases ho:DN ρ i with
 |none=>rw[ho] at w;exact w.elim
 |some ds=>
  rw[ho] at w;have hi:=ur ho;obtain⟨v,hv,a,o,rfl,hH,hF,vs,rfl,hd,hl⟩:=s.st.den i _ hi;have w:WPS X.K Xw s0 adP (δ ρ>>=λd=>lstM d>>=λes=>if ds.length+es.length<=lim then ae (.nx (ρ.set i (some (.ow (.lst (ds++es)))))) else ag) D:=w;refine⟨.ref a,hv, .inl ⟨rfl,vs,SqL.of hH⟩,F,ρ,s.st,?_⟩;rcases(δ ρ).cs with q | ⟨n,q⟩ | ⟨d,q⟩
  ·rw[q] at w;exact w.elim
  ·rw[q] at w⊢;exact λF' H' e'=>w F' H' (s.ext.trans e')
  ·rw[q] at w⊢;intro u H1 F1 e1 hq;cases d with
   |lst es=>
    obtain⟨b,ws,rfl,k2,k3,k4⟩:=hq;have w:WPS X.K Xw s0 adP (if ds.length+es.length<=lim then ae (.nx (ρ.set i (some (.ow (.lst (ds++es)))))) else ag) D:=w;split at w
    ·rename_i fM;have P3:=hd.len;have Tj:=k3.len;refine⟨a,b,vs,ws,rfl,rfl,e1.hh _ _ hH,e1.fh _ _ k2,by have:=eA;omega,?_⟩;exact w σ F1 _ ((s.ext' e1).chg hi hv ⟨_,rfl,DenL.append (DenL.mono e1.ff hd) k3,by rw[WL];exact fM⟩)
    ·exact w.elim
   |_=>exact w.elim
def kC(hv:PE X (.Name x p) (rZ i))(he:PD X Xw e δ)(hs:aay (.Call (.Attribute (.Name x p) "append" T0) [e] [] a9) none pos.line X.env=pure false:=by rfl)
 (fG:Yw (.Name x p) "append" X.env (eval (.Name x p) X.env)=eval (.Name x p) X.env:=by rfl)
 (ly:((Yt a9 (WS [e] X.env)).all (λx=>!x.1)&&(Z_ a9 (Y4 [] X.env)).all (λx=>x.1.isSome)&&decide ([e].length+([]:List Za).length+(if ([]:List Za).isEmpty then 0 else 1)<30))=true:=by rfl)
 (fH:(T0.endLine==a9.line)=true:=by rfl)(qr:WS [e] X.env=[(false,eval e X.env)]:=by rfl):iR X Xw (.Expr (.Call (.Attribute (.Name x p) "append" T0) [e] [] a9) pos) (pG i δ):=λs0 adP=>
 PS.weak (pS (Gi YV PySem.F.slot_list_append PySem.F.type_list_append uf hv (kx he rB qr) fG ly fH qr rfl) hs) λD σ H w=>JF s0 adP D σ H w
def Jj(hv:PE X (.Name x p) (rZ i))(he:PD X Xw e δ)(hs:aay (.Call (.Attribute (.Name x p) "extend" T0) [e] [] a9) none pos.line X.env=pure false:=by rfl)
 (fG:Yw (.Name x p) "extend" X.env (eval (.Name x p) X.env)=eval (.Name x p) X.env:=by rfl)
 (ly:((Yt a9 (WS [e] X.env)).all (λx=>!x.1)&&(Z_ a9 (Y4 [] X.env)).all (λx=>x.1.isSome)&&decide ([e].length+([]:List Za).length+(if ([]:List Za).isEmpty then 0 else 1)<30))=true:=by rfl)
 (fH:(T0.endLine==a9.line)=true:=by rfl)(qr:WS [e] X.env=[(false,eval e X.env)]:=by rfl):iR X Xw (.Expr (.Call (.Attribute (.Name x p) "extend" T0) [e] [] a9) pos) (GN i δ):=λs0 adP=>
 PS.weak (pS (Gi YV PySem.F.slot_list_extend PySem.F.type_list_extend Dw hv (kx he rB qr) fG ly fH qr rfl) hs) λD σ H w=>JG s0 adP D σ H w
def FZ:OpR X (ZY .Add) (λx y H Q=>∃a b ys,x= .ref a/\y= .ref b/\SqT X.K H a []/\SqT X.K H b ys/\Q (.ref b) H):=by
 intro f8 s σ H x y v u Q I rx ry h;obtain⟨a,b,ys,rfl,rfl,ha,hb,q⟩:=h;cases rx;cases ry;obtain⟨aI,r1,p1,_⟩:=I.tuple ha;obtain⟨fZ,r2,p2,_⟩:=I.tuple hb;cases r1;obtain⟨⟨cls,dd,data,sl⟩,ho,hc,n,hd⟩:=id p1;obtain⟨⟨Nz,zG,data2,Kl⟩,Hm,E4,n2,hd2⟩:=id p2;simp only at hc hd E4 hd2;subst hc hd E4 hd2;exact concat_meets ⟨_,ho,rfl⟩ ⟨_,Hm,rfl⟩ ab7 ac9 aak aag (aaa _ _)
  (tuple_addW0 a b _ _ n n2 dd zG sl Kl (by simp)) ⟨ho,Hm,⟨.ref b,H,I,rfl,q⟩⟩
def Bx:D->D->M D
 | .tup x, .tup y=>if x.length+y.length<=lim then ae (.tup (x++y)) else ag
 |_,_=>ag
def IT(ha:PD X Xw a δa)(hb:PD X Xw b δb):PD X Xw (.BinOp a .Add b pos) (d2 Bx δa δb):=oO (FZ.or IH) (λXw F H x y dx dy Q s hx hy w=>by
 unfold Bx at w;split at w
 ·rename_i i j;obtain⟨a,vs,h1,h2,h3,h4⟩:=hx;obtain⟨a',xm,k1,k2,k3,k4⟩:=hy;split at w
  ·rename_i hl;have e1:=h3.len;have e2:=k3.len;have:=eA;by_cases hv:vs=[]
   ·subst hv;have:i=[]:=by cases i with | nil=>rfl | cons _ _=>simp at e1
    subst this;exact .inl ⟨a,a',xm,h1,k1,SqT.of (s _ _ h2),SqT.of (s _ _ k2),WP.now w s ⟨a',xm,k1▸rfl,k2,k3,k4⟩⟩
   ·refine .inr ⟨a,a',vs,xm,h1,k1,SqT.of (s _ _ h2),SqT.of (s _ _ k2),hv,by omega,λz=>?_,λz p hp=>?_⟩
    ·subst z;have:j=[]:=by cases j with | nil=>rfl | cons _ _=>simp at e2
     subst this;rw[Xp] at w;exact WP.now w s ⟨a,vs,rfl,h2,h3,h4⟩
    ·exact WP.fin w (Ext.lay s hp) ⟨p,_,rfl,aP,DenL.mono (Ext.lay s hp).ff (h3.append k3),by rw[WL];exact hl⟩
  ·exact w.elim
 ·exact w.elim) ha hb
end
section
variable{X:Cx}{Xw:Nat->Hp->Prop}{a b e e2 o:Expr}{es:List Expr}{δa δb δo:DE}{δs:DA}{pos p T0 a9:Pos}
def dM(kd:D->Bool)(g:D->List D->M D)(o:DE)(s:DA):DE:=λρ=>o ρ>>=λd=>if kd d then s ρ>>=λds=>g d ds else ag
def B0{id:String}(pa:PlainAttrs T)(slot:Slot T name id)(Ry:typeOf (.builtin id)=pure (.type "method_descriptor"))(hm:MY X id r)
 (hk:∀(F H:Hp) (x:V) (d:D),kd d=true->Same F H->Den X.K F d x->PF X.K T x H)
 (hd:∀(Xw:Nat->Hp->Prop) (F H:Hp) (x:V) (vs:List V) (d:D) (ds:List D) (Q:VK),Same F H->Den X.K F d x->DenL X.K F ds vs->WP X.K Xw F H (g d ds) Q->r x vs H Q)
 (ho:PD X Xw o δo)(ha:jz X Xw (e::es) δs)
 (fG:Yw o name X.env (eval o X.env)=eval o X.env:=by rfl)
 (ly:((Yt a9 (WS (e::es) X.env)).all (λx=>!x.1)&&(Z_ a9 (Y4 [] X.env)).all (λx=>x.1.isSome)
  &&decide ((e::es).length+([]:List Za).length+(if ([]:List Za).isEmpty then 0 else 1)<30))=true:=by rfl)
 (fH:(T0.endLine==a9.line)=true:=by rfl) (hs:WS (e::es) X.env=(false,eval e X.env)::WS es X.env:=by rfl) (Ae:(Yt a9 (WS es X.env)).any (·.1)=false:=by rfl):
 PD X Xw (.Call (.Attribute o name T0) (e::es) [] a9) (dM kd g δo δs):=PE.weak (Gi pa slot Ry hm ho ha fG ly fH hs Ae) λσ H Q ⟨F,ρ,s,w⟩=>by
 refine⟨F,ρ,s,WP.mono (WP.bind w) λv H1 ⟨F1,d,e1,q1,w1⟩=>?_⟩;split at w1
 ·rename_i Va;refine⟨hk F1 H1 v d Va e1.fh q1,F1,ρ,s.ext e1,WPL.mono (WP.bindL w1) λvs H2 ⟨F2,ds,e2,q2,w2⟩=>?_⟩;exact hd Xw F2 H2 v vs d ds Q e2.fh (Den.mono e2.ff q1) q2 w2
 ·exact w1.elim
def Ql:D->Bool
 | .str _=>true
 |_=>false
def gL:D->Bool
 | .lst _=>true
 |_=>false
def Lw{K:WI}(F H:Hp)(x:V)(d:D)(h:Ql d=true)(s:Same F H)(q:Den K F d x):PF K "str" x H:=by
 cases d with
 |str z=>cases (show _=_ from q.1);exact rfl
 |_=>cases h
def qB{K:WI}(F H:Hp)(x:V)(d:D)(h:gL d=true)(s:Same F H)(q:Den K F d x):PF K "list" x H:=by
 cases d with
 |lst z=>obtain⟨a,vs,rfl,h2,_⟩:=q;exact .inl ⟨rfl,vs,SqL.of (s _ _ h2)⟩
 |_=>cases h
def wZ:List D->Option (List Str)
 |[]=>some []
 | .str x::r=>(wZ r).map (x:: ·)
 |_=>none
def sd{K:WI}:∀{ds:List D}{vs:List V}{xs:List Str},wZ ds=some xs->DenL K F ds vs->vs=xs.map V.str
 |[],_,_,e,h=>by cases e;exact h
 | .str b::r,_,_,e,⟨v,r',h1,h2,h3⟩=>by
   unfold wZ at e;cases q:wZ r with
   |none=>rw[q] at e;cases e
   |some bs=>rw[q] at e;cases e;subst h1;rw[sd q h3,show v= .str b from h2.1];rfl
 | .non::_,_,_,e,_=>by cases e
 | .int _::_,_,_,e,_=>by cases e
 | .bl _::_,_,_,e,_=>by cases e
 | .raw _::_,_,_,e,_=>by cases e
 | .exc _::_,_,_,e,_=>by cases e
 | .scr _::_,_,_,e,_=>by cases e
 | .tup _::_,_,_,e,_=>by cases e
 | .lst _::_,_,_,e,_=>by cases e
def sf:∀{xs:List Str}{aI:List Value},Vals (xs.map V.str) aI->StrsAre aI xs
 |[],_,r=>by cases r;exact .nil
 |b::bs,_,r=>by
  cases r with
  |cons r1 r2=>obtain⟨t,rfl⟩:=r1;exact .cons b t (sf r2)
def fO:List Str->Str
 |[]=>⟨#[]⟩
 |x::r=>x++fO r
def joinM:D->List D->M D
 | .str sep,[.lst ds]=>match wZ ds with
   |some xs=>if sep.length=0/\(xs.map (·.length)).sum<=lim then ae (.str (fO xs)) else ag
   |none=>ag
 | .str sep,[.tup ds]=>match wZ ds with
   |some xs=>if sep.length=0/\(xs.map (·.length)).sum<=lim then ae (.str (fO xs)) else ag
   |none=>ag
 |_,_=>ag
def p6:∀xs:List Str,(fO xs).length=(xs.map (·.length)).sum
 |[]=>rfl
 |x::r=>by
  show (x++fO r).length=_;rw[j5,p6 r,WD,X1]
def JD{x:Str}(h:x.length=0):x=⟨#[]⟩:=by
 obtain⟨⟨l⟩⟩:=x;have:l.length=0:=h;cases l with
 |nil=>rfl
 |cons _ _=>simp at this
def oU(x:Str):x++(⟨#[]⟩:Str)=x:=by
 obtain⟨c⟩:=x;show (⟨c++ #[]⟩:Str)=⟨c⟩
 simp
def oi(sep:Str)(h:sep.length=0):∀xs:List Str,Txt.join sep xs=fO xs:=by
 have e:=JD h;subst e;intro xs;show Builtin.Str.glued _ xs=_;rw[StrLaws.glued_eq_join];induction xs with
 |nil=>rfl
 |cons x r ih=>
  cases r with
  |nil=>show x=x++(⟨#[]⟩:Str);rw[oU]
  |cons y r=>show x++(⟨#[]⟩:Str)++Str.join _ (y::r)=x++fO (y::r);rw[oU,ih]
def rJoin(K:WI):V->List V->Hp->VK->Prop:=λx vs H Q=>∃(sep:Str) (a:Addr) (xs:List Str),x= .str sep/\vs=[.ref a]/\(H a=some (.lst (xs.map V.str))\/H a=some (.tup (xs.map V.str)))/\sep.length=0/\(xs.map (·.length)).sum<=lim/\Q (.str (fO xs)) H
def IA:MY X "str.join" (rJoin X.K):=by
 intro f8 s σ H x vs v us Q I rx rv h;obtain⟨sep,a,xs,rfl,rfl,hH,hs,hl,q⟩:=h;obtain⟨t,rfl⟩:=rx;obtain⟨u,rfl,r1⟩:=rv.one;cases (show u=_ from r1);have hok:(xs.map (·.length)).sum+xs.length*sep.length<=16777216:=by
  rw[hs,Nat.mul_zero];unfold lim at hl;omega
 rcases hH with hH | hH
 ·obtain⟨aI,r2,pl,hz⟩:=I.list (SqL.of (K:=X.K) hH);refine join_list pl.isList (by simpa using sf r2) hok λt' k=>⟨.str (fO xs),H,I.tok k,⟨t',by rw[oi sep hs]⟩,q⟩
 ·obtain⟨aI,r2,pl,hz⟩:=I.tuple (SqT.of hH);refine join_tuple pl (by simpa using sf r2) hok λt' k=>⟨.str (fO xs),H,I.tok k,⟨t',by rw[oi sep hs]⟩,q⟩
def IU(ho:PD X Xw o δo)(ha:jz X Xw [e] δs)(fG:Yw o "join" X.env (eval o X.env)=eval o X.env:=by rfl)
 (ly:((Yt a9 (WS [e] X.env)).all (λx=>!x.1)&&(Z_ a9 (Y4 [] X.env)).all (λx=>x.1.isSome)&&decide ([e].length+([]:List Za).length+(if ([]:List Za).isEmpty then 0 else 1)<30))=true:=by rfl)
 (fH:(T0.endLine==a9.line)=true:=by rfl)(qr:WS [e] X.env=[(false,eval e X.env)]:=by rfl):PD X Xw (.Call (.Attribute o "join" T0) [e] [] a9) (dM Ql joinM δo δs):=
 B0 PySem.F.plainAttrs_str PySem.F.slot_str_join PySem.F.type_str_join IA Lw (λXw F H x vs d ds Q s hx hv w=>by
  unfold joinM at w;split at w
  ·rename_i sep ds;obtain⟨v,rfl,h1⟩:=hv.one;obtain⟨a,ws,rfl,h2,h3,_⟩:=h1;split at w
   ·rename_i xs Ov;split at w
    ·rename_i hc;exact⟨sep,a,xs,hx.1,rfl, .inl (by rw[<-sd Ov h3];exact s _ _ h2),hc.1,hc.2,WP.now w s ⟨rfl,by rw[p6];exact hc.2⟩⟩
    ·exact w.elim
   ·exact w.elim
  ·rename_i sep ds;obtain⟨v,rfl,h1⟩:=hv.one;obtain⟨a,ws,rfl,h2,h3,_⟩:=h1;split at w
   ·rename_i xs Ov;split at w
    ·rename_i hc;exact⟨sep,a,xs,hx.1,rfl, .inr (by rw[<-sd Ov h3];exact s _ _ h2),hc.1,hc.2,WP.now w s ⟨rfl,by rw[p6];exact hc.2⟩⟩
    ·exact w.elim
   ·exact w.elim
  ·exact w.elim) ho ha fG ly fH qr rfl
def T5:List D->M D
 |[.lst ds]=>ae (.tup ds)
 |[.tup ds]=>ae (.tup ds)
 |_=>ag
def FC:List D->M D
 |[.lst ds]=>ae (.lst ds)
 |[.tup ds]=>ae (.lst ds)
 |_=>ag
def IV(hg:Gl X "list")(hm:X.mg "list"=none)(hb:Xl "list"=some (.type "list"))(ha:jz X Xw [e] δs)(he:WS [e] X.env=[(false,eval e X.env)]:=by rfl):PD X Xw (.Call (.Name "list" p) [e] [] pos) (dA FC δs):=
 DP va (λXw F H vs ds Q s h w=>by
  unfold FC at w;split at w
  ·rename_i ds;obtain⟨v,rfl,h1⟩:=h.one;obtain⟨a,ws,rfl,h2,h3,h4⟩:=h1;exact⟨a,ws,rfl, .inl (SqL.of (s _ _ h2)),λl hl=>WP.fin w (Ext.lay s hl) ⟨l,ws,rfl,aP,DenL.mono (Ext.lay s hl).ff h3,h4⟩⟩
  ·rename_i ds;obtain⟨v,rfl,h1⟩:=h.one;obtain⟨a,ws,rfl,h2,h3,h4⟩:=h1;exact⟨a,ws,rfl, .inr (SqT.of (s _ _ h2)),λl hl=>WP.fin w (Ext.lay s hl) ⟨l,ws,rfl,aP,DenL.mono (Ext.lay s hl).ff h3,h4⟩⟩
  ·exact w.elim) hg hm hb ha (by decide) (by decide) he rfl
def v_(hc:X.calm=true)(hg:Gl X "max")(hm:X.mg "max"=none)(hb:Xl "max"=some (.builtin "max"))(ha:jz X Xw [e,e2] δs)(he:WS [e,e2] X.env=(false,eval e X.env)::WS [e2] X.env:=by rfl)
 (kL:(Yt pos (WS [e2] X.env)).any (·.1)=false:=by rfl):PD X Xw (.Call (.Name "max" p) [e,e2] [] pos) (dA vH δs):=
 dw (CB hc) (λXw F H vs ds Q s h w=>by
  unfold vH at w;split at w
  ·obtain⟨v,v',rfl,h1,h2⟩:=h.two;cases (show _=_ from h1);cases (show _=_ from h2);exact⟨_,_,rfl,WP.now w s rfl⟩
  ·exact w.elim) hg hm hb ha (by decide) (by decide) he kL
def AJ(hc:X.calm=true)(hg:Gl X "min")(hm:X.mg "min"=none)(hb:Xl "min"=some (.builtin "min"))(ha:jz X Xw [e,e2] δs)(he:WS [e,e2] X.env=(false,eval e X.env)::WS [e2] X.env:=by rfl)
 (kL:(Yt pos (WS [e2] X.env)).any (·.1)=false:=by rfl):PD X Xw (.Call (.Name "min" p) [e,e2] [] pos) (dA yt δs):=
 dw (CD hc) (λXw F H vs ds Q s h w=>by
  unfold yt at w;split at w
  ·obtain⟨v,v',rfl,h1,h2⟩:=h.two;cases (show _=_ from h1);cases (show _=_ from h2);exact⟨_,_,rfl,WP.now w s rfl⟩
  ·exact w.elim) hg hm hb ha (by decide) (by decide) he kL
def nums:List D->Option (List Int)
 |[]=>some []
 | .int x::r=>(nums r).map (x:: ·)
 |_=>none
def eP{K:WI}:∀{ds:List D}{vs:List V}{xs:List Int},nums ds=some xs->DenL K F ds vs->vs=xs.map V.int
 |[],_,_,e,h=>by cases e;exact h
 | .int b::r,_,_,e,⟨v,r',h1,h2,h3⟩=>by
   unfold nums at e;cases q:nums r with
   |none=>rw[q] at e;cases e
   |some bs=>rw[q] at e;cases e;subst h1;rw[eP q h3,show v= .int b from h2];rfl
 | .non::_,_,_,e,_=>by cases e
 | .str _::_,_,_,e,_=>by cases e
 | .bl _::_,_,_,e,_=>by cases e
 | .raw _::_,_,_,e,_=>by cases e
 | .exc _::_,_,_,e,_=>by cases e
 | .scr _::_,_,_,e,_=>by cases e
 | .tup _::_,_,_,e,_=>by cases e
 | .lst _::_,_,_,e,_=>by cases e
def sD(neg:Bool):D->D->M D
 | .int i, .tup ds=>match nums ds with | some ns=>ae (.bl (if neg then !ns.contains i else ns.contains i)) | none=>ag
 |_,_=>ag
def yd(i:Int)(ns:List Int):Qk (.int i) (ns.map V.int)=ns.contains i:=by
 unfold Qk;rw[acG];induction ns with
 |nil=>rfl
 |cons n ns ih=>
  rw[YY,ado,ih];congr 1;show He (.int n) (.int i)=(i==n)
  unfold He;exact Bool.beq_comm
def Fh{neg:Bool}{K:WI}:xi K (Qs K neg) (sD neg):=λXw F H x y dx dy Q s hx hy w=>by
 unfold sD at w;split at w
 ·rename_i i ds;obtain⟨a,vs,h1,h2,h3,h4⟩:=hy;split at w
  ·rename_i ns hn;have hv:=eP hn h3;subst hv;cases (show _=_ from hx);refine⟨a,ns.map V.int,h1, .inr (SqT.of (s _ _ h2)),rfl,?_,?_⟩
   ·rw[Zu];exact Xe.mpr λ_ _=>rfl
   ·rw[yd];exact WP.now w s rfl
  ·exact w.elim
 ·exact w.elim
def DV(ha:PD X Xw a δa)(hb:PD X Xw b δb)(hm:XJ .NotIn b=false:=by rfl):pL X Xw (.Compare a [.NotIn] [b] pos) (cW (d2 (sD true) δa δb)):=gf vX Fh ha hb hm
def ET(neg:Bool):D->D->M D
 | .str x, .str y=>ae (.bl (if neg then !(!(Zm y x 0 y.length 1).isEmpty) else !(Zm y x 0 y.length 1).isEmpty))
 |_,_=>ag
def Me(ha:PD X Xw a δa)(hb:PD X Xw b δb)(hm:XJ .In b=false:=by rfl):PD X Xw (.Compare a [.In] [b] pos) (d2 (ET false) δa δb):=AI DK (λXw F H x y dx dy Q s hx hy w=>by
 unfold ET at w;split at w
 ·exact⟨_,_,hx.1,hy.1,WP.now w s rfl⟩
 ·exact w.elim) ha hb hm
end
end L3
namespace L3
open PySem PySem.Spec L2 SeqAt HT
open PyProof.Rows hiding St
section
variable{Xw:Nat->Hp->Prop}{b:Expr}
def WPO(Xw:Nat->Hp->Prop)(F H:Hp)(m:M (Option Int))(Q:Option Int->Hp->Prop):Prop:=
 match m with
 |none=>False
 |some (.ok b)=>∀H' F',Ext F H F' H'->Q b H'
 |some (.ex n)=>∀F' H',Ext F H F' H'->Xw n H'
def WPO.mono{Xw:Nat->Hp->Prop}{F H:Hp}{m:M (Option Int)}{Q Q':Option Int->Hp->Prop}(h:WPO Xw F H m Q)(k:∀v H',Q v H'->Q' v H'):WPO Xw F H m Q':=by
 match m,h with
 |none,h=>exact h
 |some (.ok d),h=>exact λH2 F2 e2=>k _ _ (h H2 F2 e2)
 |some (.ex n),h=>exact h
end
def PQ(x:Str):It:=⟨λi _=>i<x.cps.size,λi H v H'=>H'=H/\∃c,x.cps[i]? =some c/\v= .str ⟨#[c]⟩,λi _=>x.cps.size<=i⟩
def D8{P:Xc}{K:WI}(it:Addr)(x:Str)(t:Tok):Turn P w K tg (PQ x) [it] it (λi h=>i<=x.cps.size/\h.IsStrIter it "str_ascii_iterator" x t i) where
 mem:=by simp
 obj:=λi h st b hb=>by
  have e:b=it:=by simpa using hb
  subst e;obtain⟨_,o,e,c,d⟩:=st;exact⟨o,e,λv z=>by rw[d] at z;cases z⟩
 keep:=λi h h' st k=>⟨st.1,let ⟨o,e,r⟩:=st.2;⟨o,k it (by simp) o e,r⟩⟩
 item:=by
  intro X hP hw hK hc i f8 s σ H E I hf st hg;subst hP hw hK;obtain⟨f0,f1,f2,f3,f4,f5⟩:=hf it (by simp);have hi:i<x.cps.size:=hg;refine(Walks.strAscii (I.ok.hd hc) it x t).item i s _ _ hi st.2 λv h' tk hv oT kk=>?_;obtain⟨c,u,Q0,rfl⟩:=hv;have I1:Inv X f8 σ H {s with heap:=h',toks:=tk}:=I.turned (λb o hb e=>kk b o (by simpa using hb) e) f0 f1 f3 f4 f5;obtain⟨o,e,cc,dd⟩:=id oT;exact⟨_,rfl,tW e cc dd (by decide) ⟨.str ⟨#[c]⟩,H,I1,⟨u,rfl⟩,⟨rfl,c,Q0,rfl⟩,⟨hi,oT⟩,λb hb=>(hf b hb).1⟩⟩
 done:=by
  intro X hP hw hK hc i f8 s σ H E I hf st hg;subst hP hw hK;obtain⟨f0,f1,f2,f3,f4,f5⟩:=hf it (by simp);have hi:i=x.cps.size:=aaM st.1 hg;subst hi;exact(Walks.strAscii (I.ok.hd hc) it x t).done s _ _ st.2 λh' tk kk=>⟨rfl,I.turned (λb o hb e=>kk b o (by simpa using hb) e) f0 f1 f3 f4 f5⟩
 self:=λ_ _ _ _ _ st h=>wpAny_pyIter_striter_ascii st.2 h
def D9{P:Xc}{K:WI}(it:Addr)(x:Str)(t:Tok):Turn P w K tg (PQ x) [it] it (λi h=>i<=x.cps.size/\h.IsStrIter it "str_iterator" x t i) where
 mem:=by simp
 obj:=λi h st b hb=>by
  have e:b=it:=by simpa using hb
  subst e;obtain⟨_,o,e,c,d⟩:=st;exact⟨o,e,λv z=>by rw[d] at z;cases z⟩
 keep:=λi h h' st k=>⟨st.1,let ⟨o,e,r⟩:=st.2;⟨o,k it (by simp) o e,r⟩⟩
 item:=by
  intro X hP hw hK hc i f8 s σ H E I hf st hg;subst hP hw hK;obtain⟨f0,f1,f2,f3,f4,f5⟩:=hf it (by simp);have hi:i<x.cps.size:=hg;refine(Walks.strWide (I.ok.hd hc) it x t).item i s _ _ hi st.2 λv h' tk hv oT kk=>?_;obtain⟨c,u,Q0,rfl⟩:=hv;have I1:Inv X f8 σ H {s with heap:=h',toks:=tk}:=I.turned (λb o hb e=>kk b o (by simpa using hb) e) f0 f1 f3 f4 f5;obtain⟨o,e,cc,dd⟩:=id oT;exact⟨_,rfl,tW e cc dd (by decide) ⟨.str ⟨#[c]⟩,H,I1,⟨u,rfl⟩,⟨rfl,c,Q0,rfl⟩,⟨hi,oT⟩,λb hb=>(hf b hb).1⟩⟩
 done:=by
  intro X hP hw hK hc i f8 s σ H E I hf st hg;subst hP hw hK;obtain⟨f0,f1,f2,f3,f4,f5⟩:=hf it (by simp);have hi:i=x.cps.size:=aaM st.1 hg;subst hi;exact(Walks.strWide (I.ok.hd hc) it x t).done s _ _ st.2 λh' tk kk=>⟨rfl,I.turned (λb o hb e=>kk b o (by simpa using hb) e) f0 f1 f3 f4 f5⟩
 self:=λ_ _ _ _ _ st h=>wpAny_pyIter_striter_wide st.2 h
section
variable{X:Cx}{Xw:Nat->Hp->Prop}{tg a b e l o:Expr}{δ δo:DE}{δs:DA}{T0 a9:Pos}
def RJ(tl:TE):TI:=λσ H R=>tl σ H λx H1=>∃z,x= .str z/\R (PQ z) H1
def Mr{tl:TE}(hl:PE X l tl):PI X tg l (RJ tl):=by
 intro f8 s σ H R I h;refine ck (hl f8 s σ H _ I h) λv s1 ⟨x,H1,I1,r1,q1⟩=>?_;obtain⟨z,e,q⟩:=q1;subst e;obtain⟨t,rfl⟩:=r1;have fp:∀b∈[s1.heap.objs.size],sx X f8 H1 b:=λb hb=>by
  have e:b=s1.heap.objs.size:=by simpa using hb
  subst e;exact I1.fpOk (WO _) (I1.hok.fresh (WO _))
 cases ha:z.cps.all (· <128)
 ·exact wpAny_pyIter_wide ha ⟨s1.heap.objs.size,[s1.heap.objs.size],_,_,H1,rfl,I1.kept (t':=s1.toks) λb o e=>Wx _ e,D9 _ z t,⟨Xq _,_,WN _ rfl,rfl,rfl⟩,fp,q⟩
 ·exact wpAny_pyIter_ascii ha ⟨s1.heap.objs.size,[s1.heap.objs.size],_,_,H1,rfl,I1.kept λb o e=>Wx _ e,D8 _ z t,⟨Xq _,_,WN _ rfl,rfl,rfl⟩,fp,q⟩
def signs(x:Str):List D:=x.cps.toList.map λc=>D.str ⟨#[c]⟩
def MK:D->M (List D)
 | .str x=>ae (signs x)
 |_=>ag
def Ii{K:WI}{F:Hp}(x:Str):ItD K F (PQ x) (signs x):=λF' H' i s1 s2=>by
 refine⟨λd e=>?_,λhl=>show x.cps.size<=i by simpa[signs] using hl⟩;unfold signs at e;rw[WT] at e;cases q:x.cps.toList[i]? with
 |none=>rw[q] at e;cases e
 |some c=>
  rw[q] at e;cases e;have hi:i<x.cps.size:=by
   have:=(WQ.mp q).1;simpa using this
  refine⟨hi,λv H'' y=>?_⟩;obtain⟨e2,c',J3,rfl⟩:=y;subst e2;have:c'=c:=by
   have q':x.cps[i]? =some c:=by simpa using q
   rw[q'] at J3;exact(Xg J3).symm
  subst this;exact⟨F',Ext.refl s2,rfl,by show 1<=lim;decide⟩
def IZ(h:PD X Xw l δ):Bb X Xw tg l (λρ=>δ ρ>>=MK):=PI.weak (Mr h) λσ H R ⟨F,ρ,s,w⟩=>by
 refine⟨F,ρ,s,WP.mono (WPI.bind w) λv H1 ⟨F1,d,e1,q1,w1⟩=>?_⟩;cases d with
 |str z=>exact⟨z,q1.1,w1 _ _ _ (Ext.refl e1.fh) (Ii z)⟩
 |_=>exact w1.elim
def Lx:Value->Bool
 | .bool b=>b
 |_=>false
def EN{bs:List Bool}:∀y,y∈(bs.map X3).toArray->EqAt A s y (.bool true) (Lx y):=λy hy=>by
 have hy:y∈bs.map X3:=by simpa using hy
 obtain⟨b,_,rfl⟩:=WM.mp hy;have:=EqAt.bool_bool (A:=A) (s:=s) b true;cases b<;>exact this
def CI:D->List D->M D
 | .lst ds,[.bl true]=>match bools ds with | some bs=>ae (.int (bs.count true)) | none=>ag
 |_,_=>ag
def Lm:D->List D->M D
 | .lst ds,[.bl true]=>match bools ds with
   |some bs=>if bs.contains true then ae (.int (bs.idxOf true)) else ag
   |none=>ag
 |_,_=>ag
def xE:∀bs:List Bool,(bs.map X3).countP Lx=bs.count true
 |[]=>rfl
 |b::bs=>by
  rw[WD,List.countP_cons,xE bs,List.count_cons];cases b<;>rfl
def R8:V->List V->Hp->VK->Prop:=λx vs H Q=>∃(a:Addr) (bs:List Bool),x= .ref a/\vs=[.bl true]/\H a=some (.lst (bs.map V.bl))/\Q (.int (bs.count true)) H
def R9:V->List V->Hp->VK->Prop:=λx vs H Q=>∃(a:Addr) (bs:List Bool),x= .ref a/\vs=[.bl true]/\H a=some (.lst (bs.map V.bl))/\bs.contains true=true/\Q (.int (bs.idxOf true)) H
def LQ:MY X "list.count" R8:=by
 intro f8 s σ H x vs v us Q I rx rv h;obtain⟨a,bs,rfl,rfl,hH,q⟩:=h;cases rx;obtain⟨u,rfl,r1⟩:=rv.one;cases (show u=_ from r1);obtain⟨z,aI,n,r,hl,e⟩:=I.lstM hH;obtain rfl:=mX r;refine aab F.slot_list_count ⟨_,e,rfl⟩ F.entry_list_count (F.args_list_count_2 _ _) (list_countAt a _ n none #[] (.bool true) Lx) ⟨e,EN,?_⟩;have ec:((bs.map X3).toArray.toList.countP Lx)=bs.count true:=xE bs;rw[ec];exact⟨.int (bs.count true),H,I.tok _,⟨_,rfl⟩,q⟩
def LR:MY X "list.index" R9:=by
 intro f8 s σ H x vs v us Q I rx rv h;obtain⟨a,bs,rfl,rfl,hH,hc,q⟩:=h;cases rx;obtain⟨u,rfl,r1⟩:=rv.one;cases (show u=_ from r1);obtain⟨z,aI,n,r,hl,e⟩:=I.lstM hH;obtain rfl:=mX r;have hm:true∈bs:=by simpa using hc
 have fM:bs.idxOf true<bs.length:=acb.mpr hm;have hz:bs.length<=WX:=by simpa using z
 have hs:WX=16777216:=YC;refine aab F.slot_list_index ⟨_,e,rfl⟩ F.entry_list_index (F.args_list_index_2 _ _) (list_indexAt a _ n none #[] (.bool true) Lx (bs.idxOf true) (by simpa using fM) (by omega) ?_ ?_) ⟨e,EN,?_⟩
 ·have:bs[bs.idxOf true]=true:=adm fM;simp[Lx,this]
 ·intro m Vi C9;have M_:m<bs.length:=by simpa using Vi
  have:bs[m]≠true:=λz=>by
   have:=acv (xs:=bs) C9;rw[z] at this;simp at this
  simp[Lx];simpa using this
 ·exact⟨.int (bs.idxOf true),H,I.tok _,⟨_,rfl⟩,q⟩
def Mc(ho:PD X Xw o δo)(ha:jz X Xw [e] δs)(fG:Yw o "count" X.env (eval o X.env)=eval o X.env:=by rfl)
 (ly:((Yt a9 (WS [e] X.env)).all (λx=>!x.1)&&(Z_ a9 (Y4 [] X.env)).all (λx=>x.1.isSome)&&decide ([e].length+([]:List Za).length+(if ([]:List Za).isEmpty then 0 else 1)<30))=true:=by rfl)
 (fH:(T0.endLine==a9.line)=true:=by rfl)(qr:WS [e] X.env=[(false,eval e X.env)]:=by rfl):PD X Xw (.Call (.Attribute o "count" T0) [e] [] a9) (dM gL CI δo δs):=
 B0 YV PySem.F.slot_list_count PySem.F.type_list_count LQ qB (λXw F H x vs d ds Q s hx hv w=>by
  unfold CI at w;split at w
  ·rename_i ds;obtain⟨v,rfl,h1⟩:=hv.one;cases (show _=_ from h1);obtain⟨a,ws,rfl,h2,h3,_⟩:=hx;split at w
   ·rename_i bs hb;exact⟨a,bs,rfl,rfl,by rw[<-iA hb h3];exact s _ _ h2,WP.now w s rfl⟩
   ·exact w.elim
  ·exact w.elim) ho ha fG ly fH qr rfl
def Md(ho:PD X Xw o δo)(ha:jz X Xw [e] δs)(fG:Yw o "index" X.env (eval o X.env)=eval o X.env:=by rfl)
 (ly:((Yt a9 (WS [e] X.env)).all (λx=>!x.1)&&(Z_ a9 (Y4 [] X.env)).all (λx=>x.1.isSome)&&decide ([e].length+([]:List Za).length+(if ([]:List Za).isEmpty then 0 else 1)<30))=true:=by rfl)
 (fH:(T0.endLine==a9.line)=true:=by rfl)(qr:WS [e] X.env=[(false,eval e X.env)]:=by rfl):PD X Xw (.Call (.Attribute o "index" T0) [e] [] a9) (dM gL Lm δo δs):=
 B0 YV abP abO LR qB (λXw F H x vs d ds Q s hx hv w=>by
  unfold Lm at w;split at w
  ·rename_i ds;obtain⟨v,rfl,h1⟩:=hv.one;cases (show _=_ from h1);obtain⟨a,ws,rfl,h2,h3,_⟩:=hx;split at w
   ·rename_i bs hb;split at w
    ·rename_i hc;exact⟨a,bs,rfl,rfl,by rw[<-iA hb h3];exact s _ _ h2,hc,WP.now w s rfl⟩
    ·exact w.elim
   ·exact w.elim
  ·exact w.elim) ho ha fG ly fH qr rfl
end
end L3
namespace L3
open PySem PySem.Spec L2 SeqAt HT
open PyProof.Rows hiding St
open PySem.W (Frag Looks InstAt findIn mroIn)
open PySem.Builtin PySem.Builtin.ObjectAttr PySem.Builtin.Getset_descriptor
section
variable{prog:Xc}{w:World}{A:Xu}{E:Value->WC->Prop}{h:Heap}{g:Array GenState}{d:Drawn}{t:Nat}{os:OsState}{x D:Addr}{ox:Obj}{K:Frag}
def zZ(X:K.In h)(hx:h.get? x=some ox)(hc:ox.cls= .ref D)(hm:mroIn K D (.type "object")=some true)
 (hq:R (.ok (.ret (.ref D))) ⟨h,g,d,t,os⟩):ZD (model prog w) A (.call (.builtin "getset_descriptor.__get__") ⟨[.builtin "object.__class__", .ref x,tp],[]⟩) R ⟨h,g,d,t,os⟩:=by
 have L0:Looks (model prog w) h (typeOf (.ref x)) (.ref D):=hc▸(Looks.ld hx).andThen .now;have L1:=acs (M:=model prog w) X hm;refine codeAny_call_builtin PySem.W.KF.slot_gs.plain PySem.W.KF.entry_gs (PySem.W.KF.slot_gs.check _ _ _ _ _ _ _ _ PySem.W.KF.type_class (PySem.W.KF.args_gs _ _ _) ?_);unfold Z8.«getset_descriptor.__get__» descrGet;rw[PySem.W.dga_obj];refine Wv (WA ?_);unfold descrGetter descrCheckInstance descrNameAndClass isInstance;simp only[PySem.W.KF.owner_class]
 repeat lk
 refine⟨Code.quiet_builtin _ (by decide+kernel),Yn PySem.W.KF.entry_class ?_⟩;unfold Z8.«object.__class__» shownTypeOf
 repeat lk
 exact hq
def pb(X:K.In h)(hx:h.get? x=some ox)(hc:ox.cls= .ref D)(ha:findIn K (.ref D) "__class__"=some (some (.builtin "object.__class__")))(hm:mroIn K D (.type "object")=some true)
 (hq:Q (.done (.ret (.ref D))) ⟨h,g,d,t,os⟩):wpAny (model prog w) A (Z8.«object.__getattribute__» ⟨[.ref x, .str "__class__" tk],[]⟩) Q E ⟨h,g,d,t,os⟩:=by
 have Wj:(⟨h,g,d,t,os⟩:WC).TypeIs (.builtin "object.__class__") "getset_descriptor":=ads;have f5:=ads;have f6:=F.slot_gs_get.lookup;have f7:=F.slot_gs_set.lookup;have LC:Looks (model prog w) h (aa4 (.ref D) "__class__") (some (.builtin "object.__class__")):=aaA X ha
 repeat (any_goals (first | assumption | (with_reducible refine abI hx ?_;rw[hc]) | with_reducible refine LC.at ?_ | wp_step))
 exact zZ X hx hc hm (WA hq)
def vb{M:Model}(X:K.In h)(hx:h.get? x=some ox)(hc:ox.cls= .ref D)(hb:mroIn K D (.type "BaseException")=some true)(hq:Q () ⟨h,g,d,t,os⟩):
 wpAny M A (checkBuiltinCall "BaseException.__getattribute__" ⟨[.ref x,OM],[]⟩) Q E ⟨h,g,d,t,os⟩:=by
 have hk:builtinKind "BaseException.__getattribute__"=some .slot:=by decide+kernel
 have Lj:splitId "BaseException.__getattribute__"=some ("BaseException","__getattribute__"):=by decide+kernel
 have LB:Looks M h (isSubtype (.ref D) (.type "BaseException")) true:=acs X hb;have ha:=F.args_bexc_ga (.ref x) OM;simp only[checkBuiltinCall,hk,Lj];refine Wv ?_
 ·unfold isInstance
  repeat (first | (with_reducible refine abI hx ?_;rw[hc]) | with_reducible refine LB.at ?_ | wp_step)
  exact hq
def p8{tk:Tok}(X:K.In h)(hx:h.get? x=some ox)(hc:ox.cls= .ref D)(ha:findIn K (.ref D) "__class__"=some (some (.builtin "object.__class__")))(hm:mroIn K D (.type "object")=some true)(hb:mroIn K D (.type "BaseException")=some true)
 (hq:R (.ok (.ret (.ref D))) ⟨h,g,d,t,os⟩):ZD (model prog w) A (.call (.builtin "BaseException.__getattribute__") ⟨[.ref x, .str "__class__" tk],[]⟩) R ⟨h,g,d,t,os⟩:=
 codeAny_call_builtin (by decide+kernel) F.entry_bexc_ga (vb X hx hc hb (pb X hx hc ha hm hq))
def p7(X:K.In h)(hx:h.get? x=some ox)(hc:ox.cls= .ref D)(U0:findIn K (.ref D) "__getattribute__"=some (some (.builtin "BaseException.__getattribute__")))(U5:findIn K (.ref D) "__getattr__"=some none)
 (ha:findIn K (.ref D) "__class__"=some (some (.builtin "object.__class__")))(hm:mroIn K D (.type "object")=some true)(hb:mroIn K D (.type "BaseException")=some true)
 (hq:Q (some (.ref D)) ⟨h,g,d,t+1,os⟩):wpAny (model prog w) A (getAttr? (.ref x) "__class__") Q E ⟨h,g,d,t,os⟩:=by
 have LG:Looks (model prog w) h (aa4 (.ref D) "__getattribute__") (some (.builtin "BaseException.__getattribute__")):=aaA X U0;have LH:Looks (model prog w) h (aa4 (.ref D) "__getattr__") none:=aaA X U5;have VG:(Zv "BaseException.__getattribute__"==Zv "object.__getattribute__")=false:=by decide+kernel
 have Ws:(onTheHeap (WY D)&&Zv "BaseException.__getattribute__"==Zv "object.__getattribute__")=false:=by rw[VG];rfl
 have f3:=PySem.F.excAttr_ValueError.ga.bind (.ref x);unfold getAttr? getAttrBy?
 repeat (any_goals (first | assumption | (with_reducible refine abI hx ?_;rw[hc]) | with_reducible refine LG.at ?_ | with_reducible refine LH.at ?_ | wp_step))
 refine p8 X hx hc ha hm hb ?_
 repeat (any_goals (first | assumption | wp_step))
structure ExcC (K:Frag) (D:Addr):Prop where
 ga:findIn K (.ref D) "__getattribute__"=some (some (.builtin "BaseException.__getattribute__"))
 gt:findIn K (.ref D) "__getattr__"=some none
 ca:findIn K (.ref D) "__class__"=some (some (.builtin "object.__class__"))
 mo:mroIn K D (.type "object")=some true
 mb:mroIn K D (.type "BaseException")=some true
 cl:(ZP K D).isSome=true
def yj(c:ExcC K D):PySem.W.KitX K (.ref x) (.ref D) (λh=>∃ox,h.get? x=some ox/\ox.cls= .ref D) where
 ty:=λ_ _ _ ⟨_,hx,hc⟩=>hc▸(Looks.ld hx).andThen .now
 it:=λ_ _ X _=>by
  obtain⟨T9,K_⟩:=XA.mp c.cl;unfold ZP at K_;split at K_
  ·rename_i c' d' T8 JB ho;intro A' Q' E' s' k q;unfold isType loadHead;exact Wv (wpAny_loadPart (k _ _ (X _ _ ho)) (WA q))
  ·cases K_
 ne:=λh tp dd aI n sl X VC=>by
  obtain⟨T9,K_⟩:=XA.mp c.cl;refine Zf.mpr λq=>?_;have e:D=tp:=ade (beq_iff_eq.mp q);subst e;unfold ZP at K_;split at K_
  ·rename_i c' d' T8 JB ho;have z:=(X _ _ ho).symm.trans VC;cases z
  ·cases K_
 ca:=λ{_ _ _ _ _ s} X ⟨_,hx,hc⟩ k=>by
  obtain⟨hh,g,d,t,os⟩:=s;exact p7 X hx hc c.ga c.gt c.ca c.mo c.mb k
end
section
variable{X:Cx}{Xw:Nat->Hp->Prop}{e e2:Expr}{δs:DA}{pos p:Pos}
def R_(K:Frag):List V->Hp->VK->Prop:=λxs H Q=>∃ea C D b,xs=[.ref ea, .ref D]/\H ea=some (Kr ea C)/\ExcC K C/\WV K (.ref C) (.ref D)=some b/\Q (.bl b) H
def Pd(K:Frag):List V->Hp->VK->Prop:=λxs H Q=>∃ea C T b,xs=[.ref ea, .ty T]/\H ea=some (Kr ea C)/\ExcC K C/\WV K (.ref C) (.type T)=some b/\Q (.bl b) H
def EA:CallR X (.builtin "isinstance") (R_ X.K):=by
 intro f8 s σ H xs us Q I r h;obtain⟨ea,C,D,b,rfl,hH,hc,e,q⟩:=h;obtain⟨u,w',rfl,r1,r2⟩:=vals2 r;cases (show u=_ from r1);cases (show w'=_ from r2);obtain⟨hx,_,_⟩:=I.hok ea _ hH;exact XN (yj hc) I.kIn hx e (λz=>nomatch z) λtk=>⟨.bl b,H,I.tok tk,rfl,q⟩
def CA:CallR X (.builtin "isinstance") (Pd X.K):=by
 intro f8 s σ H xs us Q I r h;obtain⟨ea,C,D,b,rfl,hH,hc,e,q⟩:=h;obtain⟨u,w',rfl,r1,r2⟩:=vals2 r;cases (show u=_ from r1);cases (show w'=_ from r2);obtain⟨hx,_,_⟩:=I.hok ea _ hH;exact XN (yj hc) I.kIn hx e (λz=>nomatch z) λtk=>⟨.bl b,H,I.tok tk,rfl,q⟩
def nj(K:Frag)(cs:List Addr):List D->M D
 |[.exc C, .raw (.ref D)]=>if C∈cs then(match WV K (.ref C) (.ref D) with | some b=>ae (.bl b) | none=>ag) else ag
 |[.exc C, .raw (.ty T)]=>if C∈cs then(match WV K (.ref C) (.type T) with | some b=>ae (.bl b) | none=>ag) else ag
 |_=>ag
def jT(Tc:∀C∈cs,ExcC X.K C)(hg:Gl X "isinstance")(hm:X.mg "isinstance"=none)(hb:Xl "isinstance"=some (.builtin "isinstance"))(ha:jz X Xw [e,e2] δs)(he:WS [e,e2] X.env=(false,eval e X.env)::WS [e2] X.env:=by rfl)
 (kL:(Yt pos (WS [e2] X.env)).any (·.1)=false:=by rfl):PD X Xw (.Call (.Name "isinstance" p) [e,e2] [] pos) (dA (nj X.K cs) δs):=
 dw (EA.or CA) (λXw F H vs ds Q s h w=>by
  unfold nj at w;split at w
  ·rename_i C D;obtain⟨v,v',rfl,h1,h2⟩:=h.two;cases (show _=_ from h2);obtain⟨ea,rfl,h3⟩:=h1;split at w
   ·rename_i hC;split at w
    ·rename_i b hb;exact .inl ⟨ea,C,D,b,rfl,s _ _ h3,Tc C hC,hb,WP.now w s rfl⟩
    ·exact w.elim
   ·exact w.elim
  ·rename_i C T;obtain⟨v,v',rfl,h1,h2⟩:=h.two;cases (show _=_ from h2);obtain⟨ea,rfl,h3⟩:=h1;split at w
   ·rename_i hC;split at w
    ·rename_i b hb;exact .inr ⟨ea,C,T,b,rfl,s _ _ h3,Tc C hC,hb,WP.now w s rfl⟩
    ·exact w.elim
   ·exact w.elim
  ·exact w.elim) hg hm hb ha (by decide) (by decide) he kL
end
end L3
namespace L3
open PySem PySem.Spec L2 SeqAt HT
open PyProof.Rows hiding St
open PySem.W (Frag Looks findIn mroIn)
def vv{ea C:Addr}(x:Ba h1 ea C)(k:∀o,h1.get? ea=some o->h2.get? ea=some o):Ba h2 ea C:=
 let ⟨ox,a,b⟩:=x
 ⟨ox,k ox a,b⟩
def MH(τ:DS)(hd:Nat->M D):DS:=λρ=>match τ ρ with
 |some (.ex n)=>hd n>>=λd=>ae (.rt d)
 |r=>r
abbrev qx(X:Cx)(pn:List (Addr×Obj))(E:Value->WC->Prop):Cx:={X with pn:=pn,xe:=E}
abbrev kh(X:Cx)(ea:Addr)(E:Value->WC->Prop):Cx:={X with A:=X.A.mark (some (.ref ea)),calm:=false,xe:=E}
section
variable{X:Cx}{f8 pn:List (Addr×Obj)}{σ:St}{H:Hp}{s:WC}{E:Value->WC->Prop}{ea:Addr}
def FX(ok:X.Ok):(qx X pn E).Ok:=⟨ok.mod,ok.kind,ok.glob,ok.blt,ok.above,ok.inj,ok.has,ok.cab,ok.hd,ok.frames,ok.stk,ok.exf,ok.bs,ok.bsz,ok.noex,ok.exfs,ok.funs,ok.frf⟩
def Dd(I:Inv X f8 σ H s)(hp:X.pn=[]):Inv (qx X f8 E) [] σ H s:=
 ⟨FX I.ok,I.os,I.bare,I.base,I.loc,I.cell,I.free,I.freeC,λp q=>I.pin p (by rw[hp];rw[Xp] at q;exact q),I.hok,I.len⟩
def DI(ok:(qx X pn E).Ok):X.Ok:=⟨ok.mod,ok.kind,ok.glob,ok.blt,ok.above,ok.inj,ok.has,ok.cab,ok.hd,ok.frames,ok.stk,ok.exf,ok.bs,ok.bsz,ok.noex,ok.exfs,ok.funs,ok.frf⟩
def gK(I:Inv (qx X f8 E) B5 σ H s)(hp:X.pn=[]):Inv X f8 σ H s:=
 ⟨DI I.ok,I.os,I.bare,I.base,I.loc,I.cell,I.free,I.freeC,λp q=>I.pin p (by rw[hp] at q;exact YT _ q),I.hok,I.len⟩
def jF(I:Inv X f8 σ H s):Inv (kh X ea E) f8 σ H s:=
 ⟨⟨I.ok.mod,I.ok.kind,I.ok.glob,I.ok.blt,I.ok.above,I.ok.inj,I.ok.has,I.ok.cab,λz=>(by cases z),I.ok.frames,I.ok.stk,I.ok.exf,I.ok.bs,I.ok.bsz,I.ok.noex,I.ok.exfs,I.ok.funs,I.ok.frf⟩,I.os,I.bare,I.base,I.loc,I.cell,I.free,I.freeC,I.pin,I.hok,I.len⟩
def vq(I:Inv (kh X ea E) f8 σ H s)(hd:X.calm=true->X.A.handled=none)(BA:X.A.frames=some X.stack):Inv X f8 σ H s:=
 ⟨⟨I.ok.mod,I.ok.kind,I.ok.glob,I.ok.blt,I.ok.above,I.ok.inj,I.ok.has,I.ok.cab,hd,BA,I.ok.stk,I.ok.exf,I.ok.bs,I.ok.bsz,I.ok.noex,I.ok.exfs,I.ok.funs,I.ok.frf⟩,I.os,I.bare,I.base,I.loc,I.cell,I.free,I.freeC,I.pin,I.hok,I.len⟩
def Af(I:Inv X f8 σ H s)(BB:XQ X.env.locals s.heap h')(hn:h'.Ns X.env.locals m'):Inv X f8 (σ.map λ_=>none) H {s with heap:=h',toks:=tk}:=by
 have Ng:∀b o,X.adQ.heap.get? b=some o->b≠X.env.locals:=λb o e=>W4 (W_ (WH e) I.ok.above);refine⟨I.ok,I.os,I.bare,⟨λb o e n hb hx=>?_,λb o e n hb hx=>?_,I.base.free,λb o e hx=>?_,I.base.tups,I.base.frzs,I.base.tbls⟩,⟨m',hn,λi x v h1 h2 h3=>?_⟩,λx c e=>?_,I.free,I.freeC,λp hp=>?_,ze I.hok BB I.free,by rw[Ww];exact I.len⟩
 ·exact(BB.2 b (Ng b o e)).trans (I.base.keep b o e n hb hx)
 ·obtain⟨sl,q⟩:=I.base.slot b o e n hb hx;exact⟨sl,(BB.2 b (Ng b o e)).trans q⟩
 ·obtain⟨o',q⟩:=I.base.there b o e hx;exact⟨o',(BB.2 b (Ng b o e)).trans q⟩
 ·rw[WT] at h2;cases q:σ[i]? with
  |none=>rw[q] at h2;cases h2
  |some z=>rw[q] at h2;cases h2
 ·obtain⟨v,q⟩:=I.cell x c e;exact⟨v,q.sameBut BB (I.cne x c e)⟩
 ·obtain⟨e,n,ne,nf,d⟩:=I.pin p hp;exact⟨(BB.2 p.1 ne).trans e,n,ne,nf,d⟩
def De(I:Inv X f8 σ H s)(hn:H a=none)(h0:X.adQ.heap.get? a=none)(hl:a≠X.env.locals)(hc:∀x c,X.env.cells.lookup x=some c->c≠a)(hp:∀p∈X.pn++f8,p.1≠a)(ho:ObjOk X.prog X.w (upd H a o) s.heap a o):
 Inv X f8 σ (upd H a o) s:=by
 have ne:∀b u,H b=some u->b≠a:=λb u e=>bz e hn;have VX:∀b u,X.adQ.heap.get? b=some u->b≠a:=λb u e z=>by rw[z,h0] at e;cases e
 refine⟨I.ok,I.os,I.bare,⟨I.base.keep,I.base.slot,λb u e n hx=>?_,I.base.there,λb xs e=>?_,λb u xs e=>?_,λb ps e=>?_⟩,I.loc,I.cell,?_,λx c e=>?_,λp q=>?_,λb u e=>?_,I.len⟩
 ·rw[aA (VX b u e)];exact I.base.free b u e n hx
 ·have q:=I.base.tups b xs e;rw[aA (ne b _ q)];exact q
 ·have q:=I.base.frzs b u xs e;rw[aA (ne b _ q)];exact q
 ·obtain⟨more,q⟩:=I.base.tbls b ps e;exact⟨more,by rw[aA (ne b _ q)];exact q⟩
 ·rw[aA (XD hl)];exact I.free
 ·rw[aA (hc x c e)];exact I.freeC x c e
 ·obtain⟨e,n,r1,r2,d⟩:=I.pin p q;exact⟨e,by rw[aA (hp p q)];exact n,r1,r2,d⟩
 ·by_cases hb:b=a
  ·subst hb;rw[aP] at e;cases e;exact ho
  ·rw[aA hb] at e;exact(I.hok b u e).stay (λ_ _ _ q=>q) (λc q=>by rw[aA (ne c _ q)];exact q) λc xs q=>by rw[aA (ne c _ q)];exact q
end
section
variable{P:Xc}{w:World}{K:WI}{mg:Str->Option Value}{base:Heap}{N:List Str}{qual:Str}{scope:Scope}{f:Addr}{cd:Value}{A:Xu}{outer:List Env}{adQ:WC}{adP:Hp}{E:XK}{cv:Nat->Value}
def Jl{i:Nat}{hd:Nat->M D}{cA:Nat->Addr}
 (M8:∀k,cv k= .ref (cA k))(hN:(bh (dq P w cv) P w K mg base N qual scope f cd A outer adQ adP E).N.Nodup)(hi:(bh (dq P w cv) P w K mg base N qual scope f cd A outer adQ adP E).N[i]? =some n)(Ad:(bh (dq P w cv) P w K mg base N qual scope f cd A outer adQ adP E).env.scope.names.lookup n=some .local)(hg:Gl (bh (dq P w cv) P w K mg base N qual scope f cd A outer adQ adP E) x)(hm:mg x=some (.ref Cp))(hex:∀k,Z5 K (cv k) (.ref Cp)=some true)
 (hb:∀(pn:List (Addr×Obj)) (Ec:Value->WC->Prop) (Xw':Nat->Hp->Prop),Passes (dq P w cv) (qx (bh (dq P w cv) P w K mg base N qual scope f cd A outer adQ adP E) pn Ec) (EX cv Xw')->PSDs (qx (bh (dq P w cv) P w K mg base N qual scope f cd A outer adQ adP E) pn Ec) Xw' body τb)
 (hs:∀ea,PSDs (kh (bh (dq P w cv) P w K mg base N qual scope f cd A outer adQ adP E) ea λ_ _=>False) (λ_ _=>False) (b₀::Ko) τh)(hh:∀(k:Nat) (ρ:cQ),ρ.length=N.length->ρ[i]? =some (some (.fz (.exc (cA k))))->τh ρ=(hd k>>=λd=>ae (.rt d)))
 (lW:(x==("__debug__":Str))=false:=by decide):
 iR (bh (dq P w cv) P w K mg base N qual scope f cd A outer adQ adP E) Xw (.Try body [.ExceptHandler (some (.Name x np)) (some n) (b₀::Ko) Rr] [] [] pos) (MH τb λk=>noex (hd k)):=λG₀ J₀ f8 s σ H D I ⟨F,ρ,S,wq⟩=>by
 have vo:iy (bh (dq P w cv) P w K mg base N qual scope f cd A outer adQ adP E).stack=adQ.heap.objs.size::iy outer:=rfl;have pass:Passes (dq P w cv) (qx (bh (dq P w cv) P w K mg base N qual scope f cd A outer adQ adP E) f8 λe v6=>wpAny (model P w) (bh (dq P w cv) P w K mg base N qual scope f cd A outer adQ adP E).A (noteFrame e (bh (dq P w cv) P w K mg base N qual scope f cd A outer adQ adP E).env) (λ_ v4=>wpAny (model P w) (bh (dq P w cv) P w K mg base N qual scope f cd A outer adQ adP E).A (setFlight e none) (λ_ s₃=>wpAny (model P w) (bh (dq P w cv) P w K mg base N qual scope f cd A outer adQ adP E).A (handleBy e (bh (dq P w cv) P w K mg base N qual scope f cd A outer adQ adP E).env [.ExceptHandler (some (.Name x np)) (some n) (b₀::Ko) Rr]) (SP (bh (dq P w cv) P w K mg base N qual scope f cd A outer adQ adP E) f8 D) (bh (dq P w cv) P w K mg base N qual scope f cd A outer adQ adP E).xe s₃) (bh (dq P w cv) P w K mg base N qual scope f cd A outer adQ adP E).xe v4) (bh (dq P w cv) P w K mg base N qual scope f cd A outer adQ adP E).xe v6)
  (EX cv λk H'=>∃F',Ext G₀ J₀ F' H'/\WPS K Xw G₀ J₀ (noex (hd k)>>=λd=>ae (.rt d)) D):=by
  intro B5 σ' H1 s1 e s' I1 ⟨ea,nn,a0,B,H',he,Oe,U3,hok,un,CT,hB,m,Rj,F',ext',w'⟩;subst he;have BA:∀b∈iy (bh (dq P w cv) P w K mg base N qual scope f cd A outer adQ adP E).stack,H' b=none:=λb hb=>by
   obtain⟨_,o,ho,_⟩:=I1.stack.mem hb;exact un.free b o ho (I1.stkFree b hb) (by simp)
  have QO:ea∉iy (bh (dq P w cv) P w K mg base N qual scope f cd A outer adQ adP E).stack:=λhb=>by
   obtain⟨_,o,ho,sr⟩:=CT.2.2.1.mem hb;obtain⟨oe,vs,q1,_,q2,_⟩:=CT.first;rw[q1] at ho;cases ho;exact sr vs q2
  have SW:B.get? ea=none:=CT.2.1;have pk:s1.heap.get? ea=none:=by
   cases q:s1.heap.get? ea with
   |none=>rfl
   |some o=>
    obtain⟨ob,h1,_⟩:=CT.there;have:=hB ea ob h1 (.inr (by rw[q];rfl)) QO;rw[SW] at this;cases this
  have S0:H' ea=none:=by
   cases q:H' ea with
   |none=>rfl
   |some u=>
    obtain⟨ob,h1,_⟩:=CT.there;have:=hB ea ob h1 (.inl (by rw[q];exact λz=>nomatch z)) QO;rw[SW] at this;cases this
  have J_:∀h₅,B.StaysIn h₅->s'.heap.UpToSlots h₅->Inv (bh (dq P w cv) P w K mg base N qual scope f cd A outer adQ adP E) f8 σ' H' {s' with heap:=h₅}:=λh₅ st ups=>by
   have l5:∀b o,s'.heap.get? b=some o->b∉iy (bh (dq P w cv) P w K mg base N qual scope f cd A outer adQ adP E).stack->(H' b≠none\/(s1.heap.get? b).isSome=true)->h₅.get? b=some o:=λb o e hb hc=>st b o (hB b o e hc hb);have Wb:Un (iy (bh (dq P w cv) P w K mg base N qual scope f cd A outer adQ adP E).stack) [] H1 H' s1.heap h₅:=w6 un (λb o e hb hc=>l5 b o e hb hc) (λb o e hb=>by
    obtain⟨_,o',lX,sr⟩:=CT.2.2.1.mem hb;rw[e] at lX;cases lX;exact ups b o e sr)
   have Rm:HOk P w H' h₅:=qo hok BA λb o e hb hc=>l5 b o e hb (.inl hc);exact gK (I1.call' Oe Wb Rm U3 (λb hb=>adK hb (by simp))) rfl
  show wpAny (model P w) (bh (dq P w cv) P w K mg base N qual scope f cd A outer adQ adP E).A (noteFrame (.ref ea) (bh (dq P w cv) P w K mg base N qual scope f cd A outer adQ adP E).env) _ _ s';refine wpAny_looks_onW I1.ok.frames rfl CT λh₄ N0 PH=>?_;refine wpAny_landsW N0 λh₅ KY PJ=>?_;have J5:=J_ h₅ KY.1 (PH.trans PJ);have M5:Inv (kh (bh (dq P w cv) P w K mg base N qual scope f cd A outer adQ adP E) ea λ_ _=>False) f8 σ' H' {s' with heap:=h₅}:=jF J5;refine wpAny_handleBy_cons (codeAny_handlers_test (l8 M5 hg hm ?_ lW)) (by intro q;cases q);have LT:Looks (model P w) h₅ (typeOf (.ref ea)) (cv nn):=by
   obtain⟨ob,h1,h2⟩:=KY.there;exact h2▸(Looks.ld h1).andThen .now
  refine(PySem.W.exm_one M5.kIn LT (hex nn)).here ?_;refine codeAny_handlers_suite_as ?_;refine lands_againW KY λh₆ NL SA=>?_;have J6:=J_ h₆ NL.1 ((PH.trans PJ).trans SA);have M6:Inv (kh (bh (dq P w cv) P w K mg base N qual scope f cd A outer adQ adP E) ea λ_ _=>False) f8 σ' H' {s' with heap:=h₆}:=jF J6;have Dy:ea≠(bh (dq P w cv) P w K mg base N qual scope f cd A outer adQ adP E).env.locals:=λz=>QO (by rw[vo,z];exact WB);have Kd:∀y c,(bh (dq P w cv) P w K mg base N qual scope f cd A outer adQ adP E).env.cells.lookup y=some c->c≠ea:=λy c q z=>by
   obtain⟨v,o,ho,_⟩:=I1.cell y c q;rw[z,pk] at ho;cases ho
  refine nW J6 hN hi (.inl Ad) (v:= .ref ea) rfl (λs7 I7 ⟨a,sb,ha⟩=>?_) (.inr Ad);have NZ:Ba s7.heap ea (cA nn):=by
   obtain⟨ob,h1,h2⟩:=NL.there;refine⟨ob,(sb.2 ea ?_).trans h1,by rw[h2,M8]⟩;rcases ha with z | z
   ·rw[z];exact Dy
   ·exact XD (Kd n a z)
  have h0:adQ.heap.get? ea=none:=by
   cases q:adQ.heap.get? ea with
   |none=>rfl
   |some o=>
    obtain⟨o',q'⟩:=I1.base.there ea o q (λz=>adK (show ea∈([]:List Addr) from z) (by simp));rw[pk] at q';cases q'
  have I8:Inv (kh (bh (dq P w cv) P w K mg base N qual scope f cd A outer adQ adP E) ea λ_ _=>False) f8 (σ'.set i (some (.ref ea))) (upd H' ea (Kr ea (cA nn))) s7:=
   De (jF I7) S0 h0 Dy Kd (λp q z=>by
    have hp:=I1.pin p (YT _ (show p∈f8 from q));rw[z,pk] at hp;cases hp.1) ⟨NZ,(by obtain⟨ox,h1,_⟩:=NZ;exact⟨ox,h1⟩),λh1 h2 hx k=>vv hx k⟩
  have P3:σ'.length=N.length:=I1.len;have C7:i<σ'.length:=by rw[P3];exact(WQ.mp hi).1
  have eL:=Ext.lay (o:=Kr ea (cA nn)) ext'.fh S0;have hρ:((WU σ'.length none).set i (some (Sl.fz (.exc (cA nn)))))[i]? =some (some (.fz (.exc (cA nn)))):=W2 (by simpa using C7);have only:∀(j:Nat) (sl:Sl),((WU σ'.length (none:Option Sl)).set i (some (Sl.fz (.exc (cA nn)))))[j]? =some (some sl)->j=i/\sl= .fz (.exc (cA nn)):=λj sl e=>by
   by_cases hj:j=i
   ·subst hj;rw[hρ] at e;cases e;exact⟨rfl,rfl⟩
   ·rw[WW (XD hj),Yb] at e;split at e<;>cases e
  have S8:StOk K G₀ J₀ (upd F' ea (Kr ea (cA nn))) (upd H' ea (Kr ea (cA nn))) (σ'.set i (some (.ref ea))) ((WU σ'.length none).set i (some (.fz (.exc (cA nn))))):=by
   refine⟨ext'.trans eL,⟨eL.fh,λj sl e=>?_⟩,by simp,λj c a e=>?_,λj k c c' a e=>?_⟩
   ·obtain⟨rfl,rfl⟩:=only j sl e;exact⟨.ref ea,W2 C7,ea,rfl,aP⟩
   ·obtain⟨_,z⟩:=only j _ e;cases z
   ·obtain⟨_,z⟩:=only j _ e;cases z
  have UJ:cA m=cA nn:=by
   have:=Rj;rw[M8,M8] at this;exact(ade this).symm
  have w8:WPS K (λ_ _=>False) G₀ J₀ (τh ((WU σ'.length none).set i (some (.fz (.exc (cA nn)))))) {nx:=λ_ _=>False,rt:=D.rt}:=by
   rw[hh m _ (by simpa using P3) (by rw[UJ];exact hρ)];rcases(hd m).cs with q | ⟨k,q⟩ | ⟨d,q⟩
   ·rw[q] at w';exact w'.elim
   ·rw[q] at w';exact w'.elim
   ·rw[q] at w'⊢;exact w'
  refine XG (hs ea G₀ J₀ f8 s7 _ _ {nx:=λ_ _=>False,rt:=D.rt} I8 ⟨_,_,S8,w8⟩) (λfl s8 q8=>?_) λ_ _ z=>z.elim;cases fl with
  |next=>obtain⟨_,_,_,z⟩:=q8;exact z.elim
  |brk=>obtain⟨_,_,_,z⟩:=q8;exact z.elim
  |cont=>obtain⟨_,_,_,z⟩:=q8;exact z.elim
  |ret u=>
   obtain⟨v,σ9,H9,I9,rv,q9⟩:=q8;have I10:Inv (bh (dq P w cv) P w K mg base N qual scope f cd A outer adQ adP E) f8 σ9 H9 s8:=vq I9 J5.ok.hd J5.ok.frames;obtain⟨mm,Hl,_⟩:=I10.loc;exact wpAny_nameGoes Ad Hl (by rw[show (bh (dq P w cv) P w K mg base N qual scope f cd A outer adQ adP E).env.scope.kind= .function from I10.ok.kind];rfl) λh' m' Na BB=>⟨v,_,H9,Af I10 BB Na,rv,q9⟩
 have wb:WPS K (λk H'=>∃F',Ext G₀ J₀ F' H'/\WPS K Xw G₀ J₀ (noex (hd k)>>=λd=>ae (.rt d)) D) G₀ J₀ (τb ρ) D:=by
  unfold MH at wq
  match τb ρ,wq with
  |none,wq=>exact wq
  |some (.ok (.nx ρ')),wq=>exact wq
  |some (.ok (.rt d)),wq=>exact wq
  |some (.ex k),wq=>exact λF' H' e=>⟨F',e,wq⟩
 refine wpAny_Try_except (XG (hb f8 _ _ pass G₀ J₀ [] s σ H D (Dd I rfl) ⟨F,ρ,S,wb⟩) (λfl s1 q1=>?_) λ_ _ z=>z);cases fl with
 |next=>obtain⟨σ1,H1,I1,q⟩:=q1;exact aac ⟨σ1,H1,gK I1 rfl,q⟩
 |brk=>obtain⟨σ1,H1,I1,q⟩:=q1;exact⟨σ1,H1,gK I1 rfl,q⟩
 |cont=>obtain⟨σ1,H1,I1,q⟩:=q1;exact⟨σ1,H1,gK I1 rfl,q⟩
 |ret u=>obtain⟨v,σ1,H1,I1,r,q⟩:=q1;exact⟨v,σ1,H1,gK I1 rfl,r,q⟩
end
end L3
namespace L3
open PySem PySem.Spec L2 SeqAt HT
open PyProof.Rows hiding St
structure RoomH (k:Nat) (A:Xu):Prop where
 dp:A.depth+3*k+5<abi
 un:A.units+16*k+200<cLine
def RoomH.deeper(r:RoomH (k+1) A)(env:Env):RoomH k (A.deeper env):=
 ⟨by have:=r.dp;show A.depth+1+3*k+5<_;omega,by have:=r.un;show A.units+3+16*k+200<_;omega⟩
def RoomH.of(r:Room k A)(v:Option Value):RoomH k (A.mark v):=⟨r.dp,r.un⟩
def RoomH.units(r:RoomH k A):A.units+64<cLine:=by have:=r.un;omega
structure FnOkH (P:Xc) (w:World) (K:WI) (mg:Str->Option Value) (base:Heap) (k:Nat) (f:Addr) (fd:Ze) (ps:List Str) (sp:Sp):Prop where
 len:∀vs H Q E,sp vs H Q E->vs.length=ps.length
 run:∀(A:Xu) (outer:List Env) (s:WC) (H:Hp) (args:Args) (us:List Value) (vs:List V) (Q:VK) (E:XK),RoomH k A->Env0 P w K mg base A outer s H->acx s fd args (ps.zip us)->Vals vs us->sp vs H Q E->
  ZD (model P w) A (.call (.ref f) args) (CR Nl outer P w H s Q E) s
abbrev tN(P:Xc)(w:World)(K:WI)(mg:Str->Option Value)(base:Heap)(N:List Str)(qual:Str)(scope:Scope)(f:Addr)(cd:Value)(A:Xu)(outer:List Env)(s:WC)(H:Hp):Cx:=
 {bh Nl P w K mg base N qual scope f cd A outer s H E0 with calm:=false,xe:=λ_ _=>False}
def Ag{K:WI}{outer:List Env}
 (S:FnScope N ps scope)(e0:Env0 P w K mg base A outer s H)(hl:vs.length=ps.length)(r:Vals vs us)
 (x:InCallC s s.heap.objs.size (bindL (YD qual scope s.heap.objs.size f cd).kindOf (ps.zip us) λ_=>none) (acp (s.heap.objs.size+1) scope.names []) (bindC (YD qual scope s.heap.objs.size f cd).kindOf (ps.zip us) λ_=>none) s1):
 Inv (tN P w K mg base N qual scope f cd A outer s H) [] (L2.start N vs) H s1:=by
 have e1:Env0 P w K mg base {A with handled:=none} outer s H:=⟨e0.frames,e0.mod,e0.bs,e0.bsz,e0.funs,e0.frf,e0.hok,e0.bare⟩
 have J:=t5 (CX:=Nl) (E:=E0) S rfl e1 hl r x;exact⟨⟨J.ok.mod,J.ok.kind,J.ok.glob,J.ok.blt,J.ok.above,J.ok.inj,J.ok.has,J.ok.cab,λz=>(by cases z),acy e0.frames,J.ok.stk,J.ok.exf,J.ok.bs,J.ok.bsz,J.ok.noex,J.ok.exfs,J.ok.funs,J.ok.frf⟩,J.os,J.bare,J.base,J.loc,J.cell,J.free,J.freeC,J.pin,J.hok,J.len⟩
def KZ{K:WI}{dV kV doc pm cu ct oc:Value}
 (lk:K.lookup f=some ⟨oc,od, .func (X8 name qual params body scope dV kV doc pm an cu ct),F8⟩)(tX:Zg K cu qual=true)(S:FnScope N ps scope)
 (len:∀vs H Q E,sp vs H Q E->vs.length=ps.length)
 (iG:∀(A:Xu) (outer:List Env) (s:WC) (H:Hp) (vs:List V) (Q:VK) (E:XK),RoomH k (A.deeper (YD qual scope s.heap.objs.size f cu))->sp vs H Q E->
  ∃t,PSs (tN P w K mg base N qual scope f cu A outer s H) body t/\t {nx:=λ_ H'=>Q .non H',rt:=Q} (L2.start N vs) H):
 FnOkH P w K mg base (k+1) f (X8 name qual params body scope dV kV doc pm an cu ct) ps sp:=by
 refine⟨len,λA outer s H args us vs Q E hr e0 hb r xj=>?_⟩;have hl:=len _ _ _ _ xj;have KX:K.In s.heap:=e0.mod.kin.keeps λb o e=>(e0.bs b o e).1;have lim:s.heap.NoLimit:=e0.mod.nolimit.keeps λb o e=>(e0.bs b o e).1;have ya:∀y∈ps.zip us,scope.names.lookup y.1=some .local\/(scope.names.lookup y.1=some .cell/\((acp (s.heap.objs.size+1) scope.names []).lookup y.1).isSome=true):=λ⟨n,v⟩ hy=>by
  rcases S.par n (aaB hy).1 with q | q
  ·exact .inl q
  ·exact .inr ⟨q,aaj _ _ _ (.inl q)⟩
 have Q2:A.depth<abi:=by have:=hr.dp;omega
 refine codeAny_call_function Q2 (KX _ _ lk) rfl S.co S.gen rfl (acB KX tX) (hb _ _ _ _ ?_);refine acz S.kind ya λenv he s1 x=>?_;subst he;refine⟨lim.keeps x.toInCall.keep,codeAny_func ?_⟩;obtain⟨t,ht,hq⟩:=iG A outer s H vs Q E (hr.deeper _) xj;have I:Inv (tN P w K mg base N qual scope f cu A outer s H) [] (L2.start N vs) H s1:=Ag S e0 hl r x;refine XG (ht [] s1 (L2.start N vs) H _ I hq) (λfl s' hs=>?_) λe s' hs=>hs.elim;have fin:∀{σ':St}{H':Hp}{v:V}{u:Value},Inv (tN P w K mg base N qual scope f cu A outer s H) [] σ' H' s'->RelV v u->Q v H'->CE outer P w H s Q u s':=
  λ{σ' H' v u} J rv q=>⟨v,H',J.os,J.bare,J.base,J.hok,rv,q⟩
 cases fl with
 |ret u=>
  obtain⟨v,σ',H',J,rv,q⟩:=hs;exact fin J rv q
 |next=>
  obtain⟨σ',H',J,q⟩:=hs;exact fin (v:=V.non) J rfl q
 |brk=>
  obtain⟨_,_,_,q⟩:=hs;exact Yi q
 |cont=>
  obtain⟨_,_,_,q⟩:=hs;exact Yi q
def G1{K:WI}(fh:Same F H)(hd:DenL K F ds vs):StOk K F H F H (L2.start N vs) (ds.map (λd=>some (Sl.fz d))++WU (N.length - ds.length) none):=by
 have P3:=hd.len;have get:∀(i:Nat) (sl:Sl),(ds.map (λd=>some (Sl.fz d))++WU (N.length - ds.length) none)[i]? =some (some sl)->∃d,ds[i]? =some d/\sl= .fz d:=λi sl e=>by
  by_cases hi:i<ds.length
  ·rw[Xh (by simpa using hi),WT] at e;cases q:ds[i]? with
   |none=>rw[q] at e;cases e
   |some d=>rw[q] at e;cases e;exact⟨d,rfl,rfl⟩
  ·rw[Xk (by simpa using hi),Yb] at e;split at e<;>cases e
 refine⟨Ext.refl fh,⟨fh,λi sl e=>?_⟩,?_,λi c a e=>?_,λi j c c' a e=>?_⟩
 ·obtain⟨d,q,rfl⟩:=get i sl e;obtain⟨v,e1,e2⟩:=hd.get q;have hi:=(WQ.mp q).1;refine⟨v,?_,e2⟩;unfold L2.start;rw[Xh (by simp;omega),WT,e1];rfl
 ·unfold L2.start;simp[P3]
 ·obtain⟨d,_,z⟩:=get i _ e;cases z
 ·obtain⟨d,_,z⟩:=get i _ e;cases z
section
variable{P:Xc}{w:World}{K:WI}{mg:Str->Option Value}{base:Heap}{cv:Nat->Value}
def NN{x qual:Str}{st:Stmt}{f:Addr}(Fn:Fun K x qual st f fd)(S:FnScope N ps (ai st))
 (iG:∀(cu:Value) (A:Xu) (outer:List Env) (s:WC) (H:Hp),RoomH k (A.deeper (YD qual (ai st) s.heap.objs.size f cu))->
  PSDs (tN P w K mg base N qual (ai st) f cu A outer s H) (λ_ _=>False) (bf st) τ):FnOkH P w K mg base (k+1) f fd ps (El K cv ps.length λds=>noex (bV N.length τ ds)):=by
 obtain⟨oc,od,kV,doc,pm,an,cu,ct,F8,rfl,lk,tX⟩:=Fn.ex;refine KZ lk tX S (λvs H Q E ⟨_,_,_,_,hl,_⟩=>hl) λA outer s H vs Q E hr xj=>?_;obtain⟨F,ds,fh,hd,hl,hw⟩:=xj;refine⟨_,iG cu A outer s H hr F H,F,_,G1 fh hd,?_⟩;have hw:WP K (λn H'=>E (cv n) none H') F H (noex (τ (ds.map (λd=>some (Sl.fz d))++WU (N.length - ds.length) none)>>=λo=>match o with | .nx _=>ae .non | .rt d=>ae d)) Q:=hw;rcases(τ (ds.map (λd=>some (Sl.fz d))++WU (N.length - ds.length) none)).cs with e | ⟨n,e⟩ | ⟨o,e⟩
 ·rw[e] at hw;exact hw.elim
 ·rw[e] at hw;exact hw.elim
 ·rw[e] at hw⊢;cases o with
  |nx ρ'=>exact λσ' F' H' s'=>hw .non H' F' s'.ext rfl
  |rt d=>exact λv F' H' e' q=>hw v H' F' e' q
end
section
variable{X:Cx}{Xw:Nat->Hp->Prop}{cv:Nat->Value}{k m:Nat}{f:Addr}{fd:Ze}{ps:List Str}{g:List D->M D}{x:Str}{p pos:Pos}{e:Expr}{es:List Expr}{δs:DA}
def Gd(F:FnOkH X.prog X.w X.K X.mg X.base k f fd ps (El X.K cv m g))(hr:RoomH k X.A)(hg:Gl X x)(hm:X.mg x=some (.ref f))(hk:Yg X.K (.ref f)=true)(hb:Binds X.K fd ps [])
 (ha:jz X Xw (e::es) δs)(lW:(x==("__debug__":Str))=false:=by decide)(he:WS (e::es) X.env=(false,eval e X.env)::WS es X.env:=by rfl)(kL:(Yt pos (WS es X.env)).any (·.1)=false:=by rfl):
 PD X Xw (.Call (.Name x p) (e::es) [] pos) (λρ=>δs ρ>>=λds=>if ds.length=m then noex (g ds) else ag):=by
 intro f8 s σ H Q I ⟨Fz,ρ,S,wq⟩;refine ZM (l8 I hg hm ?_ lW);refine aaP I.ok.mod.kin hk (ck (ha pos f8 s σ H _ I ⟨Fz,ρ,S,WP.bindL wq⟩) λus s1 ⟨vs,H1,I1,r,q⟩=>⟨I1.kIn,?_⟩) he kL;obtain⟨F1,ds,e1,q1,w1⟩:=q;split at w1
 ·rename_i E9;have xj:El X.K cv m g vs H1 Q E0:=⟨F1,ds,e1.fh,q1,by rw[<-q1.len];exact E9,by
   rcases(g ds).cs with q | ⟨n,q⟩ | ⟨d,q⟩
   ·rw[q] at w1;exact w1.elim
   ·rw[q] at w1;exact w1.elim
   ·rw[q] at w1⊢;exact w1⟩
  have Vh:us.length=ps.length:=by rw[<-r.length];exact F.len _ _ _ _ xj
  refine wpAny_call (aaX (F.run X.A X.stack s1 H1 ⟨us,[]⟩ us vs Q E0 hr I1.env0 (by have:=hb s1 us I1.kIn (by rw[Xp];exact Vh);rwa [Xp] at this) r xj) λres s' hq=>?_);cases res with
  |error e=>exact hq.elim
  |ok fl=>
   cases fl with
   |ret u=>exact I1.after hq
   |next=>exact Yi hq
   |brk=>exact Yi hq
   |cont=>exact Yi hq
 ·exact w1.elim
end
def Bj(N:List Str)(osc scope:Scope)(tn:List Str):Bool:=
 decide (scope.kind= .function)&&scope.names.all (λy=>decide (y.2≠ .cell))&&scope.names.all (λy=>decide (y.2= .local->scope.names.lookup y.1=some .local))&&
 scope.names.all (λy=>decide (y.2= .free->(osc.names.lookup y.1=some .cell\/osc.names.lookup y.1=some .free)))&&
 ((b6 tn N).zip N).all (λp=>decide (scope.names.lookup p.1=none\/(p.1=p.2/\scope.names.lookup p.1=some .free)))
def aU(hN:X.N=N)(ho:X.env.scope=osc)(h:Bj N osc scope tn=true):CompSc X scope tn:=by
 unfold Bj at h;simp only[WR,Xe,adH] at h;obtain⟨⟨⟨⟨h1,h2⟩,h3⟩,h4⟩,h5⟩:=h;refine⟨h1,h2,h3,λy hy hf=>?_,?_⟩
 ·have:=h4 y hy hf;rw[<-ho] at this;exact this
 ·rw[hN];exact h5
def bH(hN:X.N.Nodup)(h0:X.N[0]? =some x)(Ad:X.env.scope.names.lookup x=some .local):Cq X (.Name x px) 0 σ:=λf8 s σ' F H d ts v u I fh hd rv q e=>by
 have e:ae [d]=ae ts:=e;have e:=gh e;subst e;refine abJ (rY I hN h0 (.inl Ad) rv (λs' I'=>⟨[v],?_, .cons q .nil⟩) (.inr Ad));have hl:0<σ'.length:=by rw[I.len];exact(WQ.mp h0).1
 have:σ'.set 0 (some v)=[v].map some++σ:=by
  cases σ' with
  |nil=>simp at hl
  |cons a r=>
   have hd:r=σ:=by simpa using hd
   subst hd;rfl
 rw[<-this];exact I'
def dG:Passes (dq P w cv) X (EX cv λ_ _=>False):=λ_ _ _ _ _ _ _ ⟨_,_,_,_,_,_,_,_,_,_,_,_,_,_,z⟩=>z.elim
def bG(K:WI)(mg:Str->Option Value)(x:Str)(st:Stmt)(f:Addr):Prop:=mg x=some (.ref f)/\∃fd,Fun K x x st f fd
def au(P:Xc)(w:World)(K:WI)(mg:Str->Option Value)(base:Heap)(cv:Nat->Value)(k:Nat)(x:Str)(m:Nat)(g:List D->M D):Prop:=
 ∃f fd ps,mg x=some (.ref f)/\Yg K (.ref f)=true/\Binds K fd ps []/\FnOk P w K mg base (dq P w cv) k f fd ps (El K cv m g)
section
variable{X:Cx}{Xw:Nat->Hp->Prop}{cv:Nat->Value}{k m:Nat}{g:List D->M D}{x:Str}{p pos:Pos}{e:Expr}{es:List Expr}{δs:DA}
def ay(m:Nat)(g:List D->M D)(δs:DA):DE:=λρ=>δs ρ>>=λds=>if ds.length=m then g ds else ag
def bJ(F:au X.prog X.w X.K X.mg X.base cv k x m g)(hr:Room k X.A)(hg:Gl X x)(hx:Passes (dq X.prog X.w cv) X (EX cv Xw))
 (ha:jz X Xw (e::es) δs)(hl:(e::es).length=m)(lW:(x==("__debug__":Str))=false:=by decide)(he:WS (e::es) X.env=(false,eval e X.env)::WS es X.env:=by rfl)(kL:(Yt pos (WS es X.env)).any (·.1)=false:=by rfl):
 PD X Xw (.Call (.Name x p) (e::es) [] pos) (ay m g δs):=by
 obtain⟨f,fd,ps,h1,h2,h3,h4⟩:=F;exact IS h4 hr hg h1 h2 h3 hx ha hl lW he kL
end
def aE{K:WI}{st:Stmt}(T:bG K mg x st f)(S:FnScope N ps (ai st))
 (QX:∀(kV doc pm:Value) (an:Option Addr) (cu ct:Value) (us:List Value),us.length=ps.length->bindArgs (X8 x x (eM st) (bf st) (ai st) .none kV doc pm an cu ct) ⟨us,[]⟩=pure (ps.zip us))
 (iG:∀(cu:Value) (A:Xu) (outer:List Env) (s:WC) (H:Hp) (E:XK),Room k (A.deeper (YD x (ai st) s.heap.objs.size f cu))->
  PSDs (bh (dq P w cv) P w K mg base N x (ai st) f cu A outer s H E) (λn H'=>E (cv n) none H') (bf st) τ):au P w K mg base cv (k+1) x ps.length (bV N.length τ):=by
 obtain⟨h1,fd,Fn⟩:=T;exact⟨f,fd,ps,h1,Fn.kp,Fn.binds QX,NM Fn S iG⟩
section
variable{X:Cx}{Xw:Nat->Hp->Prop}{a:Expr}{δ:DE}{pos:Pos}
def Dx:D->M D
 | .int i=>ae (.int (-i))
 |_=>ag
def wa(ha:PD X Xw a δ):PD X Xw (.UnaryOp .USub a pos) (d1 Dx δ):=PE.weak (O5 MV ha) λσ H Q ⟨F,ρ,s,w⟩=>by
 refine⟨F,ρ,s,WP.mono (WP.bind w) λv H1 ⟨F1,d,e1,q,w1⟩=>?_⟩;cases d with
 |int i=>
  have q:v= .int i:=q;subst q;exact⟨i,rfl,WP.now w1 e1.fh rfl⟩
 |_=>exact w1.elim
end
section
variable{X:Cx}{Xw:Nat->Hp->Prop}{pos:Pos}
def IX{x z:Str}(hg:Gl X x)(h:∃t,X.mg x=some (.str z t))(hz:z.length<=lim)(lW:(x==("__debug__":Str))=false:=by decide):PD X Xw (.Name x pos) (dC (.str z)):=by
 obtain⟨t,h⟩:=h;exact v8 (v:= .str z) hg h ⟨t,rfl⟩ (λ_=>⟨rfl,hz⟩) lW
def B2{x:Str}{i:Int}(hg:Gl X x)(h:∃t,X.mg x=some (.int i t))(lW:(x==("__debug__":Str))=false:=by decide):PD X Xw (.Name x pos) (dC (.int i)):=by
 obtain⟨t,h⟩:=h;exact v8 (v:= .int i) hg h ⟨t,rfl⟩ (λ_=>rfl) lW
def je{x:Str}{a:Addr}(hg:Gl X x)(h:X.mg x=some (.ref a))(lW:(x==("__debug__":Str))=false:=by decide):PD X Xw (.Name x pos) (dC (.raw (.ref a))):=
 v8 (v:= .ref a) hg h rfl (λ_=>rfl) lW
end
def Jt(sc osc:Scope):Scope:={sc with names:=sc.names.map λ(n,k)=>if (k== .free&&osc.kind== .function&&osc.names.lookup n==some .cell) then(n, .cell) else(n,k)}
def pK(P:Xc)(w:World)(K:WI)(mg:Str->Option Value)(base:Heap)(cv:Nat->Value)(k:Nat)(x:Str)(m:Nat)(g:List D->M D):Prop:=
 ∃f fd ps,mg x=some (.ref f)/\Yg K (.ref f)=true/\Binds K fd ps []/\FnOkH P w K mg base k f fd ps (El K cv m λds=>noex (g ds))
def Ex(m:Nat)(g:List D->M D)(δs:DA):DE:=λρ=>δs ρ>>=λds=>if ds.length=m then noex (noex (g ds)) else ag
def Hx{X:Cx}{Xw:Nat->Hp->Prop}{cv:Nat->Value}{k m:Nat}{g:List D->M D}{x:Str}{p pos:Pos}{e:Expr}{es:List Expr}{δs:DA}(F:pK X.prog X.w X.K X.mg X.base cv k x m g)(hr:RoomH k X.A)(hg:Gl X x)
 (ha:jz X Xw (e::es) δs)(lW:(x==("__debug__":Str))=false:=by decide)(he:WS (e::es) X.env=(false,eval e X.env)::WS es X.env:=by rfl)(kL:(Yt pos (WS es X.env)).any (·.1)=false:=by rfl):
 PD X Xw (.Call (.Name x p) (e::es) [] pos) (Ex m g δs):=by
 obtain⟨f,fd,ps,h1,h2,h3,h4⟩:=F;exact Gd h4 hr hg h1 h2 h3 ha lW he kL
def zX{P:Xc}{w:World}{K:WI}{mg:Str->Option Value}{base:Heap}{cv:Nat->Value}{k:Nat}{x:Str}{st:Stmt}{f:Addr}{N ps:List Str}{τ:DS}(T:bG K mg x st f)(S:FnScope N ps (ai st))
 (QX:∀(kV doc pm:Value) (an:Option Addr) (cu ct:Value) (us:List Value),us.length=ps.length->bindArgs (X8 x x (eM st) (bf st) (ai st) .none kV doc pm an cu ct) ⟨us,[]⟩=pure (ps.zip us))
 (iG:∀(cu:Value) (A:Xu) (outer:List Env) (s:WC) (H:Hp),RoomH k (A.deeper (YD x (ai st) s.heap.objs.size f cu))->
  PSDs (tN P w K mg base N x (ai st) f cu A outer s H) (λ_ _=>False) (bf st) τ):pK P w K mg base cv (k+1) x ps.length (bV N.length τ):=by
 obtain⟨h1,fd,Fn⟩:=T;exact⟨f,fd,ps,h1,Fn.kp,Fn.binds QX,NN Fn S iG⟩
structure Box (p:Prop):Prop where
 out:p
section
variable{X:Cx}{Xw:Nat->Hp->Prop}
def fN{st:Stmt}{rest:List Stmt}{τ τ':DS}(h1:Box (iR X Xw st τ))(h2:Box (PSDs X Xw rest τ')):Box (PSDs X Xw (st::rest) (aF τ τ')):=⟨aj h1.out h2.out⟩
def KD{st:Stmt}{τ:DS}(h1:Box (iR X Xw st τ)):Box (PSDs X Xw [st] τ):=⟨ar h1.out⟩
end
def PK{l:adh}{n k:Nat}{q:Xc}{loose:List Str}{XP:(Str->Option Value)->Heap->Prop}{YP:World->Heap->Prop}{d:DefRec}{K:Params->WI}{x:Str}{g:List D->M D}
 (hn:l.most=some n)(Qe:n<=lim)(NY:d.params.defaults=[])(hr:Room k abM)
 (hY:∀(w:World) (h:Heap),YP w h->(K w.params).In h)(hg:∀ns:List Int,ns.length<=n->g [.scr ns]=ae (.bl true))
 (F:∀(w:World) (mg:Str->Option Value) (fa:Addr) (h:Heap),(K w.params).In h->h.Ns W0 mg->mg d.name=some (.ref fa)->
  ∃(cv:Nat->Value) (fd:Ze),(∀(s:WC) (u:Value),acx s fd ⟨[u],[]⟩ [(x,u)])/\
   ∀base:Heap,(K w.params).In base->base.Ns W0 mg->FnOk l.prog w (K w.params) mg base (dq l.prog w cv) k fa fd [x] (El (K w.params) cv 1 g)):
 PySem.W.WalkO q loose XP YP l.row.toRowW d [] (λf vs=>adg f vs):=by
 refine Att.attach_call hn NY λw adQ v6 mg mb fa o pm cd doc a vs ns G Y ho hd tX Ld Fc hints P3 U4=>?_;have KX:=hY w _ Y;obtain⟨cv,fd,hb,hF⟩:=F w mg fa _ KX G.T.g Ld;refine yk KX G.T.g G.T.b G.T.builtins G.T.nolimit U4 Fc hints (Xf P3 (Xf Qe (Yc eA))) hr hF hb (λH hO hS=>?_) λH e s' z=>?_
 ·refine⟨H,[.scr ns],λ_ _ e=>e,⟨_,_,rfl,⟨a,rfl,hS,Xf P3 Qe⟩,rfl⟩,rfl,?_⟩;rw[hg ns P3];exact λv H' F' e q=>q
 ·obtain⟨_,_,_,_,_,_,_,_,_,_,_,_,_,_,y⟩:=z
def AG{K:WI}{h:Heap}{mg:Str->Option Value}{x:Str}{C:Addr}{ms:List Value}{id:String}(hK:K.In h)(hG:h.Ns W0 mg)(at':W6 K W0 x=some (some (.ref C)))
 (qq:aaf K C ms id=true):OwnCls x C ms id mg h:=OwnCls.mk (XZ hK hG at')<|by
 revert qq;unfold aaf;split<;>intro qq
 rotate_left
 ·exact Bool.noConfusion qq
 rename_i NG MG TY K0;split at qq
 rotate_left
 ·exact Bool.noConfusion qq
 rename_i C₁ RV v0 v1 v2 v3 VP v5 em es;rw[WR,WR,WR,WR,WR] at qq;rcases qq with⟨⟨⟨⟨⟨q1,q2⟩,q3⟩,q4⟩,q5⟩,q6⟩
 have q1:=eq_of_beq q1;have q2:=eq_of_beq q2;have q6:=eq_of_beq q6;have q3:MG.hasDel=false:=by
  cases z:MG.hasDel
  ·rfl
  ·rw[z] at q3;cases q3
 subst q1 q2;rcases MG with⟨r1,r2,r3,r4,r5,r6,r7,r8,r9,V3,V4⟩
 have em:r3=_:=em;have q3:V4=false:=q3;subst em q3;have V6:TY= #[v0,v1,v2,v3,some (.builtin VP),v5]:=by
  rcases TY with⟨y⟩
  exact adM Array.mk es
 subst V6;have n5:=Heap.Ns.of_isNs (PySem.W.isNs_of_in hK q5);have n6:=PySem.W.nsMap_none_of_in hK q5 q6;exact⟨RV,r4,r1,r5,r2,r6,r7,r8,r9,V3,NG,v0,v1,v2,v3,v5,_,hK _ _ K0,n5,n6,PySem.W.tail_of_in hK q4⟩
def z9{K:WI}{t c:Value}(h1:PySem.W.subIn K c (.type "BaseException")=some true)(h2:WV K t c=some true)(g6:(t==c)=false):Z5 K t c=some true:=by
 unfold Z5;unfold WV at h2;rw[g6] at h2;rw[h1];exact h2
def IsTupRev(h:Heap)(it t:Addr)(i:Int):Prop:=∃o,h.get? it=some o/\o.cls= .type "reversed"/\o.data= .fields #[.ref t,aae i]
section
variable{s:WC}
def IsTupRev.typeIs{it t:Addr}{i:Int}(x:IsTupRev s.heap it t i):s.TypeIs (.ref it) "reversed":=let ⟨o,ho,hc,_⟩:=x;⟨o,ho,hc⟩
end
section
variable{X:Cx}{Xw:Nat->Hp->Prop}{e:Expr}{es:List Expr}{δi:DE}{δs:DA}{pos:Pos}
def O6(gs:List (List D->M D))(m:Nat)(i:D)(ds:List D):M D:=match i with
 | .int k=>match L2.atI gs k with
   |some g=>if ds.length=m then g ds else ag
   |none=>ag
 |_=>ag
def FW(gs:List (List D->M D)):D->Bool
 | .int k=>(L2.atI gs k).isSome
 |_=>false
def ED(gs:List (List D->M D))(m:Nat)(δi:DE)(δs:DA):DE:=λρ=>δi ρ>>=λi=>if FW gs i then δs ρ>>=λds=>O6 gs m i ds else ag
def yU{cv:Nat->Value}{k0 k1 k2 m:Nat}{x0 x1 x2:Str}{g0 g1 g2:List D->M D}{ie:Expr}{p0 p1 p2 pl ps:Pos}
 (F0:au X.prog X.w X.K X.mg X.base cv k0 x0 m g0)(F1:au X.prog X.w X.K X.mg X.base cv k1 x1 m g1)(F2:au X.prog X.w X.K X.mg X.base cv k2 x2 m g2)
 (r0:Room k0 X.A)(r1:Room k1 X.A)(r2:Room k2 X.A)(UW:Gl X x0)(UX:Gl X x1)(UY:Gl X x2)(hx:Passes (dq X.prog X.w cv) X (EX cv Xw))(hi:PD X Xw ie δi)
 (ha:jz X Xw (e::es) δs)(hl:(e::es).length=m)(UL:(x0==("__debug__":Str))=false:=by decide)(P_:(x1==("__debug__":Str))=false:=by decide)(hd2:(x2==("__debug__":Str))=false:=by decide)
 (he:WS (e::es) X.env=(false,eval e X.env)::WS es X.env:=by rfl)(kL:(Yt pos (WS es X.env)).any (·.1)=false:=by rfl)(hs:iS ie:=by intro _ _;rfl)
 (Vx:eval (.Call (.Subscript (.List [.Name x0 p0, .Name x1 p1, .Name x2 p2] pl) ie ps) (e::es) [] pos) X.env=(do callWith pos (<-eval (.Subscript (.List [.Name x0 p0, .Name x1 p1, .Name x2 p2] pl) ie ps) X.env) [] (Yt pos (WS (e::es) X.env)) (Z_ pos (Y4 [] X.env))):=by rfl):
 PD X Xw (.Call (.Subscript (.List [.Name x0 p0, .Name x1 p1, .Name x2 p2] pl) ie ps) (e::es) [] pos) (ED [g0,g1,g2] m δi δs):=by
 obtain⟨f0,Uj,V0,a0,b0,c0,d0⟩:=F0;obtain⟨f1,Uk,V1,a1,b1,c1,d1⟩:=F1;obtain⟨f2,Ul,V2,a2,b2,c2,d2⟩:=F2;have hf:=Ki (X:=X) (pos:=ps) vx (AL (pos:=pl) (kx (pR (pos:=p0) UW a0 (v:= .ref f0) rfl UL) (kx (pR (pos:=p1) UX a1 (v:= .ref f1) rfl P_) (kx (pR (pos:=p2) UY a2 (v:= .ref f2) rfl hd2) rB)))) hi hs;intro f8 s σ H Q I ⟨F,ρ,S,w⟩;refine Call_ (ck (hf f8 s σ H (λv H1=>∃F1 kk gg f fd ps,Ext F H F1 H1/\v= .ref f/\Yg X.K (.ref f)=true/\Binds X.K fd ps []/\FnOk X.prog X.w X.K X.mg X.base (dq X.prog X.w cv) kk f fd ps (El X.K cv m gg)/\Room kk X.A/\
  WP X.K Xw F1 H1 (δs ρ>>=λds=>if ds.length=m then gg ds else ag) Q) I ?_) λv s1 ⟨x,H1,I1,r,F1,kk,gg,f,fd,ps,e1,hv,hk,hb,hF,hr,w1⟩=>?_) Vx
 ·refine⟨by show 3<=WX;rw[YC];decide,λq hq=>?_⟩;have E0:Ext F H F (upd H q (.lst [.ref f0, .ref f1, .ref f2])):=Ext.free S.fh hq;refine⟨F,ρ,S.ext E0,WP.mono (WP.bind (WP.ext E0 w)) λv H1 ⟨F1,d,e1,q1,w1⟩=>?_⟩;split at w1
  ·rename_i hok;unfold FW at hok;split at hok
   ·rename_i k;cases (show v=_ from q1);have Ru:H1 q=some (.lst [.ref f0, .ref f1, .ref f2]):=e1.hh _ _ aP;have w1:WP X.K Xw F1 H1 (δs ρ>>=λds=>match L2.atI [g0,g1,g2] k with | some g=>if ds.length=m then g ds else ag | none=>ag) Q:=w1;obtain⟨g,hg⟩:=XA.mp hok;rw[hg] at w1;unfold L2.atI at hg;cases hj:Fs 3 k with
    |none=>
     have hg:(Fs 3 k).bind (λj=>[g0,g1,g2][j]?)=some g:=hg;rw[hj] at hg;cases hg
    |some j=>
     have hg:(Fs 3 k).bind (λj=>[g0,g1,g2][j]?)=some g:=hg;rw[hj] at hg;have QK:∀v,[V.ref f0, .ref f1, .ref f2][j]? =some v->L2.atI [V.ref f0, .ref f1, .ref f2] k=some v:=λv hv=>by
      show (Fs 3 k).bind (λj=>[V.ref f0, .ref f1, .ref f2][j]?)=some v;rw[hj];exact hv
     have hg:[g0,g1,g2][j]? =some g:=hg
     match j,hg with
     |0,hg=>cases hg;exact⟨q,_,k, .ref f0,rfl,rfl,SqL.of Ru,QK _ rfl,F1,k0,g0,f0,Uj,V0,E0.trans e1,rfl,b0,c0,d0,r0,w1⟩
     |1,hg=>cases hg;exact⟨q,_,k, .ref f1,rfl,rfl,SqL.of Ru,QK _ rfl,F1,k1,g1,f1,Uk,V1,E0.trans e1,rfl,b1,c1,d1,r1,w1⟩
     |2,hg=>cases hg;exact⟨q,_,k, .ref f2,rfl,rfl,SqL.of Ru,QK _ rfl,F1,k2,g2,f2,Ul,V2,E0.trans e1,rfl,b2,c2,d2,r2,w1⟩
     |n+3,hg=>cases hg
   ·cases hok
  ·exact w1.elim
 ·subst hv;cases (show v=_ from r);refine aaP (h₀:=X.base) I1.ok.mod.kin hk (ck (ha pos f8 s1 σ H1 (λvs H2=>El X.K cv m gg (vs++[]) H2 Q (EX cv Xw)) I1 ⟨F1,ρ,S.ext e1,WPL.mono (WP.bindL w1) λvs H2 ⟨F2,ds,e2,q2,w2⟩=>?_⟩) λus s2 ⟨vs,H2,I2,rr,q⟩=>⟨I2.kIn,?_⟩) he kL
  ·split at w2
   ·rename_i E9;exact⟨F2,ds,e2.fh,by simpa using q2,by rw[Xp,<-q2.len];exact E9,WP.xw w2 λn H h=>⟨n,rfl,h⟩⟩
   ·exact w2.elim
  ·exact GK hF hr hb .nil hx I2 rr q
end
def Am:D->Option Key
 | .int i=>some (.inl i)
 | .str x=>some (.inr x)
 |_=>none
def vy:List D->Option (List Key)
 |[]=>some []
 |d::ds=>match Am d,vy ds with
  |some k,some ks=>some (k::ks)
  |_,_=>none
def eF:D->Option (List Key)
 | .tup ds=>vy ds
 |_=>none
def qG{K:WI}{F:Hp}(e:Am d=some k)(h:Den K F d v):v=kV k:=by
 cases d<;>first | cases e | skip
 ·exact h
 ·exact h.1
def iH{K:WI}{F:Hp}:∀{ds:List D}{vs:List V}{ks:List Key},vy ds=some ks->DenL K F ds vs->vs=ks.map kV
 |[],_,_,e,h=>by cases e;exact h
 |d::ds,_,_,e,⟨v,r,h1,h2,h3⟩=>by
  unfold vy at e;split at e
  ·rename_i k ks e1 e2;cases e;subst h1;rw[WD,qG e1 h2,iH e2 h3]
  ·cases e
section
variable{κ:Type}[DecidableEq κ]
def fL:List κ->List D->κ->Option D
 |k'::ks,d::ds,k=>if k'=k then some d else fL ks ds k
 |_,_,_=>none
def nP:List κ->List D->κ->D->List D
 |k'::ks,d'::ds,k,d=>(if k'=k then d else d')::nP ks ds k d
 |_,_,_,_=>[]
def mS{K:WI}{F:Hp}:∀{ks:List κ}{ds:List D}{vs:List V}(k:κ),DenL K F ds vs->ks.length=ds.length->
 (match fL ks ds k with | some d=>∃v,mU (ks.zip vs) k=some v/\Den K F d v | none=>mU (ks.zip vs) k=none)
 |[],[],_,_,_,_=>rfl
 |k'::ks,d::ds,_,k,⟨v,r,h1,h2,h3⟩,hl=>by
  subst h1;unfold fL;rw[YK];by_cases e:k'=k
  ·rw[adF e,mW e];exact⟨v,rfl,h2⟩
  ·rw[adG e,mV e];exact mS k h3 (by simpa using hl)
 |[],_::_,_,_,_,hl=>by simp at hl
 |_::_,[],_,_,_,hl=>by simp at hl
def j6{K:WI}{F:Hp}(k:κ)(h:DenL K F ds vs)(hl:ks.length=ds.length):(mU (ks.zip vs) k).isSome=(fL ks ds k).isSome:=by
 have:=mS k h hl;split at this
 ·rename_i d e;obtain⟨v,e1,_⟩:=this;rw[e1,e];rfl
 ·rename_i e;rw[this,e];rfl
def za{K:WI}{F:Hp}(hd:Den K F d v):∀{ks:List κ}{ds:List D}{vs:List V}(k:κ),DenL K F ds vs->ks.length=ds.length->
 ∃ws,(ks.zip vs).map (λkv=>if kv.1=k then(kv.1,v) else kv)=ks.zip ws/\DenL K F (nP ks ds k d) ws
 |[],[],_,_,h,_=>⟨[],rfl,rfl⟩
 |k'::ks,d'::ds,_,k,⟨v',r,h1,h2,h3⟩,hl=>by
  subst h1;obtain⟨ws,e1,e2⟩:=za hd k h3 (by simpa using hl);by_cases e:k'=k
  ·refine⟨v::ws,?_,?_⟩
   ·rw[YK,WD,e1,adF e];rfl
   ·unfold nP;rw[adF e];exact .cons hd e2
  ·refine⟨v'::ws,?_,?_⟩
   ·rw[YK,WD,e1,adG e];rfl
   ·unfold nP;rw[adG e];exact .cons h2 e2
 |[],_::_,_,_,_,hl=>by simp at hl
 |_::_,[],_,_,_,hl=>by simp at hl
def jW:∀(ks:List κ) (ds:List D) (k:κ) (d:D),ks.length=ds.length->(nP ks ds k d).length=ds.length
 |[],[],_,_,_=>rfl
 |_::ks,_::ds,k,d,h=>by unfold nP;rw[WE,WE,jW ks ds k d (by simpa using h)]
 |[],_::_,_,_,h=>by simp at h
 |_::_,[],_,_,h=>by simp at h
def dZ(ks:List κ)(ds:List D)(k:κ):List κ:=if (fL ks ds k).isSome then ks else ks++[k]
def c_(ks:List κ)(ds:List D)(k:κ)(d:D):List D:=if (fL ks ds k).isSome then nP ks ds k d else ds++[d]
def wo{K:WI}(hd:Den K F d v)(k:κ)(h:DenL K F ds vs)(hl:ks.length=ds.length):
 ∃ws,putK (ks.zip vs) k v=(dZ ks ds k).zip ws/\DenL K F (c_ ks ds k d) ws/\(dZ ks ds k).length=(c_ ks ds k d).length:=by
 have hs:=j6 k h hl;unfold putK dZ c_;have ha:((ks.zip vs).any λkv=>decide (kv.1=k))=(mU (ks.zip vs) k).isSome:=se ..;rw[ha,hs];cases e:(fL ks ds k).isSome with
 |true=>
  rw[adF rfl,adF rfl,adF rfl];obtain⟨ws,e1,e2⟩:=za hd k h hl;exact⟨ws,e1,e2,by rw[jW ks ds k d hl];exact hl⟩
 |false=>
  rw[adG WZ,adG WZ,adG WZ];refine⟨vs++[v],?_,h.append (.cons hd .nil),by simp[hl]⟩;rw[List.zip_append (by rw[hl];exact h.len)];rfl
end
def Co{κ:Type}{K:WI}{ks:List κ}(h:DenL K F ds vs)(hl:ks.length=ds.length):(ks.zip vs).length=ds.length:=by
 rw[aaC,hl,<-h.len];omega
def rT(ρ:cQ)(i:Nat):Option D:=match ρ[i]? with
 |some (some (.fz d))=>some d
 |some (some (.ow c))=>some c.d
 |_=>none
def GX{K:WI}(s:StE K F H σ ρ)(e:rT ρ i=some (.dct ks ds)):
 ∃a vs,σ[i]? =some (some (.ref a))/\Rd H a (.dT (ks.zip vs))/\DenL K F ds vs/\ks.length=ds.length/\ds.length<=lim:=by
 unfold rT at e;split at e
 ·rename_i d e1;cases e;obtain⟨v,h1,a,ob,vs,rfl,h2,h3,h4,h5⟩:=s.den i _ e1;exact⟨a,vs,h1, .inr ⟨ob,s.fh _ _ h2⟩,h3,h4,h5⟩
 ·rename_i c e1;cases c<;>cases e
  obtain⟨v,h1,a,o,rfl,h2,_,vs,rfl,h3,h4,h5⟩:=s.den i _ e1;exact⟨a,vs,h1, .inl h2,h3,h4,h5⟩
 ·cases e
def GW{K:WI}(s:StE K F H σ ρ)(e:rT ρ i=some (.dci ks ds)):
 ∃a vs,σ[i]? =some (some (.ref a))/\Rd H a (.dK (ks.zip vs))/\DenL K F ds vs/\ks.length=ds.length/\ds.length<=lim:=by
 unfold rT at e;split at e
 ·rename_i d e1;cases e;obtain⟨v,h1,a,ob,vs,rfl,h2,h3,h4,h5⟩:=s.den i _ e1;exact⟨a,vs,h1, .inr ⟨ob,s.fh _ _ h2⟩,h3,h4,h5⟩
 ·rename_i c e1;cases c<;>cases e
  obtain⟨v,h1,a,o,rfl,h2,_,vs,rfl,h3,h4,h5⟩:=s.den i _ e1;exact⟨a,vs,h1, .inl h2,h3,h4,h5⟩
 ·cases e
def Eb:D->D->Option (Option D)
 | .dct ks ds,k=>(eF k).map (fL ks ds)
 | .dci ks ds,k=>(Am k).map (fL ks ds)
 |_,_=>none
def Bf{K:WI}(s:StE K F H σ ρ)(hi:rT ρ i=some d)(hk:Den K F k y)(e:Eb d k=some o):
 ∃a ov,σ[i]? =some (some (.ref a))/\k_ H a y ov/\ov.isSome=o.isSome/\∀d',o=some d'->∃v,ov=some v/\Den K F d' v:=by
 unfold Eb at e;split at e
 ·rename_i ks ds;cases q:eF k with
  |none=>rw[q] at e;cases e
  |some kk=>
   rw[q] at e;cases e;obtain⟨a,vs,h1,h2,h3,h4,h5⟩:=GX s hi;unfold eF at q;split at q
   ·rename_i es;obtain⟨b,ws,rfl,k2,k3,_⟩:=hk;have e1:=iH q k3;subst e1;refine⟨a,_,h1, .inr ⟨_,kk,b,h2,rfl,s.fh _ _ k2,rfl⟩,j6 kk h3 h4,λd' sr=>?_⟩;have:=mS kk h3 h4;rw[sr] at this;exact this
   ·cases q
 ·rename_i ks ds;cases q:Am k with
  |none=>rw[q] at e;cases e
  |some kk=>
   rw[q] at e;cases e;obtain⟨a,vs,h1,h2,h3,h4,h5⟩:=GW s hi;have e1:=qG q hk;subst e1;refine⟨a,_,h1, .inl ⟨_,kk,h2,rfl,rfl⟩,j6 kk h3 h4,λd' sr=>?_⟩;have:=mS kk h3 h4;rw[sr] at this;exact this
 ·cases e
section
variable{X:Cx}{Xw:Nat->Hp->Prop}{a e:Expr}{δ δk δv:DE}{pos p pos' Mt:Pos}{x:Str}{i:Nat}
def NB(neg:Bool)(i:Nat)(δ:DE):DE:=λρ=>δ ρ>>=λk=>match rT ρ i with
 |some d=>match Eb d k with
  |some o=>ae (.bl (if neg then !o.isSome else o.isSome))
  |none=>ag
 |none=>ag
def Lp{neg:Bool}{σ:St}(h:tD X.K Xw (NB neg i δ) σ H Q):(λσ H Q=>tD X.K Xw δ σ H λy H1=>rZ i σ H1 λx H2=>∃a o,x= .ref a/\k_ H2 a y o/\Q (.bl (if neg then !o.isSome else o.isSome)) H2) σ H Q:=by
 obtain⟨F,ρ,s,w⟩:=h;refine⟨F,ρ,s,WP.mono (WP.bind w) λy H1 ⟨F1,k,e1,q1,w1⟩=>?_⟩;have s1:=s.ext e1;cases hi:rT ρ i with
 |none=>rw[hi] at w1;exact w1.elim
 |some d=>
  rw[hi] at w1;have w1:WP X.K Xw F1 H1 (match Eb d k with | some o=>ae (.bl (if neg then !o.isSome else o.isSome)) | none=>ag) Q:=w1;cases he:Eb d k with
  |none=>rw[he] at w1;exact w1.elim
  |some o=>
   rw[he] at w1;obtain⟨a,ov,h1,h2,h3,_⟩:=Bf s1 hi q1 he;refine⟨.ref a,h1,a,ov,rfl,h2,?_⟩;rw[h3];exact WP.now w1 e1.fh rfl
def R4(hu:X.A.units+64<cLine)(ha:PD X Xw a δ)(hv:PE X (.Name x p) (rZ i))(hm:XJ .In (.Name x p)=false:=by rfl):PD X Xw (.Compare a [.In] [.Name x p] pos) (NB false i δ):=
 PE.weak (Mi (Ma (by omega) ha hv) hm) λσ H Q h=>Lp (neg:=false) h
def oQ(i:Nat):DS:=λρ=>ae (.nx (ρ.set i (some (.ow (.dct [] [])))))
def gQ(hN:X.N.Nodup)(hi:X.N[i]? =some x)(hx:Loc X.env.scope x)(hf:X.fn x=true\/X.env.scope.names.lookup x=some .local:=by first | exact .inl rfl | exact .inr rfl):
 iR X Xw (.Assign [.Name x pos'] (.Dict [] [] Mt) pos) (oQ i):=λs0 adP=>PS.weak (wk Gp (aR hN hi hx hf) rfl) λD σ H ⟨F,ρ,s,w⟩=>λq hq=>
 w _ F _ (s.setNew (c₀:= .dct [] []) hq ⟨[],rfl,rfl,rfl,Xq _⟩)
def nM:C->D->D->Option C
 | .dct ks ds,k,d=>match eF k with
   |some kk=>if ds.length<lim then some (.dct (dZ ks ds kk) (c_ ks ds kk d)) else none
   |none=>none
 | .dci ks ds,k,d=>match Am k with
   |some kk=>if ds.length<lim then some (.dci (dZ ks ds kk) (c_ ks ds kk d)) else none
   |none=>none
 |_,_,_=>none
def AF(ρ:cQ)(i:Nat):Option C:=match ρ[i]? with
 |some (some (.ow c))=>some c
 |_=>none
def uq{ρ:cQ}{i:Nat}(h:AF ρ i=some c):ρ[i]? =some (some (.ow c)):=by
 unfold AF at h;split at h
 ·rename_i c' e;cases h;exact e
 ·cases h
def fV(i:Nat)(δk δv:DE):DS:=λρ=>match AF ρ i with
 |some c=>δv ρ>>=λv=>δk ρ>>=λk=>match nM c k v with
  |some c'=>ae (.nx (ρ.set i (some (.ow c'))))
  |none=>ag
 |none=>ag
def uD{κ:Type}[DecidableEq κ]{ks:List κ}{k:κ}(hl:ks.length=ds.length)(h:ds.length<lim):(c_ ks ds k d).length<=lim:=by
 unfold c_;split
 ·rw[jW ks ds k d hl];omega
 ·rw[WL];exact h
def Gy{K:WI}{F H:Hp}(hs:Same F H)(hb:H b=some o)(hc:DenC K F c o)(hk:Den K F k y)(hd:Den K F d v)(e:nM c k d=some c'):∃o',DPut H b y v (upd H b o')/\DenC K F c' o':=by
 have N8:=eA;unfold nM at e;split at e
 ·rename_i ks ds k d;obtain⟨vs,rfl,h3,h4,h5⟩:=hc;split at e
  ·rename_i kk q;split at e
   ·rename_i fM;cases e;unfold eF at q;split at q
    ·rename_i es;obtain⟨b2,ws,rfl,k2,k3,_⟩:=hk;have e1:=iH q k3;subst e1;obtain⟨us,e2,e3,e4⟩:=wo hd kk h3 h4;refine⟨_,DPut.t hb (hs _ _ k2) (by rw[Co h3 h4];omega),us,?_,e3,e4,uD h4 fM⟩;rw[e2]
    ·cases q
   ·cases e
  ·cases e
 ·rename_i ks ds k d;obtain⟨vs,rfl,h3,h4,h5⟩:=hc;split at e
  ·rename_i kk q;split at e
   ·rename_i fM;cases e;have e1:=qG q hk;subst e1;obtain⟨us,e2,e3,e4⟩:=wo hd kk h3 h4;refine⟨_,DPut.k hb (by rw[Co h3 h4];omega),us,?_,e3,e4,uD h4 fM⟩;rw[e2]
   ·cases e
  ·cases e
 ·cases e
def eV(hu:X.A.units+64<cLine)(hv:PE X (.Name x p) (rZ i))(hk:PD X Xw a δk)(he:PD X Xw e δv)(hs:aay e (some (.Subscript (.Name x p) a pos')) pos.line X.env=pure false:=by rfl):
 iR X Xw (.Assign [.Subscript (.Name x p) a pos'] e pos) (fV i δk δv):=λs0 adP=>PS.weak (Jh (by omega) hv hk he hs) λD σ H ⟨F,ρ,s,w⟩=>by
 unfold fV at w;cases ho:AF ρ i with
 |none=>rw[ho] at w;exact w.elim
 |some c=>
  rw[ho] at w;have hi:=uq ho;have w:WPS X.K Xw s0 adP (δv ρ>>=λv=>δk ρ>>=λk=>match nM c k v with | some c'=>ae (.nx (ρ.set i (some (.ow c')))) | none=>ag) D:=w;refine⟨F,ρ,s.st,?_⟩;rcases(δv ρ).cs with q | ⟨n,q⟩ | ⟨dv,q⟩
  ·rw[q] at w;exact w.elim
  ·rw[q] at w⊢;exact λF' H' e'=>w F' H' (s.ext.trans e')
  ·rw[q] at w⊢;intro v H1 F1 e1 hq;have s1:=s.ext' e1;obtain⟨u,h1,b,o,rfl,h2,h3,h4⟩:=s1.st.den i _ hi;have w:WPS X.K Xw s0 adP (δk ρ>>=λk=>match nM c k dv with | some c'=>ae (.nx (ρ.set i (some (.ow c')))) | none=>ag) D:=w;refine⟨.ref b,h1,F1,ρ,s1.st,?_⟩;rcases(δk ρ).cs with q2 | ⟨n,q2⟩ | ⟨dk,q2⟩
   ·rw[q2] at w;exact w.elim
   ·rw[q2] at w⊢;exact λF' H' e'=>w F' H' (s1.ext.trans e')
   ·rw[q2] at w⊢;intro y H2 F2 e2 hy;have w:WPS X.K Xw s0 adP (match nM c dk dv with | some c'=>ae (.nx (ρ.set i (some (.ow c')))) | none=>ag) D:=w;cases hp:nM c dk dv with
    |none=>rw[hp] at w;exact w.elim
    |some c'=>
     rw[hp] at w;have s2:=s1.ext' e2;obtain⟨u2,k1,b2,o2,QW,k2,k3,k4⟩:=s2.st.den i _ hi;rw[h1] at k1;cases k1;cases QW;obtain⟨o',g,hc⟩:=Gy s2.st.fh k2 k4 hy (Den.mono e2.ff hq) hp;exact⟨b,_,rfl,g,w σ F2 _ (s2.chg hi h1 hc)⟩
end
def fo(c:DT)(body:DS):Nat->DS
 |0,_=>ag
 |n+1,ρ=>c ρ>>=λb=>if b then body ρ>>=λo=>match o with | .nx ρ'=>fo c body n ρ' | .rt d=>ae (.rt d) else ae (.nx ρ)
def AQ(c:DT)(body:DS):DS:=λρ=>fo c body lim ρ
section
variable{X:Cx}{Xw:Nat->Hp->Prop}{τ:DS}{tc:DT}{pos:Pos}
def uA(hp:PassesOwn (model X.prog X.w) X.A X.env X.xe)(hc:pL X Xw c tc)(hb:PSDs X Xw body τ):iR X Xw (.While c body [] pos) (AQ tc τ):=λs0 adP=>PS.weak (Gs hp hc hb.ex) λD σ H ⟨F,ρ,s,w⟩=>by
 refine⟨λm σ H=>∃F ρ,StOk X.K s0 adP F H σ ρ/\WPS X.K Xw s0 adP (fo tc τ m ρ) D,⟨lim,F,ρ,s,w⟩,?_⟩;rintro m σ H ⟨F,ρ,s,w⟩;cases m with
 |zero=>exact w.elim
 |succ m=>
  refine⟨F,ρ,s.st,?_⟩;unfold fo at w
  match tc ρ,w with
  |none,w=>exact w
  |some (.ex n),w=>exact λF' H' e'=>w F' H' (s.ext.trans e')
  |some (.ok false),w=>exact λH' F' e'=>w σ F' H' (s.ext' e')
  |some (.ok true),w=>
   intro H' F' e';have w:WPS X.K Xw s0 adP (τ ρ>>=λo=>match o with | .nx ρ'=>fo tc τ m ρ' | .rt d=>ae (.rt d)) D:=w;refine⟨λσ' H'=>∃F' ρ',StOk X.K s0 adP F' H' σ' ρ'/\WPS X.K Xw s0 adP (fo tc τ m ρ') D,λσ' H' h=>⟨m,Zq m,h⟩,s0,adP,F',ρ,s.ext' e',?_⟩
   match τ ρ,w with
   |none,w=>exact w
   |some (.ok (.nx ρ')),w=>exact λσ' F' H' s'=>⟨F',ρ',s',w⟩
   |some (.ok (.rt d)),w=>exact w
   |some (.ex n),w=>exact w
end
def l6:List D->Option (List (List Key))
 |[]=>some []
 |d::ds=>match eF d,l6 ds with
  |some k,some ks=>some (k::ks)
  |_,_=>none
def KR:∀{x y:D}{k k':Key}{n:Nat},Am x=some k->Am y=some k'->fW n x y=some (decide (k=k'))
 | .int i, .int j,_,_,n,e1,e2=>by
   cases e1;cases e2;have:fW n (.int i) (.int j)=some (i==j):=by cases n<;>rfl
   rw[this];congr 1;by_cases h:i=j
   ·subst h;simp
   ·simp[h]
 | .str x, .str y,_,_,n,e1,e2=>by
   cases e1;cases e2;have:fW n (.str x) (.str y)=some (x==y):=by cases n<;>rfl
   rw[this];congr 1;by_cases h:x=y
   ·subst h;simp
   ·simp[h]
 | .int i, .str y,_,_,n,e1,e2=>by
   cases e1;cases e2;have:fW n (.int i) (.str y)=some false:=by cases n<;>rfl
   rw[this];simp
 | .str x, .int j,_,_,n,e1,e2=>by
   cases e1;cases e2;have:fW n (.str x) (.int j)=some false:=by cases n<;>rfl
   rw[this];simp
 | .non,_,_,_,_,e1,_=>by cases e1
 | .bl _,_,_,_,_,e1,_=>by cases e1
 | .raw _,_,_,_,_,e1,_=>by cases e1
 | .exc _,_,_,_,_,e1,_=>by cases e1
 | .scr _,_,_,_,_,e1,_=>by cases e1
 | .tup _,_,_,_,_,e1,_=>by cases e1
 | .lst _,_,_,_,_,e1,_=>by cases e1
 | .dct _ _,_,_,_,_,e1,_=>by cases e1
 | .dci _ _,_,_,_,_,e1,_=>by cases e1
 |_, .non,_,_,_,_,e2=>by cases e2
 |_, .bl _,_,_,_,_,e2=>by cases e2
 |_, .raw _,_,_,_,_,e2=>by cases e2
 |_, .exc _,_,_,_,_,e2=>by cases e2
 |_, .scr _,_,_,_,_,e2=>by cases e2
 |_, .tup _,_,_,_,_,e2=>by cases e2
 |_, .lst _,_,_,_,_,e2=>by cases e2
 |_, .dct _ _,_,_,_,_,e2=>by cases e2
 |_, .dci _ _,_,_,_,_,e2=>by cases e2
def Bu:∀{xs ys:List D}{k k':List Key},vy xs=some k->vy ys=some k'->lM (fW n) xs ys=some (decide (k=k'))
 |[],[],_,_,e1,e2=>by cases e1;cases e2;rfl
 |x::xs,[],_,_,e1,e2=>by
  cases e2;unfold vy at e1;split at e1
  ·cases e1;simp[lM]
  ·cases e1
 |[],y::ys,_,_,e1,e2=>by
  cases e1;unfold vy at e2;split at e2
  ·cases e2;simp[lM]
  ·cases e2
 |x::xs,y::ys,_,_,e1,e2=>by
  unfold vy at e1 e2;split at e1
  ·rename_i k ks q1 q2;cases e1;split at e2
   ·rename_i k' ks' q3 q4;cases e2;unfold lM;rw[KR q1 q3,Bu q2 q4];simp
   ·cases e2
  ·cases e1
def HK(e1:eF x=some k)(e2:eF y=some k'):fW (n+1) x y=some (decide (k=k')):=by
 cases x with
 |tup xs=>
  cases y with
  |tup ys=>exact Bu e1 e2
  |_=>cases e2
 |_=>cases e1
def Fv{K:WI}(e:eF d=some k)(h:Den K F d v):∃a,v= .ref a/\F a=some (.tup (k.map kV)):=by
 cases d with
 |tup ds=>
  obtain⟨a,vs,rfl,h2,h3,_⟩:=h;have:=iH e h3;subst this;exact⟨a,rfl,h2⟩
 |_=>cases e
def qL(k:List Key)(ks:List (List Key)):Bool:=ks.any λk'=>decide (k'=k)
open Classical in
noncomputable def isKey(H:Hp)(k:List Key)(u:Value):Bool:=decide (∃a,u= .ref a/\H a=some (.tup (k.map kV)))
def Df{K:WI}(hs:Same F H)(e:eF d=some k')(h:Den K F d v)(r:RelV v u):isKey H k u=decide (k'=k):=by
 obtain⟨a,rfl,h2⟩:=Fv e h;cases (show u=_ from r);unfold isKey;by_cases hk:k'=k
 ·subst hk;rw[adJ rfl];exact @adJ _ (abA _) ⟨a,rfl,hs _ _ h2⟩
 ·rw[adI hk];refine @adI _ (abA _) λ⟨b,e1,e2⟩=>hk ?_;cases e1;rw[hs _ _ h2] at e2;injection e2 with e2
  injection e2 with e2
  exact BG e2
def iJ(I:Inv X f8 σ H s)(hs:Same F H)(hu:A.units+6<cLine)(ex:eF x=some k)(hx:Den X.K F x v)(rx:RelV v u):
 ∀{ys:List D}{vs:List V}{aI:List Value}{ks:List (List Key)},l6 ys=some ks->DenL X.K F ys vs->Vals vs aI->aI.any (isKey H k)=qL k ks/\∀t∈aI,EqAt A s t u (isKey H k t)
 |[],_,_,_,e,h,r=>by
  cases e;cases (show _=_ from h);cases r;exact⟨rfl,λt ht=>by cases ht⟩
 |y::ys,_,_,_,e,⟨w,ws,h1,h2,h3⟩,r=>by
  subst h1;unfold l6 at e;split at e
  ·rename_i k' ks e1 e2;cases e;cases r with
   |cons r1 r2=>
    obtain⟨VQ,VR⟩:=iJ I hs hu ex hx rx e2 h3 r2;have hk:=Df (k:=k) hs e1 h2 r1;refine⟨?_,λt ht=>?_⟩
    ·rw[YY,VQ,hk];rfl
    ·rcases WG.mp ht with rfl | ht
     ·rw[hk];exact(qd I hs 6 A y x w v t u _ hu h2 hx r1 rx (HK e1 ex)).eq
     ·exact VR t ht
  ·cases e
def xV(neg:Bool):D->D->M D
 |x, .lst ys=>match eF x,l6 ys with
  |some k,some ks=>ae (.bl (if neg then !qL k ks else qL k ks))
  |_,_=>ag
 |x, .tup ys=>match eF x,l6 ys with
  |some k,some ks=>ae (.bl (if neg then !qL k ks else qL k ks))
  |_,_=>ag
 |_,_=>ag
def ME(K:WI)(neg:Bool):R2:=λx y H Q=>∃F dx ys vs p k ks,Same F H/\Den K F dx x/\eF dx=some k/\l6 ys=some ks/\DenL K F ys vs/\y= .ref p/\(SqL K H p vs\/SqT K H p vs)/\Q (.bl (if neg then !qL k ks else qL k ks)) H
section
variable{X:Cx}{Xw:Nat->Hp->Prop}{a b:Expr}{δa δb:DE}{pos:Pos}
def R1(hu:X.A.units+64<cLine):OpR X (XB .In) (ME X.K false):=by
 intro f8 s σ H x y v u Q I rx ry h;obtain⟨F,dx,ys,vs,p,k,ks,hs,hx,ex,ek,hd,rfl,hq,q⟩:=h;cases (show u=_ from ry);have Ot:X.A.in1.units+6<cLine:=by show X.A.units+1+6<cLine;omega
 rcases hq with hq | hq
 ·obtain⟨aI,r,pl,hz⟩:=I.list hq;obtain⟨e1,e2⟩:=iJ I hs Ot ex hx rx ek hd r;refine SeqAt.in_listAt (isKey H k) pl.isList (λw hw=>e2 w (by simpa using hw)) ⟨.bl _,H,I,rfl,?_⟩;rw[show aI.toArray.any (isKey H k)=aI.any (isKey H k) by simp,e1];exact q
 ·obtain⟨aI,r,pl,hz⟩:=I.tuple hq;obtain⟨e1,e2⟩:=iJ I hs Ot ex hx rx ek hd r;refine adv (isKey H k) pl (λw hw=>e2 w (by simpa using hw)) ⟨.bl _,H,I,rfl,?_⟩;rw[show aI.toArray.any (isKey H k)=aI.any (isKey H k) by simp,e1];exact q
def DM(hu:X.A.units+64<cLine):OpR X (XB .NotIn) (ME X.K true):=by
 intro f8 s σ H x y v u Q I rx ry h;obtain⟨F,dx,ys,vs,p,k,ks,hs,hx,ex,ek,hd,rfl,hq,q⟩:=h;cases (show u=_ from ry);have Ot:X.A.in1.units+6<cLine:=by show X.A.units+1+6<cLine;omega
 rcases hq with hq | hq
 ·obtain⟨aI,r,pl,hz⟩:=I.list hq;obtain⟨e1,e2⟩:=iJ I hs Ot ex hx rx ek hd r;refine acY (isKey H k) pl.isList (λw hw=>e2 w (by simpa using hw)) ⟨.bl _,H,I,rfl,?_⟩;rw[show aI.toArray.any (isKey H k)=aI.any (isKey H k) by simp,e1];exact q
 ·obtain⟨aI,r,pl,hz⟩:=I.tuple hq;obtain⟨e1,e2⟩:=iJ I hs Ot ex hx rx ek hd r;refine acL (isKey H k) pl (λw hw=>e2 w (by simpa using hw)) ⟨.bl _,H,I,rfl,?_⟩;rw[show aI.toArray.any (isKey H k)=aI.any (isKey H k) by simp,e1];exact q
def Lr{K:WI}:xi K (ME K neg) (xV neg):=λXw F H x y dx dy Q s hx hy w=>by
 unfold xV at w;split at w
 ·rename_i ys;split at w
  ·rename_i k ks e1 e2;obtain⟨p,vs,h1,h2,h3,_⟩:=hy;exact⟨F,dx,ys,vs,p,k,ks,s,hx,e1,e2,h3,h1, .inl (SqL.of (s _ _ h2)),WP.now w s rfl⟩
  ·exact w.elim
 ·rename_i ys;split at w
  ·rename_i k ks e1 e2;obtain⟨p,vs,h1,h2,h3,_⟩:=hy;exact⟨F,dx,ys,vs,p,k,ks,s,hx,e1,e2,h3,h1, .inr (SqT.of (s _ _ h2)),WP.now w s rfl⟩
  ·exact w.elim
 ·exact w.elim
def DW(hu:X.A.units+64<cLine)(ha:PD X Xw a δa)(hb:PD X Xw b δb)(hm:XJ .NotIn b=false:=by rfl):pL X Xw (.Compare a [.NotIn] [b] pos) (cW (d2 (xV true) δa δb)):=gf (DM hu) Lr ha hb hm
end
end L3
namespace L3
open PySem PySem.W PyProof.Rows
def d9(b:Nat->Nat->Bool):KasT α->α
 | .ret a=>a
 | .ask i j k=>d9 b (k (b i j))
def gy(b:Nat->Nat->Bool)(f:α->KasT β):∀t:KasT α,d9 b (t.bind f)=d9 b (f (d9 b t))
 | .ret _=>rfl
 | .ask i j k=>gy b f (k (b i j))
structure Lt (n:Nat) (b:Nat->Nat->Bool):Prop where
 tr:∀i j k,b i j=true->b j k=true->b i k=true
 Wg:∀i j,b i j=true->b j i=false
 tot:∀i j,i<n->j<n->i≠j->b i j=true\/b j i=true
abbrev at'(p:Array Nat)(i:Nat):Nat:=p.getD i 0
def Ri(b:Nat->Nat->Bool)(p:Array Nat)(k:Nat):Prop:=∀i j,i<j->j<k->b (at' p i) (at' p j)=true
def Fa(b:Nat->Nat->Bool)(p:Array Nat)(k:Nat):Prop:=∀i j,i<j->j<k->b (at' p j) (at' p i)=true
structure PN (n:Nat) (p:Array Nat):Prop where
 sz:p.size=n
 lt:∀i,i<n->at' p i<n
 inj:∀i j,i<n->j<n->at' p i=at' p j->i=j
section
variable{n:Nat}{b:Nat->Nat->Bool}(L:Lt n b)
include L
theorem Ri.more(h:Ri b p k)(h1:1<=k)(e:b (at' p (k - 1)) (at' p k)=true):Ri b p (k+1):=λi j xZ hj=>by
 by_cases hk:j<k
 ·exact h i j xZ hk
 ·have:j=k:=by omega
  subst this;by_cases hi:i=j - 1
  ·subst hi;exact e
  ·exact L.tr _ _ _ (h i (j - 1) (by omega) (by omega)) e
theorem Fa.more(h:Fa b p k)(h1:1<=k)(e:b (at' p k) (at' p (k - 1))=true):Fa b p (k+1):=λi j xZ hj=>by
 by_cases hk:j<k
 ·exact h i j xZ hk
 ·have:j=k:=by omega
  subst this;by_cases hi:i=j - 1
  ·subst hi;exact e
  ·exact L.tr _ _ _ e (h i (j - 1) (by omega) (by omega))
theorem uU(P:PN n p):∀(f k:Nat),1<=k->k+f<=n->Ri b p k->k<=d9 b (kas_asc p f k)/\d9 b (kas_asc p f k)<=k+f/\Ri b p (d9 b (kas_asc p f k))/\(d9 b (kas_asc p f k)<k+f->b (at' p (d9 b (kas_asc p f k))) (at' p (d9 b (kas_asc p f k) - 1))=true)
 |0,k,h1,hn,h=>⟨WO _,WO _,h,λz=>adK z (Xz _)⟩
 |f+1,k,h1,hn,h=>by
  have e:d9 b (kas_asc p (f+1) k)=d9 b (if b (at' p k) (at' p (k - 1))=true then KasT.ret k else kas_asc p f (k+1)):=rfl;rw[e];by_cases hb:b (at' p k) (at' p (k - 1))=true
  ·rw[adF hb];exact⟨WO _,by show k<=_;omega,h,λ_=>hb⟩
  ·rw[adG hb];have hr:b (at' p (k - 1)) (at' p k)=true:=by
    rcases L.tot (at' p (k - 1)) (at' p k) (P.lt _ (by omega)) (P.lt _ (by omega)) (λz=>by have:=P.inj _ _ (by omega) (by omega) z;omega) with q | q
    ·exact q
    ·exact adK q hb
   obtain⟨a1,a2,a3,a4⟩:=uU P f (k+1) (by omega) (by omega) (Ri.more L h h1 hr);exact⟨by omega,by omega,a3,λz=>a4 (by omega)⟩
theorem xJ(P:PN n p):∀(f k:Nat),1<=k->k+f<=n->Fa b p k->∃m,d9 b (kas_desc f p k 0)=(p,m,0)/\k<=m/\m<=k+f/\Fa b p m
 |0,k,h1,hn,h=>⟨k,rfl,WO _,WO _,h⟩
 |f+1,k,h1,hn,h=>by
  have e:d9 b (kas_desc (f+1) p k 0)=d9 b (if b (at' p k) (at' p (k - 1))=true then(if 0>0 then kas_desc f (kas_rev p (k - (0+1)) k) (k+1) 0 else kas_desc f p (k+1) 0)
   else .ask (p.getD (k - 1) 0) (p.getD k 0) λd=>if d=true then .ret (p,k,0) else kas_desc f p (k+1) (0+1)):=rfl
  rw[e];by_cases hb:b (at' p k) (at' p (k - 1))=true
  ·rw[adF hb,adG (by omega)];obtain⟨m,e1,e2,e3,e4⟩:=xJ P f (k+1) (by omega) (by omega) (Fa.more L h h1 hb);exact⟨m,e1,by omega,by omega,e4⟩
  ·rw[adG hb];have hr:b (at' p (k - 1)) (at' p k)=true:=by
    rcases L.tot (at' p (k - 1)) (at' p k) (P.lt _ (by omega)) (P.lt _ (by omega)) (λz=>by have:=P.inj _ _ (by omega) (by omega) z;omega) with q | q
    ·exact q
    ·exact adK q hb
   refine⟨k,?_,WO _,by omega,h⟩;show d9 b (if b (at' p (k - 1)) (at' p k)=true then KasT.ret (p,k,0) else kas_desc f p (k+1) (0+1))=_;rw[adF hr];rfl
end
def eO(p:Array Nat)(k:Nat):at' p k=(p[k]?).getD 0:=by
 unfold at';rw[Array.getD_eq_getD_getElem?]
def GH(hm:m<=p.size)(k:Nat):at' (kas_rev p 0 m) k=if k<m then at' p (m - 1 - k) else at' p k:=by
 have e:=getElem?_mirror_all (i:=0) hm k;rw[eO];show (((mirror p 0 m ((m - 0) / 2))[k]?).getD 0)=_;rw[e];by_cases h:k<m
 ·rw[adF ⟨Xq _,h⟩,adF h,eO,abr]
 ·rw[adG (λz=>h z.2),adG h,eO]
def Et(hk:k<p.size)(hl:l<=k)(j:Nat):at' (bubble p k (k - l)) j=if j=l then at' p k else if l<j/\j<=k then at' p (j - 1) else at' p j:=by
 have e:=getElem?_bubble hk (k - l) (by omega) j;have e2:k - (k - l)=l:=by omega
 rw[e2] at e;rw[eO (bubble p k (k - l)),e,eO p k,eO p (j - 1),eO p j];by_cases c1:j=l
 ·rw[adF c1,adF c1]
 ·rw[adG c1,adG c1];by_cases c2:l<j/\j<=k
  ·rw[adF c2,adF c2]
  ·rw[adG c2,adG c2]
section
variable{n:Nat}{b:Nat->Nat->Bool}
def PN.rev(P:PN n p)(hm:m<=n):PN n (kas_rev p 0 m):=by
 have ha:=GH (by rw[P.sz];exact hm);refine⟨(mirror_size ..).trans P.sz,λi hi=>?_,λi j hi hj e=>?_⟩
 ·rw[ha];split
  ·exact P.lt _ (by omega)
  ·exact P.lt _ hi
 ·rw[ha,ha] at e;split at e<;>split at e
  ·have:=P.inj _ _ (by omega) (by omega) e;omega
  ·have:=P.inj _ _ (by omega) hj e;omega
  ·have:=P.inj _ _ hi (by omega) e;omega
  ·exact P.inj _ _ hi hj e
def PN.bub(P:PN n p)(hk:k<n)(hl:l<=k):PN n (bubble p k (k - l)):=by
 have ha:=Et (by rw[P.sz];exact hk) hl;refine⟨(bubble_size ..).trans P.sz,λi hi=>?_,λi j hi hj e=>?_⟩
 ·rw[ha];split
  ·exact P.lt _ hk
  ·split
   ·exact P.lt _ (by omega)
   ·exact P.lt _ hi
 ·rw[ha,ha] at e;split at e
  ·split at e
   ·omega
   ·split at e
    ·have:=P.inj _ _ hk (by omega) e;omega
    ·have:=P.inj _ _ hk hj e;omega
  ·split at e
   ·split at e
    ·have:=P.inj _ _ (by omega) hk e;omega
    ·split at e
     ·have:=P.inj _ _ (by omega) (by omega) e;omega
     ·have:=P.inj _ _ (by omega) hj e;omega
   ·split at e
    ·have:=P.inj _ _ hi hk e;omega
    ·split at e
     ·have:=P.inj _ _ hi (by omega) e;omega
     ·exact P.inj _ _ hi hj e
def Fa.rev(P:PN n p)(hm:m<=n)(h:Fa b p m):Ri b (kas_rev p 0 m) m:=λi j xZ hj=>by
 have ha:=GH (by rw[P.sz];exact hm);rw[ha,ha,adF (by omega),adF hj];exact h _ _ (by omega) (by omega)
variable(L:Lt n b)
include L
theorem G7(P:PN n p)(h1:1<=m)(hm:m<=n)(h:Fa b p m):∃k q,d9 b (kas_tail3 m n p)=(k,q)/\PN n q/\1<=k/\k<=n/\Ri b q k:=by
 unfold kas_tail3;rw[gy];obtain⟨a1,a2,a3,_⟩:=uU L (P.rev hm) (n - m) m h1 (by omega) (Fa.rev P hm h);exact⟨_,_,rfl,P.rev hm,by omega,by omega,a3⟩
theorem CL(P:PN n p)(h2:2<=n):∃k q,d9 b (kas_count n p)=(k,q)/\PN n q/\1<=k/\k<=n/\Ri b q k:=by
 unfold kas_count;rw[gy];obtain⟨a1,a2,a3,a4⟩:=uU L P (n - 1) 1 (WO _) (by omega) (λi j xZ hj=>by omega);generalize d9 b (kas_asc p (n - 1) 1)=m at a1 a2 a3 a4;by_cases he:m=n
 ·subst he;rw[adF (by simp)];exact⟨m,p,rfl,P,by omega,WO _,a3⟩
 ·rw[adG (by simpa using he)];by_cases hg:m>1
  ·rw[adF hg];have hb:b (p.getD 0 0) (p.getD (m - 1) 0)=true:=a3 0 (m - 1) (by omega) (by omega);show∃k q,d9 b (if b (p.getD 0 0) (p.getD (m - 1) 0)=true then KasT.ret (m,p) else kas_descPart m n (kas_rev p 0 m))=(k,q)/\_;rw[adF hb];exact⟨m,p,rfl,P,by omega,by omega,a3⟩
  ·rw[adG hg];have hm:m=1:=by omega
   subst hm;have hb:=a4 (by omega);unfold kas_descPart;rw[gy];obtain⟨m,e1,e2,e3,e4⟩:=xJ L P (n - (1+1)) (1+1) (by omega) (by omega) (λi j xZ hj=>by
    have hi:i=0:=by omega
    have hj:j=1:=by omega
    subst hi hj;exact hb)
   rw[e1]
   dsimp only
   rw[adG (by omega)];exact G7 L P (by omega) (by omega) e4
theorem nK(P:PN n p)(hk:k<n)(h:Ri b p k):∀(f l r:Nat),l<=r->r<=k->r - l<=f->(∀i,i<l->b (at' p i) (at' p k)=true)->(∀i,r<=i->i<k->b (at' p k) (at' p i)=true)->
 d9 b (kas_place p k f l r)<=k/\(∀i,i<d9 b (kas_place p k f l r)->b (at' p i) (at' p k)=true)/\∀i,d9 b (kas_place p k f l r)<=i->i<k->b (at' p k) (at' p i)=true
 |0,l,r,h1,h2,h3,h4,h5=>by
  have:r=l:=by omega
  subst this;exact⟨h2,h4,h5⟩
 |f+1,l,r,h1,h2,h3,h4,h5=>by
  unfold kas_place;by_cases To:l>=r
  ·rw[adF To];have:r=l:=by omega
   subst this;exact⟨h2,h4,h5⟩
  ·rw[adG To];have hm:(l+r) / 2<r:=by omega
   have M_:l<=(l+r) / 2:=by omega
   show d9 b (if b (at' p k) (at' p ((l+r) / 2))=true then kas_place p k f l ((l+r) / 2) else kas_place p k f ((l+r) / 2+1) r)<=k/\(∀i,i<d9 b (if b (at' p k) (at' p ((l+r) / 2))=true then kas_place p k f l ((l+r) / 2) else kas_place p k f ((l+r) / 2+1) r)->_)/\∀i,d9 b (if b (at' p k) (at' p ((l+r) / 2))=true then kas_place p k f l ((l+r) / 2) else kas_place p k f ((l+r) / 2+1) r)<=i->_;by_cases hb:b (at' p k) (at' p ((l+r) / 2))=true
   ·rw[adF hb];refine nK P hk h f l ((l+r) / 2) M_ (by omega) (by omega) h4 λi hi U7=>?_;by_cases e:i=(l+r) / 2
    ·rw[e];exact hb
    ·exact L.tr _ _ _ hb (h _ _ (by omega) U7)
   ·rw[adG hb];have hr:b (at' p ((l+r) / 2)) (at' p k)=true:=by
     rcases L.tot (at' p ((l+r) / 2)) (at' p k) (P.lt _ (by omega)) (P.lt _ hk) (λz=>by have:=P.inj _ _ (by omega) hk z;omega) with q | q
     ·exact q
     ·exact adK q hb
    refine nK P hk h f ((l+r) / 2+1) r (by omega) h2 (by omega) (λi hi=>?_) h5;by_cases e:i=(l+r) / 2
    ·rw[e];exact hr
    ·exact L.tr _ _ _ (h i ((l+r) / 2) (by omega) (by omega)) hr
theorem Bi:∀(f:Nat) {p:Array Nat}{k:Nat},PN n p->k+f<=n->Ri b p k->PN n (d9 b (kas_bin f p k))/\Ri b (d9 b (kas_bin f p k)) (k+f)
 |0,p,k,P,_,h=>⟨P,h⟩
 |f+1,p,k,P,hn,h=>by
  have hk:k<n:=by omega
  unfold kas_bin;rw[gy];obtain⟨a1,a2,a3⟩:=nK L P hk h k 0 k (Xq _) (WO _) (by omega) (λi hi=>by omega) (λi h1 h2=>by omega);generalize d9 b (kas_place p k k 0 k)=l at a1 a2 a3;have ha:=Et (by rw[P.sz];exact hk) a1;have hR:Ri b (bubble p k (k - l)) (k+1):=λi j xZ hj=>by
   rw[ha,ha];by_cases c1:i=l
   ·rw[adF c1,adG (by omega),adF ⟨by omega,by omega⟩];exact a3 _ (by omega) (by omega)
   ·rw[adG c1];by_cases c2:j=l
    ·rw[adF c2,adG (by omega)];exact a2 _ (by omega)
    ·rw[adG c2];by_cases c3:l<i/\i<=k
     ·rw[adF c3,adF ⟨by omega,by omega⟩];exact h _ _ (by omega) (by omega)
     ·rw[adG c3];by_cases c4:l<j/\j<=k
      ·rw[adF c4];exact h _ _ (by omega) (by omega)
      ·rw[adG c4];exact h _ _ xZ (by omega)
  have:=Bi f (P.bub hk a1) (by omega) hR;rw[show k+(f+1)=k+1+f by omega];exact this
theorem zk(h2:2<=n):PN n (d9 b (kas_sort n))/\Ri b (d9 b (kas_sort n)) n:=by
 have P0:PN n (XE (W8 n)):=by
  have e:∀i,i<n->at' (XE (W8 n)) i=i:=λi hi=>by rw[eO];simp[hi]
  exact⟨by simp,λi hi=>by rw[e i hi];exact hi,λi j hi hj z=>by rw[e i hi,e j hj] at z;exact z⟩
 unfold kas_sort;rw[gy];obtain⟨k,q,e,P,k1,kn,hR⟩:=CL L P0 h2;rw[e]
 dsimp only
 by_cases fM:k<n
 ·rw[adF fM];have:=Bi L (n - max k 1) (k:=max k 1) P (by omega) (by rw[show max k 1=k by omega];exact hR);rw[show max k 1+(n - max k 1)=n by omega] at this;exact this
 ·rw[adG fM];have:k=n:=by omega
  subst this;exact⟨P,hR⟩
end
def Asks{α:Type}(n:Nat)(P:α->Prop):KasT α->Prop
 | .ret a=>P a
 | .ask i j k=>i<n/\j<n/\∀c,Asks n P (k c)
def Asks.bind{α β:Type}{n:Nat}{P:α->Prop}{Q:β->Prop}{f:α->KasT β}:∀{t:KasT α},Asks n P t->(∀a,P a->Asks n Q (f a))->Asks n Q (t.bind f)
 | .ret a,h,hf=>hf a h
 | .ask i j k,h,hf=>⟨h.1,h.2.1,λc=>Asks.bind (h.2.2 c) hf⟩
def wp_run{α:Type}{n:Nat}{P:α->Prop}{b:Nat->Nat->Bool}{cmp:Nat->Nat->(Bool->WC->Prop)->WC->Prop}{Q:α->WC->Prop}{s:WC}(hc:∀i j C,i<n->j<n->C (b i j) s->cmp i j C s):∀{t:KasT α},Asks n P t->Q (d9 b t) s->t.kasWp cmp Q s
 | .ret a,_,h=>h
 | .ask i j k,ha,h=>hc i j _ ha.1 ha.2.1 (wp_run hc (ha.2.2 _) h)
def Below(n:Nat)(p:Array Nat):Prop:=∀x∈p,x<n
section
variable{n:Nat}(hn:0<n)
include hn
theorem Below.at{p:Array Nat}(h:Below n p)(i:Nat):at' p i<n:=by
 rw[eO];cases e:p[i]? with
 |none=>exact hn
 |some x=>exact h x (Array.mem_of_getElem? e)
theorem Below.rev{p:Array Nat}(h:Below n p)(i j:Nat):Below n (kas_rev p i j):=λx hx=>h x ((mirror_perm p i j ((j - i) / 2)).mem_iff.mp hx)
theorem Below.bub{p:Array Nat}(h:Below n p)(k d:Nat):Below n (bubble p k d):=λx hx=>h x ((bubble_perm p k d).mem_iff.mp hx)
theorem pX{p:Array Nat}(h:Below n p):∀f k,Asks n (λ_=>True) (kas_asc p f k)
 |0,k=>trivial
 |f+1,k=>⟨Below.at hn h _,Below.at hn h _,λc=>by
  show Asks n _ (if c=true then KasT.ret k else kas_asc p f (k+1));cases c
  ·exact pX h f (k+1)
  ·exact trivial⟩
theorem j8:∀f {p:Array Nat} k q,Below n p->Asks n (λr=>Below n r.1) (kas_desc f p k q)
 |0,p,k,q,h=>h
 |f+1,p,k,q,h=>⟨Below.at hn h _,Below.at hn h _,λc=>by
  cases c
  ·refine⟨Below.at hn h _,Below.at hn h _,λd=>?_⟩;cases d
   ·exact j8 f _ _ h
   ·exact h
  ·show Asks n _ (if q>0 then kas_desc f (kas_rev p (k - (q+1)) k) (k+1) 0 else kas_desc f p (k+1) 0);split
   ·exact j8 f _ _ (Below.rev hn h _ _)
   ·exact j8 f _ _ h⟩
theorem tw{p:Array Nat}(h:Below n p)(m r:Nat):Asks n (λx=>Below n x.2) (kas_tail3 m r p):=Asks.bind (pX hn (Below.rev hn h 0 m) _ _) λ_ _=>Below.rev hn h 0 m
theorem pY{p:Array Nat}(h:Below n p)(m r:Nat):Asks n (λx=>Below n x.2) (kas_descPart m r p):=Asks.bind (j8 hn _ _ _ h) λx hx=>by
 split
 ·exact tw hn (Below.rev hn hx _ _) _ _
 ·exact tw hn hx _ _
theorem zO{p:Array Nat}(h:Below n p)(r:Nat):Asks n (λx=>Below n x.2) (kas_count r p):=Asks.bind (pX hn h _ _) λm _=>by
 split
 ·exact h
 ·split
  ·refine⟨Below.at hn h _,Below.at hn h _,λc=>?_⟩;cases c
   ·exact pY hn (Below.rev hn h _ _) _ _
   ·exact h
  ·exact pY hn h _ _
theorem la{p:Array Nat}(h:Below n p)(k:Nat):∀f l r,Asks n (λ_=>True) (kas_place p k f l r)
 |0,l,r=>trivial
 |f+1,l,r=>by
  unfold kas_place;split
  ·exact trivial
  ·refine⟨Below.at hn h _,Below.at hn h _,λc=>?_⟩;cases c
   ·exact la h k f _ _
   ·exact la h k f _ _
theorem xp:∀f {p:Array Nat} k,Below n p->Asks n (λ_=>True) (kas_bin f p k)
 |0,p,k,h=>trivial
 |f+1,p,k,h=>Asks.bind (la hn h k _ _ _) λl _=>xp f _ (Below.bub hn h _ _)
theorem tu:Asks n (λ_=>True) (kas_sort n):=by
 have h0:Below n (XE (W8 n)):=λx hx=>by simpa using hx
 refine Asks.bind (zO hn h0 n) λx hx=>?_;split
 ·exact xp hn _ _ hx
 ·exact trivial
end
def dI:List Int->List Int->Bool
 |[],[]=>false
 |[],_::_=>true
 |_::_,[]=>false
 |x::xs,y::ys=>if x=y then dI xs ys else decide (x<y)
def pO:∀a b c:List Int,dI a b=true->dI b c=true->dI a c=true
 |[],[],_,h,_=>by cases h
 |[],_::_,[],_,h=>by cases h
 |[],_::_,_::_,_,_=>rfl
 |_::_,[],_,h,_=>by cases h
 |_::_,_::_,[],_,h=>by cases h
 |x::a,y::b,z::c,h1,h2=>by
  unfold dI at h1 h2⊢;by_cases e1:x=y
  ·subst e1;rw[adF rfl] at h1;by_cases e2:x=z
   ·subst e2;rw[adF rfl] at h2⊢;exact pO a b c h1 h2
   ·rw[adG e2] at h2⊢;exact h2
  ·rw[adG e1] at h1;have h1:=adL h1;by_cases e2:y=z
   ·subst e2;rw[adG e1];exact adJ h1
   ·rw[adG e2] at h2;have h2:=adL h2;rw[adG (by omega)];exact adJ (by omega)
def iL:∀a b:List Int,dI a b=true->dI b a=false
 |[],[],h=>by cases h
 |[],_::_,_=>rfl
 |_::_,[],h=>by cases h
 |x::a,y::b,h=>by
  unfold dI at h⊢;by_cases e:x=y
  ·subst e;rw[adF rfl] at h⊢;exact iL a b h
  ·rw[adG e] at h;have h:=adL h;rw[adG (λz=>e z.symm)];exact adI (by omega)
def l_:∀a b:List Int,a≠b->dI a b=true\/dI b a=true
 |[],[],h=>adK rfl h
 |[],_::_,_=> .inl rfl
 |_::_,[],_=> .inr rfl
 |x::a,y::b,h=>by
  unfold dI;by_cases e:x=y
  ·subst e;rw[adF rfl,adF rfl];exact l_ a b λz=>h (by rw[z])
  ·rw[adG e,adG (λz=>e z.symm)];by_cases q:x<y
   ·exact .inl (adJ q)
   ·exact .inr (adJ (by omega))
section
variable{prog:Xc}{w:World}{A:Xu}{E:Value->WC->Prop}{s:WC}
def yp{Q:Bool->WC->Prop}:∀{us vs:List Value}{xs ys:List Int}(i:Nat) {fin:Bool},YH us xs->YH vs ys->fin=decide (xs.length<ys.length)->Q (dI xs ys) s->KatLex prog w A true fin Q (us.zip vs) i s
 |_,_,_,_,i,_, .nil, .nil,e,h=>by subst e;exact kat_nil h
 |_,_,_,_,i,_, .nil, .cons y t r,e,h=>by subst e;exact kat_nil h
 |_,_,_,_,i,_, .cons x t r, .nil,e,h=>by subst e;exact kat_nil h
 |_,_,_,_,i,_, .cons (vs:=us) (ns:=xs) x t r, .cons (vs:=vs) (ns:=ys) y u r',e,h=>by
  refine kat_cons (ab6 ?_);by_cases q:x=y
  ·subst q;rw[show (x==x)=true by simp];refine kat_yes (yp (i+1) r r' (by rw[e];simp) ?_);unfold dI at h;rw[adF rfl] at h;exact h
  ·rw[show (x==y)=false by simpa using q];unfold dI at h;rw[adG q] at h;refine kat_no ?_;by_cases hi:(i==0)=true
   ·rw[hi];exact oneLt_int h
   ·rw[show (i==0)=false by simpa using hi];exact kat_one _ _ (aam h)
def TupsAt(h:Heap):List Value->List (List Int)->Prop
 |[],[]=>True
 |v::vs,k::ks=>(∃a o us m,v= .ref a/\h.get? a=some o/\o.cls= .type "tuple"/\o.data= .seq (XE us) m/\YH us k/\k≠[])/\TupsAt h vs ks
 |_,_=>False
def TupsAt.len{h:Heap}:∀{vs:List Value}{ks:List (List Int)},TupsAt h vs ks->vs.length=ks.length
 |[],[],_=>rfl
 |v::vs,k::ks,t=>by rw[WE,WE,TupsAt.len t.2]
 |[],_::_,t=>t.elim
 |_::_,[],t=>t.elim
def TupsAt.get{h:Heap}:∀{vs:List Value}{ks:List (List Int)}{i:Nat},TupsAt h vs ks->i<vs.length->∃a o us m,vs.getD i Xi= .ref a/\h.get? a=some o/\o.cls= .type "tuple"/\o.data= .seq (XE us) m/\YH us (ks.getD i [])/\ks.getD i []≠[]
 |v::vs,k::ks,0,t,_=>t.1
 |v::vs,k::ks,i+1,t,hi=>TupsAt.get (i:=i) t.2 (by simpa using hi)
 |[],_,_,_,hi=>by simp at hi
 |_::_,[],_,t,_=>t.elim
def TupsAt.keep{h h':Heap}{a:Addr}(k:∀b o,b≠a->h.get? b=some o->h'.get? b=some o)(ha:∀o,h.get? a=some o->o.cls≠ .type "tuple"):∀{vs:List Value}{ks:List (List Int)},TupsAt h vs ks->TupsAt h' vs ks
 |[],[],_=>trivial
 |v::vs,x::ks,⟨⟨b,o,us,m,e1,e2,e3,e4⟩,t⟩=>⟨⟨b,o,us,m,e1,k b o (λz=>ha o (by rw[<-z];exact e2) e3) e2,e3,e4⟩,TupsAt.keep k ha t⟩
 |[],_::_,t=>t.elim
 |_::_,[],t=>t.elim
def qz:∀{us:List Value}{xs:List Int},YH us xs->us.length=xs.length
 |_,_, .nil=>rfl
 |_,_, .cons x t r=>by rw[WE,WE,qz r]
def TupsAt.firsts{M:Model}{h:Heap}:∀{vs:List Value}{ks:List (List Int)},TupsAt h vs ks->∃fs,KatTups h vs fs/\fs.length=vs.length/\∀v∈fs,Looks M h (typeOf v) (.type "int")
 |[],[],_=>⟨[],KatTups.nil,rfl,λ_ z=>by cases z⟩
 |v::vs,k::ks,⟨⟨a,o,us,m,e1,e2,e3,e4,e5,e6⟩,t⟩=>by
  obtain⟨fs,q1,q2,q3⟩:=TupsAt.firsts (M:=M) t;subst e1;cases e5 with
  |nil=>exact adK rfl e6
  |cons x t r=>
   refine⟨.int x t::fs,KatTups.cons e2 e3 e4 (by simp) q1,by simp[q2],λv hv=>?_⟩;rcases WG.mp hv with rfl | hv
   ·exact show Looks M h (pure (ZF "int")) (ZF "int") from .now
   ·exact q3 v hv
 |[],_::_,t=>t.elim
 |_::_,[],t=>t.elim
def asked{vs:List Value}{ks:List (List Int)}(t:TupsAt s.heap vs ks)(i j:Nat)(C:Bool->WC->Prop)(hi:i<vs.length)(hj:j<vs.length)(h:C (dI (ks.getD i []) (ks.getD j [])) s):kas_ask prog w A (tuples' true) vs i j C s:=by
 obtain⟨a,o,us,m,e1,e2,_,e4,e5,_⟩:=t.get hi;obtain⟨a',o',Wu,m',Ee,M0,_,Ub,SO,_⟩:=t.get hj;unfold kas_ask;rw[e1,Ee];refine kat_lt e2 e4 M0 Ub (yp 0 e5 SO ?_ h);rw[WJ,WJ,qz e5,qz SO]
def yC{α:Type}{l:List α}(h:l.Nodup){i j:Nat}(hi:i<l.length)(hj:j<l.length)(e:l[i]=l[j]):i=j:=by
 rcases Nat.lt_trichotomy i j with q | q | q
 ·exact adK e (Zn.mp h i j hi hj q)
 ·exact q
 ·exact adK e.symm (Zn.mp h j i hj hi q)
def D2{a:Addr}{c:Nat}{vs:List Value}{ks:List (List Int)}{P:PySem.Fin->WC->Prop}(ho:s.heap.get? a=some (X7 "list" vs.toArray c))(ht:TupsAt s.heap vs ks)(hd:ks.Nodup)(zI:vs.length<64)
 (h:∀(p:Array Nat) (h':Heap) (c':Nat),PN vs.length p->Ri (λi j=>dI (ks.getD i []) (ks.getD j [])) p vs.length->h'.get? a=some (X7 "list" (XE (p.toList.map λi=>vs.getD i Xi)) c')->
  (∀b o,b≠a->s.heap.get? b=some o->h'.get? b=some o)->P (.done (.ret .none)) {s with heap:=h'}):wpAny (model prog w) A (Z8.«list.sort» ⟨[.ref a],[]⟩) P E s:=by
 have yc:WX=16777216:=YC;have s1:=Xj s.heap a (XC λ_=>(#[]:Array Value));obtain⟨e1,Oa⟩:∃e1,(s.heap.update a (XC λ_=>(#[]:Array Value))).get? a=some (X7 "list" #[] e1):=⟨_,aaW ho λ_=> #[]⟩
 have k1:∀b o,b≠a->s.heap.get? b=some o->(((s.heap.update a (XC λ_=>(#[]:Array Value))).push (X7 "tuple" vs.toArray 0)).push (X7 "list" #[] 0)).get? b=some o:=λb o hb e=>
  Wx _ (Wx _ ((s1.2 b hb).trans e))
 have Lf:=Wx (X7 "list" #[] 0) (Wx (X7 "tuple" vs.toArray 0) Oa);have t3:=ht.keep k1 (λo e z=>by rw[ho] at e;cases e;exact adK (Value.type.inj z) (by decide));have fin:∀(st:SortSt) (p:Array Nat),PN vs.length p->Ri (λi j=>dI (ks.getD i []) (ks.getD j [])) p vs.length->(arrOf st).map (·.2)=XE (p.toList.map λi=>vs.getD i Xi)->acd st=none->
  wpAny (model prog w) A (do
   let touched:=(<-seqEpoch a) !=e1
   abk (.ref a) λ_=>(arrOf st).map (·.2)
   if let some e:=acd st then rule "list.sort.comparison-raised";throw e
   if touched then rule "list.sort.modified";raiseError "ValueError" "list modified during sort"
   ret .none) P E {s with heap:=((s.heap.update a (XC λ_=>(#[]:Array Value))).push (X7 "tuple" vs.toArray 0)).push (X7 "list" #[] 0)}:=λst p hp hr he hf=>by
  have hz:(XE (p.toList.map λi=>vs.getD i Xi)).size=vs.length:=by rw[WJ,Ww,W5,hp.sz]
  rw[he,hf];refine Wv (acn Lf rfl (Wv (abx Lf rfl ?_ (Xq _) (by rw[hz,yc];omega))));simp only[bne_self_eq_false,W9,if_false];have s2:=Xj (((s.heap.update a (XC λ_=>(#[]:Array Value))).push (X7 "tuple" vs.toArray 0)).push (X7 "list" #[] 0)) a (XC λ_=>XE (p.toList.map λi=>vs.getD i Xi));exact WA (h p _ _ hp hr (aaW Lf λ_=>XE (p.toList.map λi=>vs.getD i Xi)) λb o hb e=>(s2.2 b hb).trans (k1 b o hb e))
 rw[list_sort_plain];refine Wv (listItems_at ho rfl (Wv (abx ho rfl (Wv (acn Oa rfl ?_)) (by rw[WJ,yc];omega) (Xq _))));refine Wv (abh (Wv (abw (X5 ?_) (Xq _))) (by show vs.length<=_;rw[yc];omega));show wpAny (model prog w) A _ P E {s with heap:=((s.heap.update a (XC λ_=>(#[]:Array Value))).push (X7 "tuple" vs.toArray 0)).push (X7 "list" #[] 0)}
 dsimp only
 by_cases hs:vs.toArray.size<2
 ·rw[adF hs,adF hs];have C8:vs.length<2:=by simpa using hs
  refine Wv (WA (Wv (WA ?_)));refine fin (SortSt.mk' general' (vs.toArray.zip vs.toArray) #[] 7 none) (XE (W8 vs.length)) ⟨by simp,λi hi=>?_,λi j hi hj _=>by omega⟩ (λi j xZ hj=>by omega) ?_ rfl
  ·rw[eO];simp[hi]
  ·show (vs.toArray.zip vs.toArray).map (·.2)=_;apply adE.mp;refine aav (by simp) λi a1 a2=>?_;simp at a1;simp[a1]
 ·rw[adG hs,adG hs];have C8:2<=vs.length:=by
   have:¬vs.length<2:=by simpa using hs
   omega
  obtain⟨fs,q1,q2,q3⟩:=t3.firsts (M:=model prog w);refine Wv (kat_kind q1 (by omega) q3 rfl ?_);have hb:Lt vs.length (λi j=>dI (ks.getD i []) (ks.getD j [])):=⟨λi j k=>pO _ _ _,λi j=>iL _ _,λi j hi hj xZ=>l_ _ _ λz=>xZ (by
   rw[ht.len] at hi hj;rw[WK,WK,Wy hi,Wy hj] at z;exact yC hd hi hj (by simpa using z))⟩
  obtain⟨r1,r2⟩:=zk hb C8;have run:=kat_run (prog:=prog) (w:=w) (A:=A) (E:=E) (ks:=vs) (vs:=vs) (κ:=tuples' true) (Q:=λst s'=>s'={s with heap:=((s.heap.update a (XC λ_=>(#[]:Array Value))).push (X7 "tuple" vs.toArray 0)).push (X7 "list" #[] 0)}/\∃p,PN vs.length p/\Ri (λi j=>dI (ks.getD i []) (ks.getD j [])) p vs.length/\(arrOf st).map (·.2)=XE (p.toList.map λi=>vs.getD i Xi)/\acd st=none)
   (G:=λp s'=>s'={s with heap:=((s.heap.update a (XC λ_=>(#[]:Array Value))).push (X7 "tuple" vs.toArray 0)).push (X7 "list" #[] 0)}/\PN vs.length p/\Ri (λi j=>dI (ks.getD i []) (ks.getD j [])) p vs.length) rfl C8 zI
   (λp oT s' a1 a2 a3 a4=>⟨a4.1,p,a4.2.1,a4.2.2,kat_snds rfl a2,a3⟩)
   (wp_run (s:={s with heap:=((s.heap.update a (XC λ_=>(#[]:Array Value))).push (X7 "tuple" vs.toArray 0)).push (X7 "list" #[] 0)}) (λi j C hi hj hC=>asked t3 i j C hi hj hC) (tu (by omega)) ⟨rfl,r1,r2⟩)
  refine Wv (XG run ?_ λ_ _ e=>e);rintro⟨⟨⟩,oT⟩ s' ⟨rfl,p,a1,a2,a3,a4⟩;exact fin oT p a1 a2 a3 a4
end
section
variable{prog:Xc}{w:World}{A:Xu}{E:Value->WC->Prop}{s:WC}
def t8(lo:(d==Ye)=false)(ho:s.heap.get? d=some od)(hx:od.ExactDict)(hd:od.data= .dict es ep)
 (hQ:Q (.ref s.heap.objs.size) {s with heap:=s.heap.push {cls:= .type "dict_keyiterator",data:= .fields #[.ref d, .int 0 0, .int es.size 0, .int ep 0]} }):wpAny (model prog w) A (pyIter (.ref d)) Q E s:=by
 have hT:s.TypeIs (.ref d) "dict":=⟨od,ho,hx.1⟩
 refine wpAny_pyIter_slot hT F.slot_dict_iter (X6 F.slot_dict_iter hT F.entry_dict_iter ?_ (F.args_dict_iter_1 _));unfold Z8.«dict.__iter__» Builtin.Dict.dictSlotNone;refine Wv (Wv (Z1 hT ?_));show wpAny _ _ (pure (WY d)) _ _ s;refine WA ?_;show wpAny _ _ (YZ d>>=_) _ _ s;unfold YZ;rw[adG (by rw[lo];exact WZ)];refine Wv (WA (Wv (XM ho hd (Wv (YB ho hd ?_)))));refine Wv (XX (WA ⟨_,rfl,"dict_keyiterator",_,⟨_,WN _ rfl,rfl⟩,F.slot_dict_keyiterator_next.lookup,?_⟩));simpa[aae] using hQ
def yB(hit:s.heap.IsKeyIter it d i es.size ep)(lY:s.heap.get? d=some od)(gZ:od.data= .dict es ep)(hx:es[i]? =some e)
 (hQ:∀h',h'.IsKeyIter it d (i+1) es.size ep->XQ it s.heap h'->Q (some e.key) {s with heap:=h'}):wpAny (model prog w) A (ZN (.ref it)) Q E s:=by
 obtain⟨o,ho,hc,hd⟩:=id hit;have fM:i<es.size:=(Array.getElem?_eq_some_iff.mp hx).1;have qp:XS "dict_keyiterator"=false:=by decide
 unfold ZN;refine Wv (aaK (Y3 hit.typeIs Y_
  (X6 Y_ hit.typeIs abV ?_ (abF _))))
 refine Wv (WA (Wv (Wv ?_)))
 first | refine Wv (Y8 hit.typeIs (WA ?_)) | refine Wv (ZE hit.typeIs (WA ?_))
 refine Wv (aas ho hd ?_);simp only[qp,W9,if_false];show wpAny _ _ (if (WY d==Xi)=true then _ else _) _ _ s;rw[adG (show¬((WY d==Xi)=true) from WZ)];refine Wv (WA (Wv (XM lY gZ ?_)));rw[adG (by simp)];refine Wv (WA (Wv (YB lY gZ ?_)));rw[adG (by simp)];refine WA ?_;simp only[show¬((i:Int)<0) from by omega,if_false,Zh,hx];refine Wv ?_
 first | refine Wv (Y8 hit.typeIs (WA ?_)) | refine Wv (ZE hit.typeIs (WA ?_))
 refine Wv (wpAny_isOneOf_keyiter hit.typeIs ?_);show wpAny _ _ (ac8 (.ref it) 1 (aae ((i:Int)+1))>>=_) _ _ s;refine Wv (acJ ho hd (by simp) ?_);have HV:(s.heap.update it (Obj.mapFields (·.setIfInBounds 1 (aae ((i:Int)+1))))).IsKeyIter it d (i+1) es.size ep:=
  ⟨_,XF _ ho (Obj.isFreed_of_fields (adw hd _)),(Obj.cls_mapFields ..).trans hc,by rw[adw hd];simp[aae]⟩
 refine Wv (X5 (Wv (wpAny_isOneOf_keyiter HV.typeIs ?_)));show wpAny _ _ (pure e.key) _ _ _;exact WA (WA ⟨_,rfl,WA (hQ _ HV (Xj ..))⟩)
def tT(hh:A.handled=none)(hit:s.heap.IsKeyIter it d i es.size ep)(hi:es.size<=i)(lY:s.heap.get? d=some od)(gZ:od.data= .dict es ep)
 (hQ:∀h',abD it s.heap h'->Q none {s with heap:=h'}):wpAny (model prog w) A (ZN (.ref it)) Q E s:=by
 obtain⟨o,ho,hc,hd⟩:=id hit;have qp:XS "dict_keyiterator"=false:=by decide
 unfold ZN;refine Wv (aaK (Y3 hit.typeIs Y_
  (X6 Y_ hit.typeIs abV ?_ (abF _))))
 refine Wv (WA (Wv (Wv ?_)))
 first | refine Wv (Y8 hit.typeIs (WA ?_)) | refine Wv (ZE hit.typeIs (WA ?_))
 refine Wv (aas ho hd ?_);simp only[qp,W9,if_false];show wpAny _ _ (if (WY d==Xi)=true then _ else _) _ _ s;rw[adG (show¬((WY d==Xi)=true) from WZ)];refine Wv (WA (Wv (XM lY gZ ?_)));rw[adG (by simp)];refine Wv (WA (Wv (YB lY gZ ?_)));rw[adG (by simp)];refine WA ?_;simp only[show¬((i:Int)<0) from by omega,if_false,Zh,ach hi];refine Wv ?_
 first | refine Wv (Y8 hit.typeIs (WA ?_)) | refine Wv (ZE hit.typeIs (WA ?_))
 show wpAny _ _ (ac8 (.ref it) 0 .none>>=_) _ _ s;refine Wv (acJ ho hd (by simp) ?_);show wpAny _ _ (newExc (.type "StopIteration") []>>=_) _ _ _;refine Wv ?_;simp only[newExc,newTuple];refine Wv (XX ?_ (by size_fits));refine Wv (wpAny_of_eq (by first | rfl | (simp only[acK];rfl)) ?_);refine XX ?_ (by size_fits);simp only[raiseNew];refine Wv (wpAny_handled ?_);rw[show A.in1.handled=none from hh];refine Wv (WA (wpAny_throw ?_));refine Wv (ab4 ⟨_,WN _ rfl,rfl⟩ isSubtype_stop ?_);exact WA (hQ _ (((Xj ..).extBut.push _).push _))
def EL(hh:A.handled=none)(hit:s.heap.IsKeyIter it d es.size es.size ep)(lY:s.heap.get? d=some od)(gZ:od.data= .dict es ep)
 (hQ:∀h',abD it s.heap h'->Q none {s with heap:=h'}):wpAny (model prog w) A (ZN (.ref it)) Q E s:=tT hh hit (WO _) lY gZ hQ
def JP(es:Array Yd):Nat->Value->Prop:=λi v=>∃e,es[i]? =some e/\v=e.key
def A5(hh:A.handled=none)(I d:Addr)(g6:d≠I)(gZ:od.data= .dict es ep):
 Walks prog w A I [I,d] [I] es.size (JP es) (λi h=>h.IsKeyIter I d i es.size ep/\h.get? d=some od) where
 sub:=λb hb=>by simp at hb;simp[hb]
 frame:=λ_ _ _ st hk=>⟨st.1.at λo e=>hk I (by simp) o e,hk d (by simp) _ st.2⟩
 item:=λi s Q E hi st hQ=>by
  have hx:es[i]? =some es[i]:=Yj hi;exact yB st.1 st.2 gZ hx λh' HV Ff=>hQ _ h' s.toks ⟨_,hx,rfl⟩ ⟨HV,(Ff.2 d g6).trans st.2⟩ λb o hb e=>Ff.extBut b o (λh=>hb (by simp[h])) e
 done:=λs Q E st hQ=>EL hh st.1 st.2 gZ λh' UP=>hQ h' s.toks λb o hb e=>UP b o (λh=>hb (by simp[h])) e
 self:=λ_ _ _ _ st hQ=>wpAny_pyIter_keyiter st.1 hQ
def GZ(lo:(d==Ye)=false)(hx:od.ExactDict)(gZ:od.data= .dict es ep):KdlSrc prog w "dict" d d es.size (JP es) (λh=>h.get? d=some od) where
 type:=λ_ hm=>⟨od,hm,hx.1⟩
 there:=λ_ hm=>⟨WH hm,WH hm⟩
 keep:=λ_ _ hm hk=>hk d (.inl rfl) od hm
 notList:=by decide
 notTuple:=by decide
 hint:=λ_ _ s _ hm hq=>kdl_hint_dict ⟨od,hm,hx.1⟩ hq
 iter:=λ_ _ hh hm=>⟨_,_,(λ_ _ hq=>t8 lo hm hx gZ hq),A5 hh _ d (W4 (WH hm)) gZ,⟨⟨_,WN _ rfl,rfl,rfl⟩,Wx _ hm⟩⟩
end
end L3
namespace L3
open PySem
def insI(k:List Int):List (List Int)->List (List Int)
 |[]=>[k]
 |x::r=>if dI k x then k::x::r else x::insI k r
def sortI:List (List Int)->List (List Int)
 |[]=>[]
 |k::r=>insI k (sortI r)
def xo(l:List (List Int)):Prop:=l.Pairwise λa b=>dI a b=true
def qy:∀{l:List (List Int)},x∈insI k l↔x=k\/x∈l
 |[]=>by simp[insI]
 |y::r=>by
  unfold insI;split
  ·simp
  ·rw[WG,qy,WG];constructor
   ·rintro(h | h | h)<;>simp[h]
   ·rintro(h | h | h)<;>simp[h]
def tY:∀{l:List (List Int)},xo l->k∉l->xo (insI k l)
 |[],_,_=>List.pairwise_singleton _ _
 |x::r,h,hk=>by
  have h:=Ym.mp h;unfold insI;split
  ·rename_i q;refine Ym.mpr ⟨λy hy=>?_,Ym.mpr h⟩;rcases WG.mp hy with rfl | hy
   ·exact q
   ·exact pO _ _ _ q (h.1 y hy)
  ·rename_i q;have hx:dI x k=true:=by
    rcases l_ k x (λz=>hk (by rw[z];exact WB ..)) with z | z
    ·exact adK z q
    ·exact z
   refine Ym.mpr ⟨λy hy=>?_,tY h.2 λz=>hk (Wz _ z)⟩;rcases qy.mp hy with rfl | hy
   ·exact hx
   ·exact h.1 y hy
def gz:∀{l:List (List Int)},x∈sortI l↔x∈l
 |[]=>Iff.rfl
 |k::r=>by unfold sortI;rw[qy,gz,WG]
def jt:∀{l:List (List Int)},l.Nodup->xo (sortI l)
 |[],_=>abS
 |k::r,h=>by
  have h:=X9.mp h;exact tY (jt h.2) λz=>h.1 (gz.mp z)
def mM:∀{a b:List (List Int)},xo a->xo b->(∀x,x∈a↔x∈b)->a=b
 |[],[],_,_,_=>rfl
 |[],y::b,_,_,h=>by have:=(h y).mpr (WB ..);cases this
 |x::a,[],_,_,h=>by have:=(h x).mp (WB ..);cases this
 |x::a,y::b,ha,hb,h=>by
  have ha:=Ym.mp ha;have hb:=Ym.mp hb;have e:x=y:=by
   rcases WG.mp ((h x).mp (WB ..)) with q | q
   ·exact q
   ·rcases WG.mp ((h y).mpr (WB ..)) with p | p
    ·exact p.symm
    ·have z1:=hb.1 x q;have z2:=ha.1 y p;rw[iL _ _ z1] at z2;cases z2
  subst e;have Tz:∀k,dI k k≠true:=λk z=>by have:=iL _ _ z;rw[z] at this;cases this
  rw[mM ha.2 hb.2 λz=>?_];constructor
  ·intro hz;rcases WG.mp ((h z).mp (Wz _ hz)) with q | q
   ·subst q;exact adK (ha.1 z hz) (Tz z)
   ·exact q
  ·intro hz;rcases WG.mp ((h z).mpr (Wz _ hz)) with q | q
   ·subst q;exact adK (hb.1 z hz) (Tz z)
   ·exact q
def AM:∀(n:Nat) (l:List Nat),l.Nodup->(∀x∈l,x<n)->l.length=n->∀k,k<n->k∈l
 |0,_,_,_,_,k,hk=>by omega
 |n+1,l,hd,hl,hn,k,hk=>by
  by_cases h:n∈l
  ·by_cases e:k=n
   ·subst e;exact h
   ·refine List.mem_of_mem_erase (AM n (l.erase n) (hd.erase n) (λx hx=>?_) (by rw[aai h,hn];rfl) k (by omega));have hx:=hd.mem_erase_iff.mp hx;have:=hl x hx.2;have:=hx.1;omega
  ·cases l with
   |nil=>simp at hn
   |cons x r=>
    have hd:=X9.mp hd;have lt:∀y∈x::r,y<n:=λy hy=>by
     have:=hl y hy;have:y≠n:=λz=>h (by rw[<-z];exact hy);omega
    exact adK (AM n r hd.2 (λy hy=>lt y (Wz _ hy)) (by simpa using hn) x (lt x (WB ..))) hd.1
def uM(hd:ks.Nodup)(P:PN ks.length p)(R:Ri (λi j=>dI (ks.getD i []) (ks.getD j [])) p ks.length):(p.toList.map λi=>ks.getD i [])=sortI ks:=by
 have hsz:p.toList.length=ks.length:=by rw[W5];exact P.sz
 have zJ:∀i (h:i<p.toList.length),p.toList[i]=at' p i:=λi h=>by
  have h':i<p.size:=by rw[W5] at h;exact h
  rw[eO,Yj h'];simp
 refine mM ?_ (jt hd) λx=>?_
 ·refine Zn.mpr λi j hi hj xZ=>?_;rw[Ww] at hi hj;rw[ZU,ZU,zJ i hi,zJ j hj];exact R i j xZ (by omega)
 ·rw[gz];constructor
  ·intro hx;obtain⟨i,hi,rfl⟩:=WM.mp hx;obtain⟨j,hj,rfl⟩:=Zj.mp hi;have:=P.lt j (by omega);rw[zJ j hj,WK,Wy this];exact Zp this
  ·intro hx;obtain⟨k,hk,rfl⟩:=Zj.mp hx;have Fd:k∈p.toList:=by
    have hn:p.toList.Nodup:=Zn.mpr λi j hi hj xZ z=>by
     rw[zJ i hi,zJ j hj] at z;have:=P.inj i j (by omega) (by omega) z;omega
    exact AM ks.length p.toList hn (λx hx=>by
     obtain⟨j,hj,rfl⟩:=Zj.mp hx;rw[zJ j hj];exact P.lt j (by omega)) hsz k hk
   refine WM.mpr ⟨k,Fd,?_⟩;rw[WK,Wy hk];rfl
end L3
namespace L3
open PySem PySem.Spec L2 SeqAt HT
open PyProof.Rows hiding St
def tupI(k:List Int):D:= .tup (k.map D.int)
def fQ(ks:List (List Int)):Bool:=decide ks.Nodup&&decide (ks.length<64)&&ks.all λk=>!k.isEmpty
def eG(H:Hp):List V->List (List Int)->Prop:=abj λv k=>∃a,v= .ref a/\H a=some (.tup (k.map V.int))
def y7{K:WI}:∀{ws:List V}{ks:List (List Int)},eG F ws ks->(∀k∈ks,k.length<=lim)->DenL K F (ks.map tupI) ws
 |_,_, .nil,_=>rfl
 |_,_, .cons (b:=k) h t,hl=>by
  obtain⟨a,rfl,h⟩:=h;exact .cons ⟨a,_,rfl,h,DenL.ints k,by rw[Ww];exact hl k (WB ..)⟩ (y7 t λk hk=>hl k (Wz _ hk))
def uH(I:Inv X f8 σ H s):∀{vs:List V}{aI:List Value}{ks:List (List Int)},eG H vs ks->Vals vs aI->(∀k∈ks,k≠[])->TupsAt s.heap aI ks
 |_,_,_, .nil,r,_=>by cases r;exact trivial
 |_,_,_, .cons (b:=k) h t,r,hn=>by
  obtain⟨a,rfl,h⟩:=h;cases r with
  |cons r1 r2=>
   cases (show _=_ from r1);obtain⟨us,ru,pt,_⟩:=I.tuple (SqT.of h);obtain⟨o,q1,q2,m,q3⟩:=pt;exact⟨⟨a,o,us,m,rfl,q1,q2,q3,intsAre_of ru,hn k (WB ..)⟩,uH I t r2 λk hk=>hn k (Wz _ hk)⟩
def y8:∀{vs:List V}{ks:List (List Int)}{i:Nat},eG H vs ks->i<vs.length->∃a,vs.getD i .non= .ref a/\H a=some (.tup ((ks.getD i []).map V.int))
 |_,_,i, .nil,hi=>by simp at hi
 |_,_,0, .cons h t,_=>h
 |_,_,i+1, .cons h t,hi=>y8 (i:=i) t (by simpa using hi)
def y9:∀{vs:List V}{ks:List (List Int)},eG H vs ks->vs.length=ks.length
 |_,_, .nil=>rfl
 |_,_, .cons h t=>by rw[WE,WE,y9 t]
def uG(h:eG H vs ks):∀{is:List Nat},(∀i∈is,i<vs.length)->eG H (is.map λi=>vs.getD i .non) (is.map λi=>ks.getD i [])
 |[],_=> .nil
 |i::is,hi=> .cons (y8 h (hi i (WB ..))) (uG h λj hj=>hi j (Wz _ hj))
def nY:∀{vs:List V}{us:List Value}(i:Nat),Vals vs us->i<vs.length->RelV (vs.getD i .non) (us.getD i Xi)
 |_,_,i, .nil,hi=>by simp at hi
 |_,_,0, .cons h t,_=>h
 |_,_,i+1, .cons h t,hi=>nY i t (by simpa using hi)
def uQ(h:Vals vs us):∀{is:List Nat},(∀i∈is,i<vs.length)->Vals (is.map λi=>vs.getD i .non) (is.map λi=>us.getD i Xi)
 |[],_=> .nil
 |i::is,hi=> .cons (nY i h (hi i (WB ..))) (uQ h λj hj=>hi j (Wz _ hj))
def nU:∀l:List (List Int),(sortI l).length=l.length
 |[]=>rfl
 |k::r=>by
  have ins:∀(k:List Int) (l:List (List Int)),(insI k l).length=l.length+1:=by
   intro k l;induction l with
   |nil=>rfl
   |cons x l ih=>
    unfold insI;split
    ·rfl
    ·rw[WE,ih,WE]
  unfold sortI;rw[ins,nU r,WE]
def nq(k:List Int):List Key:=k.map abn
def Pk:List V->Hp->VK->Prop:=λxs H Q=>∃p aB ks,xs=[.ref p]/\Rd H p (.dT aB)/\aB.map (·.1)=ks.map nq/\fQ ks=true/\∀(q:Addr) (ws:List V),H q=none->eG H ws (sortI ks)->Q (.ref q) (upd H q (.lst ws))
def ua:∀{aB:List (List Key×V)}{xs:List (List Key×Addr×Value)}{ks:List (List Int)},abj (λ(p:List Key×V) (q:List Key×Addr×Value)=>p.1=q.1/\H q.2.1=some (.tup (p.1.map kV))/\RelV p.2 q.2.2) aB xs->
 aB.map (·.1)=ks.map nq->eG H (xs.map λx=>V.ref x.2.1) ks
 |_,_,[], .nil,_=> .nil
 |_,_,_::_, .nil,e=>by simp at e
 |_,_,[], .cons h t,e=>by simp at e
 |_,_,k::ks, .cons h t,e=>by
  rw[WD,WD] at e;injection e with e1 e2
  refine .cons ⟨_,rfl,?_⟩ (ua t e2);have hk:(nq k).map kV=k.map V.int:=by unfold nq;rw[Xo];rfl
  rw[h.2.1,e1,hk]
section
variable{X:Cx}{Xw:Nat->Hp->Prop}{e:Expr}{δs:DA}{pos p:Pos}
def CH(hc:X.calm=true):CallR X (.builtin "sorted") Pk:=by
 intro f8 s σ H xs us Q I r h;obtain⟨a,aB,ks,rfl,hH,Hk,hk,q⟩:=h;obtain⟨u,rfl,r1⟩:=r.one;cases (show u=_ from r1);obtain⟨z,lo,xs,rel,o,es,ep,g1,g2,g3,g4,g5⟩:=(show ObjOk X.prog X.w H s.heap a (.dT aB) from hH.ok I.hok)
 unfold fQ at hk;rw[WR,WR] at hk;have hd:ks.Nodup:=adL hk.1.1;have zI:ks.length<64:=adL hk.1.2;have g6:∀k∈ks,k≠[]:=λk Hj z=>by have:=Xe.mp hk.2 k Hj;rw[z] at this;cases this
 have hr:=ua rel Hk;have E9:=y9 hr;rw[Ww] at E9;have Th:es.size=xs.length:=by rw[<-W5,g4,Ww]
 have yc:WX=16777216:=YC;refine abX kind_sorted plain_sorted entry_sorted (args_sorted1 _) ?_;unfold Z8.«sorted»;refine Wv (WA (Wv (PySem.W.kdu_collect (GZ lo g2 g3) (I.ok.hd hc) g1 (by rw[Th,yc];omega) λh1 tk u8 Fu kK=>?_)));have J2:u8.toList.length=xs.length:=by rw[W5,<-Th];exact kK.1
 have I1:Inv X f8 σ H {s with heap:=h1,toks:=tk}:=I.kept λb ob e=>Fu b ob e;have rv:Vals (xs.map λx=>V.ref x.2.1) u8.toList:=by
  have ext:∀{vs:List V}{us:List Value},vs.length=us.length->(∀(i:Nat) (v:V) (u:Value),vs[i]? =some v->us[i]? =some u->RelV v u)->Vals vs us:=by
   intro vs;induction vs with
   |nil=>intro us h _;cases us with | nil=>exact .nil | cons _ _=>simp at h
   |cons v vs ih=>
    intro us h hh;cases us with
    |nil=>simp at h
    |cons u us=>exact .cons (hh 0 v u rfl rfl) (ih (by simpa using h) λi v u h1 h2=>hh (i+1) v u h1 h2)
  refine ext (by rw[Ww,J2]) λi v u e1 e2=>?_;rw[YI] at e2;obtain⟨en,q1,q2⟩:=kK.2 i u e2;rw[<-YI,g4,WT] at q1;rw[WT] at e1;cases w:xs[i]? with
  |none=>rw[w] at e1;cases e1
  |some x=>
   rw[w] at e1 q1;cases e1;cases q1;exact q2
 have ht:=uH I1 hr rv g6;refine Wv (abw ?_ (by rw[yc];omega));have Lg:(h1.push (X7 "list" u8.toList.toArray 0)).get? h1.objs.size=some (X7 "list" u8.toList.toArray 0):=WN _ rfl;refine Wv (X5 (X6 slot_list_sort ⟨_,Lg,rfl⟩ entry_list_sort (D2 Lg
  (ht.keep (λb o _ e=>Wx _ e) (λo e=>adK (WH e) (Xz _))) hd (by omega) λP h' c' hP hR Lc qm=>?_) (args_list_sort _)))
 have K5:∀i∈P.toList,i<(xs.map λx=>V.ref x.2.1).length:=λi hi=>by
  obtain⟨j,hj,rfl⟩:=Zj.mp hi;have h':j<P.size:=by rw[W5] at hj;exact hj
  have:=hP.lt j (by rw[hP.sz] at h';exact h');rw[eO,Yj h'] at this;have e:P.toList[j]=P[j]:=by simp
  rw[e,Ww];have:P[j]<u8.toList.length:=this;omega
 have Uz:PN ks.length P:=by rw[<-E9,<-J2];exact hP
 have UB:Ri (λi j=>dI (ks.getD i []) (ks.getD j [])) P ks.length:=by rw[<-E9,<-J2];exact hR
 have Nc:=uM hd Uz UB;have Tv:=uG hr K5;rw[Nc] at Tv;refine⟨_,rfl,WA ⟨_,rfl,⟨.ref h1.objs.size,_,I1.laid (λb ob e=>qm b ob (W4 (WH e)) (Wx _ e)) (WO _) ?_,rfl,q _ _ (I1.hok.fresh (WO _)) Tv⟩⟩⟩;exact⟨by rw[Ww,W5,hP.sz,yc];omega,_,c',uQ rv K5,Lc⟩
def uF(e:Same F F'):∀{ws:List V}{ks:List (List Int)},eG F ws ks->eG F' ws ks
 |_,_, .nil=> .nil
 |_,_, .cons ⟨b,q1,q2⟩ t=> .cons ⟨b,q1,e _ _ q2⟩ (uF e t)
def rO(hs:Same F H):∀{ws:List V}{ks:List (List Int)},eG H ws ks->∃F',Ext F H F' H/\eG F' ws ks
 |_,_, .nil=>⟨F,Ext.refl hs, .nil⟩
 |_,_, .cons h t=>by
  obtain⟨a,rfl,h⟩:=h;obtain⟨F1,e1,r1⟩:=rO hs t;have e2:=Ext.tup e1.fh h;refine⟨_,e1.trans e2, .cons ⟨a,rfl,aP⟩ ?_⟩;exact uF e2.ff r1
def tZ:List Key->Option (List Int)
 |[]=>some []
 | .inl i::r=>(tZ r).map (i:: ·)
 |_=>none
def fg:List (List Key)->Option (List (List Int))
 |[]=>some []
 |k::r=>match tZ k,fg r with
  |some x,some xs=>some (x::xs)
  |_,_=>none
def ye:∀{k:List Key}{x:List Int},tZ k=some x->k=nq x
 |[],_,e=>by cases e;rfl
 | .inl i::r,_,e=>by
   unfold tZ at e;cases q:tZ r with
   |none=>rw[q] at e;cases e
   |some y=>rw[q] at e;cases e;rw[ye q];rfl
 | .inr _::r,_,e=>by cases e
def ki:∀{kk:List (List Key)}{ks:List (List Int)},fg kk=some ks->kk=ks.map nq
 |[],_,e=>by cases e;rfl
 |k::r,_,e=>by
  unfold fg at e;split at e
  ·rename_i x xs e1 e2;cases e;rw[WD,<-ye e1,<-ki e2]
  ·cases e
def oS:List D->M D
 |[.dct kk ds]=>match fg kk with
  |some ks=>if fQ ks&&ks.all (λk=>decide (k.length<=lim)) then ae (.lst ((sortI ks).map tupI)) else ag
  |none=>ag
 |_=>ag
def kH:∀{a:List α}{b:List β},a.length=b.length->(a.zip b).map (·.1)=a
 |[],[],_=>rfl
 |x::a,y::b,h=>by rw[YK,WD,kH (by simpa using h)]
 |[],_::_,h=>by simp at h
 |_::_,[],h=>by simp at h
def wg(hc:X.calm=true)(hg:Gl X "sorted")(hm:X.mg "sorted"=none)(hb:Xl "sorted"=some (.builtin "sorted"))(ha:jz X Xw [e] δs)(he:WS [e] X.env=[(false,eval e X.env)]:=by rfl):PD X Xw (.Call (.Name "sorted" p) [e] [] pos) (dA oS δs):=
 dw (CH hc) (λXw F H vs ds Q s h w=>by
  unfold oS at w;split at w
  ·rename_i kk ds;obtain⟨v,rfl,h1⟩:=h.one;obtain⟨a,ob,ws,rfl,h2,h3,h4,h5⟩:=h1;split at w
   ·rename_i ks N6;split at w
    ·rename_i hok;rw[WR] at hok;have hl:∀k∈ks,k.length<=lim:=λk hk=>adL (Xe.mp hok.2 k hk);have zI:ks.length<64:=by
      have:=hok.1;unfold fQ at this;rw[WR,WR] at this;exact adL this.1.2
     refine⟨a,_,ks,rfl, .inr ⟨ob,s _ _ h2⟩,by rw[kH (by rw[h4];exact h3.len),ki N6],hok.1,λq us hq hr=>?_⟩;obtain⟨F1,e1,r1⟩:=rO s hr;have e2:=Ext.lay (o:= .lst us) e1.fh hq;exact WP.fin w (e1.trans e2) ⟨q,_,rfl,aP,DenL.mono e2.ff (y7 r1 λk hk=>hl k (gz.mp hk)),by rw[Ww,nU];unfold lim;omega⟩
    ·exact w.elim
   ·exact w.elim
  ·exact w.elim) hg hm hb ha (by decide) (by decide) he rfl
end
end L3
namespace L3
open PySem PySem.Spec L2
open PyProof.Rows hiding St
def orM(a b:M α):M α:=match a with
 |none=>b
 |some r=>some r
def Ll(a b:DA):DA:=λρ=>orM (a ρ) (b ρ)
section
variable{X:Cx}{Xw:Nat->Hp->Prop}{e tg:Expr}{δi δi':DA}
def IY(h:Bb X Xw tg e δi)(h':Bb X Xw tg e δi'):Bb X Xw tg e (Ll δi δi'):=λf8 s σ H Q I ⟨F,ρ,S,w⟩=>by
 unfold Ll orM at w;cases q:δi ρ with
 |none=>rw[q] at w;exact h' f8 s σ H Q I ⟨F,ρ,S,w⟩
 |some r=>rw[q] at w;exact h f8 s σ H Q I ⟨F,ρ,S,by rw[q];exact w⟩
end
def fgt:List Nat->cQ->cQ
 |[],ρ=>ρ
 |i::is,ρ=>fgt is (ρ.set i none)
def OY(f:cQ->cQ):Out->M Out
 | .nx ρ=>ae (.nx (f ρ))
 | .rt d=>ae (.rt d)
def b9(is:List Nat)(τ:DS):DS:=λρ=>τ ρ>>=OY (fgt is)
def StOk.fgt1{K:WI}(s:StOk K s0 adP F H σ ρ)(i:Nat):StOk K s0 adP F H σ (ρ.set i none):=by
 have get:∀(j:Nat) (sl:Sl),(ρ.set i none)[j]? =some (some sl)->ρ[j]? =some (some sl):=λj sl e=>by
  by_cases hj:j=i
  ·subst hj;by_cases hl:j<ρ.length
   ·rw[W2 hl] at e;cases e
   ·rw[ZO (by simpa using hl)] at e;cases e
  ·rw[WW (XD hj)] at e;exact e
 exact⟨s.ext,⟨s.st.fh,λj sl e=>s.st.den j sl (get j sl e)⟩,by simp[s.len],λj c a e e'=>s.own j c a (get j _ e) e',λj k c c' a e1 e2 e3 e4=>s.sep j k c c' a (get j _ e1) (get k _ e2) e3 e4⟩
def StOk.fgt{K:WI}:∀(is:List Nat) {ρ:cQ},StOk K s0 adP F H σ ρ->StOk K s0 adP F H σ (L3.fgt is ρ)
 |[],_,s=>s
 |i::is,_,s=>StOk.fgt is (s.fgt1 i)
def WPS.fgt{K:WI}(w:WPS K Xw s0 adP (m>>=OY (L3.fgt is)) Dn):WPS K Xw s0 adP m Dn:=by
 match m,w with
 |none,w=>exact w
 |some (.ok (.nx ρ)),w=>exact λσ F H s=>w σ F H (s.fgt is)
 |some (.ok (.rt d)),w=>exact w
 |some (.ex n),w=>exact w
section
variable{X:Cx}{Xw:Nat->Hp->Prop}{TZ:List Stmt}{τ:DS}{is:List Nat}
def aZ(h:PSDs X Xw TZ τ):PSDs X Xw TZ (b9 is τ):=λs0 adP=>PSs.weak (h s0 adP) λD σ H ⟨F,ρ,s,w⟩=>⟨F,ρ,s,WPS.fgt w⟩
end
def Uo:Option Sl->Option Sl
 |some (.ow c)=>some (.fz c.d)
 |x=>x
def og(ρ:cQ):cQ:=ρ.map Uo
def refA(h:Heap)(P:Addr->Prop)[DecidablePred P](H:Hp):Hp:=λb=>if P b then(H b).map (ph ((h.get? b).getD {cls:= .none,data:= .fields #[]})) else H b
def Aa(ob:Obj)(o:HO):ph ob o=o\/((∃k,o= .dT k)\/∃k,o= .dK k)/\ph ob o= .frz ob o:=by
 cases o<;>first | exact .inl rfl | exact .inr ⟨.inl ⟨_,rfl⟩,rfl⟩ | exact .inr ⟨.inr ⟨_,rfl⟩,rfl⟩
section
variable{X:Cx}{f8:List (Addr×Obj)}{σ:St}{H:Hp}{s:WC}{P:Addr->Prop}[DecidablePred P]
def iO(e:H b=none):refA h P H b=none:=by
 unfold refA;split
 ·rw[e];rfl
 ·exact e
def uE(e:H b=some o):refA h P H b=some o\/((∃k,o= .dT k)\/∃k,o= .dK k)/\P b/\refA h P H b=some (.frz ((h.get? b).getD {cls:= .none,data:= .fields #[]}) o):=by
 unfold refA;split
 ·rename_i hp;rw[e];rcases Aa ((h.get? b).getD {cls:= .none,data:= .fields #[]}) o with q | ⟨q1,q2⟩
  ·exact .inl (by show some _=_;rw[q])
  ·exact .inr ⟨q1,hp,by show some _=_;rw[q2]⟩
 ·exact .inl e
def iN(e:H b=some o)(n1:∀k,o≠ .dT k)(n2:∀k,o≠ .dK k):refA h P H b=some o:=by
 rcases uE (P:=P) e with q | ⟨⟨k,q⟩ | ⟨k,q⟩,_⟩
 ·exact q
 ·exact adK q (n1 k)
 ·exact adK q (n2 k)
def Inv.refA(I:Inv X f8 σ H s):Inv X f8 σ (L3.refA s.heap P H) s:=by
 have obj:∀b o,H b=some o->((∃k,o=HO.dT k)\/∃k,o= .dK k)->∃ob,s.heap.get? b=some ob:=λb o e hu=>by
  have hk:=I.hok b o e;rcases hu with⟨k,h1⟩ | ⟨k,h1⟩
  ·subst h1;obtain⟨_,_,_,_,ob,_,_,q,_⟩:=hk;exact⟨ob,q⟩
  ·subst h1;obtain⟨_,_,_,_,ob,_,_,q,_⟩:=hk;exact⟨ob,q⟩
 refine⟨I.ok,I.os,I.bare,⟨I.base.keep,I.base.slot,λb q h1 h2 h3=>iO (I.base.free b q h1 h2 h3),I.base.there,λb xs q=>iN (I.base.tups b xs q) (λ_ z=>nomatch z) (λ_ z=>nomatch z),
  λb q1 v q=>iN (I.base.frzs b q1 v q) (λ_ z=>nomatch z) (λ_ z=>nomatch z),λb ps q=>?_⟩,I.loc,I.cell,iO I.free,λx c q=>iO (I.freeC x c q),λp hp=>?_,λb v q=>?_,I.len⟩
 ·obtain⟨m,this⟩:=I.base.tbls b ps q;exact⟨m,iN this (λ_ z=>nomatch z) (λ_ z=>nomatch z)⟩
 ·obtain⟨h1,h2,h3⟩:=I.pin p hp;exact⟨h1,iO h2,h3⟩
 ·have st:∀{c:Addr}{v:HO},ObjOk X.prog X.w H s.heap c v->ObjOk X.prog X.w (L3.refA s.heap P H) s.heap c v:=λ{c v} k=>k.stay (λ_ _ _ q=>q)
   (λc' q=>iN q (λ_ z=>nomatch z) (λ_ z=>nomatch z)) λc' xs q=>iN q (λ_ z=>nomatch z) (λ_ z=>nomatch z)
  cases e:H b with
  |none=>rw[iO e] at q;cases q
  |some o=>
   rcases uE (P:=P) e with z | ⟨hu,hp,z⟩
   ·rw[z] at q;cases q;exact st (I.hok b _ e)
   ·rw[z] at q;cases q;obtain⟨ob,Ob⟩:=obj b o e hu;rw[Ob];exact⟨Ob,st (I.hok b o e)⟩
def unA(P:Addr->Prop)[DecidablePred P](H:Hp):Hp:=λb=>if P b then(match H b with | some (.frz _ u)=>some u | x=>x) else H b
def Inv.unA(I:Inv X f8 σ H s)(hP:∀b,P b->∀o u,X.adP b≠some (.frz o u))(hQ:∀b,P b->∀o u,H b=some (.frz o u)->(∃k,u= .dT k)\/∃k,u= .dK k):Inv X f8 σ (L3.unA P H) s:=by
 have non:∀b,H b=none->L3.unA P H b=none:=λb e=>by unfold L3.unA;rw[e];split<;>rfl
 have keep:∀b o,H b=some o->(∀q u,o≠ .frz q u)->L3.unA P H b=some o:=λb o e n=>by
  unfold L3.unA;split
  ·rw[e];cases o<;>first | rfl | exact adK rfl (n _ _)
  ·exact e
 refine⟨I.ok,I.os,I.bare,⟨I.base.keep,I.base.slot,λb q h1 h2 h3=>non b (I.base.free b q h1 h2 h3),I.base.there,λb xs q=>keep b _ (I.base.tups b xs q) (λ_ _ z=>nomatch z),
  λb q1 v q=>?_,λb ps q=>?_⟩,I.loc,I.cell,non _ I.free,λx c q=>non _ (I.freeC x c q),λp hp=>?_,λb v q=>?_,I.len⟩
 ·have:=I.base.frzs b q1 v q;unfold L3.unA;rw[adG (λhp=>hP b hp q1 v q)];exact this
 ·obtain⟨m,this⟩:=I.base.tbls b ps q;exact⟨m,keep b _ this (λ_ _ z=>nomatch z)⟩
 ·obtain⟨h1,h2,h3⟩:=I.pin p hp;exact⟨h1,non _ h2,h3⟩
 ·have st:∀{c:Addr}{v:HO},ObjOk X.prog X.w H s.heap c v->ObjOk X.prog X.w (L3.unA P H) s.heap c v:=λ{c v} k=>k.stay (λ_ _ _ q=>q)
   (λc' q=>keep c' _ q (λ_ _ z=>nomatch z)) λc' xs q=>keep c' _ q (λ_ _ z=>nomatch z)
  cases e:H b with
  |none=>rw[non b e] at q;cases q
  |some o=>
   have ko:=I.hok b o e;by_cases hf:∃ob u,o= .frz ob u
   ·obtain⟨ob,u,rfl⟩:=hf;unfold L3.unA at q;split at q
    ·rw[e] at q;cases q;obtain⟨_,k2⟩:=ko;exact st k2
    ·rw[e] at q;cases q;exact st ko
   ·rw[keep b o e (λq u z=>hf ⟨q,u,z⟩)] at q;cases q;exact st ko
end
mutual
def xQ:D->Bool
 | .non=>true
 | .bl _=>true
 | .int _=>true
 | .str _=>true
 | .tup ds=>Bw ds
 | .raw _=>false
 | .exc _=>false
 | .scr _=>false
 | .lst _=>false
 | .dct _ _=>false
 | .dci _ _=>false
def Bw:List D->Bool
 |[]=>true
 |d::ds=>xQ d&&Bw ds
end
def qg(d:D):M D:=if xQ d then ae d else ag
def OwnAt(σ:St)(ρ:cQ)(b:Addr):Prop:=∃(i:Nat) (c:C),ρ[i]? =some (some (Sl.ow c))/\σ[i]? =some (some (V.ref b))
section
variable{K:WI}{F H F' H':Hp}{σ:St}{ρ:cQ}{h:Heap}{b:Addr}
def OwnAt.obj(S:StE K F H σ ρ)(p:OwnAt σ ρ b):F b=none/\∃o,H b=some o/\((∃x,o= .lst x)\/(∃x,o= .dT x)\/∃x,o= .dK x):=by
 obtain⟨i,c,h1,h2⟩:=p;obtain⟨v,h3,a,o,rfl,h4,h5,h6⟩:=S.den i _ h1;rw[h3] at h2;cases h2;refine⟨h5,o,h4,?_⟩;cases c with
 |lst ds=>obtain⟨vs,rfl,_⟩:=h6;exact .inl ⟨_,rfl⟩
 |dct ks ds=>obtain⟨vs,rfl,_⟩:=h6;exact .inr (.inl ⟨_,rfl⟩)
 |dci ks ds=>obtain⟨vs,rfl,_⟩:=h6;exact .inr (.inr ⟨_,rfl⟩)
open Classical in
noncomputable def fA(σ:St)(ρ:cQ)(H1 F:Hp):Hp:=λb=>if OwnAt σ ρ b then H1 b else F b
open Classical in
def Bv(S:StE K F H σ ρ):Same F (fA σ ρ H1 F):=λb u e=>by
 unfold fA;rw[adG (λp=>by rw[(OwnAt.obj S p).1] at e;cases e)];exact e
open Classical in
def z_(S:StE K F H σ ρ):StE K (fA σ ρ (refA h (OwnAt σ ρ) H) F) (refA h (OwnAt σ ρ) H) σ (og ρ):=by
 refine⟨λb u e=>?_,λj sl e=>?_⟩
 ·unfold fA at e;split at e
  ·exact e
  ·rename_i hp;unfold refA;rw[adG hp];exact S.fh b u e
 ·unfold og at e;rw[WT] at e;cases q:ρ[j]? with
  |none=>rw[q] at e;cases e
  |some x=>
   rw[q] at e;cases x with
   |none=>cases e
   |some y=>
    cases y with
    |fz d=>
     cases e;obtain⟨v,h1,h2⟩:=S.den j _ q;exact⟨v,h1,Den.mono (Bv S) h2⟩
    |ow c=>
     cases e;obtain⟨v,h1,a,o,rfl,h4,h5,h6⟩:=S.den j _ q;refine⟨_,h1,DenC.den (ob:=(h.get? a).getD {cls:= .none,data:= .fields #[]}) h6 (Bv S) ?_⟩;have hp:OwnAt σ ρ a:=⟨j,c,q,h1⟩
     unfold fA refA;rw[adF hp,adF hp,h4];rfl
open Classical in
def qh(S:StE K F H σ ρ)(E:Ext (fA σ ρ (refA h (OwnAt σ ρ) H) F) (refA h (OwnAt σ ρ) H) F' H'):
 Ext F H (λb=>if OwnAt σ ρ b then none else F' b) (unA (OwnAt σ ρ) H')/\∀b,OwnAt σ ρ b->∀o u,H' b=some (.frz o u)->(∃k,u= .dT k)\/∃k,u= .dK k:=by
 have SN:∀b,OwnAt σ ρ b->∃o,H b=some o/\H' b=some (ph ((h.get? b).getD {cls:= .none,data:= .fields #[]}) o)/\((∃x,o= .lst x)\/(∃x,o= .dT x)\/∃x,o= .dK x):=λb hp=>by
  obtain⟨_,o,h1,h2⟩:=OwnAt.obj S hp;refine⟨o,h1,E.hh b _ ?_,h2⟩;unfold refA;rw[adF hp,h1];rfl
 refine⟨⟨λb o e=>?_,λb u e=>?_,λb u e=>?_,λb hb=>?_⟩,λb hp o u e=>?_⟩
 ·unfold unA;by_cases hp:OwnAt σ ρ b
  ·obtain⟨o',h1,h2,h3⟩:=SN b hp;rw[e] at h1;cases h1;rw[adF hp,h2];rcases h3 with⟨x,rfl⟩ | ⟨x,rfl⟩ | ⟨x,rfl⟩<;>rfl
  ·rw[adG hp];refine E.hh b o ?_;unfold refA;rw[adG hp];exact e
 ·have hp:¬OwnAt σ ρ b:=λp=>by rw[(OwnAt.obj S p).1] at e;cases e
  show (if OwnAt σ ρ b then none else F' b)=_;rw[adG hp];refine E.ff b u ?_;unfold fA;rw[adG hp];exact e
 ·have e:(if OwnAt σ ρ b then none else F' b)=some u:=e;split at e
  ·cases e
  ·rename_i hp;unfold unA;rw[adG hp];exact E.fh b u e
 ·show (if OwnAt σ ρ b then none else F' b)=F b\/_;by_cases hp:OwnAt σ ρ b
  ·rw[adF hp];exact .inl (OwnAt.obj S hp).1.symm
  ·rw[adG hp];have e1:refA h (OwnAt σ ρ) H b=H b:=by unfold refA;rw[adG hp]
   have e2:fA σ ρ (refA h (OwnAt σ ρ) H) F b=F b:=by unfold fA;rw[adG hp]
   rcases E.new b (by rw[e1];exact hb) with q | q
   ·exact .inl (q.trans e2)
   ·rw[e1] at q;exact .inr q
 ·obtain⟨o',h1,h2,h3⟩:=SN b hp;rw[e] at h2;rcases h3 with⟨x,rfl⟩ | ⟨x,rfl⟩ | ⟨x,rfl⟩
  ·cases h2
  ·cases h2;exact .inl ⟨_,rfl⟩
  ·cases h2;exact .inr ⟨_,rfl⟩
open Classical in
mutual
def xS(S:StE K F H σ ρ)(E:Ext (fA σ ρ (refA h (OwnAt σ ρ) H) F) (refA h (OwnAt σ ρ) H) F' H'):∀{d:D}{v:V},xQ d=true->Den K F' d v->Den K (λb=>if OwnAt σ ρ b then none else F' b) d v
 | .non,_,_,q=>q
 | .bl _,_,_,q=>q
 | .int _,_,_,q=>q
 | .str _,_,_,q=>q
 | .tup ds,_,f,⟨a,vs,h1,h2,h3,h4⟩=>by
   refine⟨a,vs,h1,?_,tU S E ?_ h3,h4⟩
   ·show (if OwnAt σ ρ a then none else F' a)=_;rw[adG,h2];intro hp;obtain⟨_,o,k1,k2⟩:=OwnAt.obj S hp;have k3:fA σ ρ (refA h (OwnAt σ ρ) H) F a=some (ph ((h.get? a).getD {cls:= .none,data:= .fields #[]}) o):=by
     unfold fA refA;rw[adF hp,adF hp,k1];rfl
    have k4:=E.ff a _ k3;rw[h2] at k4;rcases k2 with⟨x,rfl⟩ | ⟨x,rfl⟩ | ⟨x,rfl⟩<;>cases k4
   ·exact f
 | .raw _,_,f,_=>by cases f
 | .exc _,_,f,_=>by cases f
 | .scr _,_,f,_=>by cases f
 | .lst _,_,f,_=>by cases f
 | .dct _ _,_,f,_=>by cases f
 | .dci _ _,_,f,_=>by cases f
def tU(S:StE K F H σ ρ)(E:Ext (fA σ ρ (refA h (OwnAt σ ρ) H) F) (refA h (OwnAt σ ρ) H) F' H'):∀{ds:List D}{vs:List V},Bw ds=true->DenL K F' ds vs->DenL K (λb=>if OwnAt σ ρ b then none else F' b) ds vs
 |[],_,_,q=>q
 |d::ds,_,f,⟨v,r,h1,h2,h3⟩=>by
  unfold Bw at f;rw[WR] at f;exact⟨v,r,h1,xS S E f.1 h2,tU S E f.2 h3⟩
end
end
section
variable{X:Cx}{Xw:Nat->Hp->Prop}{e:Expr}{δ:DE}{τ:DT}
def nB(I:Inv X f8 σ H s)(S:StE X.K F H σ ρ)(b:Addr)(p:OwnAt σ ρ b)(o:Obj)(u:HO):X.adP b≠some (.frz o u):=λz=>by
 obtain⟨_,o',k1,k2⟩:=OwnAt.obj S p;have:=I.base.frzs b o u z;rw[k1] at this;rcases k2 with⟨x,rfl⟩ | ⟨x,rfl⟩ | ⟨x,rfl⟩<;>cases this
def lD(m:M α):noex m=ag\/∃a,m=ae a/\noex m=ae a:=by
 rcases m.cs with h | ⟨n,h⟩ | ⟨a,h⟩
 ·subst h;exact .inl rfl
 ·subst h;exact .inl rfl
 ·subst h;exact .inr ⟨a,rfl,rfl⟩
def wj(h:pL X Xw e τ):pL X Xw e (λρ=>noex (τ (og ρ))):=λf8 s σ H Q I ⟨F,ρ,S,w⟩=>by
 classical
 rcases lD (τ (og ρ)) with q | ⟨b,q,q2⟩
 ·have w:WPB Xw F H (noex (τ (og ρ))) Q:=w;rw[q] at w;exact w.elim
 ·have w:WPB Xw F H (noex (τ (og ρ))) Q:=w;rw[q2] at w;refine ck (h f8 s σ _ (λb' H'=>Q b' (unA (OwnAt σ ρ) H')/\∀c,OwnAt σ ρ c->∀o u,H' c=some (.frz o u)->(∃k,u= .dT k)\/∃k,u= .dK k) (Inv.refA I) ⟨_,_,z_ S,?_⟩) λb' s' ⟨H',I',q1,q3⟩=>⟨_,Inv.unA I' (nB I S) q3,q1⟩
  rw[q];intro H' F' E;obtain⟨E1,q3⟩:=qh S E;exact⟨w _ _ E1,q3⟩
def B4(h:PD X Xw e δ):PD X Xw e (λρ=>noex (δ (og ρ))>>=qg):=λf8 s σ H Q I ⟨F,ρ,S,w⟩=>by
 classical
 rcases lD (δ (og ρ)) with q | ⟨d,q,q2⟩
 ·have w:WP X.K Xw F H (noex (δ (og ρ))>>=qg) Q:=w;rw[q] at w;exact w.elim
 ·have w:WP X.K Xw F H (noex (δ (og ρ))>>=qg) Q:=w;rw[q2,ax] at w;unfold qg at w;split at w
  ·rename_i hf;refine ck (h f8 s σ _ (λv H'=>Q v (unA (OwnAt σ ρ) H')/\∀c,OwnAt σ ρ c->∀o u,H' c=some (.frz o u)->(∃k,u= .dT k)\/∃k,u= .dK k) (Inv.refA I) ⟨_,_,z_ S,?_⟩) λb' s' ⟨v,H',I',rv,q1,q3⟩=>⟨v,_,Inv.unA I' (nB I S) q3,rv,q1⟩
   rw[q];intro v H' F' E dn;obtain⟨E1,q3⟩:=qh S E;exact⟨w _ _ _ E1 (xS S E hf dn),q3⟩
  ·exact w.elim
end
abbrev DF:=cQ->M C
def WPF(K:WI)(Xw:Nat->Hp->Prop)(F H:Hp)(m:M C)(Q:VK):Prop:=
 match m with
 |none=>False
 |some (.ok c)=>∀a o H' F',Ext F H F' H'->H' a=some o->F' a=none->H a=none->DenC K F' c o->Q (.ref a) H'
 |some (.ex n)=>∀F' H',Ext F H F' H'->Xw n H'
def V7(K:WI)(Xw:Nat->Hp->Prop)(δ:DF):TE:=λσ H Q=>∃F ρ,StE K F H σ ρ/\WPF K Xw F H (δ ρ) Q
def QD(X:Cx)(Xw:Nat->Hp->Prop)(e:Expr)(δ:DF):Prop:=PE X e (V7 X.K Xw δ)
def uK(i:Nat)(δ:DF):DS:=λρ=>δ ρ>>=λc=>ae (.nx (ρ.set i (some (.ow c))))
def StOk.setFresh{K:WI}(s:StOk K s0 adP F H σ ρ)(E:Ext F H F' H')(ho:H' a=some o)(nF:F' a=none)(n:H a=none)(h:DenC K F' c₀ o):
 StOk K s0 adP F' H' (σ.set i (some (.ref a))) (ρ.set i (some (.ow c₀))):=by
 have hle:=s.len;have get:∀(j:Nat) (sl:Sl),(ρ.set i (some (.ow c₀)))[j]? =some (some sl)->(j=i/\i<ρ.length/\sl= .ow c₀)\/(j≠i/\ρ[j]? =some (some sl)):=λj sl e=>by
  by_cases hj:j=i
  ·subst hj;have hi:j<ρ.length:=by
    have:=(WQ.mp e).1;simpa using this
   rw[W2 hi] at e;cases e;exact .inl ⟨rfl,hi,rfl⟩
  ·rw[WW (XD hj)] at e;exact .inr ⟨hj,e⟩
 have old:∀(j:Nat) (c:C) (b:Addr),ρ[j]? =some (some (.ow c))->σ[j]? =some (some (.ref b))->b≠a:=λj c b e e' z=>by
  obtain⟨u,h1,b',o,h2,h3,_⟩:=s.st.den j _ e;rw[h1] at e';cases e';cases h2;rw[z,n] at h3;cases h3
 refine⟨s.ext.trans E,⟨E.fh,λj sl e=>?_⟩,by simp[hle],λj c b e e'=>?_,λj k c c' b e1 e2 e3 e4=>?_⟩
 ·rcases get j sl e with⟨rfl,hi,rfl⟩ | ⟨hj,e⟩
  ·exact⟨.ref a,by rw[W2 (by omega)],a,_,rfl,ho,nF,h⟩
  ·obtain⟨u,h1,h2⟩:=s.st.den j sl e;exact⟨u,by rw[WW (XD hj)];exact h1,h2.ext E⟩
 ·rcases get j _ e with⟨rfl,hi,_⟩ | ⟨hj,e⟩
  ·rw[W2 (by omega)] at e';cases e';exact Same.free s.ext.hh n
  ·rw[WW (XD hj)] at e';exact s.own j c b e e'
 ·rcases get j _ e1 with⟨rfl,hi,_⟩ | ⟨hj,e1⟩
  ·rw[W2 (by omega)] at e3;cases e3;rcases get k _ e2 with⟨rfl,_,_⟩ | ⟨hk,e2⟩
   ·rfl
   ·rw[WW (XD hk)] at e4;exact adK rfl (old k c' a e2 e4)
  ·rcases get k _ e2 with⟨Rg,hi,_⟩ | ⟨hk,e2⟩
   ·rw[Rg,W2 (by omega)] at e4;cases e4;rw[WW (XD hj)] at e3;exact adK rfl (old j c a (by assumption) e3)
   ·rw[WW (XD hj)] at e3;rw[WW (XD hk)] at e4;exact s.sep j k c c' b e1 e2 e3 e4
def WPF.mono{K:WI}(h:WPF K Xw F H m Q)(k:∀v H',Q v H'->Q' v H'):WPF K Xw F H m Q':=by
 match m,h with
 |none,h=>exact h
 |some (.ok d),h=>exact λa o H' F' e h1 h2 h3 h4=>k _ _ (h a o H' F' e h1 h2 h3 h4)
 |some (.ex n),h=>exact h
def WPF.ext{K:WI}(e:Ext F H F1 H1)(h:WPF K Xw F H m Q):WPF K Xw F1 H1 m Q:=by
 match m,h with
 |none,h=>exact h
 |some (.ok d),h=>exact λa o H' F' e' h1 h2 h3 h4=>h a o H' F' (e.trans e') h1 h2 (Same.free e.hh h3) h4
 |some (.ex n),h=>exact λF2 H2 e2=>h F2 H2 (e.trans e2)
def WPF.bind{K:WI}(h:WPF K Xw F H (m>>=k) Q):WP K Xw F H m λv H1=>∃F1 d,Ext F H F1 H1/\Den K F1 d v/\WPF K Xw F1 H1 (k d) Q:=by
 match m,h with
 |none,h=>exact h
 |some (.ok d),h=>exact λv H2 F2 e2 q=>⟨F2,d,e2,q,WPF.ext e2 (show WPF K Xw F H (k d) Q from h)⟩
 |some (.ex n),h=>exact h
def WPF.bindL{K:WI}(h:WPF K Xw F H (m>>=k) Q):WPL K Xw F H m λv H1=>∃F1 d,Ext F H F1 H1/\DenL K F1 d v/\WPF K Xw F1 H1 (k d) Q:=by
 match m,h with
 |none,h=>exact h
 |some (.ok d),h=>exact λv H2 F2 e2 q=>⟨F2,d,e2,q,WPF.ext e2 (show WPF K Xw F H (k d) Q from h)⟩
 |some (.ex n),h=>exact h
section
variable{X:Cx}{Xw:Nat->Hp->Prop}{e k v a b:Expr}{es:List Expr}{δ:DF}{pos pos' p:Pos}{x:Str}{i:Nat}
def yW(hN:X.N.Nodup)(hi:X.N[i]? =some x)(hx:Loc X.env.scope x)(he:QD X Xw e δ)(hf:X.fn x=true\/X.env.scope.names.lookup x=some .local:=by first | exact .inl rfl | exact .inr rfl)
 (hs:ac7 [.Name x pos'] e pos.line X.env=pure false:=by rfl):
 iR X Xw (.Assign [.Name x pos'] e pos) (uK i δ):=λs0 adP=>PS.weak (wk he (aR hN hi hx hf) hs) λD σ H ⟨F,ρ,s,w⟩=>by
 refine⟨F,ρ,s.st,?_⟩;unfold uK at w
 match δ ρ,w with
 |none,w=>exact w
 |some (.ok c),w=>exact λa o H' F' E h1 h2 h3 h4=>w _ F' H' (s.setFresh E h1 h2 h3 h4)
 |some (.ex n),w=>exact λF' H' e'=>w F' H' (s.ext.trans e')
def Ext.fresh{F H:Hp}{p:Addr}(s:Same F H)(hp:H p=none):Ext F H F (upd H p o)/\F p=none:=⟨Ext.free s hp,Same.free s hp⟩
def NF{a:Addr}{y v:V}(hu:A.units+1<cLine)(I:Inv X f8 σ H s)(g:DPut H a y v H')(ry:RelV y u)(rv:RelV v r)(h:∀s',Inv X f8 σ H' s'->Q () s'):
 wpAny (model X.prog X.w) A (dictSet a u r) Q E s:=by
 rcases g with⟨aB,k,e,ey,l,eH⟩ | ⟨aB,k,b,e,ey,eb,l,eH⟩
 ·subst ey eH;obtain⟨z,hd,vs,rel,dd⟩:=JV I.hok e;have hz:vs.length<=WX:=by rw[<-rel.length];exact z
  have hl:(putK aB k v).length<=WX:=by have:=fI aB k v;omega
  refine wpAny_dictSet_pairs (oj ry) dd λh' CO hs=>h _ ?_;have he:∃q,h'.get? a=some q:=let ⟨q,_,_,hq,_⟩:=CO;⟨q,hq⟩
  exact lP I (by rw[e];exact YE) hs he (EH hl hd (rel.put k rv) CO)
 ·subst ey eH;cases (show u=WY b from ry);obtain⟨z,hd,xs,rel,dd⟩:=EJ I.hok e;have hz:xs.length<=WX:=by rw[<-YA rel];exact z
  have hl:(putK aB k v).length<=WX:=by have:=fI aB k v;omega
  refine wpAny_dictSet_heap (by exact(show A.units<cLine by omega)) (i6 I.hok eb) dd λh' CO hs=>h _ ?_;obtain⟨q,es,ep,hq,h2,h3,h4,_,h5⟩:=CO;refine lP I (by rw[e];exact YE) hs ⟨q,hq⟩ ⟨hl,hd,_,(rel.put k eb rv).keeps λc ys ec=>?_,q,es,ep,hq,h2,h3,h4,h5⟩;rw[aA (FK ec e (λz=>nomatch z))];exact ec
end
section
variable{X:Cx}{Xw:Nat->Hp->Prop}{e k v a b:Expr}{es:List Expr}{δk δv δa δb:DE}{pos p:Pos}{x:Str}{i:Nat}
def EG(hu:X.A.units+1<cLine)(h0:∀(H:Hp) (h:Heap),Ye<h.objs.size->ObjOk X.prog X.w H (h.push {cls:= .type "dict",data:= .dict #[]}) h.objs.size o0)(hk:PE X k tk)(hv:PE X v tv):
 PE X (.Dict [some k] [v] pos) (λσ H Q=>∀p,H p=none->tk σ (upd H p o0) λy H1=>tv σ H1 λz H2=>∃H3,DPut H2 p y z H3/\Q (.ref p) H3):=by
 intro f8 s σ H Q I q;have hn:=I.hok.fresh (WO s.heap.objs.size);have I1:=I.laid (t':=s.toks) (λ_ _ q=>Wx _ q) (WO _) (h0 _ s.heap I.big);refine wpAny_Dict_any rfl rfl (by simp) (by simp) (ck (Gq hk hv Je f8 _ σ _ (λps H2=>∃y z H3,ps=[(y,z)]/\DPut H2 s.heap.objs.size y z H3/\Q (.ref s.heap.objs.size) H3) I1 ?_) λws s2 ⟨ps,H2,I2,rel,y,z,H3,ep,g,q2⟩=>?_)
 ·refine ?_;have:=q _ hn;show tk σ _ λy H1=>tv σ H1 λz H2=>∃y' z' H3,[(y,z)]=[(y',z')]/\DPut H2 s.heap.objs.size y' z' H3/\Q (.ref s.heap.objs.size) H3;have e:(λ(y:V) (H1:Hp)=>tv σ H1 λz H2=>∃y' z' H3,[(y,z)]=[(y',z')]/\DPut H2 s.heap.objs.size y' z' H3/\Q (.ref s.heap.objs.size) H3)=(λy H1=>tv σ H1 λz H2=>∃H3,DPut H2 s.heap.objs.size y z H3/\Q (.ref s.heap.objs.size) H3):=by
   funext y H1;congr 1;funext z H2;refine propext ⟨λ⟨y',z',H3,ee,r⟩=>?_,λ⟨H3,r⟩=>⟨y,z,H3,rfl,r⟩⟩;cases ee;exact⟨H3,r⟩
  rw[e];exact this
 ·subst ep;cases rel with
  | @cons a b as bs h t=>
    cases t;obtain⟨r1,r2⟩:=h;unfold storeAll;rw[abC];refine Wv (Wv (NF hu I2 g r1 r2 λs3 I3=>?_));refine WA ?_;show wpAny _ _ (forIn ([]:List (Value×Value)) ZG _) _ _ _;rw[List.forIn_nil];exact WA ⟨V.ref s.heap.objs.size,_,I3,rfl,q2⟩
def tQ(k v:D):M C:=match eF k with
 |some kk=>ae (.dct [kk] [v])
 |none=>ag
def DQ(hu:X.A.units+64<cLine)(hk:PD X Xw k δk)(hv:PD X Xw v δv):QD X Xw (.Dict [some k] [v] pos) (λρ=>δk ρ>>=λx=>δv ρ>>=λy=>tQ x y):=
 PE.weak (EG (o0:= .dT []) (by omega) (λH h hb=>xM h hb) hk hv) λσ H Q ⟨F,ρ,s,w⟩ q hq=>by
  have e0:=Ext.free (o:= .dT []) s.fh hq;refine⟨F,ρ,s.ext e0,?_⟩;have w:WPF X.K Xw F H (δk ρ>>=λx=>δv ρ>>=λy=>tQ x y) Q:=w
  match Hj:δk ρ,w with
  |none,w=>exact w
  |some (.ex n),w=>exact λF' H' e'=>w F' H' (e0.trans e')
  |some (.ok kd),w=>
   intro y H1 F1 e1 q1;refine⟨F1,ρ,(s.ext e0).ext e1,?_⟩;have w:WPF X.K Xw F H (δv ρ>>=λy=>tQ kd y) Q:=w
   match Ou:δv ρ,w with
   |none,w=>exact w
   |some (.ex n),w=>exact λF' H' e'=>w F' H' (e0.trans (e1.trans e'))
   |some (.ok vd),w=>
    intro z H2 F2 e2 q2;have w3:WPF X.K Xw F H (tQ kd vd) Q:=w;clear w;unfold tQ at w3;cases Hk:eF kd with
    |none=>rw[Hk] at w3;exact w3.elim
    |some kk=>
     rw[Hk] at w3;have E:=e1.trans e2;have Ro:H2 q=some (.dT []):=E.hh _ _ aP;have SY:F2 q=none:=by
      have:=E.old aP (λ_ z=>nomatch z);rw[this];exact Same.free s.fh hq
     unfold eF at Hk;split at Hk
     ·rename_i es;obtain⟨b,ws,rfl,k2,k3,_⟩:=Den.mono e2.ff q1;have e5:=iH Hk k3;subst e5;refine⟨_,DPut.t Ro (e2.fh _ _ k2) (by rw[YC];decide),?_⟩;refine w3 q (.dT (putK [] kk z)) _ F2 ⟨λc u hc=>?_,(e0.trans E).ff,λc u hc=>?_,(e0.trans E).new⟩ aP SY hq ⟨[z],rfl, .cons q2 .nil,rfl,show 1<=lim by decide⟩
      ·rw[aA (λzz=>by rw[zz,hq] at hc;cases hc)];exact(e0.trans E).hh c u hc
      ·rw[aA (λzz=>by rw[zz,SY] at hc;cases hc)];exact e2.fh c u hc
     ·cases Hk
def uV{K:WI}{d k:D}{x y:V}(s:Same F H)(hd:Den K F d x)(hk:Den K F k y)(e:Eb d k=some o):
 ∃a ov,x= .ref a/\k_ H a y ov/\ov.isSome=o.isSome/\∀d',o=some d'->∃v,ov=some v/\Den K F d' v:=by
 obtain⟨a,ov,h1,h2,h3,h4⟩:=Bf (σ:=[some x]) (ρ:=[some (.fz d)]) (i:=0) ⟨s,λi sl q=>by
  match i,q with
  |0,q=>cases q;exact⟨x,rfl,hd⟩
  |i+1,q=>simp at q⟩ rfl hk e
 cases h1;exact⟨a,ov,rfl,h2,h3,h4⟩
def jE(neg:Bool)(k d:D):M D:=match Eb d k with
 |some o=>ae (.bl (if neg then !o.isSome else o.isSome))
 |none=>ag
def MD(neg:Bool):R2:=λy x H Q=>∃a o,x= .ref a/\k_ H a y o/\Q (.bl (if neg then !o.isSome else o.isSome)) H
def LZ(hu:X.A.units+64<cLine):OpR X (XB .In) (MD false):=λf8 s σ H y x v u Q I ry rx ⟨a,o,ex,g,q⟩=>by
 subst ex;obtain rfl:u=WY a:=rx;exact ND (by omega) I g ry λs' I'=>⟨.bl o.isSome,_,I',rfl,q⟩
def DL(hu:X.A.units+64<cLine):OpR X (XB .NotIn) (MD true):=λf8 s σ H y x v u Q I ry rx ⟨a,o,ex,g,q⟩=>by
 subst ex;obtain rfl:u=WY a:=rx;exact HD (by omega) I g ry λs' I'=>⟨.bl (!o.isSome),_,I',rfl,q⟩
def BX{K:WI}:xi K (MD neg) (jE neg):=λXw F H y x dk dd Q s hk hd w=>by
 unfold jE at w;cases he:Eb dd dk with
 |none=>rw[he] at w;exact w.elim
 |some o=>
  rw[he] at w;obtain⟨a,ov,h1,h2,h3,_⟩:=uV s hd hk he;refine⟨a,ov,h1,h2,?_⟩;rw[h3];exact WP.now w s rfl
def Gw(hu:X.A.units+64<cLine)(ha:PD X Xw a δa)(hb:PD X Xw b δb)(hm:XJ .In b=false:=by rfl):pL X Xw (.Compare a [.In] [b] pos) (cW (d2 (jE false) δa δb)):=gf (LZ hu) BX ha hb hm
def uC(hu:X.A.units+64<cLine)(ha:PD X Xw a δa)(hb:PD X Xw b δb)(hm:XJ .NotIn b=false:=by rfl):pL X Xw (.Compare a [.NotIn] [b] pos) (cW (d2 (jE true) δa δb)):=gf (DL hu) BX ha hb hm
def cy(d k:D):M D:=match Eb d k with
 |some (some v)=>ae v
 |_=>ag
def dE(hu:X.A.units+64<cLine)(ha:PD X Xw a δa)(hb:PD X Xw b δb)(hs:Ks b:=by intro _ _;rfl):PD X Xw (.Subscript a b pos) (d2 cy δa δb):=
 PE.weak (Jc (by omega) ha hb hs) λσ H Q ⟨F,ρ,s,w⟩=>by
  refine⟨F,ρ,s,WP.mono (WP.bind w) λx H1 ⟨F1,d,e1,q1,w1⟩=>?_⟩;refine⟨F1,ρ,s.ext e1,WP.mono (WP.bind w1) λy H2 ⟨F2,k,e2,q2,w2⟩=>?_⟩;unfold cy at w2;cases he:Eb d k with
  |none=>rw[he] at w2;exact w2.elim
  |some o=>
   cases o with
   |none=>rw[he] at w2;exact w2.elim
   |some d'=>
    rw[he] at w2;obtain⟨a,ov,h1,h2,h3,h4⟩:=uV e2.fh (Den.mono e2.ff q1) q2 he;obtain⟨v,rfl,hd⟩:=h4 d' rfl;exact⟨a,v,h1,h2,WP.now w2 e2.fh hd⟩
end
section
variable{X:Cx}{f8:List (Addr×Obj)}{σ:St}{H:Hp}{s:WC}{h':Heap}
def Inv.turnedLaid{ch:List Addr}(I:Inv X f8 σ H s)(k:∀b q,b∉ch->s.heap.get? b=some q->h'.get? b=some q)(hf:∀b∈ch,sx X f8 H b)(hp:s.heap.objs.size<=a)(new:ObjOk X.prog X.w (upd H a o) h' a o):
 Inv X f8 σ (upd H a o) {s with heap:=h',toks:=t'}:=by
 have hn:=I.hok.fresh hp;have Ke:∀b u,H b=some u->b∉ch:=λb u e z=>by rw[(hf b z).1] at e;cases e
 refine I.step (λb hb=>?_) (λb q _ _ hc e _=>k b q hc e) (λb q _ _ hc e _=>⟨q.slots,k b q hc e⟩) (λb q hc e n=>?_)
  (λb q hc e=>⟨q,k b q hc e⟩) (λb xs e=>?_) (λb q u e=>?_) (λb ps e=>⟨#[],?_⟩) (λm hm=>?_) (λb u e=>?_) I.bare
 ·obtain⟨f0,f1,f2,f3,f4,f5⟩:=hf b hb;exact⟨f3,f1,f4,f5⟩
 ·rw[aA (λz=>by rw[z] at e;exact adK (WH e) (Nat.not_lt.mpr hp))];exact n
 ·rw[aA (bz e hn)];exact e
 ·rw[aA (bz e hn)];exact e
 ·rw[aA (bz e hn),e];simp
 ·obtain⟨q,es,ep,ho,r⟩:=hm;exact⟨q,es,ep,k _ q (λz=>(hf _ z).2.1 rfl) ho,r⟩
 ·by_cases hb:b=a
  ·subst hb;rw[aP] at e;cases e;exact new
  ·rw[aA hb] at e;refine(I.hok b u e).stay (λc v hc q=>k c v ?_ q) (λc q=>by rw[aA (bz q hn)];exact q) λc xs q=>by rw[aA (bz q hn)];exact q
   rcases hc with z | z
   ·rw[z];exact Ke b u e
   ·exact Ke c _ z
def Inv.turnedL{ch:List Addr}(I:Inv X f8 σ H s)(k:∀b q,b∉ch->s.heap.get? b=some q->h'.get? b=some q)(hf:∀b∈ch,sx X f8 H b):Inv X f8 σ H {s with heap:=h',toks:=t'}:=by
 have Ke:∀b u,H b=some u->b∉ch:=λb u e z=>by rw[(hf b z).1] at e;cases e
 refine I.step (λb hb=>?_) (λb q _ _ hc e _=>k b q hc e) (λb q _ _ hc e _=>⟨q.slots,k b q hc e⟩) (λb q hc e n=>n)
  (λb q hc e=>⟨q,k b q hc e⟩) (λb xs e=>e) (λb q u e=>e) (λb ps e=>⟨#[],by rw[e];simp⟩) (λm hm=>?_) (λb u e=>?_) I.bare
 ·obtain⟨f0,f1,f2,f3,f4,f5⟩:=hf b hb;exact⟨f3,f1,f4,f5⟩
 ·obtain⟨q,es,ep,ho,r⟩:=hm;exact⟨q,es,ep,k _ q (λz=>(hf _ z).2.1 rfl) ho,r⟩
 ·refine(I.hok b u e).stay (λc v hc q=>k c v ?_ q) (λc q=>q) λc xs q=>q;rcases hc with z | z
  ·rw[z];exact Ke b u e
  ·exact Ke c _ z
end
def SG(K:WI)(a:Addr):It:=
 ⟨λi H=>∃xs x,SqL K H a xs/\xs[i]? =some x,λi H x H'=>∃p,x= .ref p/\H p=none/\∃v,(∀xs,SqL K H a xs->xs[i]? =some v)/\H'=upd H p (.tup [.int (i:Int),v]),λi H=>∃xs,SqL K H a xs/\xs.length<=i⟩
def D5{K:WI}(l e it:Addr)(Tg:e≠it):
 Turn P w K (.Tuple es x1 tp) (SG K l) [e,it] e (λi h=>∃old,IsEnum h e it (i:Int) old/\h.IsListIter it l i) where
 mem:=by simp
 obj:=λi h ⟨old,AX,xl⟩ b hb=>by
  rcases WG.mp hb with z | z
  ·subst z;exact⟨_,AX,λv z=>nomatch z⟩
  ·have z:b=it:=by simpa using z
   subst z;obtain⟨o,e1,c,d⟩:=xl;exact⟨o,e1,λv z=>by rw[d] at z;cases z⟩
 keep:=λi h h' ⟨old,AX,xl⟩ k=>⟨old,k e (by simp) _ AX,xl.at λo q=>k it (by simp) o q⟩
 item:=by
  intro X hP hw hK hc i f8 s σ H E I hf st hg;subst hP hw hK;obtain⟨old,AX,xl⟩:=st;obtain⟨xs,x,hq,hx⟩:=hg;obtain⟨aI,rv,p,hz⟩:=I.list hq;obtain⟨u,hu,ru⟩:=rv.get hx;refine wpAny_pyNext_enum_item AX xl p.isList (by simpa using hu) Tg λh1 k1 k2 k3 k4 k5=>?_;refine⟨_,rfl,wpAny_letOwnedTupleGo_enum k1 λh2 m1 m2=>?_⟩;have g6:s.heap.objs.size≠e:=Xy (WH AX);have Sy:h2.get? s.heap.objs.size=some {cls:= .type "tuple",data:= .seq #[.int i s.toks,u]}:=(m2.2 _ g6).trans k3;have keep:∀b q,b∉[e,it]->s.heap.get? b=some q->h2.get? b=some q:=λb q hb e1=>by
   have Ta:b≠e:=λz=>hb (by simp[z]);have QW:b≠it:=λz=>hb (by simp[z]);exact(m2.2 b Ta).trans (k5 b q Ta QW e1)
  have I2:Inv X f8 σ (upd H s.heap.objs.size (.tup [.int (i:Int),x])) {s with heap:=h2,toks:=s.toks+1}:=by
   refine Inv.turnedLaid I keep hf (WO _) ⟨?_,[.int i s.toks,u], .cons ⟨_,rfl⟩ (.cons ru .nil),_,Sy,rfl,_,rfl⟩;rw[YC];show 2<=_;decide
  refine⟨.ref s.heap.objs.size,_,I2,rfl,⟨_,rfl,I.hok.fresh (WO _),x,λys hy=>by rw[I.list_inj hy hq];exact hx,rfl⟩,⟨u,?_,?_⟩,λb hb=>?_⟩
  ·have:((i+1:Nat):Int)=(i:Int)+1:=by push_cast;rfl
   rw[this];exact m1
  ·exact k2.at λo q=>(m2.2 it (XD Tg)).trans q
  ·rw[aA (λz=>by
    rcases WG.mp hb with y | y
    ·exact adK (WH AX) (by rw[<-y,z];exact Xz _)
    ·have y:b=it:=by simpa using y
     obtain⟨o,q1,_⟩:=id xl;exact adK (WH q1) (by rw[<-y,z];exact Xz _))]
   exact(hf b hb).1
 done:=by
  intro X hP hw hK hc i f8 s σ H E I hf st hg;subst hP hw hK;obtain⟨old,AX,xl⟩:=st;obtain⟨xs,hq,hx⟩:=hg;obtain⟨aI,rv,p,hz⟩:=I.list hq;have hl:=rv.length;exact wpAny_pyNext_enum_end (I.ok.hd hc) AX xl p.isList (by simp;omega) λh' eb=>⟨rfl,Inv.turnedL I (λb q hb e1=>eb b q (λz=>hb (by simp[z])) e1) λb hb=>hf b (Wz _ hb)⟩
 self:=λA i s Q E st h=>by
  obtain⟨old,AX,xl⟩:=st;exact wpAny_pyIter_enum AX h
def Fo{K:WI}{F:Hp}(h:SqL K F a vs)(hd:DenL K F ds vs):ItD K F (SG K a) (ds.mapIdx λi d=> .tup [.int (i:Int),d]):=λF' H' i s1 s2=>by
 have hs:=Same.seq s2 (Same.seq s1 h);refine⟨λd e=>?_,λhl=>⟨vs,hs,by rw[List.length_mapIdx,hd.len] at hl;exact hl⟩⟩;rw[acT] at e;cases q:ds[i]? with
 |none=>rw[q] at e;cases e
 |some d0=>
  rw[q] at e;cases e;obtain⟨v,e1,q1⟩:=hd.get q;refine⟨⟨vs,v,hs,e1⟩,λx H'' ⟨p,y1,y2,u,y3,y4⟩=>?_⟩;subst y1 y4;have:=y3 vs hs;rw[e1] at this;cases this;have E:=Ext.lay (o:= .tup [.int (i:Int),v]) s2 y2;exact⟨_,E,p,_,rfl,aP, .cons rfl (.cons (Den.mono E.ff (Den.mono s1 q1)) .nil),by show 2<=lim;decide⟩
section
variable{X:Cx}{Xw:Nat->Hp->Prop}{e:Expr}{es:List Expr}{δs:DA}{pos p tp:Pos}{x1:Nat}
def n9:List D->M (List D)
 |[.lst ds]=>ae (ds.mapIdx λi d=> .tup [.int (i:Int),d])
 |_=>ag
def mH(hg:Gl X "enumerate")(hm:X.mg "enumerate"=none)(ha:jz X Xw [e] δs)(hs:WS [e] X.env=[(false,eval e X.env)]:=by rfl):Bb X Xw (.Tuple es x1 tp) (.Call (.Name "enumerate" p) [e] [] pos) (λρ=>δs ρ>>=n9):=by
 intro f8 s σ H R I ⟨F,ρ,S,w⟩;refine Call_ (lA I hg hm (show Xl "enumerate"=some (.type "enumerate") from rfl) (YW (ck (ha pos f8 s σ H (λvs H1=>∃F1 ds,Ext F H F1 H1/\DenL X.K F1 ds vs/\WPI X.K Xw F1 H1 (n9 ds) R) I ⟨F,ρ,S,WPI.bindL w⟩) λus s1 ⟨vs,H1,I1,r1,F1,ds,e1,q1,w1⟩=>?_) hs rfl));unfold n9 at w1;split at w1
 ·rename_i ds;obtain⟨v,rfl,h1⟩:=q1.one;obtain⟨a,xs,rfl,h2,h3,h4⟩:=h1;obtain⟨u,rfl,r2⟩:=r1.one;cases (show u=_ from r2);obtain⟨aI,rv,pl,hz⟩:=I1.list (SqL.of (K:=X.K) (e1.fh _ _ h2));refine call_enumerate_list pl.isList λh' k1 k2 k3 k4=>?_;refine wpAny_pyIter_enum k1 ?_;refine⟨s1.heap.objs.size+1,[s1.heap.objs.size+1,s1.heap.objs.size],_,_,H1,rfl,I1.kept λb o e=>k4 b o e,D5 a _ _ (Xy (Zq _)),⟨.none,k1,k2⟩,λb hb=>?_,w1 _ _ _ (Ext.refl e1.fh) (Fo (SqL.of h2) h3)⟩;have e:s1.heap.objs.size<=b:=by
   rcases WG.mp hb with z | z
   ·rw[z];exact Nat.le_succ _
   ·have z:b=s1.heap.objs.size:=by simpa using z
    rw[z];exact WO _
  exact I1.fpOk e (I1.hok.fresh e)
 ·exact w1.elim
end
def Il:Key->D
 | .inl i=> .int i
 | .inr x=> .str x
def JO(H:Hp)(d:Addr)(od:Obj)(i:Nat)(x:V):Prop:=
 (∃aB k b,H d=some (.frz od (.dT aB))/\(aB.map (·.1))[i]? =some k/\x= .ref b/\H b=some (.tup (k.map kV)))\/
 ∃aB k,H d=some (.frz od (.dK aB))/\(aB.map (·.1))[i]? =some k/\x=kV k
def SF(d:Addr)(od:Obj):It:=
 ⟨λi H=>(∃aB,H d=some (.frz od (.dT aB))/\i<aB.length)\/∃aB,H d=some (.frz od (.dK aB))/\i<aB.length,λi H x H'=>H'=H/\JO H d od i x,
  λi H=>(∃aB,H d=some (.frz od (.dT aB))/\aB.length<=i)\/∃aB,H d=some (.frz od (.dK aB))/\aB.length<=i⟩
def oN{R:α->β->Prop}(h:∀a b,R a b->f a=g b):∀{l:List α}{m:List β},abj R l m->l.map f=m.map g
 |_,_, .nil=>rfl
 |_,_, .cons r t=>by rw[WD,WD,h _ _ r,oN h t]
def jd:∀{l:List α}{m:List β}{i:Nat}{a:α},abj R l m->l[i]? =some a->∃b,m[i]? =some b/\R a b
 |_,_,i,_, .nil,e=>by simp at e
 |_,_,0,_, .cons r t,e=>by simp at e;subst e;exact⟨_,rfl,r⟩
 |_,_,i+1,_, .cons r t,e=>by
  obtain⟨b,e1,e2⟩:=jd t (by simpa using e);exact⟨b,by simpa using e1,e2⟩
def DO{w:World}{κ:Type}[DecidableEq κ]{knd:KeyKind prog w κ}:∀{es:List Yd}{aB:List (κ×Value)}{i:Nat}{kv:κ×Value},Pairs knd es aB->aB[i]? =some kv->∃e,es[i]? =some e/\knd.is kv.1 e.key=true:=by
 intro es aB i kv h e;induction h generalizing i with
 |nil=>simp at e
 | @cons en Wt M3 VT h1 h2 h3 ih=>
   cases i with
   |zero=>simp at e;subst e;exact⟨en,rfl,h1⟩
   |succ i=>
    obtain⟨q,e1,e2⟩:=ih (by simpa using e);exact⟨q,by simpa using e1,e2⟩
def LI(h:qF k u=true):RelV (kV k) u:=by
 rcases cg h with⟨i,t,rfl,rfl⟩ | ⟨x,t,rfl,rfl⟩
 ·exact⟨t,rfl⟩
 ·exact⟨t,rfl⟩
def qc{σ:St}{H:Hp}(I:Inv X f8 σ H s)
 (h:(∃aB,H d=some (.frz od (.dT aB))/\n=aB.length)\/∃aB,H d=some (.frz od (.dK aB))/\n=aB.length):
 ∃es ep,(d==Ye)=false/\s.heap.get? d=some od/\od.ExactDict/\od.data= .dict es ep/\es.size=n/\∀i,i<n->∃e x,es[i]? =some e/\RelV x e.key/\JO H d od i x:=by
 rcases h with⟨aB,e,rfl⟩ | ⟨aB,e,rfl⟩
 ·obtain⟨ho,z,lo,xs,rel,o,es,ep,h1,h2,h3,h4,h5⟩:=(show ObjOk X.prog X.w H s.heap d (.frz od (.dT aB)) from I.hok d _ e)
  rw[ho] at h1;cases h1;have hl:es.size=aB.length:=by
   rw[<-W5,h4,Ww];exact(YA rel).symm
  refine⟨es,ep,lo,ho,h2,h3,hl,λi hi=>?_⟩;obtain⟨q,e1,e2,e3,e4⟩:=jd rel (Wy hi);refine⟨abL (Y0 (bg X.prog X.w)) q, .ref q.2.1,?_,rfl, .inl ⟨aB,aB[i].1,q.2.1,e,?_,rfl,e3⟩⟩
  ·rw[<-YI,h4,WT,e1];rfl
  ·rw[WT,Wy hi];rfl
 ·obtain⟨ho,z,lo,vs,rel,o,es,ep,h1,h2,h3,h4,h5,h6⟩:=(show ObjOk X.prog X.w H s.heap d (.frz od (.dK aB)) from I.hok d _ e)
  rw[ho] at h1;cases h1;have hl:es.size=aB.length:=by
   rw[<-W5,h5.length];exact(YA rel).symm
  refine⟨es,ep,lo,ho,h2,h3,hl,λi hi=>?_⟩;obtain⟨q,e1,e2,e3⟩:=jd rel (Wy hi);obtain⟨en,e4,e5⟩:=DO h5 e1;refine⟨en,kV aB[i].1,by rw[<-YI];exact e4,?_, .inr ⟨aB,aB[i].1,e,by rw[WT,Wy hi];rfl,rfl⟩⟩;rw[e2];exact LI e5
def D6{K:WI}(d it:Addr)(od:Obj)(es:Array Yd)(ep:Nat)(gZ:od.data= .dict es ep):
 Turn P w K tg (SF d od) [it] it (λi h=>h.IsKeyIter it d i es.size ep) where
 mem:=by simp
 obj:=λi h st b hb=>by
  have e:b=it:=by simpa using hb
  subst e;obtain⟨o,e,c,dd⟩:=st;exact⟨o,e,λv z=>by rw[dd] at z;cases z⟩
 keep:=λi h h' st k=>st.at λo e=>k it (by simp) o e
 item:=by
  intro X hP hw hK hc i f8 s σ H E I hf st hg;subst hP hw hK;obtain⟨n,hn,hi⟩:∃n,((∃aB,H d=some (.frz od (.dT aB))/\n=aB.length)\/∃aB,H d=some (.frz od (.dK aB))/\n=aB.length)/\i<n:=by
   rcases hg with⟨aB,e,hi⟩ | ⟨aB,e,hi⟩
   ·exact⟨_, .inl ⟨aB,e,rfl⟩,hi⟩
   ·exact⟨_, .inr ⟨aB,e,rfl⟩,hi⟩
  obtain⟨M3,HI,lo,ho,hx,sr,hsz,hk⟩:=qc I hn;rw[gZ] at sr;cases sr;obtain⟨en,x,e1,rx,ka⟩:=hk i hi;obtain⟨f0,f1,f2,f3,f4,f5⟩:=hf it (by simp);refine yB st ho gZ e1 λh' oT sb=>?_;have I1:Inv X f8 σ H {s with heap:=h'}:=I.turned (λb o hb e=>(sb.2 b hb).trans e) f0 f1 f3 f4 f5;obtain⟨o,e2,c,dd⟩:=id oT;exact⟨_,rfl,tW e2 c dd (by decide) ⟨x,H,I1,rx,⟨rfl,ka⟩,oT,λb hb=>(hf b hb).1⟩⟩
 done:=by
  intro X hP hw hK hc i f8 s σ H E I hf st hg;subst hP hw hK;obtain⟨n,hn,hi⟩:∃n,((∃aB,H d=some (.frz od (.dT aB))/\n=aB.length)\/∃aB,H d=some (.frz od (.dK aB))/\n=aB.length)/\n<=i:=by
   rcases hg with⟨aB,e,hi⟩ | ⟨aB,e,hi⟩
   ·exact⟨_, .inl ⟨aB,e,rfl⟩,hi⟩
   ·exact⟨_, .inr ⟨aB,e,rfl⟩,hi⟩
  obtain⟨M3,HI,lo,ho,hx,sr,hsz,hk⟩:=qc I hn;rw[gZ] at sr;cases sr;obtain⟨f0,f1,f2,f3,f4,f5⟩:=hf it (by simp);exact tT (I.ok.hd hc) st (by omega) ho gZ λh' eb=>⟨rfl,I.turned (λb o hb e=>eb b o hb e) f0 f1 f3 f4 f5⟩
 self:=λ_ _ _ _ _ st h=>wpAny_pyIter_keyiter st h
def tupK(k:List Key):D:= .tup (k.map Il)
def um:Key->Bool
 | .inl _=>true
 | .inr x=>decide (x.length<=lim)
def jH:D->M (List D)
 | .dct ks _=>if ks.all (λk=>decide (k.length<=lim)&&k.all um) then ae (ks.map tupK) else ag
 | .dci ks _=>if ks.all um then ae (ks.map Il) else ag
 |_=>ag
def yh{K:WI}(h:um k=true):Den K F (Il k) (kV k):=by
 cases k with
 |inl i=>exact rfl
 |inr x=>exact⟨rfl,adL h⟩
def t9{K:WI}:∀{k:List Key},k.all um=true->DenL K F (k.map Il) (k.map kV)
 |[],_=>rfl
 |x::k,h=>by
  rw[Zz,WR] at h;exact .cons (yh h.1) (t9 h.2)
def Fp{K:WI}(hd:Den K F d (.ref a))(hF:∃u,F a=some (.frz ob u))(e:jH d=ae ds):ItD K F (SF a ob) ds:=λF' H' i s1 s2=>by
 unfold jH at e;split at e
 ·rename_i ks es;split at e
  ·rename_i hok;obtain rfl:=gh e;obtain⟨a',VY,vs,z,h2,h3,h4,h5⟩:=hd;cases z;obtain⟨u,hu⟩:=hF;rw[h2] at hu;cases hu;have hh:=s2 _ _ (s1 _ _ h2);have hz:=kH (b:=vs) (by rw[h4];exact h3.len);have hl:(ks.zip vs).length=ks.length:=by rw[<-Ww,hz]
   refine⟨λd e=>?_,λhle=> .inl ⟨_,hh,by rw[hl];simpa using hle⟩⟩;rw[WT] at e;cases q:ks[i]? with
   |none=>rw[q] at e;cases e
   |some k=>
    rw[q] at e;cases e;have hi:=(WQ.mp q).1;refine⟨.inl ⟨_,hh,by rw[hl];exact hi⟩,λx H'' ⟨y1,y2⟩=>?_⟩;subst y1;have hk:=Xe.mp hok k (Xd q);rw[WR] at hk;rcases y2 with⟨aB,k',b,q1,q2,rfl,q3⟩ | ⟨aB,k',q1,q2,rfl⟩
    ·rw[hh] at q1;cases q1;rw[hz,q] at q2;cases q2;have E:=Ext.tup s2 q3;exact⟨_,E,b,_,rfl,aP,t9 hk.2,by rw[Ww];exact adL hk.1⟩
    ·rw[hh] at q1;cases q1
  ·exact(gU e).elim
 ·rename_i ks es;split at e
  ·rename_i hok;obtain rfl:=gh e;obtain⟨a',VY,vs,z,h2,h3,h4,h5⟩:=hd;cases z;obtain⟨u,hu⟩:=hF;rw[h2] at hu;cases hu;have hh:=s2 _ _ (s1 _ _ h2);have hz:=kH (b:=vs) (by rw[h4];exact h3.len);have hl:(ks.zip vs).length=ks.length:=by rw[<-Ww,hz]
   refine⟨λd e=>?_,λhle=> .inr ⟨_,hh,by rw[hl];simpa using hle⟩⟩;rw[WT] at e;cases q:ks[i]? with
   |none=>rw[q] at e;cases e
   |some k=>
    rw[q] at e;cases e;have hi:=(WQ.mp q).1;refine⟨.inr ⟨_,hh,by rw[hl];exact hi⟩,λx H'' ⟨y1,y2⟩=>?_⟩;subst y1;have hk:=Xe.mp hok k (Xd q);rcases y2 with⟨aB,k',b,q1,q2,rfl,q3⟩ | ⟨aB,k',q1,q2,rfl⟩
    ·rw[hh] at q1;cases q1
    ·rw[hh] at q1;cases q1;rw[hz,q] at q2;cases q2;exact⟨F',Ext.refl s2,yh hk⟩
  ·exact(gU e).elim
 ·exact(gU e).elim
section
variable{X:Cx}{Xw:Nat->Hp->Prop}{tg l:Expr}{δ:DE}
def yV(h:PD X Xw l δ):Bb X Xw tg l (λρ=>δ ρ>>=jH):=by
 intro f8 s σ H R I ⟨F,ρ,S,w⟩;refine ck (h f8 s σ H (λv H1=>∃F1 d,Ext F H F1 H1/\Den X.K F1 d v/\WPI X.K Xw F1 H1 (jH d) R) I ⟨F,ρ,S,WPI.bind w⟩) λu s1 ⟨v,H1,I1,r1,F1,d,e1,q1,w1⟩=>?_;rcases(jH d).cs with z | ⟨n,z⟩ | ⟨ds,z⟩
 ·rw[z] at w1;exact w1.elim
 ·exfalso
  unfold jH at z;split at z
  ·split at z<;>cases z
  ·split at z<;>cases z
  ·cases z
 ·rw[z] at w1;obtain⟨a,ob,u',rfl,hF,hn⟩:∃a ob u',v= .ref a/\F1 a=some (.frz ob u')/\∃n,((∃aB,H1 a=some (.frz ob (.dT aB))/\n=aB.length)\/∃aB,H1 a=some (.frz ob (.dK aB))/\n=aB.length):=by
   unfold jH at z;split at z
   ·obtain⟨a,ob,vs,e,h2,_⟩:=q1;exact⟨a,ob,_,e,h2,_, .inl ⟨_,e1.fh _ _ h2,rfl⟩⟩
   ·obtain⟨a,ob,vs,e,h2,_⟩:=q1;exact⟨a,ob,_,e,h2,_, .inr ⟨_,e1.fh _ _ h2,rfl⟩⟩
   ·exact(gU z).elim
  obtain⟨n,hn⟩:=hn;cases (show u=_ from r1);obtain⟨es,ep,lo,ho,hx,hd,hsz,hk⟩:=qc I1 hn;refine t8 lo ho hx hd ?_;refine⟨s1.heap.objs.size,[s1.heap.objs.size],_,_,H1,rfl,I1.kept (t':=s1.toks) λb o e=>Wx _ e,D6 a _ ob es ep hd,⟨_,WN _ rfl,rfl,rfl⟩,λb hb=>?_,w1 _ _ _ (Ext.refl e1.fh) (Fp q1 ⟨_,hF⟩ z)⟩;have e:b=s1.heap.objs.size:=by simpa using hb
  subst e;exact I1.fpOk (WO _) (I1.hok.fresh (WO _))
end
end L3
namespace L3
open PySem
section
variable{prog:Xc}{w:World}{K:Type}[DecidableEq K]{knd:HeapKind prog w K}{A:Xu}{E:Value->WC->Prop}{s:WC}
def rS(hu:knd.room A)(Ac:knd.is s.heap k a)(hm:s.heap.DictOfH knd d xs)(hsz:xs.length<=WX)
 (hQ:∀h',h'.DictOfH knd d (Z4 xs k a v)->XQ d s.heap h'->Q () {s with heap:=h'}):wpAny (model prog w) A (aby d (.ref a) (knd.hash k) v) Q E s:=by
 obtain⟨o,es,ep,ho,hc,hd,he,Rc,hn⟩:=hm;unfold aby;refine X5 (Wv (wpAny_dictFind_heap hu Ac ho hd he Rc hn (λHW=>?_) λj p hj=>?_))
 ·have e0:=atKey_none_of_get HW;have hz:es.size<=WX:=by rw[acm he];exact hsz
  refine Wv (acW (wpAny_updateDictKeys ho hd (hQ _ ?_ (Xj ..))));rw[storedH_new e0];refine⟨_,_,ep+1,XF _ ho (aaZ (ZZ hd _)),hc.mapDictKeys _,ZZ hd _,by simp[he,abL],λx hx=>?_,?_⟩
  ·rcases XI.mp hx with hx | hx
   ·exact knd.keeps (Rc x hx) ho hd (Xj ..)
   ·obtain rfl:x=(k,a,v):=by simpa using hx
    exact knd.keeps Ac ho hd (Xj ..)
  ·rw[X_];refine YU.mpr ⟨hn,by simp,λx hx y hy z=>?_⟩;have hy:y=k:=by simpa using hy
   exact not_mem_keys_of_get HW (by rw[<-hy,<-z];exact hx)
 ·have e0:=atKey_of_get hn hj;refine Wv (acW (Wv (wpAny_updateDict ho hd (wpAny_point (hQ _ ?_ (Xj ..))))));rw[storedH_old e0];refine⟨_,_,ep,XF _ ho (aaZ (Obj.data_mapDict hd _)),hc.mapDict _,Obj.data_mapDict hd _,?_,λx hx=>?_,by rw[keys_map_putAt];exact hn⟩
  ·have:=modify_map_putAt (abL knd) (λe:Yd=>{e with val:=v}) k v (λ_ _=>rfl) hn hj;rw[<-he] at this;obtain⟨l⟩:=es;simpa using this
  ·obtain⟨y,hy,rfl⟩:=WM.mp hx;unfold putAt;split<;>exact knd.keeps (Rc y hy) ho hd (Xj ..)
def bR(xs ys:List (K×Addr×Value)):List (K×Addr×Value):=ys.foldl (λu8 y=>Z4 u8 y.1 y.2.1 y.2.2) xs
def zm(xs:List (K×Addr×Value))(k:K)(a:Addr)(v:Value):(Z4 xs k a v).length<=xs.length+1:=by
 unfold Z4;split<;>simp
def jM:∀(ys xs:List (K×Addr×Value)),(bR xs ys).length<=xs.length+ys.length
 |[],xs=>WO _
 |y::ys,xs=>by
  have h1:=jM ys (Z4 xs y.1 y.2.1 y.2.2);have h2:=zm xs y.1 y.2.1 y.2.2;show (bR (Z4 xs y.1 y.2.1 y.2.2) ys).length<=_;rw[WE];omega
def md{xs ys:List (K×Addr×Value)}(h:ys[i]? =some y):bR xs (ys.take (i+1))=Z4 (bR xs (ys.take i)) y.1 y.2.1 y.2.2:=by
 rw[List.take_add_one,h];unfold bR;rw[adB];rfl
def jN:∀(ys u8:List (K×Addr×Value)),((u8++ys).map (·.1)).Nodup->bR u8 ys=u8++ys
 |[],u8,_=>by simp[bR]
 |y::ys,u8,hn=>by
  show bR (Z4 u8 y.1 y.2.1 y.2.2) ys=_;have Rk:y.1∉u8.map (·.1):=λh=>by
   rw[X_] at hn;exact(YU.mp hn).2.2 _ h _ (by simp) rfl
  have e0:atKey u8 y.1=none:=atKey_none_of_get λj p hj=>Rk (WM.mpr ⟨_,Xd hj,rfl⟩);rw[storedH_new e0,jN ys (u8++[(y.1,y.2.1,y.2.2)]) (by simpa using hn)];simp
def vg{id:String}(ho:s.heap.get? o=some ob)(hd:ob.data= .dict es ep)
 (hq:∀e∈es.toList,∃a,e.key= .ref a/\s.TypeIs (.ref a) "tuple")(hh:∀e∈es.toList,(es.filter (·.hash==e.hash)).size<=1)(h:Q es s):wpAny (model prog w) A (aaQ id o) Q E s:=by
 unfold aaQ;refine Wv (XM ho hd ?_);rw[<-Array.forIn_toList];refine Wv (ab5 _ (λrest _ s'=>s'=s/\∀e∈rest,e∈es.toList) _ ?_ ?_ _ _ ⟨rfl,λ_ h=>h⟩)
 ·rintro e rest b s' ⟨rfl,hr⟩;obtain⟨a,ea,ta⟩:=hq e (hr e (WB ..));have hf:=hh e (hr e (WB ..));have fM:¬((es.filter (·.hash==e.hash)).size>1):=by omega
  rw[ea];unfold Builtin.Dict.quietEq;refine Wv (Wv (aci ta F.slot_tuple_eq.lookup (WA ?_)));simp only[fM,if_false];have:(some (Zv "tuple.__eq__")==some (Zv "object.__eq__"))=false:=by decide
  simp only[this,ab3,if_true];exact WA ⟨rfl,λx hx=>hr x (Wz _ hx)⟩
 ·rintro b s' ⟨rfl,_⟩;exact WA h
def qP(hu:knd.room A)(Te:d≠o)(Vr:(o==Ye)=false)(hd:s.heap.DictOfH knd d xs)(ho:s.heap.DictOfH knd o ys)
 (Vc:∀{h:Heap}{k:K}{a:Addr},knd.is h k a->∃ob,h.get? a=some ob/\ob.cls= .type "tuple")(hh:xs=[]->(ys.map λy=>knd.hash y.1).Nodup)(hsz:xs.length+ys.length<=WX)
 (hQ:∀h',h'.DictOfH knd d (bR xs ys)->XQ d s.heap h'->Q () {s with heap:=h'}):wpAny (model prog w) A (abq nm d o) Q E s:=by
 obtain⟨od,Ug,Ud,lY,tX,gZ,UR,Wm,Fb⟩:=id hd;obtain⟨oo,z7,Ue,Od,Wl,CW,Ei,Ra,HW⟩:=id ho;have P3:=acm Ei;unfold abq;rw[adG (by simpa using Te)];unfold YZ;rw[adG (by rw[Vr];exact WZ)];refine Wv (WA (Wv (XM Od CW ?_)));have loop:∀(body:Nat->PUnit->Sem (ForInStep PUnit)),body=(λi (_:PUnit)=>(do
       let l'<-dictEntries o
       match l'[i]? with
        |some e=>do
         holding [e.key,e.val] (aby d e.key e.hash e.val)
         let HI<-dictEpoch o
         if (HI !=Ue)=true then do (unsupported (aa5 nm++aa5 ":source-changed-during-callback"):Sem PUnit);pure (XU ZG) else pure (XU ZG)
        |_=>do
         (unsupported "internal:dict-merge":Sem PUnit)
         pure (XU ZG):Sem (ForInStep PUnit)))->wpAny (model prog w) A (forIn [:z7.size] ZG body) (λ_ s'=>Q () s') E s:=by
  rintro _ rfl;rw[Std.Legacy.Range.forIn_eq_forIn_range'];simp only[Std.Legacy.Range.size,Nat.sub_zero,Nat.add_sub_cancel,Nat.div_one];refine ab5 _ (λrest _ s'=>∃h' i,s'={s with heap:=h'}/\rest=Xs i (z7.size - i)/\i<=z7.size/\h'.DictOfH knd d (bR xs (ys.take i))/\h'.get? o=some oo/\XQ d s.heap h') _ ?_ ?_ _ _
   ⟨s.heap,0,rfl,by simp,Xq _,by simpa[bR] using hd,Od,aaF _ _⟩
  ·rintro x rest b s' ⟨h',i,rfl,hr,hi,sr,Lh,Ff⟩;have fM:i<z7.size:=by
    by_cases h:i<z7.size
    ·exact h
    ·rw[show z7.size - i=0 by omega] at hr;simp at hr
   rw[show z7.size - i=(z7.size - (i+1))+1 by omega,ZS] at hr;injection hr with h1 h2
   subst h1;refine Wv (XM Lh CW ?_);obtain⟨y,hy⟩:∃y,ys[x]? =some y:=⟨_,Wy (by omega)⟩
   rw[entry_at Ei x,hy];have Vn:(bR xs (ys.take x)).length<=WX:=by
    have e1:=jM (ys.take x) xs;rw[aau] at e1;omega
   have Vd:knd.is h' y.1 y.2.1:=knd.keeps (Ra y (Xd hy)) lY gZ Ff;refine Wv (X5 (rS hu Vd sr Vn λM4 Q1 Oi=>?_));have J8:M4.get? o=some oo:=(Oi.2 o (XD Te)).trans Lh;refine Wv (YB J8 CW ?_);rw[adG (by simp)];exact WA ⟨M4,x+1,rfl,h2,fM,by rw[md hy];exact Q1,J8,Ff.trans Oi⟩
  ·rintro b s' ⟨h',i,rfl,hr,hi,sr,Lh,Ff⟩;have x_:i=z7.size:=by
    by_cases h:i<z7.size
    ·rw[show z7.size - i=(z7.size - (i+1))+1 by omega,ZS] at hr;exact nomatch hr
    ·omega
   refine hQ h' ?_ Ff;rw[x_,P3,abu] at sr;exact sr
 have go:wpAny (model prog w) A (do
  let NI<-dictEpoch o
  let l<-dictEntries o
  forIn [:l.size] ZG λi (_:PUnit)=>(do
   let l'<-dictEntries o
   match l'[i]? with
    |some e=>do
     holding [e.key,e.val] (aby d e.key e.hash e.val)
     let HI<-dictEpoch o
     if (HI !=NI)=true then do (unsupported (aa5 nm++aa5 ":source-changed-during-callback"):Sem PUnit);pure (XU ZG) else pure (XU ZG)
    |_=>do
     (unsupported "internal:dict-merge":Sem PUnit)
     pure (XU ZG):Sem (ForInStep PUnit))
  pure ()) Q E s:=by
  refine Wv (YB Od CW (Wv (XM Od CW (Wv ?_))));exact XG (loop _ rfl) (λ_ _ h=>WA h) λ_ _ h=>h
 dsimp only
 split
 ·refine Wv (XM lY gZ ?_);split
  ·rename_i Q3;have Ov:xs=[]:=by
    have h0:Ug= #[]:=adt.mp Q3;have:=acm UR;rw[h0] at this;exact aao.mp (by simpa using this.symm)
   subst Ov;have Vo:=hh rfl;refine Wv (vg Od CW (λe he=>?_) (λe he=>?_) ?_)
   ·rw[Ei] at he;obtain⟨y,hy,rfl⟩:=WM.mp he;obtain⟨ob,h1,h2⟩:=Vc (Ra y hy);exact⟨y.2.1,rfl,ob,h1,h2⟩
   ·have:(z7.filter (·.hash==e.hash)).size=((ys.map λy=>knd.hash y.1).filter (· ==e.hash)).length:=by
     rw[<-W5,Array.toList_filter,Ei,List.filter_map,List.filter_map,Ww,Ww];rfl
    rw[this];have hc:=List.nodup_iff_count.mp Vo e.hash;rw[List.count_eq_countP,List.countP_eq_length_filter] at hc;exact hc
   ·have hm:bR ([]:List (K×Addr×Value)) ys=ys:=by
     rw[jN ys [] (by simpa using HW)];rfl
    rw[hm] at hQ;split
    ·have VB:z7.size<=WX+1:=by simp at hsz;omega
     refine Wv (wpAny_updateDictKeysTo lY gZ (WA (hQ _ ⟨_,_,Ud+1,XF _ lY (aaZ (ZZ gZ _)),tX.mapDictKeys _,ZZ gZ _,Ei,λx hx=>?_,HW⟩ (Xj ..))) VB);exact knd.keeps (Ra x hx) lY gZ (Xj ..)
    ·rename_i g6;have h0:z7= #[]:=adt.mp (by simpa using g6);have Vj:ys=[]:=aao.mp (by rw[<-P3,h0];rfl);subst Vj;exact WA (hQ _ hd (aaF _ _))
  ·exact go
 ·exact go
end
end L3
namespace L3
open PySem PySem.Spec L2
open PyProof.Rows hiding St
def JL(h1:(Y0 (bg P w)).is h k a):∃ob,h.get? a=some ob/\ob.cls= .type "tuple":=by
 obtain⟨ob,aI,n,q1,q2,_⟩:=h1;exact⟨ob,q1,q2⟩
def jL(aB more:List (List Key×V)):List (List Key×V):=more.foldl (λu8 kv=>putK u8 kv.1 kv.2) aB
def BM:∀{more:List (List Key×V)}{ys:List (List Key×Addr×Value)},KT H more ys->∀{aB:List (List Key×V)}{xs:List (List Key×Addr×Value)},KT H aB xs->KT H (jL aB more) (bR xs ys)
 |_,_, .nil,_,_,q=>q
 |_,_, .cons h t,aB,xs,r=>by
  refine BM t ?_;have:=KT.put r _ h.2.1 h.2.2;rw[h.1] at this;show KT H (putK aB _ _) (Z4 xs _ _ _);rw[h.1];exact this
def qJ:∀(more aB:List (List Key×V)),(jL aB more).length<=aB.length+more.length
 |[],aB=>WO _
 |p::r,aB=>by
  have h1:=qJ r (putK aB p.1 p.2);have h2:=fI aB p.1 p.2;show (jL (putK aB p.1 p.2) r).length<=_;rw[WE];omega
def gY(k:List Int):Int:=reduceHash (aa1 (k.map hashInt))
def E3(k:List Int):(Y0 (bg P w)).hash (nq k)=gY k:=by
 show reduceHash (aa1 ((nq k).map (OG w)))=_;unfold gY nq;rw[Xo];rfl
section
variable{X:Cx}{f8:List (Addr×Obj)}{σ:St}{H:Hp}{s:WC}{a b:Addr}{A:Xu}{E:Value->WC->Prop}
def EE{ks:List (List Int)}(hu:A.units+2<cLine)(I:Inv X f8 σ H s)(ha:H a=some (.dT aB))(hb:Rd H b (.dT more))(NS:a≠b)(hk:more.map (·.1)=ks.map nq)
 (hh:aB=[]->(ks.map gY).Nodup)(hz:aB.length+more.length<=WX)(h:∀s',Inv X f8 σ (upd H a (.dT (jL aB more))) s'->Q .none s'):
 wpAny (model X.prog X.w) A (call (.builtin "dict.update") [.ref a, .ref b]) Q E s:=by
 obtain⟨z1,lo1,xs,Pl,PZ⟩:=EJ I.hok ha;obtain⟨z2,VW,ys,Jt,zG⟩:=lQ I.hok hb;have l1:=YA Pl;have l2:=YA Jt;have hT:=PZ.typeIs;refine X6 abB hT PySem.F.entry_dict_update ?_ (PySem.F.args_dict_update_2 _ _);unfold Z8.«dict.update»;refine Wv ?_;unfold abe;refine Wv (Z1 hT ?_);show wpAny _ _ (pure (a,[WY b])) _ _ s;refine WA ?_;show wpAny _ _ (Zk "dict.update" a (.ref b) [] .none) _ _ s;unfold Zk;refine Wv (abY zG.typeIs ?_);rw[adG (by decide)];refine Wv ?_;unfold Builtin.Dict.merge;refine Wv ?_;unfold Builtin.Dict.readDirectly;refine Wv (ab4 zG.typeIs isSubtype_dict_dict ?_);simp only[Bool.not_true,W9,if_false];refine Wv (aci zG.typeIs PySem.F.slot_dict_iter.lookup (WA ?_));simp only[beq_self_eq_true,if_true];refine Wv (WA ?_);refine qP (show A.in1.units<cLine by show A.units+1<cLine;omega) NS VW PZ zG JL (λe0=>?_) (by omega) λh' CO Ff=>?_
 ·have e1:aB=[]:=aao.mp (by rw[l1,e0];rfl);have:=hh e1;have e2:(ys.map λy=>(Y0 (bg X.prog X.w)).hash y.1)=ks.map gY:=by
   have e3:more.map (·.1)=ys.map (·.1):=oN (λ_ _ r=>r.1) Jt;rw[show (λy:List Key×Addr×Value=>(Y0 (bg X.prog X.w)).hash y.1)=(Y0 (bg X.prog X.w)).hash∘(·.1) from rfl,<-Xo,<-e3,hk,Xo];exact X2 λk _=>E3 k
  rw[e2];exact this
 ·show wpAny _ _ (abf a []>>=_) _ _ _;refine Wv (WA (WA ⟨.none,rfl,h _ ?_⟩));obtain⟨q,es,ep,hq,h2,h3,h4,_,h5⟩:=CO;have hl:(jL aB more).length<=WX:=by have:=qJ more aB;omega
  refine lP I (by rw[ha];exact YE) Ff ⟨q,hq⟩ ⟨hl,lo1,_,(BM Jt Pl).keeps λc ys ec=>?_,q,es,ep,hq,h2,h3,h4,h5⟩;rw[aA (FK ec ha (λz=>nomatch z))];exact ec
end
def dh(ks:List (List Key))(ds:List D):List (List Key)->List D->List (List Key)×List D
 |k::ks',d::ds'=>dh (dZ ks ds k) (c_ ks ds k d) ks' ds'
 |_,_=>(ks,ds)
def Hb(ks:List (List Key))(ds:List D):D->Option C
 | .dct ks' ds'=>match fg ks' with
   |some ns=>if ds.length+ds'.length<=lim/\(ks.isEmpty=true->(ns.map gY).Nodup) then some (.dct (dh ks ds ks' ds').1 (dh ks ds ks' ds').2) else none
   |none=>none
 |_=>none
def qN{K:WI}:∀{ks':List (List Key)}{ds':List D}{xm:List V}{ks:List (List Key)}{ds:List D}{vs:List V},DenL K F ds' xm->ks'.length=ds'.length->DenL K F ds vs->ks.length=ds.length->
 ∃ws,jL (ks.zip vs) (ks'.zip xm)=(dh ks ds ks' ds').1.zip ws/\DenL K F (dh ks ds ks' ds').2 ws/\(dh ks ds ks' ds').1.length=(dh ks ds ks' ds').2.length
 |[],[],xm,ks,ds,vs,h',_,h,hl=>⟨vs,rfl,h,hl⟩
 |k::ks',d::ds',xm,ks,ds,vs,⟨v,r,e,h1,h2⟩,Ej,h,hl=>by
  subst e;obtain⟨ws,e1,e2,e3⟩:=wo h1 k h hl;obtain⟨us,q1,q2,q3⟩:=qN h2 (by simpa using Ej) e2 e3;refine⟨us,?_,q2,q3⟩;show jL (putK (ks.zip vs) k v) (ks'.zip r)=_;rw[e1];exact q1
 |[],_::_,_,_,_,_,_,Ej,_,_=>by simp at Ej
 |_::_,[],_,_,_,_,_,Ej,_,_=>by simp at Ej
def GA[DecidableEq κ]{k:κ}(hl:ks.length=ds.length):(c_ ks ds k d).length<=ds.length+1:=by
 unfold c_;split
 ·rw[jW ks ds k d hl];omega
 ·simp
def GC[DecidableEq κ]{k:κ}(hl:ks.length=ds.length):(dZ ks ds k).length=(c_ ks ds k d).length:=by
 unfold c_ dZ;split
 ·rw[jW ks ds k d hl];exact hl
 ·simp[hl]
def qO:∀{ks':List (List Key)}{ds':List D}{ks:List (List Key)}{ds:List D},ks.length=ds.length->(dh ks ds ks' ds').2.length<=ds.length+ds'.length
 |[],ds',ks,ds,_=>by show ds.length<=_;omega
 |_::_,[],ks,ds,_=>by show ds.length<=_;simp
 |k::ks',d::ds',ks,ds,hl=>by
  have h1:=qO (ks':=ks') (ds':=ds') (ks:=dZ ks ds k) (ds:=c_ ks ds k d) (GC hl);have h2:=GA (k:=k) (d:=d) hl;show (dh (dZ ks ds k) (c_ ks ds k d) ks' ds').2.length<=_;rw[WE];omega
section
variable{X:Cx}{Xw:Nat->Hp->Prop}{o e:Expr}{δ:DE}{pos p T0 a9:Pos}{x:Str}{i:Nat}
def GP(i:Nat)(δ:DE):DS:=λρ=>match AF ρ i with
 |some (.dct ks ds)=>δ ρ>>=λd=>match Hb ks ds d with
  |some c'=>ae (.nx (ρ.set i (some (.ow c'))))
  |none=>ag
 |_=>ag
def Mp(hu:X.A.units+2<cLine)(ho:PE X o td)(he:PE X e ty)(m:M1 X o "update" T0 e a9):
 PE X (.Call (.Attribute o "update" T0) [e] [] a9) (λσ H Q=>td σ H λx H1=>∃a,x= .ref a/\Nm H1 a/\ty σ H1 λy H2=>∃(b:Addr) (aB more:List (List Key×V)) (ks:List (List Int)),y= .ref b/\H2 a=some (.dT aB)/\Rd H2 b (.dT more)/\a≠b/\more.map (·.1)=ks.map nq/\(aB=[]->(ks.map gY).Nodup)/\aB.length+more.length<=WX/\Q .non (upd H2 a (.dT (jL aB more)))):=by
 intro f8 s σ H Q I h;refine abK m.base m.few m.line Zt abB (by rfl) (ck (ho f8 s σ H _ I h) λu s1 ⟨x,H1,I1,rx,a,ex,d,q1⟩=>?_);subst ex;obtain rfl:u=WY a:=rx;obtain⟨t1,t2,_⟩:=Ah I1 d;refine⟨t1,t2,?_⟩;rw[m.trees];refine Y1 rfl (Zi (Y2 (ck (he f8 s1 σ H1 _ I1 q1) λiv s2 ⟨y,H2,I2,ry,b,aB,more,ks,ey,k1,k2,k3,k4,k5,k6,q2⟩=>ZI ?_)));subst ey;obtain rfl:iv=WY b:=ry;exact EE hu I2 k1 k2 k3 k4 k5 k6 λs3 I3=>⟨.non,_,I3,rfl,q2⟩
def Jm(hu:X.A.units+64<cLine)(hv:PE X (.Name x p) (rZ i))(he:PD X Xw e δ)(m:M1 X (.Name x p) "update" T0 e a9)(hs:aay (.Call (.Attribute (.Name x p) "update" T0) [e] [] a9) none pos.line X.env=pure false:=by rfl):
 iR X Xw (.Expr (.Call (.Attribute (.Name x p) "update" T0) [e] [] a9) pos) (GP i δ):=λs0 adP=>PS.weak (pS (Mp (by omega) hv he m) hs) λD σ H ⟨F,ρ,s,w⟩=>by
 unfold GP at w;split at w
 ·rename_i ks ds Qf;have hi:=uq Qf;obtain⟨v,Ou,a,oh,rfl,hH,hF,vs,rfl,hd,hl,hz⟩:=s.st.den i _ hi;refine⟨.ref a,Ou,a,rfl, .inr ⟨_, .inl hH⟩,F,ρ,s.st,?_⟩;rcases(δ ρ).cs with q | ⟨n,q⟩ | ⟨d,q⟩
  ·rw[q] at w;exact w.elim
  ·rw[q] at w⊢;exact λF' H' e'=>w F' H' (s.ext.trans e')
  ·rw[q] at w⊢;intro u H1 F1 e1 hq;have w:WPS X.K Xw s0 adP (match Hb ks ds d with | some c'=>ae (.nx (ρ.set i (some (.ow c')))) | none=>ag) D:=w;cases d with
   |dct ks' ds'=>
    obtain⟨b,ob,xm,rfl,k2,k3,k4,k5⟩:=hq;cases hc:Hb ks ds (.dct ks' ds') with
    |none=>rw[hc] at w;exact w.elim
    |some c'=>
     rw[hc] at w;have hc:(match fg ks' with | some ns=>if ds.length+ds'.length<=lim/\(ks.isEmpty=true->(ns.map gY).Nodup) then some (C.dct (dh ks ds ks' ds').1 (dh ks ds ks' ds').2) else none | none=>none)=some c':=hc;cases hn:fg ks' with
     |none=>rw[hn] at hc;cases hc
     |some ns=>
      rw[hn] at hc;have hc:(if ds.length+ds'.length<=lim/\(ks.isEmpty=true->(ns.map gY).Nodup) then some (C.dct (dh ks ds ks' ds').1 (dh ks ds ks' ds').2) else none)=some c':=hc;split at hc
      ·rename_i NX;cases hc;have P_:=DenL.mono e1.ff hd;have l1:=P_.len;have l2:=k3.len;have NS:a≠b:=λz=>by
        have:=e1.old hH (λ_ z=>nomatch z);rw[hF,z,k2] at this;cases this
       obtain⟨ws,m1,m2,m3⟩:=qN k3 k4 P_ hl;refine⟨b,ks.zip vs,ks'.zip xm,ns,rfl,e1.hh _ _ hH, .inr ⟨ob,e1.fh _ _ k2⟩,NS,by rw[kH (by rw[k4];exact l2),ki hn],λz=>NX.2 ?_,?_,?_⟩
       ·have:=kH (a:=ks) (b:=vs) (by rw[hl];exact l1);rw[z] at this;rw[<-this];rfl
       ·rw[aaC,aaC];have:=eA;omega
       ·rw[m1];exact w σ F1 _ ((s.ext' e1).chg hi Ou ⟨ws,rfl,m2,m3,by have:=qO (ks':=ks') (ds':=ds') hl;omega⟩)
      ·cases hc
   |_=>exact w.elim
 ·exact w.elim
end
section
variable{X:Cx}{Xw:Nat->Hp->Prop}{o e f:Expr}{δo δe δf:DE}{T0 a9:Pos}{x:Str}
def Fl:D->Bool
 | .dct _ _=>true
 | .dci _ _=>true
 |_=>false
def BE{K:WI}{F H:Hp}{d:D}{x:V}(s:Same F H)(hd:Den K F d x)(e:Fl d=true):∃a,x= .ref a/\Nm H a:=by
 cases d with
 |dct ks ds=>obtain⟨a,ob,vs,rfl,h2,_⟩:=hd;exact⟨a,rfl, .inr ⟨_, .inr ⟨ob,s _ _ h2⟩⟩⟩
 |dci ks ds=>obtain⟨a,ob,vs,rfl,h2,_⟩:=hd;exact⟨a,rfl, .inl ⟨_, .inr ⟨ob,s _ _ h2⟩⟩⟩
 |_=>cases e
def getM(d k v:D):M D:=match Eb d k with
 |some (some x)=>ae x
 |some none=>ae v
 |none=>ag
def NA(δo δe:DE):DE:=λρ=>δo ρ>>=λd=>if Fl d then δe ρ>>=λk=>getM d k .non else ag
def ju(δo δe δf:DE):DE:=λρ=>δo ρ>>=λd=>if Fl d then δe ρ>>=λk=>δf ρ>>=λv=>getM d k v else ag
def xW{F H:Hp}{d k v:D}{a:Addr}{y z:V}{Q:VK}(s:Same F H)(q1:Den X.K F d (.ref a))(q2:Den X.K F k y)(q3:Den X.K F v z)(w:WP X.K Xw F H (getM d k v) Q):∃ov,k_ H a y ov/\Q (ov.getD z) H:=by
 unfold getM at w;cases zJ:Eb d k with
 |none=>rw[zJ] at w;exact w.elim
 |some o'=>
  rw[zJ] at w;obtain⟨a',ov,zz,h2,h3,h4⟩:=uV s q1 q2 zJ;cases zz;refine⟨ov,h2,?_⟩;cases o' with
  |none=>
   cases ov with
   |none=>exact WP.now w s q3
   |some _=>cases h3
  |some d'=>
   obtain⟨v,rfl,hv⟩:=h4 d' rfl;exact WP.now w s hv
def Qp(hu:X.A.units+64<cLine)(ho:PD X Xw o δo)(he:PD X Xw e δe)(m:M1 X o "get" T0 e a9):PD X Xw (.Call (.Attribute o "get" T0) [e] [] a9) (NA δo δe):=
 PE.weak (Gm (by omega) ho he m) λσ H Q ⟨F,ρ,s,w⟩=>by
  refine⟨F,ρ,s,WP.mono (WP.bind w) λx H1 ⟨F1,d,e1,q1,w1⟩=>?_⟩;split at w1
  ·rename_i hd;obtain⟨a,rfl,RM⟩:=BE e1.fh q1 hd;refine⟨a,rfl,RM,F1,ρ,s.ext e1,WP.mono (WP.bind w1) λy H2 ⟨F2,k,e2,q2,w2⟩=>?_⟩;exact xW (v:= .non) (z:= .non) e2.fh (Den.mono e2.ff q1) q2 (show V.non=V.non from rfl) w2
  ·exact w1.elim
def v7(hu:X.A.units+64<cLine)(ho:PD X Xw o δo)(he:PD X Xw e δe)(hf:PD X Xw f δf)(m:M2 X o "get" T0 e f a9):PD X Xw (.Call (.Attribute o "get" T0) [e,f] [] a9) (ju δo δe δf):=
 PE.weak (Gn (by omega) ho he hf m) λσ H Q ⟨F,ρ,s,w⟩=>by
  refine⟨F,ρ,s,WP.mono (WP.bind w) λx H1 ⟨F1,d,e1,q1,w1⟩=>?_⟩;split at w1
  ·rename_i hd;obtain⟨a,rfl,RM⟩:=BE e1.fh q1 hd;refine⟨a,rfl,RM,F1,ρ,s.ext e1,WP.mono (WP.bind w1) λy H2 ⟨F2,k,e2,q2,w2⟩=>?_⟩;refine⟨F2,ρ,(s.ext e1).ext e2,WP.mono (WP.bind w2) λz H3 ⟨F3,v,e3,q3,w3⟩=>?_⟩;exact xW e3.fh (Den.mono e3.ff (Den.mono e2.ff q1)) (Den.mono e3.ff q2) q3 w3
  ·exact w1.elim
end
section
variable{a:Expr}
end
def vi:List Nat->JQ
 |[]=>NP
 |i::is=>J0 (EW i) (vi is)
def AU:List Nat->List D->cQ->cQ
 |i::is,d::ds,ρ=>AU is ds (ρ.set i (some (.fz d)))
 |_,_,ρ=>ρ
def jw(is:List Nat):D->cQ->Option cQ
 | .tup ds,ρ=>if ds.length=is.length then some (AU is ds ρ) else none
 |_,_=>none
def uL{K:WI}{s0 adP F H:Hp}{Q:St->Hp->Prop}:∀(is:List Nat) (ds:List D) (vs:List V) (σ:St) (ρ:cQ),ds.length=is.length->StOk K s0 adP F H σ ρ->DenL K F ds vs->(∀σ',StOk K s0 adP F H σ' (AU is ds ρ)->Q σ' H)->vi is vs σ H Q
 |[],[],vs,σ,ρ,_,s,h,k=>⟨h,k σ s⟩
 |i::is,d::ds,vs,σ,ρ,hl,s,⟨v,r,e,h1,h2⟩,k=>by
  subst e;exact⟨v,r,rfl,uL is ds r _ _ (by simpa using hl) (s.set h1) h2 k⟩
 |[],_::_,_,_,_,hl,_,_,_=>by simp at hl
 |_::_,[],_,_,_,hl,_,_,_=>by simp at hl
def mK{K:WI}{is:List Nat}:Em K (K3 K is.length (vi is)) (jw is):=λs0 adP F H σ ρ ρ' d v Q s q e k=>by
 unfold jw at e;split at e
 ·rename_i ds;split at e
  ·rename_i hl;cases e;obtain⟨a,vs,rfl,hs,hd,_⟩:=q;exact⟨a,vs,rfl,SqT.of (s.st.fh _ _ hs),by rw[<-hd.len];exact hl,uL is ds vs σ ρ hl s hd k⟩
  ·cases e
 ·cases e
def JA:∀{σ' σ:St},1<σ'.length->σ'.drop 2=σ->∀v1 v2:V,(σ'.set 0 (some v1)).set 1 (some v2)=[v1,v2].map some++σ
 |x1::x2::r,_,_,hd,v1,v2=>by subst hd;rfl
 |[],_,h,_,_,_=>by simp at h
 |[_],_,h,_,_,_=>by simp at h
def Iq:∀{ds:List D},ds.length=2->∃a b,ds=[a,b]
 |[a,b],_=>⟨a,b,rfl⟩
 |[],h=>by simp at h
 |[_],h=>by simp at h
 |_::_::_::_,h=>by simp at h
def MR{X:Cx}{x y:Str}{px py pt:Pos}{x1:Nat}{σ:St}(hN:X.N.Nodup)(h0:X.N[0]? =some x)(h1:X.N[1]? =some y)(hx:X.env.scope.names.lookup x=some .local)(hy:X.env.scope.names.lookup y=some .local)(hc:X.calm=true)
 (hn:(Y9 [abG x px, .Name y py] X.env).length=2:=by rfl)(qr:(Y9 [abG x px, .Name y py] X.env).findIdx? (·.1)=none:=by rfl)
 (hs:(Y9 [abG x px, .Name y py] X.env).map (·.2)=assign (.Name x px) X.env::(Y9 [abG y py] X.env).map (·.2):=by rfl)(HY:(Y9 [abG y py] X.env).map (·.2)=assign (.Name y py) X.env::(Y9 [] X.env).map (·.2):=by rfl):Cq X (.Tuple [.Name x px, .Name y py] x1 pt) 2 σ:=λf8 s σ' F H d ts v u I fh hd rv q e=>by
 cases d with
 |tup ds=>
  have e:(if ds.length=2 then ae ds else ag)=ae ts:=e;split at e
  ·rename_i hl;obtain rfl:=gh e;obtain⟨d1,d2,rfl⟩:=Iq hl
   ·obtain⟨a,vs,rfl,Ff,sr,_⟩:=q;obtain⟨v1,v2,rfl,q1,q2⟩:=sr.two;have G:PG X (.Tuple [.Name x px, .Name y py] x1 pt) (K3 X.K 2 (vi [0,1])):=nJ hc (dz (aR hN h0 (.inl hx) (.inr hx)) (dz (aR hN h1 (.inl hy) (.inr hy)) kB HY) hs) hn qr;refine ck (G f8 s σ' H (.ref a) u (λσ2 H2=>H2=H/\σ2=(σ'.set 0 (some v1)).set 1 (some v2)) I rv ⟨a,[v1,v2],rfl,SqT.of (fh _ _ Ff),rfl,v1,[v2],rfl,v2,[],rfl,rfl,rfl,rfl⟩) λ_ s2 ⟨σ2,H2,I2,e1,e2⟩=>?_;subst e1 e2;refine⟨[v1,v2],?_, .cons q1 (.cons q2 .nil)⟩;have hl:1<σ'.length:=by rw[I.len];exact(WQ.mp h1).1
    have:=JA hl (show σ'.drop 2=σ from hd) v1 v2;rw[<-this];exact I2
  ·exact(gU e).elim
 |_=>exact(gU e).elim
section
variable{prog:Xc}{w:World}{A:Xu}{E:Value->WC->Prop}{s:WC}
def Dv{good:Heap->Prop}(hh:A.handled=none)(g6:T≠I)(Hg:S≠I)(UE:S≠T)
 (hg:∀h h',(∀c o,c≠I->c≠S->h.get? c=some o->h'.get? c=some o)->good h->good h')
 (La:∀(h':Heap) (tk:Nat) (Q':Value->WC->Prop) (E':Value->WC->Prop),good h'->Q' (.bool r) {s with heap:=h',toks:=tk}->wpAny (model prog w) A.in1 (aco .Lt b a) Q' E' {s with heap:=h',toks:=tk})
 (hR:∀h' tk,good h'->R (.ok (.ret (if r then b else a))) {s with heap:=h',toks:=tk})(g0:good h0)(qr:h0.IsTupleIter I T 0/\h0.IsTuple T #[a,b])
 (hS:h0.get? S=some {cls:= .type "list",dict:=none,data:= .seq #[] c,slots:= #[]}):
 ZD (model prog w) A (.builtin "min.loop" ⟨[.ref I, .none, .ref S],[]⟩) R {s with heap:=h0,toks:=t0}:=by
 have yb:(aa5 "min"++aa5 ".loop":String)="min.loop":=by decide
 have W:=Walks.tuple (prog:=prog) (w:=w) (A:=A.in1) hh I T g6 #[a,b];have nI:∀{c:Addr},c≠I->c∉[I]:=λq z=>q (XY.mp z);have fr:∀{i:Nat}{h:Heap}{f:Obj->Obj},(h.IsTupleIter I T i/\h.IsTuple T #[a,b])->((h.update S f).IsTupleIter I T i/\(h.update S f).IsTuple T #[a,b]):=λ{i h f} q=>W.frame _ _ _ q λc hc o e=>(Yx _ _ (λz:S=c=>by
  subst z;rcases WG.mp hc with z | z
  ·exact Hg z
  ·exact UE (XY.mp z))).trans e
 have up:∀{h:Heap}{f:Obj->Obj},good h->good (h.update S f):=λq=>hg _ _ (λc o _ hc e=>(Yx _ _ (XD hc)).trans e) q;refine Yn abU ?_;rw[XT Y7 _];show wpAny _ A.in1 (seqItems? (.ref S)>>=_) _ _ _;refine Wv (abg hS rfl ?_);show wpAny _ A.in1 (ac6 (ZN (.ref I)) _>>=_) _ _ _;refine Wv (aar (W.item 0 _ _ _ (by simp) qr λv h1 t1 hP AX k1=>?_));have hv:v=a:=(Xg hP).symm;subst hv;have S1:=k1 S _ (nI Hg) hS;have g1:good h1:=hg _ _ (λc o hc _ e=>k1 c o (nI hc) e) g0;show wpAny _ A.in1 (ack S (λ_=> #[v,v])>>=_) _ _ _;refine Wv ?_;refine ZL S1 rfl ?_;rw[yb];refine WA ⟨YS Y7 _,?_⟩;refine Yn abU ?_;rw[XT Y7 _];show wpAny _ A.in1 (seqItems? (.ref S)>>=_) _ _ _;refine Wv (abg (XF _ S1 rfl) rfl ?_);show wpAny _ A.in1 (ac6 (ZN (.ref I)) _>>=_) _ _ _;refine Wv (aar (W.item 1 _ _ _ (by simp) (fr AX) λu h2 t2 UA xl k2=>?_));have hu:u=b:=(Xg UA).symm;subst hu;have S2:=k2 S _ (nI Hg) (XF _ S1 rfl);have g2:good h2:=hg _ _ (λc o hc _ e=>k2 c o (nI hc) e) (up g1);show wpAny _ A.in1 (ac6 (holding [u,u] (aco .Lt u v>>=_)) _>>=_) _ _ _;refine Wv (aar (X5 (Wv (La _ _ _ _ g2 ?_))));refine Wv (X5 (XW ?_));refine Wv (abm (WA ?_));have last:∀{h3:Heap}{t3 c3:Nat}{x y:Value},x=(if r then u else v)->good h3->(h3.IsTupleIter I T 2/\h3.IsTuple T #[v,u])->h3.get? S=some {cls:= .type "list",dict:=none,data:= .seq #[x,y] c3,slots:= #[]}->
  ZD (model prog w) A (.builtin "min.loop" ⟨[.ref I, .none, .ref S],[]⟩) R {s with heap:=h3,toks:=t3}:=λ{h3 t3 c3 x y} ex g3 Kn S3=>by
  refine Yn abU ?_;rw[XT Y7 _];show wpAny _ A.in1 (seqItems? (.ref S)>>=_) _ _ _;refine Wv (abg S3 rfl ?_);show wpAny _ A.in1 (ac6 (ZN (.ref I)) _>>=_) _ _ _;refine Wv (aar (W.done _ _ _ Kn λh4 t4 k4=>?_));have S4:=k4 S _ (nI Hg) S3;show wpAny _ A.in1 (ack S (λ_=> #[])>>=_) _ _ _;refine Wv ?_;refine ZL S4 rfl (Wv (abm (WA ?_)));rw[ex];exact hR _ _ (up (hg _ _ (λc o hc _ e=>k4 c o (nI hc) e) g3))
 cases hr:r with
 |true=>
  simp only[if_true];refine Wv ?_;refine ZL S2 rfl (Wv (abm ?_));rw[yb];exact WA ⟨YS Y7 _,last (by rw[hr];rfl) (up g2) (fr xl) (XF _ S2 rfl)⟩
 |false=>
  simp only[W9,if_false];refine Wv (abm ?_);rw[yb];exact WA ⟨YS Y7 _,last (by rw[hr];rfl) g2 xl S2⟩
def yw{Q:Value->WC->Prop}(hh:A.handled=none)
 (La:∀(h':Heap) (tk:Nat) (Q':Value->WC->Prop) (E':Value->WC->Prop),(∀c o,s.heap.get? c=some o->h'.get? c=some o)->Q' (.bool r) {s with heap:=h',toks:=tk}->wpAny (model prog w) A.in1 (aco .Lt b a) Q' E' {s with heap:=h',toks:=tk})
 (h:∀h' tk,(∀c o,s.heap.get? c=some o->h'.get? c=some o)->Q (if r then b else a) {s with heap:=h',toks:=tk}):
 wpAny (model prog w) A (call (.builtin "min") [a,b]) Q E s:=by
 have yb:(aa5 "min"++aa5 ".loop":String)="min.loop":=by decide
 have hT:(s.heap.push {cls:= .type "tuple",data:= .seq #[a,b]}).IsTuple s.heap.objs.size #[a,b]:=⟨_,WN _ rfl,rfl,0,rfl⟩
 have hsz:(s.heap.push {cls:= .type "tuple",data:= .seq #[a,b]}).objs.size=s.heap.objs.size+1:=YO ..;refine call_function_tree F.kind_min F.plain_min F.entry_min (F.args_min2 _ _) ?_;show wpAny _ A.in1 (aaG "min" ["key","default"] 0 ⟨[],[]⟩>>=_) _ _ s;refine Wv (wpAny_of_eq (show aaG "min" ["key","default"] 0 ⟨[],[]⟩=pure [none,none] from rfl) ?_);show wpAny _ A.in1 (newTuple [a,b]>>=_) _ _ s;refine Wv (XX ?_);refine Wv (wpAny_pyIter_tuple hT ?_);refine Wv (XX ?_);rw[yb];refine WA ⟨YS Y7 _,?_⟩;have TN:∀{c:Addr}{o:Obj},s.heap.get? c=some o->c<s.heap.objs.size:=λe=>WH e;refine Dv hh (T:=s.heap.objs.size) ?_ ?_ ?_ (λh1 h2 k g c o e=>k c o ?_ ?_ (g c o e)) La (λh' tk g=>h h' tk g) (λc o e=>Wx _ (Wx _ (Wx _ e))) ⟨?_,?_⟩ (WN _ rfl)
 ·rw[hsz];exact W4 (Zq _)
 ·rw[YO];exact Xy (Zq _)
 ·rw[YO,hsz];exact Xy (aal (Zq _))
 ·have:=TN e;rw[hsz];exact W4 (aal this)
 ·have:=TN e;rw[YO,hsz];exact W4 (aal (aal this))
 ·exact⟨_,Wx _ (WN _ rfl),rfl,rfl⟩
 ·exact(hT.push _).push _
end
def vG:aa4 (.type "list") "keys"=pure none:=by rw[typeLookup_type,builtinLookup_eq_fast];kernel_rfl
def eN:entryFor table "dict.update.loop"=some Z8.«dict.update.loop» :=entryFor_of_tree (by kernel_rfl)
def cf:plainId "dict.update.loop"=true:=by decide+kernel
def sH:(ZF "list" !=ZF "dict")=true:=by decide
section
variable{prog:Xc}{w:World}{A:Xu}{E:Value->WC->Prop}{s:WC}
def vz{Q:Option Value->WC->Prop}(hx:s.heap.get? a=some o)(hc:o.cls= .type "list")(vm:o.data= .seq xs k)(hd:o.dict=none)(hA:A.handled=none)
 (h:∀h' tk,(∀b ob,s.heap.get? b=some ob->h'.get? b=some ob)->Q none {s with heap:=h',toks:=tk}):wpAny (model prog w) A (getAttr? (.ref a) "keys") Q E s:=by
 obtain⟨c,dct,dat,sl⟩:=o;simp only at hc vm hd;subst hc vm hd;obtain⟨hp,g,d,tk,os⟩:=s;have hT:∀Qv,(⟨hp,g,d,Qv,os⟩:WC).TypeIs (.ref a) "list":=λ_=>⟨_,hx,rfl⟩
 have f1:=sub_AttributeError;have f3:=F.slot_list_getattribute.lookup;have f4:=F.slot_list_getattribute.bind (.ref a);have f5:=am_list_getattr_none;unfold getAttr? getAttrBy? getAttrBy
 repeat (any_goals (first | assumption | exact hT _ | ((with_reducible show wpAny _ _ (call (Zv "list.__getattribute__") _ _) _ _ _);refine aab F.slot_list_getattribute (hT _) am_entry_list_getattribute (F.args_list_getattribute_2 _ _) (meets_getattribute_miss_list a xs k sl "keys" _ vG (by decide) (by size_fits)) ⟨hx,hA,λh' Qv e H8=>?_⟩) | wp_step))
 obtain⟨t',u',he⟩:=H8.there;show wpAny _ _ (getattributeRaised _ _ _ _ _ _ _) _ _ _;unfold getattributeRaised
 repeat (any_goals (first | assumption | wp_step))
 exact h _ _ λb ob e=>H8.keeps b ob e
abbrev Kb(prog:Xc)(w:World):HeapKind prog w (List Key):=Y0 (bg prog w)
def DictOfH.at'{h h':Heap}{xs:List (List Key×Addr×Value)}(x:h.DictOfH (Kb prog w) d xs)(k:∀c o,h.get? c=some o->(c=d\/∃y∈xs,y.2.1=c)->h'.get? c=some o):h'.DictOfH (Kb prog w) d xs:=by
 obtain⟨o,es,ep,h1,h2,h3,h4,h5,h6⟩:=x;refine⟨o,es,ep,k _ _ h1 (.inl rfl),h2,h3,h4,λy hy=>?_,h6⟩;obtain⟨oa,items,n,a1,a2⟩:=h5 y hy;exact⟨oa,items,n,k _ _ a1 (.inr ⟨y,hy,rfl⟩),a2⟩
def wV{x:List Key×Addr×Value}(h:x∈Z4 xs k a v):(∃z∈xs,z.2.1=x.2.1)\/x.2.1=a:=by
 unfold Z4 at h;split at h
 ·obtain⟨z,hz,rfl⟩:=WM.mp h;refine .inl ⟨z,hz,?_⟩;unfold putAt;split<;>rfl
 ·rcases XI.mp h with h | h
  ·exact .inl ⟨x,h,rfl⟩
  ·rw[XY.mp h];exact .inr rfl
def ma:∀(ys u8:List (List Key×Addr×Value)) {x:List Key×Addr×Value},x∈bR u8 ys->(∃z∈u8,z.2.1=x.2.1)\/∃z∈ys,z.2.1=x.2.1
 |[],u8,x,h=> .inl ⟨x,h,rfl⟩
 |y::ys,u8,x,h=>by
  rcases ma ys (Z4 u8 y.1 y.2.1 y.2.2) h with⟨z,hz,e⟩ | ⟨z,hz,e⟩
  ·rcases wV hz with⟨q,hq,e2⟩ | e2
   ·exact .inl ⟨q,hq,e2.trans e⟩
   ·exact .inr ⟨y,WB ..,e2.symm.trans e⟩
  ·exact .inr ⟨z,Wz _ hz,e⟩
def yR{D I L:Addr}{vs:List Value}(hh:A.handled=none)(hu:A.units+1<cLine)(Uy:L≠I)(QS:D≠I)(Uv:old.get? I=none)(Us:old.get? D=none)(hL:old.IsList L vs.toArray)
 (pairs:∀i,i<vs.length->∃p y,vs[i]? =some (.ref p)/\ys[i]? =some y/\old.IsTuple p #[.ref y.2.1,y.2.2]/\ac3 (bg prog w) old y.1 y.2.1)(hsz:ys.length<=WX)(hl:ys.length=vs.length)
 (hR:∀h' tk,(∀c o,old.get? c=some o->h'.get? c=some o)->h'.DictOfH (Kb prog w) D (bR [] ys)->R (.ok (.ret .none)) {s with heap:=h',toks:=tk}):
 ∀(r i:Nat) (h:Heap) (tk:Nat) (j:Int) (tj:Tok),vs.length - i=r->i<=vs.length->(∀c o,old.get? c=some o->h.get? c=some o)->h.IsListIter I L i->h.DictOfH (Kb prog w) D (bR [] (ys.take i))->
  ZD (model prog w) A (.builtin "dict.update.loop" ⟨[.ref D, .ref I, .int j tj, .none],[]⟩) R {s with heap:=h,toks:=tk}:=by
 have W:=adb (prog:=prog) (w:=w) (A:=A.in1) hh I L Uy vs.toArray;have Oj:vs.toArray.size=vs.length:=WJ ..;have nI:∀{c:Addr},c≠I->c∉[I]:=λq z=>q (XY.mp z);have IG:∀{c:Addr}{o:Obj},old.get? c=some o->c≠I:=λe z=>by rw[z,Uv] at e;cases e
 have RY:∀{c:Addr}{o:Obj},old.get? c=some o->c≠D:=λe z=>by rw[z,Us] at e;cases e
 have listAt:∀{h:Heap},(∀c o,old.get? c=some o->h.get? c=some o)->h.IsList L vs.toArray:=λ{h} k=>by
  obtain⟨o,e,q⟩:=hL;exact⟨o,k _ _ e,q⟩
 have RZ:∀y∈ys,∃o,old.get? y.2.1=some o:=λy hy=>by
  obtain⟨i,hi,rfl⟩:=Zr hy;obtain⟨p,y,_,ey,_,⟨o,_,_,e,_⟩⟩:=pairs i (by omega);rw[Wy hi] at ey;cases ey;exact⟨o,e⟩
 have OV:∀{i:Nat}(x:List Key×Addr×Value),x∈bR [] (ys.take i)->∃o,old.get? x.2.1=some o:=λ{i} x hx=>by
  rcases ma _ _ hx with⟨z,hz,_⟩ | ⟨z,hz,e⟩
  ·cases hz
  ·rw[<-e];exact RZ z (List.mem_of_mem_take hz)
 intro r;induction r with
 |zero=>
  intro i h tk j tj hr hi k it dd;have x_:i=vs.length:=by omega
  refine Yn eN ?_;rw[XT cf _];show wpAny _ A.in1 (ZN (.ref I)>>=_) _ _ _;refine Wv (W.done _ _ _ ⟨by rw[Oj,<-x_];exact it,listAt k⟩ λh1 t1 k1=>?_);show wpAny _ A.in1 (abf D []>>=_) _ _ _;refine Wv (WA (WA ?_));have CO:h.DictOfH (Kb prog w) D (bR [] ys):=by
   rw[x_,<-hl,abu] at dd;exact dd
  refine hR _ _ (λc o e=>k1 c o (nI (IG e)) (k c o e)) (DictOfH.at' CO λc o e hc=>k1 c o (nI ?_) e);rcases hc with rfl | ⟨x,hx,rfl⟩
  ·exact QS
  ·exact OV x (by rw[abu];exact hx) |>.elim λo e=>IG e
 |succ r ih=>
  intro i h tk j tj hr hi k it dd;have fM:i<vs.length:=by omega
  obtain⟨p,y,ep,ey,tp,ky⟩:=pairs i fM;refine Yn eN ?_;rw[XT cf _];show wpAny _ A.in1 (ZN (.ref I)>>=_) _ _ _;refine Wv (W.item i _ _ _ (by rw[Oj];exact fM) ⟨it,listAt k⟩ λv h1 t1 hP AX k1=>?_);have hv:v= .ref p:=by
   have:vs[i]? =some v:=by simpa using hP
   rw[ep] at this;exact(Xg this).symm
  subst hv;have OH:∀c o,old.get? c=some o->h1.get? c=some o:=λc o e=>k1 c o (nI (IG e)) (k c o e);show wpAny _ A.in1 (holding [WY p] (ac6 (abp (.ref p)) _>>=_)>>=_) _ _ _;have PZ:h1.DictOfH (Kb prog w) D (bR [] (ys.take i)):=DictOfH.at' dd λc o e hc=>k1 c o (nI (by
   rcases hc with rfl | ⟨x,hx,rfl⟩
   ·exact QS
   ·obtain⟨o',e'⟩:=OV x hx;exact IG e')) e
  obtain⟨op,eo,UK,np,UN⟩:=tp;have TX:=OH _ _ eo;refine Wv (X5 (Wv (aar ?_)));unfold abp;refine Wv (abY ⟨op,TX,UK⟩ ?_);rw[adF (by decide)];refine Wv (abg TX UN (WA ?_));show wpAny _ A.in1 (holding [WY y.2.1,y.2.2] (dictSet D (.ref y.2.1) y.2.2)) _ _ _;have VU:ac3 (bg prog w) h1 y.1 y.2.1:=by
   obtain⟨oa,items,n,a1,a2⟩:=ky;exact⟨oa,items,n,OH _ _ a1,a2⟩
  have hz:(bR [] (ys.take i)).length<=WX:=by
   have:=jM (ys.take i) ([]:List (List Key×Addr×Value));rw[aau] at this;have h3:min i ys.length<=ys.length:=Nat.min_le_right ..;simp only[Xx] at this;omega
  refine X5 (wpAny_dictSet_heap (show A.in1.units<cLine from hu) VU PZ λh2 zG HY=>?_);show wpAny _ A.in1 (pure (Fin.again (.builtin "dict.update.loop" ⟨[.ref D, .ref I,aae (j+1), .none],[]⟩))) _ _ _;refine WA ⟨YS cf _,?_⟩;rw[<-md ey] at zG;refine ih (i+1) h2 _ _ _ (by omega) (by omega) (λc o e=>?_) ?_ zG
  ·rw[HY.2 c (RY e)];exact OH c o e
  ·obtain⟨oI,eI,q⟩:=AX.1;exact⟨oI,by rw[HY.2 I (XD QS)];exact eI,q⟩
def o_{L:Addr}{n:Nat}{vs:List Value}(hA:A.handled=none)(hu:A.units+8<cLine)(hx:s.heap.get? L=some o)(hc:o.cls= .type "list")(vm:o.data= .seq vs.toArray n)(hd:o.dict=none)
 (pairs:∀i,i<vs.length->∃p y,vs[i]? =some (.ref p)/\ys[i]? =some y/\s.heap.IsTuple p #[.ref y.2.1,y.2.2]/\ac3 (bg prog w) s.heap y.1 y.2.1)(hsz:ys.length<=WX)(hl:ys.length=vs.length)
 (h:∀h' tk,(∀c o,s.heap.get? c=some o->h'.get? c=some o)->h'.DictOfH (Kb prog w) s.heap.objs.size (bR [] ys)->Q (.ref s.heap.objs.size) {s with heap:=h',toks:=tk}):
 wpAny (model prog w) A (call (.type "dict") [.ref L]) Q E s:=by
 refine callType_codes (Q₁:=λobj v6=>obj= .ref s.heap.objs.size/\v6={s with heap:=s.heap.push {cls:= .type "dict",data:= .dict #[]} }) F.kt_called_dict (F.kt_typeCall_dict_1 _) F.entry_dict_init (kt_code_dict_new _ ⟨rfl,rfl⟩) ?_;rintro obj v6 ⟨rfl,rfl⟩;have pk:(s.heap.push {cls:= .type "dict",data:= .dict #[]}).DictOfH (Kb prog w) s.heap.objs.size []:=⟨_,#[],0,WN _ rfl,⟨rfl,rfl,rfl⟩,rfl,rfl,λx hx=>(by cases hx),YN⟩
 have hT:({s with heap:=s.heap.push {cls:= .type "dict",data:= .dict #[]} }:WC).TypeIs (.ref s.heap.objs.size) "dict":=⟨_,WN _ rfl,rfl⟩
 refine⟨hT,F.args_dict_init_2 _ _,?_⟩;have H8:(s.heap.push {cls:= .type "dict",data:= .dict #[]}).get? L=some o:=Wx _ hx;unfold Z8.«dict.__init__»;refine Wv ?_;unfold abe;refine Wv (Z1 hT ?_);show wpAny _ _ (pure (s.heap.objs.size,[WY L])) _ _ _;refine WA ?_;show wpAny _ _ (Zk "dict.__init__" s.heap.objs.size (.ref L) [] .none) _ _ _;unfold Zk;refine Wv (abY ⟨o,H8,hc⟩ ?_);rw[adF sH];refine Wv (vz H8 hc vm hd (by exact hA) λh1 t1 k1=>?_);show wpAny _ _ (rule _>>=_) _ _ _;refine Wv (acW ?_);have Ux:h1.IsList L vs.toArray:=⟨o,k1 _ _ H8,hc,n,vm⟩
 refine Wv (aax Ux ?_);refine WA ⟨YS cf _,?_⟩;have OH:∀c ob,s.heap.get? c=some ob->h1.get? c=some ob:=λc ob e=>k1 c ob (Wx _ e);have BP:∀{c:Addr},s.heap.objs.size<=c->s.heap.get? c=none:=λ{c} hc=>by
  cases e:s.heap.get? c with
  |none=>rfl
  |some ob=>exact adK (WH e) (Nat.not_lt.mpr hc)
 have nD:s.heap.get? s.heap.objs.size=none:=BP (WO _);have E9:L<h1.objs.size:=WH (k1 _ _ H8);have TQ:s.heap.objs.size<h1.objs.size:=WH (k1 _ _ (WN _ rfl));refine yR (by exact hA) (by show A.units+1+1<cLine;omega) (W4 E9) (W4 TQ) (BP (Yc TQ)) nD ⟨o,hx,hc,n,vm⟩ pairs hsz hl (λh' tk k dd=>⟨rfl,h h' tk k dd⟩) vs.length 0 _ _ _ _ rfl (Xq _) (λc ob e=>Wx _ (OH c ob e)) ⟨_,WN _ rfl,rfl,rfl⟩ ?_;refine DictOfH.at' pk λc ob e hc=>Wx _ (k1 c ob e)
end
def Nd:D->D->Option Bool
 | .tup xs, .tup ys=>match nums xs,nums ys with
   |some a,some b=>some (HT.lexLt a b)
   |_,_=>none
 |_,_=>none
def Ab(x y:D):M D:=match Nd x y with | some b=>ae (.bl b) | none=>ag
def yu:List D->M D
 |[x,y]=>match Nd y x with | some b=>ae (if b then y else x) | none=>ag
 |_=>ag
section
variable{X:Cx}{Xw:Nat->Hp->Prop}{a b e e2:Expr}{δa δb:DE}{δs:DA}{p pos:Pos}
def BL{K:WI}(e:Nd x y=some r)(hx:Den K F x v)(hy:Den K F y u):∃a b ns ms,v= .ref a/\u= .ref b/\F a=some (.tup (ns.map V.int))/\F b=some (.tup (ms.map V.int))/\r=HT.lexLt ns ms:=by
 unfold Nd at e;split at e
 ·rename_i xs ys;obtain⟨a,vs,rfl,h2,h3,h4⟩:=hx;obtain⟨b,us,rfl,k2,k3,k4⟩:=hy;split at e
  ·rename_i ns ms e1 e2;cases eP e1 h3;cases eP e2 k3;cases e;exact⟨a,b,ns,ms,rfl,rfl,h2,k2,rfl⟩
  ·cases e
 ·cases e
def IP{K:WI}:xi K (Pg K) Ab:=λXw F H x y dx dy Q s hx hy w=>by
 unfold Ab at w;split at w
 ·rename_i r e;obtain⟨a,b,ns,ms,rfl,rfl,h1,h2,rfl⟩:=BL e hx hy;exact⟨a,b,ns,ms,rfl,rfl,SqT.of (s _ _ h1),SqT.of (s _ _ h2),WP.now w s rfl⟩
 ·exact w.elim
def Mx(hu:X.A.units+64<cLine)(ha:PD X Xw a δa)(hb:PD X Xw b δb):pL X Xw (.Compare a [.Lt] [b] pos) (cW (d2 Ab δa δb)):=gf (L4 (by omega)) IP ha hb
def Ph(K:WI):List V->Hp->VK->Prop:=λxs H Q=>∃a b ns ms,xs=[.ref a, .ref b]/\SqT K H a (ns.map V.int)/\SqT K H b (ms.map V.int)/\Q (if HT.lexLt ms ns then .ref b else .ref a) H
def CG(hc:X.calm=true)(hu:X.A.units+64<cLine):CallR X (.builtin "min") (Ph X.K):=by
 intro f8 s σ H xs us Q I r h;obtain⟨a,b,ns,ms,rfl,ha,hb,q⟩:=h;obtain⟨u,w',rfl,rx,ry⟩:=vals2 r;cases rx;cases ry;obtain⟨aI,r1,p1,_⟩:=I.tuple ha;obtain⟨fZ,r2,p2,_⟩:=I.tuple hb;have i1:YH aI.toArray.toList ns:=intsAre_of r1;have i2:YH fZ.toArray.toList ms:=intsAre_of r2;refine yw (r:=HT.lexLt ms ns) (I.ok.hd hc) (λh' tk Q' E' k hq=>?_) λh' tk k=>⟨_,H,I.kept k,?_,q⟩
 ·obtain⟨o1,e1,q1⟩:=p1;obtain⟨o2,e2,q2⟩:=p2;exact HT.lt_tupInts (s:={s with heap:=h',toks:=tk}) ⟨o2,k _ _ e2,q2⟩ ⟨o1,k _ _ e1,q1⟩ i2 i1 (by show X.A.units+1<cLine;omega) hq
 ·cases HT.lexLt ms ns<;>rfl
def IW(hu:X.A.units+64<cLine)(hc:X.calm=true)(hg:Gl X "min")(hm:X.mg "min"=none)(hb:Xl "min"=some (.builtin "min"))(ha:jz X Xw [e,e2] δs)(he:WS [e,e2] X.env=(false,eval e X.env)::WS [e2] X.env:=by rfl)
 (kL:(Yt pos (WS [e2] X.env)).any (·.1)=false:=by rfl):PD X Xw (.Call (.Name "min" p) [e,e2] [] pos) (dA yu δs):=
 dw (CG hc hu) (λXw F H vs ds Q s h w=>by
  unfold yu at w;split at w
  ·rename_i x y;obtain⟨v,v',rfl,h1,h2⟩:=h.two;split at w
   ·rename_i r e;obtain⟨b,a,ms,ns,rfl,rfl,k1,k2,rfl⟩:=BL e h2 h1;refine⟨a,b,ns,ms,rfl,SqT.of (s _ _ k2),SqT.of (s _ _ k1),?_⟩;cases hl:HT.lexLt ms ns with
    |true=>rw[hl] at w;exact WP.now w s h2
    |false=>rw[hl] at w;exact WP.now w s h1
   ·exact w.elim
  ·exact w.elim) hg hm hb ha (by decide) (by decide) he kL
def lG:List D->Option (List (List Key)×List D)
 |[]=>some ([],[])
 | .tup [k,v]::r=>match eF k,lG r with
   |some kk,some q=>some (kk::q.1,v::q.2)
   |_,_=>none
 |_=>none
def Bo:List D->M C
 |[.lst ds]=>match lG ds with
  |some q=>if q.1.Nodup/\q.2.length<=lim then ae (.dct q.1 q.2) else ag
  |none=>ag
 |_=>ag
def MC:List V->Hp->VK->Prop:=λxs H Q=>∃(a:Addr) (ps:List (Addr×List Key×Addr×V)),xs=[.ref a]/\H a=some (.lst (ps.map λp=>V.ref p.1))/\(∀p∈ps,H p.1=some (.tup [.ref p.2.2.1,p.2.2.2])/\H p.2.2.1=some (.tup (p.2.1.map kV)))/\
 (ps.map (·.2.1)).Nodup/\ps.length<=WX/\∀q,H q=none->Q (.ref q) (upd H q (.dT (ps.map λp=>(p.2.1,p.2.2.2))))
def pairs_at{P:Xc}(ok:HOk P w H h):∀(ps:List (Addr×List Key×Addr×V)) (us:List Value),Vals (ps.map λp=>V.ref p.1) us->(∀p∈ps,H p.1=some (.tup [.ref p.2.2.1,p.2.2.2])/\H p.2.2.1=some (.tup (p.2.1.map kV)))->
 ∃ys:List (List Key×Addr×Value),ys.length=us.length/\ys.map (·.1)=ps.map (·.2.1)/\(∀i,i<us.length->∃p y,us[i]? =some (.ref p)/\ys[i]? =some y/\h.IsTuple p #[.ref y.2.1,y.2.2]/\ac3 (bg P w) h y.1 y.2.1)/\
  abj (λ(p:List Key×V) (q:List Key×Addr×Value)=>p.1=q.1/\H q.2.1=some (.tup (p.1.map kV))/\RelV p.2 q.2.2) (ps.map λp=>(p.2.1,p.2.2.2)) ys
 |[],_, .nil,_=>⟨[],rfl,rfl,λi hi=>adK hi (Nat.not_lt_zero _), .nil⟩
 |p::ps,u::us, .cons r rs,hp=>by
  obtain⟨ys,l1,l2,l3,l4⟩:=pairs_at ok ps us rs λq hq=>hp q (Wz _ hq);obtain⟨e1,e2⟩:=hp p (WB ..);have hr:u= .ref p.1:=r;obtain⟨_,aI,rv,o,h1,h2,n,h3⟩:=(show ObjOk P w H h p.1 (.tup [.ref p.2.2.1,p.2.2.2]) from ok _ _ e1)
  obtain⟨x,y,rfl,rx,ry⟩:=vals2 rv;have hx:x= .ref p.2.2.1:=rx;subst hx;refine⟨(p.2.1,p.2.2.1,y)::ys,by simp[l1],by simp[l2],λi hi=>?_, .cons ⟨rfl,e2,ry⟩ l4⟩;cases i with
  |zero=>exact⟨p.1,_,by rw[hr];rfl,rfl,⟨o,h1,h2,n,h3⟩,i6 ok e2⟩
  |succ i=>
   obtain⟨q,y',a1,a2,a3⟩:=l3 i (by simpa using hi);exact⟨q,y',by simpa using a1,by simpa using a2,a3⟩
def zY(hc:X.calm=true)(hu:X.A.units+64<cLine):CallR X (.type "dict") MC:=by
 intro f8 s σ H xs us Q I r h;obtain⟨a,ps,rfl,ha,hp,hn,hz,q⟩:=h;obtain⟨u,rfl,rx⟩:=vals1 r;cases rx;obtain⟨_,aI,n,rv,e⟩:=(show ObjOk X.prog X.w H s.heap a (.lst _) from I.hok _ _ ha)
 obtain⟨ys,l1,l2,l3,l4⟩:=pairs_at I.hok ps aI rv hp;have Wo:ys.length=ps.length:=by
  have:=adM ac1 l2;simpa using this
 have Fb:(ys.map (·.1)).Nodup:=by rw[l2];exact hn
 refine o_ (vs:=aI) (I.ok.hd hc) (by omega) e rfl rfl rfl l3 (by omega) l1 λh' tk k dd=>?_;rw[jN ys [] (by simpa using Fb),Xa] at dd;obtain⟨o,es,ep,d1,d2,d3,d4,_,d5⟩:=dd;refine⟨.ref s.heap.objs.size,_,I.laid k (WO _) (o:= .dT (ps.map λp=>(p.2.1,p.2.2.2))) ⟨by rw[Ww];exact hz,?_,ys,?_,o,es,ep,d1,d2,d3,d4,d5⟩,rfl,q _ (I.hok.fresh (WO _))⟩
 ·have:=I.big;exact beq_false_of_ne (Xy this)
 ·refine Paired.mapP l4 λx y z=>⟨z.1,?_,z.2.2⟩
  rw[aA (λzz=>?_)]
  ·exact z.2.1
  ·have:=I.hok.fresh (WO _);rw[<-zz,z.2.1] at this;cases this
def uw{K:WI}{F:Hp}:∀{ds:List D}{vs:List V}{q:List (List Key)×List D},lG ds=some q->DenL K F ds vs->∃ps:List (Addr×List Key×Addr×V),vs=ps.map (λp=>V.ref p.1)/\(∀p∈ps,F p.1=some (.tup [.ref p.2.2.1,p.2.2.2])/\F p.2.2.1=some (.tup (p.2.1.map kV)))/\
 ps.map (·.2.1)=q.1/\DenL K F q.2 (ps.map (·.2.2.2))/\q.1.length=q.2.length
 |[],_,_,e,h=>by
  cases e;cases (show _=_ from h);exact⟨[],rfl,(λp hp=>(by cases hp)),rfl,rfl,rfl⟩
 |d::ds,_,q,e,⟨v,r,h1,h2,h3⟩=>by
  unfold lG at e;split at e
  ·cases ‹_::_=[]›
  ·rename_i k x r' heq;cases heq;split at e
   ·rename_i kk q' e1 e2;cases e;obtain⟨ps,i1,i2,i3,i4,i5⟩:=uw e2 h3;obtain⟨b,ws,rfl,b2,b3,b4⟩:=h2;obtain⟨kv,r1,rfl,k1,r2⟩:=b3;obtain⟨xv,r3,rfl,x1,r4⟩:=r2;cases (show _=_ from r4);unfold eF at e1;split at e1
    ·obtain⟨c,ws,rfl,c2,c3,c4⟩:=k1;have e5:=iH e1 c3;subst e5;refine⟨(b,kk,c,xv)::ps,by rw[h1,i1];rfl,λp hp=>?_,by simp[i3],⟨xv,_,rfl,x1,i4⟩,by simp[i5]⟩;rcases WG.mp hp with rfl | hp
     ·exact⟨b2,c2⟩
     ·exact i2 p hp
    ·cases e1
   ·cases e
  ·cases e
def zw{α β γ:Type}(f:α->β)(g:α->γ):∀l:List α,(l.map f).zip (l.map g)=l.map λx=>(f x,g x)
 |[]=>rfl
 |a::l=>by rw[WD,WD,YK,zw f g l];rfl
def Gh(hu:X.A.units+64<cLine)(hc:X.calm=true)(hg:Gl X "dict")(hm:X.mg "dict"=none)(hb:Xl "dict"=some (.type "dict"))(ha:jz X Xw [e] δs)(he:WS [e] X.env=[(false,eval e X.env)]:=by rfl):
 QD X Xw (.Call (.Name "dict" p) [e] [] pos) (λρ=>δs ρ>>=Bo):=
 PE.weak (uz (zY hc hu) hg hm hb ha (by decide) (by decide) he rfl) λσ H Q ⟨F,ρ,s,w⟩=>by
  refine⟨F,ρ,s,WPL.mono (WPF.bindL w) λvs H1 ⟨F1,ds,e1,q1,w1⟩=>?_⟩;unfold Bo at w1;split at w1
  ·rename_i ds;obtain⟨v,rfl,h1⟩:=q1.one;obtain⟨a,ws,rfl,h2,h3,h4⟩:=h1;split at w1
   ·rename_i q eq;split at w1
    ·rename_i hq;obtain⟨ps,rfl,i2,i3,i4,i5⟩:=uw eq h3;have P3:ps.length=q.2.length:=by rw[<-i5,<-i3,Ww]
     refine⟨a,ps,rfl,e1.fh _ _ h2,λp hp=>⟨e1.fh _ _ (i2 p hp).1,e1.fh _ _ (i2 p hp).2⟩,by rw[i3];exact hq.1,?_,λr hr=>?_⟩
     ·have:=eA;have:=hq.2;omega
     obtain⟨E,nF⟩:=Ext.fresh (o:= .dT (ps.map λp=>(p.2.1,p.2.2.2))) e1.fh hr;refine w1 r _ _ F1 E aP nF hr ⟨ps.map (·.2.2.2),?_,i4,i5,hq.2⟩;rw[<-i3,zw]
    ·exact w1.elim
   ·exact w1.elim
  ·exact w1.elim
end
mutual
def tO:D->Bool
 | .non=>true
 | .bl _=>true
 | .int _=>true
 | .str _=>true
 | .tup ds=>qb ds
 | .lst ds=>qb ds
 | .raw _=>false
 | .exc _=>false
 | .scr _=>false
 | .dct _ _=>false
 | .dci _ _=>false
def qb:List D->Bool
 |[]=>true
 |d::ds=>tO d&&qb ds
end
def EF(d:D):M D:=if tO d then ae d else ag
def mw(ρ:cQ):Bool:=ρ.all λx=>match x with
 |some (.ow (.lst _))=>false
 |_=>true
def F9{i:Nat}(h:mw ρ=true)(e:ρ[i]? =some (some (.ow (.lst ds)))):False:=by
 have:=Xe.mp h _ (Xd e);cases this
def NC(δ:DE):DE:=λρ=>if mw ρ then noex (δ (og ρ))>>=EF else ag
section
variable{K:WI}{F H F' H':Hp}{σ:St}{ρ:cQ}{h:Heap}{b:Addr}
def OwnAt.dict(S:StE K F H σ ρ)(hd:mw ρ=true)(p:OwnAt σ ρ b):∃o,H b=some o/\((∃x,o= .dT x)\/∃x,o= .dK x):=by
 obtain⟨i,c,h1,h2⟩:=p;obtain⟨v,h3,a,o,rfl,h4,h5,h6⟩:=S.den i _ h1;rw[h3] at h2;cases h2;refine⟨o,h4,?_⟩;cases c with
 |lst ds=>exact(F9 hd h1).elim
 |dct ks ds=>obtain⟨vs,rfl,_⟩:=h6;exact .inl ⟨_,rfl⟩
 |dci ks ds=>obtain⟨vs,rfl,_⟩:=h6;exact .inr ⟨_,rfl⟩
open Classical in
def BQ(S:StE K F H σ ρ)(hd:mw ρ=true)(E:Ext (fA σ ρ (refA h (OwnAt σ ρ) H) F) (refA h (OwnAt σ ρ) H) F' H'){o:HO}(e:F' a=some o)(g6:∀q u,o≠ .frz q u):(if OwnAt σ ρ a then none else F' a)=some o:=by
 rw[adG,e];intro hp;obtain⟨o',k1,k2⟩:=OwnAt.dict S hd hp;have k3:fA σ ρ (refA h (OwnAt σ ρ) H) F a=some (ph ((h.get? a).getD {cls:= .none,data:= .fields #[]}) o'):=by
  unfold fA refA;rw[adF hp,adF hp,k1];rfl
 have k4:=E.ff a _ k3;rw[e] at k4;rcases k2 with⟨x,rfl⟩ | ⟨x,rfl⟩<;>cases k4<;>exact g6 _ _ rfl
open Classical in
mutual
def xH(S:StE K F H σ ρ)(hd:mw ρ=true)(E:Ext (fA σ ρ (refA h (OwnAt σ ρ) H) F) (refA h (OwnAt σ ρ) H) F' H'):∀{d:D}{v:V},tO d=true->Den K F' d v->Den K (λb=>if OwnAt σ ρ b then none else F' b) d v
 | .non,_,_,q=>q
 | .bl _,_,_,q=>q
 | .int _,_,_,q=>q
 | .str _,_,_,q=>q
 | .tup ds,_,f,⟨a,vs,h1,h2,h3,h4⟩=>⟨a,vs,h1,BQ S hd E h2 (λ_ _ z=>nomatch z),nh S hd E f h3,h4⟩
 | .lst ds,_,f,⟨a,vs,h1,h2,h3,h4⟩=>⟨a,vs,h1,BQ S hd E h2 (λ_ _ z=>nomatch z),nh S hd E f h3,h4⟩
 | .raw _,_,f,_=>by cases f
 | .exc _,_,f,_=>by cases f
 | .scr _,_,f,_=>by cases f
 | .dct _ _,_,f,_=>by cases f
 | .dci _ _,_,f,_=>by cases f
def nh(S:StE K F H σ ρ)(hd:mw ρ=true)(E:Ext (fA σ ρ (refA h (OwnAt σ ρ) H) F) (refA h (OwnAt σ ρ) H) F' H'):∀{ds:List D}{vs:List V},qb ds=true->DenL K F' ds vs->DenL K (λb=>if OwnAt σ ρ b then none else F' b) ds vs
 |[],_,_,q=>q
 |d::ds,_,f,⟨v,r,h1,h2,h3⟩=>by
  unfold qb at f;rw[WR] at f;exact⟨v,r,h1,xH S hd E f.1 h2,nh S hd E f.2 h3⟩
end
end
section
variable{X:Cx}{Xw:Nat->Hp->Prop}{e:Expr}{δ:DE}
def O1(h:PD X Xw e δ):PD X Xw e (NC δ):=λf8 s σ H Q I ⟨F,ρ,S,w⟩=>by
 classical
 have w:WP X.K Xw F H (if mw ρ then noex (δ (og ρ))>>=EF else ag) Q:=w;by_cases hd:mw ρ=true
 ·rw[adF hd] at w;rcases lD (δ (og ρ)) with q | ⟨d,q,q2⟩
  ·rw[q] at w;exact w.elim
  ·rw[q2,ax] at w;unfold EF at w;split at w
   ·rename_i hf;refine ck (h f8 s σ _ (λv H'=>Q v (unA (OwnAt σ ρ) H')/\∀c,OwnAt σ ρ c->∀o u,H' c=some (.frz o u)->(∃k,u= .dT k)\/∃k,u= .dK k) (Inv.refA I) ⟨_,_,z_ (h:=s.heap) S,?_⟩) λu s' ⟨v,H',I',r,q1,q3⟩=>⟨v,_,Inv.unA I' (nB I S) q3,r,q1⟩
    rw[q];intro v H' F' E k;obtain⟨E1,q3⟩:=qh S E;exact⟨w _ _ _ E1 (xH S hd E hf k),q3⟩
   ·exact w.elim
 ·rw[adG hd] at w;exact w.elim
end
def Hd(δ:DE):DE:=λρ=>noex (δ (og ρ))>>=qg
def Hq(τ:DT):DT:=λρ=>noex (τ (og ρ))
def Po(is:List Nat)(τ:DS):DS:=λρ=>τ (fgt is ρ)
section
variable{X:Cx}{Xw:Nat->Hp->Prop}{st:Stmt}{τ:DS}{is:List Nat}
def Jk(h:iR X Xw st τ):iR X Xw st (Po is τ):=λs0 adP=>PS.weak (h s0 adP) λD σ H ⟨F,ρ,s,w⟩=>⟨F,_,s.fgt is,w⟩
end
def Lu(x:Int):List Int->List Int
 |[]=>[x]
 |y::r=>if x<=y then x::y::r else y::Lu x r
def Dc(x:Int):∀l,(Lu x l).Perm (x::l)
 |[]=>ac2 _
 |y::r=>by
  unfold Lu;split
  ·exact ac2 _
  ·exact((Dc x r).cons y).trans (List.Perm.swap ..)
def tP{K:WI}{F:Hp}:∀{xs:List Int},DenL K F (xs.map D.int) (xs.map V.int)
 |[]=> .nil
 |x::r=> .cons rfl tP
section
variable{a:Expr}
end
end L3
namespace L3
open PySem PySem.SetTable
def nz[DecidableEq α]:∀{l U:List α},l.Nodup->(∀x∈l,x∈U)->l.length<=U.length
 |[],_,_,_=>Xq _
 |a::l,U,hn,h=>by
  have ha:=h a (WB ..);have Na:=X9.mp hn;have:=nz Na.2 λx hx=>(acS (λe:x=a=>Na.1 (e▸hx))).mpr (h x (Wz _ hx));rw[aai ha] at this;have:0<U.length:=ZH ha;rw[WE];omega
def iK(m b:Nat):Nat->Nat×Nat
 |0=>(b % (m+1),b)
 |k+1=>leap m (iK m b k).1 (iK m b k).2
def Nj(m i:Nat):Nat:=(i*5+1) % (m+1)
def it(m:Nat):Nat->Nat->Nat
 |0,x=>x
 |n+1,x=>Nj m (it m n x)
def qC(m:Nat):∀a b x,it m (a+b) x=it m a (it m b x)
 |0,b,x=>by rw[abr];rfl
 |a+1,b,x=>by rw[ady];show Nj m _=Nj m _;rw[qC m a b x]
def OA(m b:Nat):∀k,(iK m b k).2=b / 32 ^ k
 |0=>by simp[iK]
 |k+1=>by
  show (iK m b k).2 / 32=_;rw[OA m b k,acC,Nat.pow_succ]
def BD{m b:Nat}(hb:b<2 ^ 64):∀k,(iK m b (k+13)).1=it m k (iK m b 13).1
 |0=>by rw[abr];rfl
 |k+1=>by
  rw[ady];have hq:(iK m b (k+13)).2 / 32=0:=by
   rw[OA];refine Nat.div_eq_of_lt ?_;refine abb (m:=b / 32 ^ 13) ?_ ?_
   ·rw[Nat.pow_add,acP,<-acC];exact Nat.div_le_self ..
   ·have:b / 32 ^ 13<1:=Nat.div_lt_of_lt_mul (by omega);omega
  show ((iK m b (k+13)).1*5+1+(iK m b (k+13)).2 / 32) % (m+1)=Nj m _;rw[hq,BD hb k];rfl
def QC(m:Nat):Prop:=m=7\/m=31\/m=127
def R3(m:Nat):Nat->Nat->List Nat
 |0,_=>[]
 |n+1,x=>x::R3 m n (Nj m x)
def AE(m:Nat):∀(n x j:Nat),j∈R3 m n x->∃a,a<n/\it m a x=j
 |0,x,j,h=>by cases h
 |n+1,x,j,h=>by
  rcases WG.mp h with rfl | h
  ·exact⟨0,by omega,rfl⟩
  ·obtain⟨a,ha,e⟩:=AE m n (Nj m x) j h;exact⟨a+1,by omega,by rw[qC m a 1 x];exact e⟩
def IQ(hm:QC m):(∀j,j<m+1->j∈R3 m (m+1) 0)/\it m (m+1) 0=0:=by
 rcases hm with rfl | rfl | rfl
 ·exact⟨by decide+kernel,by decide+kernel⟩
 ·exact⟨by decide+kernel,by decide+kernel⟩
 ·exact⟨by decide+kernel,by decide+kernel⟩
def T_(hm:QC m)(hi:i<m+1)(hj:j<m+1):∃n,n<=m/\it m n i=j:=by
 obtain⟨h1,h2⟩:=IQ hm;obtain⟨a,ha,rfl⟩:=AE m _ 0 i (h1 i hi);obtain⟨b,hb,rfl⟩:=AE m _ 0 j (h1 j hj);by_cases h:a<=b
 ·exact⟨b - a,by omega,by rw[<-qC,Nat.sub_add_cancel h]⟩
 ·refine⟨m+1 - a+b,by omega,?_⟩;rw[<-qC,show m+1 - a+b+a=b+(m+1) by omega,qC,h2]
def Oz(m b k:Nat):(iK m b k).1<m+1:=by
 cases k with
 |zero=>exact Nat.mod_lt _ (by omega)
 |succ k=>exact Nat.mod_lt _ (by omega)
def reach(hm:QC m)(hb:b<2 ^ 64)(hj:j<m+1):∃k,k<=m+13/\(iK m b k).1=j:=by
 obtain⟨n,hn,e⟩:=T_ hm (Oz m b 13) hj;exact⟨n+13,by omega,by rw[BD hb,e]⟩
def SK(t:SetTable):Nat->Probe->Probe
 |0,p=>p
 |n+1,p=>SK t n (t.advance p)
def vals(o:Array (Option Nat))(n:Nat):List Nat:=(W8 n).filterMap λj=>o.getD j none
end L3
namespace L3
open PySem PySem.Spec L2 HT
open PyProof.Rows hiding St
def items_int{P:Xc}{w:World}:∀{us:List Value}{ns:List Int},YH us ns->ItemsAre (intKind P w) ns us
 |_,_, .nil=> .nil
 |_,_, .cons n t h=> .cons (intKind_is _ _ _ _) (items_int h)
end L3
namespace L3
open PySem PySem.SetTable PySem.W PyProof.Rows
def IsSI(h:Heap)(it a:Addr)(sl k n ep:Nat):Prop:=∃o,h.get? it=some o/\o.cls= .type "set_iterator"/\o.data= .fields #[aae sl,aae k, .ref a,aae n,aae ep]
def IsSI.typeIs{s:WC}{it a:Addr}{sl k n ep:Nat}(x:IsSI s.heap it a sl k n ep):s.TypeIs (.ref it) "set_iterator":=let ⟨o,ho,hc,_⟩:=x;⟨o,ho,hc⟩
end L3
namespace L3
open PySem PySem.Spec L2 HT
open PyProof.Rows hiding St
section
variable{Xw:Nat->Hp->Prop}{a:Expr}
def kP(neg:Bool):D->D->M D
 | .int i, .lst ds=>match nums ds with | some ns=>ae (.bl (if neg then !ns.contains i else ns.contains i)) | none=>ag
 |_,_=>ag
def Ib{neg:Bool}{K:WI}:xi K (Qs K neg) (kP neg):=λXw F H x y dx dy Q s hx hy w=>by
 unfold kP at w;split at w
 ·rename_i i ds;obtain⟨a,vs,h1,h2,h3,h4⟩:=hy;split at w
  ·rename_i ns hn;have hv:=eP hn h3;subst hv;cases (show _=_ from hx);refine⟨a,ns.map V.int,h1, .inl (SqL.of (s _ _ h2)),rfl,?_,?_⟩
   ·rw[Zu];exact Xe.mpr λ_ _=>rfl
   ·rw[yd];exact WP.now w s rfl
  ·exact w.elim
 ·exact w.elim
end
def gW:List Int->Int
 |[]=>0
 |[x]=>x
 |x::r=>max x (gW r)
def i_:List Int->Int
 |[]=>0
 |[x]=>x
 |x::r=>min x (i_ r)
def ny:∀{l:List Int},0<l.length->gW l∈l/\∀a∈l,a<=gW l
 |[x],_=>⟨by simp[gW],λa h=>by rw[XY.mp h];exact Int.le_refl _⟩
 |x::y::r,_=>by
  obtain⟨h1,h2⟩:=ny (l:=y::r) (acO _);have e:gW (x::y::r)=max x (gW (y::r)):=rfl;rw[e];refine⟨?_,λa ha=>?_⟩
  ·rcases Int.le_total x (gW (y::r)) with q | q
   ·rw[Int.max_eq_right q];exact Wz _ h1
   ·rw[Int.max_eq_left q];exact WB ..
  ·rcases WG.mp ha with q | q
   ·rw[q];exact Int.le_max_left ..
   ·exact Int.le_trans (h2 a q) (Int.le_max_right ..)
def ue:∀{l:List Int},0<l.length->i_ l∈l/\∀a∈l,i_ l<=a
 |[x],_=>⟨by simp[i_],λa h=>by rw[XY.mp h];exact Int.le_refl _⟩
 |x::y::r,_=>by
  obtain⟨h1,h2⟩:=ue (l:=y::r) (acO _);have e:i_ (x::y::r)=min x (i_ (y::r)):=rfl;rw[e];refine⟨?_,λa ha=>?_⟩
  ·rcases Int.le_total x (i_ (y::r)) with q | q
   ·rw[Int.min_eq_left q];exact WB ..
   ·rw[Int.min_eq_right q];exact Wz _ h1
  ·rcases WG.mp ha with q | q
   ·rw[q];exact Int.min_le_left ..
   ·exact Int.le_trans (Int.min_le_right ..) (h2 a q)
section
variable{X:Cx}{Xw:Nat->Hp->Prop}{e:Expr}{δs:DA}{pos p:Pos}
def g8:List D->M D
 |[.lst ds]=>match nums ds with
  |some ns=>if 0<ns.length then ae (.int (gW ns)) else ag
  |none=>ag
 |_=>ag
def me:List D->M D
 |[.lst ds]=>match nums ds with
  |some ns=>if 0<ns.length then ae (.int (i_ ns)) else ag
  |none=>ag
 |_=>ag
def qD{aI:List Value}{ns:List Int}(hi:YH aI ns):∃xs:Array (Int×Tok),aI.toArray=intItems xs/\xs.size=ns.length/\∀i,i<xs.size->numAt xs i∈ns/\ns[i]? =some (numAt xs i):=by
 obtain⟨xs,hx⟩:=hi.allInts.items;have e1:ns=xs.toList.map (·.1):=by
  rw[<-nums_intItems,<-hx];exact(show numsOf aI.toArray.toList=ns from hi.numsOf).symm
 refine⟨xs,hx,by rw[e1];simp,λi h=>?_⟩;have:ns[i]? =some (numAt xs i):=by
  rw[e1,WT,YI];unfold numAt;rw[Yj h];rfl
 exact⟨Xd this,this⟩
def CC(hc:X.calm=true):CallR X (.builtin "max") (λxs H Q=>∃(p:Addr) (ns:List Int),xs=[.ref p]/\SqL X.K H p (ns.map V.int)/\0<ns.length/\Q (.int (gW ns)) H):=by
 intro f8 s σ H xs us Q I r h;obtain⟨a,ns,rfl,hq,h0,q⟩:=h;obtain⟨u,rfl,r1⟩:=r.one;cases (show u=_ from r1);obtain⟨aI,rv,pl,hz⟩:=I.list hq;have hi:YH aI ns:=by simpa using intsAre_of rv
 obtain⟨xs,hx,hsz,zJ⟩:=qD hi;obtain⟨g1,g2⟩:=argBest_gt (numAt xs) (xs.size - 1);refine max_intList (I.ok.hd hc) (show s.heap.IsList a (intItems xs) from hx▸pl.isList) (by omega) λv h' tk hv hk=>?_;obtain⟨t,rfl⟩:=intItems_at hv;have hM:=zJ (argBest (λi j=>decide (numAt xs i>numAt xs j)) (xs.size - 1)) (by omega);obtain⟨m1,m2⟩:=ny h0;have e:numAt xs (argBest (λi j=>decide (numAt xs i>numAt xs j)) (xs.size - 1))=gW ns:=by
  refine Int.le_antisymm (m2 _ hM.1) ?_;obtain⟨j,hj,e⟩:=Zr m1;have h2:=(zJ j (by omega)).2;rw[Wy hj,e] at h2;rw[Xg h2];exact g2 j (by omega)
 rw[e];exact⟨.int (gW ns),H,I.kept hk,⟨_,rfl⟩,q⟩
def CF(hc:X.calm=true):CallR X (.builtin "min") (λxs H Q=>∃(p:Addr) (ns:List Int),xs=[.ref p]/\SqL X.K H p (ns.map V.int)/\0<ns.length/\Q (.int (i_ ns)) H):=by
 intro f8 s σ H xs us Q I r h;obtain⟨a,ns,rfl,hq,h0,q⟩:=h;obtain⟨u,rfl,r1⟩:=r.one;cases (show u=_ from r1);obtain⟨aI,rv,pl,hz⟩:=I.list hq;have hi:YH aI ns:=by simpa using intsAre_of rv
 obtain⟨xs,hx,hsz,zJ⟩:=qD hi;obtain⟨g1,g2⟩:=argBest_lt (numAt xs) (xs.size - 1);refine min_intList (I.ok.hd hc) (show s.heap.IsList a (intItems xs) from hx▸pl.isList) (by omega) λv h' tk hv hk=>?_;obtain⟨t,rfl⟩:=intItems_at hv;have hM:=zJ (argBest (λi j=>decide (numAt xs i<numAt xs j)) (xs.size - 1)) (by omega);obtain⟨m1,m2⟩:=ue h0;have e:numAt xs (argBest (λi j=>decide (numAt xs i<numAt xs j)) (xs.size - 1))=i_ ns:=by
  refine Int.le_antisymm ?_ (m2 _ hM.1);obtain⟨j,hj,e⟩:=Zr m1;have h2:=(zJ j (by omega)).2;rw[Wy hj,e] at h2;rw[Xg h2];exact g2 j (by omega)
 rw[e];exact⟨.int (i_ ns),H,I.kept hk,⟨_,rfl⟩,q⟩
def kA(hc:X.calm=true)(hg:Gl X "max")(hm:X.mg "max"=none)(hb:Xl "max"=some (.builtin "max"))(ha:jz X Xw [e] δs)(he:WS [e] X.env=[(false,eval e X.env)]:=by rfl):PD X Xw (.Call (.Name "max" p) [e] [] pos) (dA g8 δs):=
 dw (CC hc) (λXw F H vs ds Q s h w=>by
  unfold g8 at w;split at w
  ·rename_i ds;obtain⟨v,rfl,h1⟩:=h.one;obtain⟨a,ws,rfl,h2,h3,h4⟩:=h1;split at w
   ·rename_i ns Hl;split at w
    ·rename_i h0;have e:=eP Hl h3;subst e;exact⟨a,ns,rfl,SqL.of (s _ _ h2),h0,WP.now w s rfl⟩
    ·exact w.elim
   ·exact w.elim
  ·exact w.elim) hg hm hb ha (by decide) (by decide) he rfl
def pP(hc:X.calm=true)(hg:Gl X "min")(hm:X.mg "min"=none)(hb:Xl "min"=some (.builtin "min"))(ha:jz X Xw [e] δs)(he:WS [e] X.env=[(false,eval e X.env)]:=by rfl):PD X Xw (.Call (.Name "min" p) [e] [] pos) (dA me δs):=
 dw (CF hc) (λXw F H vs ds Q s h w=>by
  unfold me at w;split at w
  ·rename_i ds;obtain⟨v,rfl,h1⟩:=h.one;obtain⟨a,ws,rfl,h2,h3,h4⟩:=h1;split at w
   ·rename_i ns Hl;split at w
    ·rename_i h0;have e:=eP Hl h3;subst e;exact⟨a,ns,rfl,SqL.of (s _ _ h2),h0,WP.now w s rfl⟩
    ·exact w.elim
   ·exact w.elim
  ·exact w.elim) hg hm hb ha (by decide) (by decide) he rfl
end
end L3
namespace L3
open PySem PySem.Spec L2
open PyProof.Rows hiding St
end L3
namespace L3
open PySem PySem.Spec L2 SeqAt HT
open PyProof.Rows hiding St
section
variable{X:Cx}{Xw:Nat->Hp->Prop}{a e o:Expr}{δo:DE}{δs:DA}{p T0 a9:Pos}
def RL(n:Int):Value->Bool
 | .int i _=>i==n
 |_=>false
def qu:D->List D->M D
 | .lst ds,[.int n]=>match nums ds with
   |some ns=>if ns.contains n then ae (.int (ns.idxOf n)) else ag
   |none=>ag
 |_,_=>ag
def Pb(K:WI):V->List V->Hp->VK->Prop:=λx vs H Q=>∃(a:Addr) (ns:List Int) (n:Int),x= .ref a/\vs=[.int n]/\H a=some (.lst (ns.map V.int))/\ns.contains n=true/\Q (.int (ns.idxOf n)) H
def Iz:MY X "list.index" (Pb X.K):=by
 intro f8 s σ H x vs v us Q I rx rv h;obtain⟨a,ns,n,rfl,rfl,hH,hc,q⟩:=h;cases rx;obtain⟨u,rfl,r1⟩:=rv.one;obtain⟨t,rfl⟩:=r1;obtain⟨z,aI,m,r,hl,e⟩:=I.lstM hH;have P3:=r.length;rw[Ww] at P3;have at':∀i (h:i<aI.length),∃t,aI[i]= .int (ns[i]'(by omega)) t:=λi h=>by
  have q:=nY i r (by rw[Ww];omega);rw[WK,WT,Wy (by omega:i<ns.length),WK,Wy h] at q;exact q
 have hm:n∈ns:=by simpa using hc
 have fM:ns.idxOf n<ns.length:=acb.mpr hm;have hz:ns.length<=WX:=by simpa using z
 have hs:WX=16777216:=YC;refine aab F.slot_list_index ⟨_,e,rfl⟩ F.entry_list_index (F.args_list_index_2 _ _) (list_indexAt a _ m none #[] (.int n t) (RL n) (ns.idxOf n) (by simp;omega) (by omega) ?_ ?_) ⟨e,λy hy=>?_,?_⟩
 ·obtain⟨t',e1⟩:=at' (ns.idxOf n) (by omega);have:ns[ns.idxOf n]=n:=adm fM;simp[RL,e1,this]
 ·intro k Hj C9;have Qa:k<aI.length:=by simpa using Hj
  obtain⟨t',e1⟩:=at' k Qa;have:ns[k]'(by omega)≠n:=λz=>by
   have:=acv (p:=(· ==n)) (xs:=ns) (i:=k) C9;rw[z] at this;simp at this
  simp[RL,e1,this]
 ·have hy:y∈aI:=by simpa using hy
  obtain⟨i,hi,rfl⟩:=Zr hy;obtain⟨t',e1⟩:=at' i hi;rw[e1];exact EqAt.int_int _ _ _ _
 ·exact⟨.int (ns.idxOf n),H,I.tok _,⟨_,rfl⟩,q⟩
def B1(ho:PD X Xw o δo)(ha:jz X Xw [e] δs)(fG:Yw o "index" X.env (eval o X.env)=eval o X.env:=by rfl)
 (ly:((Yt a9 (WS [e] X.env)).all (λx=>!x.1)&&(Z_ a9 (Y4 [] X.env)).all (λx=>x.1.isSome)&&decide ([e].length+([]:List Za).length+(if ([]:List Za).isEmpty then 0 else 1)<30))=true:=by rfl)
 (fH:(T0.endLine==a9.line)=true:=by rfl)(qr:WS [e] X.env=[(false,eval e X.env)]:=by rfl):PD X Xw (.Call (.Attribute o "index" T0) [e] [] a9) (dM gL qu δo δs):=
 B0 YV abP abO Iz qB (λXw F H x vs d ds Q s hx hv w=>by
  unfold qu at w;split at w
  ·rename_i ds n;obtain⟨v,rfl,h1⟩:=hv.one;cases (show _=_ from h1);obtain⟨a,ws,rfl,h2,h3,_⟩:=hx;split at w
   ·rename_i ns hb;split at w
    ·rename_i hc;exact⟨a,ns,n,rfl,rfl,by rw[<-eP hb h3];exact s _ _ h2,hc,WP.now w s rfl⟩
    ·exact w.elim
   ·exact w.elim
  ·exact w.elim) ho ha fG ly fH qr rfl
end
section
variable{a:Expr}
end
end L3
namespace L3
open PySem PySem.Spec L2
open PyProof.Rows hiding St
section
variable{prog:Xc}{w:World}{A:Xu}{E:Value->WC->Prop}{s:WC}
def A4{d:Addr}{od:Obj}{es:Array Yd}{ep:Nat}{Q:Value->WC->Prop}(lo:(d==Ye)=false)(ho:s.heap.get? d=some od)(hx:od.ExactDict)(hd:od.data= .dict es ep)
 (hQ:Q (.ref s.heap.objs.size) {s with heap:=s.heap.push {cls:= .type "dict_items",data:= .fields #[.ref d]} }):wpAny (model prog w) A (call (.builtin "dict.items") [.ref d]) Q E s:=by
 have hT:s.TypeIs (.ref d) "dict":=⟨od,ho,hx.1⟩
 refine X6 F.slot_dict_items hT F.entry_dict_items ?_ (F.args_dict_items_1 _);unfold Z8.«dict.items»;refine Wv ?_;unfold Builtin.Dict.noArgs;refine Wv (Z1 hT ?_);show wpAny _ _ (pure d) _ _ s;refine WA ?_;show wpAny _ _ (YZ d>>=_) _ _ s;unfold YZ;rw[adG (by rw[lo];exact WZ)];refine Wv (WA ?_);exact Wv (XX (WA ⟨_,rfl,hQ⟩))
def Al{v d:Addr}{od:Obj}{es:Array Yd}{ep:Nat}{Q:Value->WC->Prop}(hv:s.heap.IsItemsView v d)(ho:s.heap.get? d=some od)(vm:od.data= .dict es ep)
 (hQ:Q (.ref s.heap.objs.size) {s with heap:=s.heap.push {cls:= .type "dict_itemiterator",data:= .fields #[.none, .bool false, .ref d, .int 0 0, .int es.size 0, .int ep 0, .none, .none]} }):
 wpAny (model prog w) A (pyIter (.ref v)) Q E s:=by
 obtain⟨ov,Vu,M8,UO⟩:=id hv;refine wpAny_pyIter_slot hv.typeIs ac4 (X6 ac4 hv.typeIs F.entry_dict_items_iter ?_ (F.args_dict_items_iter_1 _));unfold Z8.«dict_items.__iter__»;refine Wv (WA ?_);refine Wv ?_;unfold Builtin.Dict_items.dictOf;refine Wv (aaJ Vu UO (x:= .ref d) rfl (WA ?_));refine Wv ?_;unfold Builtin.Dict_items.newIterator;refine Wv (XM ho vm ?_);refine Wv (YB ho vm ?_);have qp:XS "dict_itemiterator"=true:=by decide
 simp only[qp,if_true];refine XX (WA ⟨_,rfl,"dict_itemiterator",_,⟨_,WN _ rfl,rfl⟩,F.slot_dict_itemiterator_next.lookup,?_⟩)
  (by simp only[sizeOk,Z9,WJ,WL,WE,Xx,YC];omega)
 simpa[aae,Z9] using hQ
def next_item{it d:Addr}{od:Obj}{es:Array Yd}{i ep:Nat}{e:Yd}{ok ov:Value}{Q:Option Value->WC->Prop}(hit:aa9 s.heap it d i es.size ep ok ov)(lY:s.heap.get? d=some od)(gZ:od.data= .dict es ep)(hx:es[i]? =some e)
 (hQ:∀h',adq h' it d (i+1) es.size ep e.key e.val s.heap.objs.size->h'.get? s.heap.objs.size=some {cls:= .type "tuple",data:= .seq #[e.key,e.val]}->h'.objs.size=s.heap.objs.size+1->
  (∀b o,b≠it->s.heap.get? b=some o->h'.get? b=some o)->Q (some (.ref s.heap.objs.size)) {s with heap:=h'}):
 wpAny (model prog w) A (ZN (.ref it)) Q E s:=by
 obtain⟨hp,g,dr,tk,os⟩:=s;have hT:aaS ⟨hp,g,dr,tk,os⟩ (.ref it) "dict_itemiterator":=⟨_,hit,rfl⟩
 unfold ZN;refine Wv (aaK (Y3 (name:=YM "__next__") hT X4
  (X6 X4 hT ZX ?_ (ZR _))))
 refine Wv (WA ?_);refine Wv ?_;refine Wv ?_
 first | refine Wv (X0 hT (WA ?_)) | refine Wv (Yl hT (WA ?_))
 refine Wv (aas hit rfl ?_);have qp:XS "dict_itemiterator"=true:=by decide
 simp only[qp,if_true];show wpAny _ _ (if (WY d==Xi)=true then _ else _) _ _ _;rw[adG (show¬((WY d==Xi)=true) from WZ)];refine Wv (WA ?_);refine Wv (XM lY gZ ?_);rw[adG (by simp)];refine Wv (WA ?_);refine Wv (YB lY gZ ?_);rw[adG (by simp)];refine WA ?_;simp only[show¬((i:Int)<0) from by omega,if_false,Zh,hx];refine Wv ?_
 first | refine Wv (X0 hT (WA ?_)) | refine Wv (Yl hT (WA ?_))
 refine Wv (YJ hT ?_);show wpAny _ _ (ac8 (.ref it) 3 (aae ((i:Int)+1))>>=_) _ _ ⟨hp,g,dr,tk,os⟩;refine Wv (YR hit (by simp) λh₁ E6 Fg=>?_)
 replace Fg:XQ it hp h₁:=Fg
 replace E6:aa9 h₁ it d (i+1) es.size ep ok ov:=by
  have e:((i+1:Nat):Int)=(i:Int)+1:=by omega
  unfold aa9;rw[e];simpa[aae] using E6
 have K8:aaS ⟨h₁,g,dr,tk,os⟩ (.ref it) "dict_itemiterator":=⟨_,E6,rfl⟩
 refine Wv (X5 ?_);refine Wv (YJ K8 ?_);refine Wv (YJ K8 ?_);show wpAny _ _ (Yo (.ref it) 6 e.key e.val) _ _ ⟨h₁,g,dr,tk,os⟩;unfold Yo;refine Wv (abh ?_);have E7:aa9 (h₁.push {cls:= .type "tuple",data:= .seq #[e.key,e.val]}) it d (i+1) es.size ep ok ov:=Wx _ E6;generalize HS:h₁.push {cls:= .type "tuple",data:= .seq #[e.key,e.val]}=h₂ at E7;have H_:h₁.objs.size=hp.objs.size:=Fg.1;have C7:it<hp.objs.size:=WH hit;have Rz:h₂.get? hp.objs.size=some {cls:= .type "tuple",data:= .seq #[e.key,e.val]}:=by rw[<-HS,<-H_];exact WN _ rfl
 have RI:h₂.objs.size=hp.objs.size+1:=by rw[<-HS,YO,H_]
 have Qc:∀b o,b≠it->hp.get? b=some o->h₂.get? b=some o:=λb o hb e=>by rw[<-HS];exact Wx _ (Fg.extBut b o hb e)
 show wpAny _ _ (Yk (.ref it)>>=_) _ _ ⟨h₂,g,dr,tk,os⟩;rw[H_];clear HS E6 Fg K8 H_ h₁;refine Wv ?_;unfold Yk;refine Wv (aaJ E7 rfl (x:= .none) rfl (WA ?_));simp only[if_true];refine Wv (aaJ E7 rfl (x:=ok) rfl ?_);refine Wv (aaJ E7 rfl (x:=ov) rfl ?_);refine Wv (YR E7 (by simp) λh₃ Lb C_=>?_)
 replace C_:XQ it h₂ h₃:=C_
 replace Lb:aa9 h₃ it d (i+1) es.size ep e.key ov:=Lb
 refine Wv (YR Lb (by simp) λh₄ Q4 Ol=>?_)
 replace Ol:XQ it h₃ h₄:=Ol
 replace Q4:aa9 h₄ it d (i+1) es.size ep e.key e.val:=Q4
 refine Wv (YR Q4 (by simp) λh₅ Q5 Om=>?_)
 replace Om:XQ it h₄ h₅:=Om
 replace Q5:adq h₅ it d (i+1) es.size ep e.key e.val hp.objs.size:=Q5
 refine Wv (YR Q5 (by simp) λh₆ Q6 Oo=>?_)
 replace Oo:XQ it h₅ h₆:=Oo
 replace Q6:adq h₆ it d (i+1) es.size ep e.key e.val hp.objs.size:=Q6
 refine Wv (abm (WA (WA ⟨_,rfl,WA (hQ h₆ Q6 ?_ ?_ ?_)⟩)))
 ·exact Oo.extBut _ _ (Xy C7) (Om.extBut _ _ (Xy C7) (Ol.extBut _ _ (Xy C7) (C_.extBut _ _ (Xy C7) Rz)))
 ·show h₆.objs.size=hp.objs.size+1;rw[Oo.1,Om.1,Ol.1,C_.1,RI]
 ·exact λb o hb e=>Oo.extBut b o hb (Om.extBut b o hb (Ol.extBut b o hb (C_.extBut b o hb (Qc b o hb e))))
end
def CP{X:Cx}{f8:List (Addr×Obj)}{σ:St}{H:Hp}{s:WC}{d:Addr}{od:Obj}{aB:List (List Key×V)}(I:Inv X f8 σ H s)(h:H d=some (.frz od (.dT aB))):
 ∃es ep,(d==Ye)=false/\s.heap.get? d=some od/\od.ExactDict/\od.data= .dict es ep/\es.size=aB.length/\∀(i:Nat) (k:List Key) (v:V),aB[i]? =some (k,v)->∃(e:Yd) (b:Addr),es[i]? =some e/\e.key= .ref b/\H b=some (.tup (k.map kV))/\RelV v e.val:=by
 obtain⟨ho,z,lo,xs,rel,o,es,ep,h1,h2,h3,h4,h5⟩:=(show ObjOk X.prog X.w H s.heap d (.frz od (.dT aB)) from I.hok d _ h)
 rw[ho] at h1;cases h1;have hl:es.size=aB.length:=by
  rw[<-W5,h4,Ww];exact(YA rel).symm
 refine⟨es,ep,lo,ho,h2,h3,hl,λi k v hi=>?_⟩;obtain⟨q,e1,e2,e3,e4⟩:=jd rel hi;refine⟨abL (Y0 (bg X.prog X.w)) q,q.2.1,?_,rfl,e3,e4⟩;rw[<-YI,h4,WT,e1];rfl
end L3
namespace L3
open PySem PySem.Spec L2 HT
open PyProof.Rows hiding St
end L3
namespace L3
open PySem PySem.Spec L2 SeqAt HT
open PyProof.Rows hiding St
abbrev Wf:=List (Key×List Key)
def SM(ρ:cQ):Bool:=ρ.all λx=>match x with | some (.ow _)=>false | _=>true
end L3
namespace L3
open PySem PySem.SetTable
def tM(m:Nat):SetTable:={mask:=m,place:= #[],dummies:= #[],finger:=0,led:=false,moves:=0,plain:=true}
def pos(m:Nat)(h:Int)(n:Nat):Nat:=(SK (tM m) n ((tM m).probeStart h)).j
end L3
namespace L3
open PySem PySem.Spec L2 SeqAt
open PyProof.Rows hiding St
def anyM:List D->M D
 |[.lst ds]=>match bools ds with
  |some bs=>ae (.bl (bs.any id))
  |none=>ag
 |_=>ag
section
variable{X:Cx}{Xw:Nat->Hp->Prop}{e:Expr}{δs:DA}{pos p:Pos}
def R6:List V->Hp->VK->Prop:=λxs H Q=>∃(a:Addr) (bs:List Bool),xs=[.ref a]/\H a=some (.lst (bs.map V.bl))/\Q (.bl (bs.any id)) H
def any_range{bs:List Bool}:(W8 bs.length).any (λi=>bs.getD i false)=bs.any id:=by
 induction bs with
 |nil=>rfl
 |cons b bs ih=>
  rw[WE,aaw,YY,acG,YY];congr 1
def Cz(hc:X.calm=true):CallR X (.builtin "any") R6:=by
 intro f8 s σ H xs us Q I r h;obtain⟨a,bs,rfl,hH,q⟩:=h;obtain⟨u,rfl,r1⟩:=vals1 r;cases (show u=_ from r1);obtain⟨aI,r2,pl,hz⟩:=I.list (SqL.of (K:=X.K) hH);obtain rfl:=mX r2;have g6:a≠s.heap.objs.size:=W4 (I.hok.lt hH);refine call_any_walk (aax pl.isList ?_);refine⟨s.heap.objs.size,_,_,_,_,_,λi=>bs.getD i false,rfl,adb (A:=X.A.in1) (show X.A.in1.handled=none from I.ok.hd hc) s.heap.objs.size a g6 (bs.map X3).toArray,⟨⟨_,WN _ rfl,rfl,rfl⟩,acH pl.isList λo e=>Wx _ e⟩,?_,λh' tk k=>?_⟩
 ·intro i v s' Q' E' hv hq;have hv:(bs.map X3).toArray[i]? =some v:=hv;rw[acF,WT] at hv;cases q':bs[i]? with
  |none=>rw[q'] at hv;cases hv
  |some b=>
   rw[q'] at hv;cases hv;have:bs.getD i false=b:=by rw[WK,q'];rfl
   have hq:Q' (bs.getD i false) s':=hq;rw[this] at hq;exact XW hq
 ·have e:(W8 (bs.map X3).toArray.size).any (λi=>bs.getD i false)=bs.any id:=by
   rw[WJ,Ww];exact any_range
  rw[e];refine⟨.bl (bs.any id),H,I.kept (h':=h') (t':=tk) λb o e'=>k b o (λz=>?_) (Wx _ e'),rfl,q⟩;have z:b=s.heap.objs.size:=by simpa using z
  exact adK (WH e') (by rw[z];exact Xz _)
def Mb(hc:X.calm=true)(hg:Gl X "any")(hm:X.mg "any"=none)(hb:Xl "any"=some (.builtin "any"))(ha:jz X Xw [e] δs)(he:WS [e] X.env=[(false,eval e X.env)]:=by rfl):PD X Xw (.Call (.Name "any" p) [e] [] pos) (dA anyM δs):=
 dw (Cz hc) (λXw F H vs ds Q s h w=>by
  unfold anyM at w;split at w
  ·rename_i ds;obtain⟨v,rfl,h1⟩:=h.one;obtain⟨a,ws,rfl,h2,h3,_⟩:=h1;split at w
   ·rename_i bs hb;exact⟨a,bs,rfl,by rw[<-iA hb h3];exact s _ _ h2,WP.now w s rfl⟩
   ·exact w.elim
  ·exact w.elim) hg hm hb ha (by decide) (by decide) he rfl
end
section
variable{X:Cx}{Xw:Nat->Hp->Prop}{a b:Expr}{δa δb:DE}{pos:Pos}
def Gf(ha:PD X Xw a δa)(hb:PD X Xw b δb)(hm:XJ .In b=false:=by rfl):PD X Xw (.Compare a [.In] [b] pos) (d2 (sD false) δa δb):=AI uo Fh ha hb hm
end
end L3
namespace L3
open PySem PySem.Spec L2 SeqAt HT
open PyProof.Rows hiding St
end L3
namespace L3
open PySem PySem.Spec L2 PySem.W
open PyProof.Rows hiding St
section
variable{prog:Xc}{w:World}{A:Xu}{E:Value->WC->Prop}{s:WC}
def FN{it d a:Addr}{od oa:Obj}{es:Array Yd}{i ep:Nat}{e:Yd}{ok ov:Value}{f:Bool}{Q:Option Value->WC->Prop}(hit:KdxIt s.heap it d i es.size ep ok ov a f)(ha:s.heap.get? a=some oa)(NT:a≠it)
 (lY:s.heap.get? d=some od)(gZ:od.data= .dict es ep)(hx:es[i]? =some e)
 (hQ:∀h',KdxIt h' it d (i+1) es.size ep ok ov a true->h'.get? s.heap.objs.size=some {cls:= .type "tuple",data:= .seq #[e.key,e.val]}->h'.objs.size=s.heap.objs.size+1->
  (∀b o,b≠it->s.heap.get? b=some o->h'.get? b=some o)->Q (some (.ref s.heap.objs.size)) {s with heap:=h'}):
 wpAny (model prog w) A (ZN (.ref it)) Q E s:=by
 obtain⟨hp,g,dr,tk,os⟩:=s;have hT:aaS ⟨hp,g,dr,tk,os⟩ (.ref it) "dict_itemiterator":=⟨_,hit,rfl⟩
 unfold ZN;refine Wv (aaK (Y3 (name:=YM "__next__") hT X4 (X6 X4 hT ZX ?_ (ZR _))));refine Wv (WA (Wv (Wv ?_)))
 first | refine Wv (X0 hT (WA ?_)) | refine Wv (Yl hT (WA ?_))
 refine Wv (aas hit rfl ?_);have qp:XS "dict_itemiterator"=true:=by decide
 simp only[qp,if_true];show wpAny _ _ (if (WY d==Xi)=true then _ else _) _ _ _;rw[adG (show¬((WY d==Xi)=true) from WZ)];refine Wv (WA (Wv (XM lY gZ ?_)));rw[adG (by simp)];refine Wv (WA (Wv (YB lY gZ ?_)));rw[adG (by simp)];refine WA ?_;simp only[show¬((i:Int)<0) from by omega,if_false,Zh,hx];refine Wv ?_
 first | refine Wv (X0 hT (WA ?_)) | refine Wv (Yl hT (WA ?_))
 refine Wv (YJ hT ?_);show wpAny _ _ (ac8 (.ref it) 3 (aae ((i:Int)+1))>>=_) _ _ ⟨hp,g,dr,tk,os⟩;refine Wv (YR hit (by simp) λh₁ E6 Fg=>?_)
 replace Fg:XQ it hp h₁:=Fg
 replace E6:KdxIt h₁ it d (i+1) es.size ep ok ov a f:=by
  have e:((i+1:Nat):Int)=(i:Int)+1:=by omega
  unfold KdxIt;rw[e];simpa[aae] using E6
 have K8:aaS ⟨h₁,g,dr,tk,os⟩ (.ref it) "dict_itemiterator":=⟨_,E6,rfl⟩
 refine Wv (X5 (Wv (YJ K8 (Wv (YJ K8 ?_)))));show wpAny _ _ (Yo (.ref it) 6 e.key e.val) _ _ ⟨h₁,g,dr,tk,os⟩;unfold Yo;refine Wv (abh ?_);have E7:KdxIt (h₁.push {cls:= .type "tuple",data:= .seq #[e.key,e.val]}) it d (i+1) es.size ep ok ov a f:=Wx _ E6;generalize HS:h₁.push {cls:= .type "tuple",data:= .seq #[e.key,e.val]}=h₂ at E7;have H_:h₁.objs.size=hp.objs.size:=Fg.1;have C7:it<hp.objs.size:=WH hit;have Rz:h₂.get? hp.objs.size=some {cls:= .type "tuple",data:= .seq #[e.key,e.val]}:=by rw[<-HS,<-H_];exact WN _ rfl
 have RI:h₂.objs.size=hp.objs.size+1:=by rw[<-HS,YO,H_]
 have Qc:∀b o,b≠it->hp.get? b=some o->h₂.get? b=some o:=λb o hb e=>by rw[<-HS];exact Wx _ (Fg.extBut b o hb e)
 show wpAny _ _ (Yk (.ref it)>>=_) _ _ ⟨h₂,g,dr,tk,os⟩;rw[H_];clear HS E6 Fg K8 H_ h₁;refine Wv ?_;unfold Yk;refine Wv (aaJ E7 rfl (x:=aae a) rfl ?_);show wpAny _ _ (loadIfAlive ((a:Int).toNat)>>=_) _ _ _;rw[Zh];refine Wv (kdx_alive (Qc a oa NT ha) ?_);simp only[Option.isNone_some,W9,if_false];refine Wv (aaJ E7 rfl (x:= .bool f) rfl ?_);have fin:∀h₃:Heap,KdxIt h₃ it d (i+1) es.size ep ok ov a true->XQ it h₂ h₃->Q (some (.ref hp.objs.size)) ⟨h₃,g,dr,tk,os⟩:=λh₃ Lb C_=>
  hQ h₃ Lb (C_.extBut _ _ (Xy C7) Rz) (by show h₃.objs.size=hp.objs.size+1;rw[C_.1,RI]) λb o hb e=>C_.extBut b o hb (Qc b o hb e)
 cases f with
 |true=>
  rw[adG (show¬((X3 true !=X3 true)=true) from WZ)];refine WA ?_;simp only[W9,if_false];exact WA (WA ⟨_,rfl,WA (fin h₂ E7 (aaF _ _))⟩)
 |false=>
  rw[adF (show (X3 false !=X3 true)=true from rfl)];refine Wv (YR E7 (by simp) λh₃ Lb C_=>WA ?_);simp only[W9,if_false];exact WA (WA ⟨_,rfl,WA (fin h₃ Lb C_)⟩)
def Bs{it d:Addr}{od:Obj}{es:Array Yd}{i ep:Nat}{y0 y1 ok ov:Value}{Q:Option Value->WC->Prop}(hh:A.handled=none)
 (hit:s.heap.get? it=some {cls:= .type "dict_itemiterator",dict:=none,data:= .fields #[y0,y1, .ref d, .int i 0, .int es.size 0, .int ep 0,ok,ov],slots:= #[]})(U1:es.size<=i)(lY:s.heap.get? d=some od)(gZ:od.data= .dict es ep)
 (hQ:∀h',abD it s.heap h'->Q none {s with heap:=h'}):wpAny (model prog w) A (ZN (.ref it)) Q E s:=by
 have hT:s.TypeIs (.ref it) "dict_itemiterator":=⟨_,hit,rfl⟩
 unfold ZN;refine Wv (aaK (Y3 (name:=YM "__next__") hT X4 (X6 X4 hT ZX ?_ (ZR _))));refine Wv (WA (Wv (Wv ?_)))
 first | refine Wv (X0 hT (WA ?_)) | refine Wv (Yl hT (WA ?_))
 refine Wv (aas hit rfl ?_);have qp:XS "dict_itemiterator"=true:=by decide
 simp only[qp,if_true];show wpAny _ _ (if (WY d==Xi)=true then _ else _) _ _ s;rw[adG (show¬((WY d==Xi)=true) from WZ)];refine Wv (WA (Wv (XM lY gZ ?_)));rw[adG (by simp)];refine Wv (WA (Wv (YB lY gZ ?_)));rw[adG (by simp)];refine WA ?_;simp only[show¬((i:Int)<0) from by omega,if_false,Zh,ach U1];refine Wv ?_
 first | refine Wv (X0 hT (WA ?_)) | refine Wv (Yl hT (WA ?_))
 show wpAny _ _ (ac8 (.ref it) 2 .none>>=_) _ _ s;refine Wv (acJ hit rfl (by simp) ?_);show wpAny _ _ (newExc (.type "StopIteration") []>>=_) _ _ _;refine Wv ?_;simp only[newExc,newTuple];refine Wv (XX ?_ (by size_fits));refine Wv (m:=acK _ _) (wpAny_of_eq (a:=Xi) (by first | rfl | (simp only[acK];rfl)) ?_);refine XX ?_ (by size_fits);simp only[raiseNew];refine Wv (wpAny_handled ?_);rw[show A.in1.handled=none from hh];refine Wv (WA (wpAny_throw ?_));refine Wv (ab4 (T:="StopIteration") (b:=true) ⟨_,WN _ rfl,rfl⟩ isSubtype_stop ?_);exact WA (hQ _ (((Xj ..).extBut.push _).push _))
def Prs(es:Array Yd)(lo:Addr)(h:Heap)(n:Nat)(as:List Addr):Prop:=as.length=n/\as.Nodup/\∀(j:Nat) (a:Addr),as[j]? =some a->lo<a/\∃e,es[j]? =some e/\h.get? a=some {cls:= .type "tuple",data:= .seq #[e.key,e.val]}
def Prs.keep{es:Array Yd}{lo TL:Addr}{h h':Heap}{n:Nat}{as:List Addr}(p:Prs es lo h n as)(hl:TL<=lo)(hk:∀b o,lo<b->h.get? b=some o->h'.get? b=some o):Prs es TL h' n as:=⟨p.1,p.2.1,λj a hj=>by
 obtain⟨h1,e,h2,h3⟩:=p.2.2 j a hj;exact⟨abb hl h1,e,h2,hk a _ h1 h3⟩⟩
variable{R:Result->WC->Prop}
def Ih{S I d:Addr}{od:Obj}{es:Array Yd}{ep:Nat}(hh:A.handled=none)(Hg:S<I)(P8:d≠S)(Uw:d≠I)(gZ:od.data= .dict es ep)(hn:es.size<=WX)(res:Value){h₁:Heap}
 (hR:∀h' tk u8 c as,(∀b o,b≠S->b≠I->h₁.get? b=some o->h'.get? b=some o)->h'.get? S=some {cls:= .type "list",dict:=none,data:= .seq u8 c,slots:= #[]}->Prs es I h' es.size as->u8.toList=as.map WY->R (.ok (.ret res)) {s with heap:=h',toks:=tk}):
 ∀(k i:Nat) (h:Heap) (tk c:Nat) (u8:Array Value) (as:List Addr),es.size - i=k->i<=es.size->KdxSt h I d S i es.size ep->h.get? d=some od->(∀b o,b≠S->b≠I->h₁.get? b=some o->h.get? b=some o)->
  h.get? S=some {cls:= .type "list",dict:=none,data:= .seq u8 c,slots:= #[]}->u8.toList=as.map WY->Prs es I h i as->I<h.objs.size->
  ZD (model prog w) A (.builtin "list.extend.loop" ⟨[.ref S, .ref I,res],[]⟩) R {s with heap:=h,toks:=tk}:=by
 have g6:S≠I:=W4 Hg;intro k;induction k with
 |zero=>
  intro i h tk c u8 as hk hi qr hD qm hS kK hP P6;have x_:i=es.size:=by omega
  subst x_;refine Yn F.entry_extend_loop ?_;rw[XT Zw _];show wpAny _ A.in1 (ZN (.ref I)>>=_) _ _ _;have last:∀h',abD I h h'->R (.ok (.ret res)) {s with heap:=h',toks:=tk}:=λh' he=>hR h' tk u8 c as (λb o h1 h2 e=>he b o h2 (qm b o h1 h2 e)) (he S _ g6 hS) (hP.keep (WO _) λb o hb e=>he b o (Xy hb) e) kK;rcases qr with⟨_,ok,ov,hit⟩ | ⟨ok,ov,a,f,oa,hit,_,_,_⟩
  ·rename_i e0;rw[<-e0] at hit;exact Wv (Bs (s:={s with heap:=h,toks:=tk}) (A:=A.in1) hh hit (WO _) hD gZ λh' he=>WA (last h' he))
  ·exact Wv (Bs (s:={s with heap:=h,toks:=tk}) (A:=A.in1) hh hit (WO _) hD gZ λh' he=>WA (last h' he))
 |succ k ih=>
  intro i h tk c u8 as hk hi qr hD qm hS kK hP P6;have fM:i<es.size:=by omega
  obtain⟨e,hx⟩:∃e,es[i]? =some e:=⟨es[i],Yj fM⟩
  have hsz:u8.size=i:=by rw[<-W5,kK,Ww,hP.1]
  have S9:S<h.objs.size:=WH hS;refine Yn F.entry_extend_loop ?_;rw[XT Zw _];show wpAny _ A.in1 (ZN (.ref I)>>=_) _ _ _;have go:∀h':Heap,KdxSt h' I d S (i+1) es.size ep->h'.get? h.objs.size=some {cls:= .type "tuple",data:= .seq #[e.key,e.val]}->(∀b o,b≠I->h.get? b=some o->h'.get? b=some o)->
   wpAny (model prog w) A.in1 (ack S (·.push (WY h.objs.size))>>=λ_=>again (.builtin "list.extend.loop" ⟨[.ref S, .ref I,res],[]⟩)) (λfin s'=>match fin with | .done f=>R (.ok f) s' | .again c'=>c'.quiet=true/\ZD (model prog w) A c' R s') (λe s'=>R (.error e) s') {s with heap:=h',toks:=tk}:=λh' Rx ht Qb=>by
   have Eg:=Qb S _ g6 hS;have up:∀b o,b≠S->h'.get? b=some o->(h'.update S (XC (·.push (WY h.objs.size)))).get? b=some o:=λb o hb e=>(Yx _ _ (XD hb)).trans e;have pk:=up _ _ (Xy S9) ht;refine Wv (ZL Eg rfl (WA ⟨YS Zw _,ih (i+1) _ tk _ (u8.push (WY h.objs.size)) (as++[h.objs.size]) (by omega) fM (Rx.keep up (XD g6)) (up d _ P8 (Qb d _ Uw hD))
    (λb o h1 h2 e=>up b o h1 (Qb b o h2 (qm b o h1 h2 e))) (XF _ Eg rfl) (by rw[Array.toList_push,kK,X_];rfl) ⟨by rw[WL,hP.1];rfl,?_,λj b hj=>?_⟩ (YX P6 (WH pk))⟩) (by rw[hsz];omega) (by show (u8.push (WY h.objs.size)).size<=WX+1;rw[Array.size_push,hsz];omega))
   ·refine YU.mpr ⟨hP.2.1,by simp,λa ha b hb z=>?_⟩;obtain⟨j,hj⟩:=acE.mp ha;obtain⟨_,e',_,h3⟩:=hP.2.2 j a hj;have:=WH h3;rw[z,XY.mp hb] at this;exact Xz _ this
   by_cases U8:j<as.length
   ·rw[Xh U8] at hj;obtain⟨h1,e',h2,h3⟩:=hP.2.2 j b hj;exact⟨h1,e',h2,up b _ (Xy (YX Hg h1)) (Qb b _ (Xy h1) h3)⟩
   ·rw[Xk (by omega)] at hj;by_cases h0:j - as.length=0
    ·rw[h0] at hj;cases hj;exact⟨P6,e,by rw[show j=i by have:=hP.1;omega];exact hx,pk⟩
    ·rw[ZO (by simp;omega)] at hj;cases hj
  rcases qr with⟨e0,ok,ov,hit⟩ | ⟨ok,ov,a,f,oa,hit,ha,NT,UH⟩
  ·subst e0;refine Wv (next_item (s:={s with heap:=h,toks:=tk}) (A:=A.in1) hit hD gZ hx λh' h1 h2 h3 h4=>?_);exact go h' (.inr ⟨e.key,e.val,_,false,_,h1,h2,Xy P6,Xy S9⟩) h2 h4
  ·refine Wv (FN (s:={s with heap:=h,toks:=tk}) (A:=A.in1) hit ha NT hD gZ hx λh' h1 h2 h3 h4=>?_);exact go h' (.inr ⟨ok,ov,a,true,oa,h1,h4 a oa NT ha,NT,UH⟩) h2 h4
def Di{r d:Addr}{od:Obj}{es:Array Yd}{ep:Nat}(hh:A.handled=none)(hv:s.heap.IsItemsView r d)(lY:s.heap.get? d=some od)(gZ:od.data= .dict es ep)(hn:es.size<=WX){S:Addr}(UG:S≠r)(P8:d≠S)(res:Value){c₀:Nat}(hS:s.heap.get? S=some {cls:= .type "list",data:= .seq #[] c₀})
 (hR:∀h' tk u8 c as,(∀b o,b≠S->s.heap.get? b=some o->h'.get? b=some o)->h'.get? S=some {cls:= .type "list",dict:=none,data:= .seq u8 c,slots:= #[]}->Prs es s.heap.objs.size h' es.size as->u8.toList=as.map WY->R (.ok (.ret res)) {s with heap:=h',toks:=tk}):
 wpAny (model prog w) A.in1 (ZK (.ref S) (.ref r) res)
  (λfin s'=>match fin with | .done f=>R (.ok f) s' | .again c'=>c'.quiet=true/\ZD (model prog w) A c' R s') (λe s'=>R (.error e) s') s:=by
 have Hg:S<s.heap.objs.size:=WH hS;have UM:d<s.heap.objs.size:=WH lY;have key:∀(h:Heap) (c₁ tk:Nat),(∀b o,b≠S->(s.heap.push {cls:= .type "dict_itemiterator",data:= .fields #[.none, .bool false, .ref d, .int 0 0, .int es.size 0, .int ep 0, .none, .none]}).get? b=some o->h.get? b=some o)->
  h.get? S=some {cls:= .type "list",data:= .seq #[] c₁}->ZD (model prog w) A (.builtin "list.extend.loop" ⟨[.ref S, .ref s.heap.objs.size,res],[]⟩) R {s with heap:=h,toks:=tk}:=λh c₁ tk hk K7=>by
  have hI:=hk s.heap.objs.size _ (Xy Hg) (WN _ rfl);exact Ih (s:=s) (h₁:=s.heap) hh Hg P8 (W4 UM) gZ hn res (λh' Qv u8 c as Hj Eg hP kK=>hR h' Qv u8 c as (λb o hb e=>Hj b o hb (W4 (WH e)) e) Eg hP kK)
   es.size 0 h tk c₁ #[] [] (Nat.sub_zero _) (Xq _) (.inl ⟨rfl, .none, .none,hI⟩) (hk d _ P8 (Wx _ lY)) (λb o hb _ e=>hk b o hb (Wx _ e)) K7 rfl ⟨rfl,YN,λj a hj=>by simp at hj⟩ (WH hI)
 unfold ZK;refine Wv (abY (T:="dict_items") hv.typeIs ?_);have h1:abd (.ref S) (.ref r)=false:=by simp[abd,UG]
 have h2:(ZF "dict_items"==ZF "list")=false:=by decide
 have h3:(ZF "dict_items"==ZF "tuple")=false:=by decide
 simp only[h1,h2,h3,aba,W9,if_false];refine Wv (Al hv lY gZ ?_);have K7:=Wx {cls:= .type "dict_itemiterator",data:= .fields #[.none, .bool false, .ref d, .int 0 0, .int es.size 0, .int ep 0, .none, .none]} hS;refine Wv (X5 (kdx_hint (let ⟨o,ho,hc,_⟩:=hv;⟨o,Wx _ ho,hc⟩) ?_));refine wpAny_ite_split (λ_=>?_) (λ_=>WA ⟨YS Zw _,key _ c₀ _ (λb o _ e=>e) K7⟩);refine Wv (acW (Wv ?_));show wpAny _ _ (ack S (·.push .none)>>=λ_=>ack S (·.pop)) _ _ _;refine Wv (ZL K7 rfl ?_);have S_:=XF (XC (·.push Xi)) K7 rfl;refine ZL (hz:=by seq_fits) S_ rfl ?_;exact WA ⟨YS Zw _,key _ _ _ (λb o hb e=>(Yx _ _ (XD hb)).trans ((Yx _ _ (XD hb)).trans e)) (XF (XC (·.pop)) S_ rfl)⟩
def Ak{r d:Addr}{od:Obj}{es:Array Yd}{ep:Nat}{C:List Value->WC->Prop}(hh:A.handled=none)(hv:s.heap.IsItemsView r d)(lY:s.heap.get? d=some od)(gZ:od.data= .dict es ep)(hn:es.size<=WX)
 (h:∀(h':Heap) (tk:Nat) (as:List Addr),(∀b o,s.heap.get? b=some o->h'.get? b=some o)->Prs es s.heap.objs.size h' es.size as->C (as.map WY) {s with heap:=h',toks:=tk}):
 wpAny (model prog w) A (collect (.ref r)) C E s:=by
 obtain⟨rv,Ts,Vv,Tr⟩:=id hv;have hr:r<s.heap.objs.size:=WH Ts;have hd:d<s.heap.objs.size:=WH lY;unfold collect;refine Wv (wpAny_runValue (Yn entry_proto_collect' ?_));rw[XT F.plain_proto_collect _];show wpAny _ A.in1 (newList []>>=λl=>again (.builtin "list.__iadd__" ⟨[l, .ref r],[]⟩)) _ _ s;refine Wv (XX (WA ⟨YS F.plain_list_iadd _,Yn entry_list_iadd' ?_⟩));rw[XT F.plain_list_iadd _];have K7:(s.heap.push {cls:= .type "list",data:= .seq ([]:List Value).toArray}).get? s.heap.objs.size=some {cls:= .type "list",data:= .seq #[]}:=WN _ rfl;show wpAny _ A.in1 (ZK (.ref s.heap.objs.size) (.ref r) (.ref s.heap.objs.size)) _ _ _;have fin:∀{Z:Prop}(q:Result) (s':WC),(∃(h':Heap) (tk:Nat) (kJ:Array Value) (c':Nat) (as:List Addr),q= .ok (.ret (.ref s.heap.objs.size))/\s'={s with heap:=h',toks:=tk}/\(∀b o,s.heap.get? b=some o->h'.get? b=some o)/\
  h'.get? s.heap.objs.size=some {cls:= .type "list",dict:=none,data:= .seq kJ c',slots:= #[]}/\Prs es s.heap.objs.size h' es.size as/\kJ.toList=as.map WY)->
  (∀(h':Heap) (tk:Nat) (kJ:Array Value) (c':Nat),q= .ok (.ret (.ref s.heap.objs.size))->s'={s with heap:=h',toks:=tk}->h'.get? s.heap.objs.size=some {cls:= .type "list",dict:=none,data:= .seq kJ c',slots:= #[]}->C kJ.toList {s with heap:=h',toks:=tk}->Z)->Z:=λq s' ⟨h',tk,kJ,c',as,e1,e2,hk,Eg,hP,kK⟩ k=>k h' tk kJ c' e1 e2 Eg (by rw[kK];exact h h' tk as hk hP)
 refine XG (Di (A:=A) (s:={s with heap:=s.heap.push {cls:= .type "list",data:= .seq ([]:List Value).toArray} })
  (R:=λ(q:Result) (s':WC)=>∃(h':Heap) (tk:Nat) (kJ:Array Value) (c':Nat) (as:List Addr),q= .ok (.ret (.ref s.heap.objs.size))/\s'={s with heap:=h',toks:=tk}/\(∀b o,s.heap.get? b=some o->h'.get? b=some o)/\
   h'.get? s.heap.objs.size=some {cls:= .type "list",dict:=none,data:= .seq kJ c',slots:= #[]}/\Prs es s.heap.objs.size h' es.size as/\kJ.toList=as.map WY)
  hh ⟨rv,Wx _ Ts,Vv,Tr⟩ (Wx _ lY) gZ hn (Xy hr) (W4 hd) (.ref s.heap.objs.size) K7
  (λh' tk kJ c' as hk Eg hP kK=>⟨h',tk,kJ,c',as,rfl,rfl,λb o e=>hk b o (W4 (WH e)) (Wx _ e),Eg,hP.keep (by show s.heap.objs.size<=(s.heap.push _).objs.size;rw[YO];exact Nat.le_succ _) (λ_ _ _ e=>e),kK⟩)) (λfn s' x=>?_) λe s' x=>?_
 ·cases fn with
  |done f=>
   refine fin _ _ x λh' tk kJ c' e1 e2 Eg hC=>?_;cases e1;subst e2;show wpAny _ A (load s.heap.objs.size>>=_) _ _ _;exact Wv (wpAny_load Eg (WA hC))
  |again c₁=>
   refine⟨x.1,aaX x.2 λq v4 y=>fin _ _ y λh' tk kJ c' e1 e2 Eg hC=>?_⟩;subst e1 e2;show wpAny _ A (load s.heap.objs.size>>=_) _ _ _;exact Wv (wpAny_load Eg (WA hC))
 ·obtain⟨_,_,_,_,_,e',_⟩:=x;cases e'
end
end L3
namespace L3
open PySem PySem.Spec L2 PySem.W SeqAt
open PyProof.Rows hiding St
section
variable{prog:Xc}{w:World}{A:Xu}{E:Value->WC->Prop}{s:WC}
def GY{a:Addr}{c:Nat}{vs:List Value}{bt:Nat->Nat->Bool}{κ:SortKind}{P:PySem.Fin->WC->Prop}{G:Heap->Prop}(ho:s.heap.get? a=some (X7 "list" vs.toArray c))(zI:vs.length<64)
 (hb:2<=vs.length->Lt vs.length bt)(hG:∀h',(∀b o,b≠a->s.heap.get? b=some o->h'.get? b=some o)->G h')
 (ya:∀(h':Heap) (Q:SortKind->WC->Prop),G h'->2<=vs.length->Q κ {s with heap:=h'}->wpAny (model prog w) A (keyKind' vs.toArray) Q E {s with heap:=h'})
 (QV:∀(h':Heap),G h'->∀i j C,i<vs.length->j<vs.length->C (bt i j) {s with heap:=h'}->kas_ask prog w A κ vs i j C {s with heap:=h'})
 (h:∀(p:Array Nat) (h':Heap) (c':Nat),PN vs.length p->Ri bt p vs.length->h'.get? a=some (X7 "list" (XE (p.toList.map λi=>vs.getD i Xi)) c')->
  (∀b o,b≠a->s.heap.get? b=some o->h'.get? b=some o)->P (.done (.ret .none)) {s with heap:=h'}):wpAny (model prog w) A (Z8.«list.sort» ⟨[.ref a],[]⟩) P E s:=by
 have yc:WX=16777216:=YC;have s1:=Xj s.heap a (XC λ_=>(#[]:Array Value));obtain⟨e1,Oa⟩:∃e1,(s.heap.update a (XC λ_=>(#[]:Array Value))).get? a=some (X7 "list" #[] e1):=⟨_,aaW ho λ_=> #[]⟩
 have k1:∀b o,b≠a->s.heap.get? b=some o->(((s.heap.update a (XC λ_=>(#[]:Array Value))).push (X7 "tuple" vs.toArray 0)).push (X7 "list" #[] 0)).get? b=some o:=λb o hb e=>
  Wx _ (Wx _ ((s1.2 b hb).trans e))
 have Lf:=Wx (X7 "list" #[] 0) (Wx (X7 "tuple" vs.toArray 0) Oa);have g3:=hG _ k1;have fin:∀(st:SortSt) (p:Array Nat),PN vs.length p->Ri bt p vs.length->(arrOf st).map (·.2)=XE (p.toList.map λi=>vs.getD i Xi)->acd st=none->
  wpAny (model prog w) A (do
   let touched:=(<-seqEpoch a) !=e1
   abk (.ref a) λ_=>(arrOf st).map (·.2)
   if let some e:=acd st then rule "list.sort.comparison-raised";throw e
   if touched then rule "list.sort.modified";raiseError "ValueError" "list modified during sort"
   ret .none) P E {s with heap:=((s.heap.update a (XC λ_=>(#[]:Array Value))).push (X7 "tuple" vs.toArray 0)).push (X7 "list" #[] 0)}:=λst p hp hr he hf=>by
  have hz:(XE (p.toList.map λi=>vs.getD i Xi)).size=vs.length:=by rw[WJ,Ww,W5,hp.sz]
  rw[he,hf];refine Wv (acn Lf rfl (Wv (abx Lf rfl ?_ (Xq _) (by rw[hz,yc];omega))));simp only[bne_self_eq_false,W9,if_false];have s2:=Xj (((s.heap.update a (XC λ_=>(#[]:Array Value))).push (X7 "tuple" vs.toArray 0)).push (X7 "list" #[] 0)) a (XC λ_=>XE (p.toList.map λi=>vs.getD i Xi));exact WA (h p _ _ hp hr (aaW Lf λ_=>XE (p.toList.map λi=>vs.getD i Xi)) λb o hb e=>(s2.2 b hb).trans (k1 b o hb e))
 rw[list_sort_plain];refine Wv (listItems_at ho rfl (Wv (abx ho rfl (Wv (acn Oa rfl ?_)) (by rw[WJ,yc];omega) (Xq _))));refine Wv (abh (Wv (abw (X5 ?_) (Xq _))) (by show vs.length<=_;rw[yc];omega));show wpAny (model prog w) A _ P E {s with heap:=((s.heap.update a (XC λ_=>(#[]:Array Value))).push (X7 "tuple" vs.toArray 0)).push (X7 "list" #[] 0)}
 dsimp only
 by_cases hs:vs.toArray.size<2
 ·rw[adF hs,adF hs];have C8:vs.length<2:=by simpa using hs
  refine Wv (WA (Wv (WA ?_)));refine fin (SortSt.mk' general' (vs.toArray.zip vs.toArray) #[] 7 none) (XE (W8 vs.length)) ⟨by simp,λi hi=>?_,λi j hi hj _=>by omega⟩ (λi j xZ hj=>by omega) ?_ rfl
  ·rw[eO];simp[hi]
  ·show (vs.toArray.zip vs.toArray).map (·.2)=_;apply adE.mp;refine aav (by simp) λi a1 a2=>?_;simp at a1;simp[a1]
 ·rw[adG hs,adG hs];have C8:2<=vs.length:=by
   have:¬vs.length<2:=by simpa using hs
   omega
  refine Wv (ya _ _ g3 C8 ?_);obtain⟨r1,r2⟩:=zk (hb C8) C8;have run:=kat_run (prog:=prog) (w:=w) (A:=A) (E:=E) (ks:=vs) (vs:=vs) (κ:=κ) (Q:=λst s'=>s'={s with heap:=((s.heap.update a (XC λ_=>(#[]:Array Value))).push (X7 "tuple" vs.toArray 0)).push (X7 "list" #[] 0)}/\∃p,PN vs.length p/\Ri bt p vs.length/\(arrOf st).map (·.2)=XE (p.toList.map λi=>vs.getD i Xi)/\acd st=none)
   (G:=λp s'=>s'={s with heap:=((s.heap.update a (XC λ_=>(#[]:Array Value))).push (X7 "tuple" vs.toArray 0)).push (X7 "list" #[] 0)}/\PN vs.length p/\Ri bt p vs.length) rfl C8 zI
   (λp oT s' a1 a2 a3 a4=>⟨a4.1,p,a4.2.1,a4.2.2,kat_snds rfl a2,a3⟩)
   (wp_run (s:={s with heap:=((s.heap.update a (XC λ_=>(#[]:Array Value))).push (X7 "tuple" vs.toArray 0)).push (X7 "list" #[] 0)}) (λi j C hi hj hC=>QV _ g3 i j C hi hj hC) (tu (by omega)) ⟨rfl,r1,r2⟩)
  refine Wv (XG run ?_ λ_ _ e=>e);rintro⟨⟨⟩,oT⟩ s' ⟨rfl,p,a1,a2,a3,a4⟩;exact fin oT p a1 a2 a3 a4
def BJ:∀a b:List Int,HT.lexLt a b=dI a b
 |[],[]=>rfl
 |[],_::_=>rfl
 |_::_,[]=>rfl
 |x::a,y::b=>by rw[HT.lexLt_cons,dI,BJ a b]
def nu(n m:Int):∀{k l:List Int},k.length=l.length->dI (k++[n]) (l++[m])=if k=l then decide (n<m) else dI k l
 |[],[],_=>by
  show (if n=m then false else decide (n<m))=decide (n<m);by_cases h:n=m
  ·rw[adF h,adI (by omega)]
  ·rw[adG h]
 |[],_::_,h=>by simp at h
 |_::_,[],h=>by simp at h
 |x::k,y::l,h=>by
  show (if x=y then dI (k++[n]) (l++[m]) else decide (x<y))=if x::k=y::l then decide (n<m) else if x=y then dI k l else decide (x<y)
  rw[nu n m (by simpa using h)];by_cases e:x=y
  ·subst e;rw[adF rfl,adF rfl];by_cases e2:k=l
   ·subst e2;rw[adF rfl,adF rfl]
   ·rw[adG e2,adG (λz=>e2 (adp z).2)]
  ·rw[adG e,adG e,adG (λz=>e (adp z).1)]
def Ep{p p' b b':Addr}{k k':List Int}{n n':Int}{t t':Tok}{C:Bool->WC->Prop}(hp:s.heap.get? p=some {cls:= .type "tuple",data:= .seq #[.ref b, .int n t]})(Qg:s.heap.get? p'=some {cls:= .type "tuple",data:= .seq #[.ref b', .int n' t']})
 (heq:EqAt A s (.ref b) (.ref b') (decide (k=k')))(fM:∀(Q:Value->WC->Prop),Q (.bool (dI k k')) s->wpAny (model prog w) A (XB .Lt (.ref b) (.ref b')) Q (λ_ _=>False) s)(hk:k.length=k'.length)(h:C (dI (k++[n]) (k'++[n'])) s):
 wpAny (model prog w) A (keyLt' (tuples' false) (.ref p) (.ref p')) C E s:=by
 rw[nu n n' hk] at h;refine kat_lt hp rfl Qg rfl (kat_cons (heq prog w _ _ ?_));by_cases e:k=k'
 ·rw[adF e] at h;rw[adJ e];refine kat_yes (kat_cons (ab6 ?_));by_cases q:n=n'
  ·subst q;rw[show (n==n)=true by simp];refine kat_yes (kat_nil ?_);rw[adI (by omega)] at h;exact h
  ·rw[show (n==n')=false by simpa using q];exact kat_no (kat_one _ _ (aam h))
 ·rw[adG e] at h;rw[adI e];exact kat_no (kat_one _ _ (fM _ h))
def qH{h:Heap}{p b:Nat->Addr}{v:Nat->Value}:∀(l:List Nat),(∀i∈l,h.get? (p i)=some {cls:= .type "tuple",data:= .seq #[.ref (b i),v i]})->KatTups h (l.map λi=> .ref (p i)) (l.map λi=> .ref (b i))
 |[],_=>KatTups.nil
 |i::l,hl=>KatTups.cons (hl i (WB ..)) rfl rfl rfl (qH l λj hj=>hl j (Wz _ hj))
end
def pw(l:List (Addr×HO))(H:Hp):Hp:=l.foldl (λH p=>upd H p.1 p.2) H
def l7{b:Addr}:∀{l:List (Addr×HO)}{H:Hp},(∀p∈l,p.1≠b)->pw l H b=H b
 |[],_,_=>rfl
 |p::l,H,h=>by
  show pw l (upd H p.1 p.2) b=_;rw[l7 λq hq=>h q (Wz _ hq),aA (XD (h p (WB ..)))]
def vB:∀{l:List (Addr×HO)}{H:Hp}{p:Addr×HO},(l.map (·.1)).Nodup->p∈l->pw l H p.1=some p.2
 |q::l,H,p,hn,hp=>by
  rw[WD] at hn;have hn:=X9.mp hn;show pw l (upd H q.1 q.2) p.1=_;rcases WG.mp hp with rfl | hp
  ·rw[l7 λr hr z=>hn.1 (WM.mpr ⟨r,hr,z⟩),aP]
  ·exact vB hn.2 hp
def xP:∀{l:List (Addr×HO)}{F H:Hp},Same F H->(l.map (·.1)).Nodup->(∀p∈l,H p.1=none)->Ext F H (pw l F) (pw l H)
 |[],_,_,h,_,_=>Ext.refl h
 |p::l,F,H,h,hn,hp=>by
  rw[WD] at hn;have hn:=X9.mp hn;have e:=Ext.lay (o:=p.2) h (hp p (WB ..));exact e.trans (xP e.fh hn.2 λq hq=>by
   rw[aA (λz=>hn.1 (WM.mpr ⟨q,hq,z⟩))];exact hp q (Wz _ hq))
def Fj{X:Cx}{f8:List (Addr×Obj)}{σ:St}{H:Hp}{s:WC}{h':Heap}{t':Nat}{l:List (Addr×HO)}(I:Inv X f8 σ H s)(k:∀b u,s.heap.get? b=some u->h'.get? b=some u)(hn:(l.map (·.1)).Nodup)(hp:∀p∈l,s.heap.objs.size<=p.1)
 (new:∀p∈l,ObjOk X.prog X.w (pw l H) h' p.1 p.2):Inv X f8 σ (pw l H) {s with heap:=h',toks:=t'}:=by
 have out:∀b,b<s.heap.objs.size->pw l H b=H b:=λb hb=>l7 λp hq z=>by
  have:=hp p hq;rw[z] at this;exact adK (W_ hb this) (Xz _)
 have old:∀b u,H b=some u->pw l H b=some u:=λb u e=>(out b (I.hok.lt e)).trans e;refine I.un ⟨λb u q _ _ _=>k b u q,λb u q _ _ _=>⟨u.slots,k b u q⟩,λb u q n _=>(out b (WH q)).trans n,λb u q _=>⟨u,k b u q⟩,λb xs q=>old b _ q,λb u xs q=>old b _ q,λb ps q=>⟨#[],by rw[old b _ q];simp⟩⟩ λb u e=>?_;by_cases hb:∃p∈l,p.1=b
 ·obtain⟨p,h1,rfl⟩:=hb;rw[vB hn h1] at e;cases e;exact new p h1
 ·rw[l7 λp hq z=>hb ⟨p,hq,z⟩] at e;exact(I.hok b u e).stay (λc v _ q=>k c v q) (λc q=>old c _ q) λc xs q=>old c _ q
def lL(kk:List (List Int))(ns:List Int):List (List Int):=List.zipWith (λk n=>k++[n]) kk ns
def BZ:List Int->D
 |[a,b,n]=> .tup [.tup [.int a, .int b], .int n]
 |_=> .non
def nV:D->M D
 | .dct ks ds=>match fg ks,nums ds with
   |some kk,some ns=>if kk.length=ns.length/\kk.all (λk=>decide (k.length=2))=true/\fQ (lL kk ns)=true then ae (.lst ((sortI (lL kk ns)).map BZ)) else ag
   |_,_=>ag
 |_=>ag
def A0{kk:List (List Int)}{ns:List Int}(hl:kk.length=ns.length){i:Nat}(hi:i<kk.length):(lL kk ns).getD i []=kk.getD i []++[ns.getD i 0]:=by
 unfold lL;rw[WK,List.getElem?_zipWith,WK,WK,Wy hi,Wy (by omega:i<ns.length)];rfl
def kc(n:Nat):∀(a b:List Int),lM (fW n) (a.map D.int) (b.map D.int)=some (decide (a=b))
 |[],[]=>rfl
 |[],_::_=>by simp[lM]
 |_::_,[]=>by simp[lM]
 |x::a,y::b=>by
  show (match fW n (.int x) (.int y),lM (fW n) (a.map D.int) (b.map D.int) with | some p,some q=>some (p&&q) | _,_=>none)=_;rw[kc n a b,show fW n (.int x) (.int y)=some (x==y) by cases n<;>rfl];show some ((x==y)&&decide (a=b))=_;congr 1;by_cases h1:x=y<;>by_cases h2:a=b<;>simp[h1,h2]
def B9{H:Hp}{b:Nat->Addr}{k:Nat->List Int}:∀(l:List Nat),(∀i∈l,H (b i)=some (.tup ((k i).map V.int)))->eG H (l.map λi=> .ref (b i)) (l.map k)
 |[],_=> .nil
 |i::l,h=> .cons ⟨b i,rfl,h i (WB ..)⟩ (B9 l λj hj=>h j (Wz _ hj))
def y6{H:Hp}{b:Nat->Addr}{k:Nat->List Int}:∀{l:List Nat},eG H (l.map λi=> .ref (b i)) (l.map k)->∀i∈l,H (b i)=some (.tup ((k i).map V.int))
 |_::_, .cons ⟨a,e1,e2⟩ t,i,hi=>by
  rcases WG.mp hi with rfl | hi
  ·cases e1;exact e2
  ·exact y6 t i hi
def xI{K:WI}{F:Hp}{g:Nat->D}{p:Nat->Addr}:∀(l:List Nat),(∀i∈l,Den K F (g i) (.ref (p i)))->DenL K F (l.map g) (l.map λi=> .ref (p i))
 |[],_=> .nil
 |i::l,h=> .cons (h i (WB ..)) (xI l λj hj=>h j (Wz _ hj))
def uP{p:Nat->Addr}:∀(l:List Nat),Vals (l.map λi=>V.ref (p i)) (l.map λi=>WY (p i))
 |[]=> .nil
 |i::l=> .cons rfl (uP l)
section
variable{X:Cx}{Xw:Nat->Hp->Prop}{o:Expr}{δ:DE}{pos p T0 a9:Pos}
def Gg(hc:X.calm=true)(hu:X.A.units+64<cLine)(hg:Gl X "sorted")(hm:X.mg "sorted"=none)(hb:Xl "sorted"=some (.builtin "sorted"))(ha:PD X Xw o δ)(fG:Yw o "items" X.env (eval o X.env)=eval o X.env:=by rfl)(fH:(T0.endLine==a9.line)=true:=by rfl)
 (he:WS [.Call (.Attribute o "items" T0) [] [] a9] X.env=[(false,eval (.Call (.Attribute o "items" T0) [] [] a9) X.env)]:=by rfl):
 PD X Xw (.Call (.Name "sorted" p) [.Call (.Attribute o "items" T0) [] [] a9] [] pos) (d1 nV δ):=λf8 s σ H Q I ⟨F,ρ,S,w⟩=>by
 have w:WP X.K Xw F H (δ ρ>>=nV) Q:=w;refine ZM (lA I hg hm hb ?_ (by decide) (by decide));refine aaL ?_ he rfl;rw[he];refine Y2 (wpAny_Call_method0_late fG fH (ck (ha f8 s σ H _ I ⟨F,ρ,S,WP.bind w⟩) λu s1 ⟨v,H1,I1,r,F1,d,e1,q1,w1⟩=>?_));unfold nV at w1;split at w1
 ·rename_i ks ds;split at w1
  ·rename_i kk ns N6 Hl;split at w1
   ·rename_i hok;obtain⟨Rh,QP,hok⟩:=hok;obtain⟨a,ob,vs,rfl,h2,h3,h4,h5⟩:=q1;cases (show u=_ from r);obtain⟨es,ep,lo,ho,hx,hd,hsz,hk⟩:=CP I1 (e1.fh _ _ h2);have VF:=eP Hl h3;subst VF;have Hk:=ki N6;subst Hk;have Oc:=hok;unfold fQ at hok;rw[WR,WR] at hok;have Td:(lL kk ns).Nodup:=adL hok.1.1;have Oq:(lL kk ns).length=kk.length:=by unfold lL;rw[List.length_zipWith];omega
    have zI:kk.length<64:=by rw[<-Oq];exact adL hok.1.2
    have hn:es.size=kk.length:=by rw[hsz,aaC,Ww,Ww];omega
    have yc:WX=16777216:=YC;have hf:∀i,∃q:Yd×Addr×Tok,i<kk.length->es[i]? =some q.1/\q.1.key= .ref q.2.1/\H1 q.2.1=some (.tup ((kk.getD i []).map V.int))/\q.1.val= .int (ns.getD i 0) q.2.2:=λi=>by
     by_cases hi:i<kk.length
     ·have HU:i<ns.length:=by omega
      obtain⟨e,b,q1,q2,q3,t,q4⟩:=hk i (nq kk[i]) (.int ns[i]) (ab0.mpr ⟨by rw[WT,Wy hi];rfl,by rw[WT,Wy HU];rfl⟩);refine⟨(e,b,t),λ_=>⟨q1,q2,?_,?_⟩⟩
      ·rw[q3,WK,Wy hi];unfold nq;rw[Xo];rfl
      ·rw[WK,Wy HU];exact q4
     ·exact⟨(default,0,0),λz=>adK z hi⟩
    obtain⟨g,N2⟩:∃g:Nat->Yd×Addr×Tok,∀i,i<kk.length->es[i]? =some (g i).1/\(g i).1.key= .ref (g i).2.1/\H1 (g i).2.1=some (.tup ((kk.getD i []).map V.int))/\(g i).1.val= .int (ns.getD i 0) (g i).2.2:=⟨λi=>acI (hf i),λi hi=>abW (hf i) hi⟩
    refine⟨"dict","dict.items",Zt,PySem.F.slot_dict_items,PySem.F.type_dict_items,⟨ob,ho,hx.1⟩,?_,Y1 rfl (PySem.evalArgs_none (A4 lo ho hx hd (ZI ?_)))⟩
    ·rintro _ ⟨⟩;exact⟨ob,ho,hx.2.1⟩
    refine abX kind_sorted plain_sorted entry_sorted (args_sorted1 _) ?_;unfold Z8.«sorted»;refine Wv (m:=checkCount "sorted" 1 1 _) (WA (Wv (Ak (A:=X.A.in1) (I1.ok.hd hc) ⟨_,WN _ rfl,rfl,rfl⟩ (Wx _ ho) hd (by rw[hn,yc];omega) λh1 tk as Fu hP=>?_)));have keep:∀b u,s1.heap.get? b=some u->h1.get? b=some u:=λb u e=>Fu b u (Wx _ e);have J2:as.length=kk.length:=hP.1.trans hn;have Nb:∀i,i<kk.length->s1.heap.objs.size<=as.getD i 0/\h1.get? (as.getD i 0)=some {cls:= .type "tuple",data:= .seq #[.ref (g i).2.1, .int (ns.getD i 0) (g i).2.2]}:=λi hi=>by
     have HU:i<as.length:=by omega
     obtain⟨z1,e,z2,z3⟩:=hP.2.2 i as[i] (Wy HU);obtain⟨y1,y2,y3,y4⟩:=N2 i hi;rw[y1] at z2;cases z2;rw[y2,y4] at z3;rw[show as.getD i 0=as[i] by rw[WK,Wy HU];rfl];refine⟨?_,z3⟩;rw[YO] at z1;exact Yc (Nat.lt_of_succ_lt z1)
    have RC:as.map WY=(W8 kk.length).map λi=>WY (as.getD i 0):=by
     refine aav (by simp[J2]) λi a1 a2=>?_;have hi:i<as.length:=by simpa using a1
     rw[ZU,ZU,adl,WK,Wy hi];rfl
    rw[RC];have BC:((W8 kk.length).map λi=>WY (as.getD i 0)).length=kk.length:=by rw[Ww,aah]
    have H0:∀i,i<kk.length->((W8 kk.length).map λi=>WY (as.getD i 0)).getD i Xi= .ref (as.getD i 0):=λi hi=>by
     rw[WK,WT,aaT hi];rfl
    generalize hv:(W8 kk.length).map (λi=>WY (as.getD i 0))=vals at BC H0;have I2:Inv X f8 σ H1 {s1 with heap:=h1,toks:=tk}:=I1.kept keep;refine Wv (abw ?_ (by rw[yc];omega));have Lg:(h1.push (X7 "list" vals.toArray 0)).get? h1.objs.size=some (X7 "list" vals.toArray 0):=WN _ rfl;refine Wv (X5 (X6 slot_list_sort ⟨_,Lg,rfl⟩ entry_list_sort (GY (s:={s1 with heap:=h1.push (X7 "list" vals.toArray 0),toks:=tk}) (κ:=tuples' false) (bt:=λi j=>dI ((lL kk ns).getD i []) ((lL kk ns).getD j [])) (G:=λh'=>∀b o,h1.get? b=some o->h'.get? b=some o) Lg (by omega) (λ_=>?_) (λh' kp b o e=>kp b o (W4 (WH e)) (Wx _ e)) (λh' Q' gk NQ hq=>?_) (λh' gk i j C hi hj hC=>?_) λP h' c' NR hR Lc qm=>?_) (args_list_sort _)))
    ·rw[BC];exact⟨λi j k=>pO _ _ _,λi j=>iL _ _,λi j hi hj xZ=>l_ _ _ λz=>xZ (by
      rw[<-Oq] at hi hj;rw[WK,WK,Wy hi,Wy hj] at z;exact yC Td hi hj (by simpa using z))⟩
    ·have kt:=qH (h:=h') (p:=λi=>as.getD i 0) (b:=λi=>(g i).2.1) (v:=λi=> .int (ns.getD i 0) (g i).2.2) (W8 kk.length) λi hi=>gk _ _ (Nb i (Yq.mp hi)).2;rw[hv] at kt;refine kat_kind (s:={s1 with heap:=h',toks:=tk}) (T:= .type "tuple") kt (by rw[Ww,aah];omega) (λv Ou=>?_) rfl hq;obtain⟨i,hi,rfl⟩:=WM.mp Ou;obtain⟨us,ru,⟨ot,q1,q2,_⟩,_⟩:=I2.tuple (SqT.of (K:=X.K) (N2 i (Yq.mp hi)).2.2.1);have lk:Looks (model X.prog X.w) h' (typeOf (.ref (g i).2.1)) ot.cls:=(Looks.ld (gk _ _ q1)).andThen .now;rw[q2] at lk;exact lk
    ·rw[BC] at hi hj;have I3:Inv X f8 σ H1 {s1 with heap:=h',toks:=tk}:=I2.kept gk;obtain⟨_,_,a3,_⟩:=N2 i hi;obtain⟨_,_,b3,_⟩:=N2 j hj;have li:(kk.getD i []).length=2:=adL (Xe.mp QP _ (by rw[WK,Wy hi];exact Zp hi));have lj:(kk.getD j []).length=2:=adL (Xe.mp QP _ (by rw[WK,Wy hj];exact Zp hj));have dn:∀{m:Nat}{b:Addr},(kk.getD m []).length=2->H1 b=some (.tup ((kk.getD m []).map V.int))->Den X.K H1 (tupI (kk.getD m [])) (.ref b):=λUp NQ=>⟨_,_,rfl,NQ,tP,by rw[Ww,Up];decide⟩
     unfold kas_ask;rw[H0 i hi,H0 j hj];rw[A0 Rh hi,A0 Rh hj] at hC;refine Ep (s:={s1 with heap:=h',toks:=tk}) (k:=kk.getD i []) (k':=kk.getD j []) (gk _ _ (Nb i hi).2) (gk _ _ (Nb j hj).2) ?_ (λQ' hq=>?_) (by rw[li,lj]) hC
     ·exact(qd I3 (Same.refl H1) 6 _ _ _ _ _ _ _ _ (by show X.A.units+1+1+6<cLine;omega) (dn li a3) (dn lj b3) rfl rfl (kc 5 _ _)).eq
     ·obtain⟨ui,r1,p1,_⟩:=I3.tuple (SqT.of (K:=X.K) a3);obtain⟨uj,r2,p2,_⟩:=I3.tuple (SqT.of (K:=X.K) b3);exact HT.lt_tupInts p1 p2 (by simpa using intsAre_of r1) (by simpa using intsAre_of r2) (by show X.A.units+1+1<cLine;omega) (by rw[BJ];exact hq)
    ·rw[BC] at NR hR;have K5:∀i∈P.toList,i<kk.length:=λi hi=>by
      obtain⟨j,hj,rfl⟩:=Zj.mp hi;have M4:j<P.size:=by rw[W5] at hj;exact hj
      have:=NR.lt j (by rw[NR.sz] at M4;exact M4);rw[eO,Yj M4] at this;simpa using this
     have Nc:=uM Td (by rw[Oq];exact NR) (by rw[Oq];exact hR);have Qd:(((W8 kk.length).map λi=>(as.getD i 0,HO.tup [.ref (g i).2.1, .int (ns.getD i 0)])).map (·.1)).Nodup:=by
      rw[Xo];have:(W8 kk.length).map ((·.1)∘λi=>(as.getD i 0,HO.tup [.ref (g i).2.1, .int (ns.getD i 0)]))=as:=by
       refine aav (by simp[J2]) λi a1 a2=>?_;rw[ZU,adl];show as.getD i 0=_;rw[WK,Wy a2];rfl
      rw[this];exact hP.2.1
     have mem:∀i,i<kk.length->(as.getD i 0,HO.tup [.ref (g i).2.1, .int (ns.getD i 0)])∈(W8 kk.length).map λi=>(as.getD i 0,HO.tup [.ref (g i).2.1, .int (ns.getD i 0)]):=λi hi=>WM.mpr ⟨i,Yq.mpr hi,rfl⟩;generalize hL:((W8 kk.length).map λi=>(as.getD i 0,HO.tup [.ref (g i).2.1, .int (ns.getD i 0)]))=L at Qd mem;have of:∀q∈L,∃i,i<kk.length/\q=(as.getD i 0,HO.tup [.ref (g i).2.1, .int (ns.getD i 0)]):=λq hq=>by
      rw[<-hL] at hq;obtain⟨i,hi,rfl⟩:=WM.mp hq;exact⟨i,Yq.mp hi,rfl⟩
     have I4:Inv X f8 σ (pw L H1) {s1 with heap:=h1,toks:=tk}:=Fj I1 keep Qd (λq hq=>by obtain⟨i,hi,rfl⟩:=of q hq;exact(Nb i hi).1) λq hq=>by
      obtain⟨i,hi,rfl⟩:=of q hq;exact⟨by rw[yc];show 2<=_;decide,[.ref (g i).2.1, .int (ns.getD i 0) (g i).2.2], .cons rfl (.cons ⟨_,rfl⟩ .nil),_,(Nb i hi).2,rfl,_,rfl⟩
     have BA:pw L H1 h1.objs.size=none:=I4.hok.fresh (WO _);have I5:=I4.laid (h':=h') (a:=h1.objs.size) (t':=tk) (o:= .lst (P.toList.map λi=>V.ref (as.getD i 0))) (λb ob e=>qm b ob (W4 (WH e)) (Wx _ e)) (WO _) ⟨by rw[Ww,W5,NR.sz,yc];omega,P.toList.map λi=>WY (as.getD i 0),c',uP _,by
      rw[show (P.toList.map λi=>WY (as.getD i 0))=P.toList.map λi=>vals.getD i Xi from X2 λi hi=>(H0 i (K5 i hi)).symm];exact Lc⟩
     refine⟨_,rfl,WA ⟨_,rfl,⟨.ref h1.objs.size,_,I5,rfl,?_⟩⟩⟩;obtain⟨F2,x2,r2⟩:=rO e1.fh (B9 (H:=H1) (b:=λi=>(g i).2.1) (k:=λi=>kk.getD i []) (W8 kk.length) λi hi=>(N2 i (Yq.mp hi)).2.2.1);have x3:=xP (l:=L) x2.fh Qd λq hq=>by obtain⟨i,hi,rfl⟩:=of q hq;exact I1.hok.fresh (Nb i hi).1
     have x4:=Ext.lay (o:= .lst (P.toList.map λi=>V.ref (as.getD i 0))) x3.fh BA;refine WP.fin w1 (x2.trans (x3.trans x4)) ⟨h1.objs.size,_,rfl,aP,?_,by rw[Ww,nU,Oq];unfold lim;omega⟩;rw[<-Nc,Xo];refine xI (g:=BZ∘λi=>(lL kk ns).getD i []) (p:=λi=>as.getD i 0) P.toList λi hi=>?_;have hi:=K5 i hi;have li:(kk.getD i []).length=2:=adL (Xe.mp QP _ (by rw[WK,Wy hi];exact Zp hi));show Den X.K _ (BZ ((lL kk ns).getD i [])) _;rw[A0 Rh hi];have Ac:=y6 r2 i (Yq.mpr hi);obtain⟨ka,kb,ek⟩:∃ka kb,kk.getD i []=[ka,kb]:=match kk.getD i [],li with | [ka,kb],_=>⟨ka,kb,rfl⟩
     rw[ek] at Ac⊢;refine⟨as.getD i 0,[.ref (g i).2.1, .int (ns.getD i 0)],rfl,x4.ff _ _ (vB Qd (mem i hi)), .cons ⟨(g i).2.1,[.int ka, .int kb],rfl,x4.ff _ _ (x3.ff _ _ Ac), .cons rfl (.cons rfl .nil),by show 2<=lim;decide⟩ (.cons rfl .nil),by show 2<=lim;decide⟩
   ·exact w1.elim
  ·exact w1.elim
 ·exact w1.elim
end
end L3
namespace L3
open PySem PySem.Spec L2
open PyProof.Rows hiding St
section
variable{X:Cx}{Xw:Nat->Hp->Prop}{e:Expr}{δ:DE}{pos pos':Pos}
def GL(i:Nat)(δ:DE):DS:=λρ=>match ρ[i]? with
 |some (some (.fz (.int a)))=>δ ρ>>=λd=>match d with
  | .int b=>ae (.nx (ρ.set i (some (.fz (.int (a+b))))))
  |_=>ag
 |_=>ag
def Ji{i:Nat}{x:Str}(hN:X.N.Nodup)(hi:X.N[i]? =some x)(hx:Loc X.env.scope x)(he:PD X Xw e δ)(hf:X.fn x=true\/X.env.scope.names.lookup x=some .local:=by first | exact .inl rfl | exact .inr rfl):
 iR X Xw (.AugAssign (.Name x pos') .Add e pos) (GL i δ):=λs0 adP=>PS.weak (Mu hN hi hx he Lv hf) λD σ H ⟨F,ρ,s,w⟩=>by
 have w:WPS X.K Xw s0 adP (GL i δ ρ) D:=w;unfold GL at w;split at w
 ·rename_i a ha;obtain⟨v,h1,h2⟩:=s.st.den i _ ha;cases (show v=_ from h2);refine⟨_,h1,F,ρ,s.st,?_⟩
  match δ ρ,w with
  |none,w=>exact w
  |some (.ok (.int b)),w=>exact λu H' F' e' q=>⟨a,b,rfl,q,w _ F' H' ((s.ext' e').set rfl)⟩
  |some (.ex n),w=>exact λF' H' e'=>w F' H' (s.ext.trans e')
 ·exact w.elim
end
def wm{X:Cx}{Xw:Nat->Hp->Prop}{a b:Expr}{δa δb:DE}{pos:Pos}(ha:PD X Xw a δa)(hb:PD X Xw b δb)(hm:XJ .In b=false:=by rfl):pL X Xw (.Compare a [.In] [b] pos) (cW (d2 (kP false) δa δb)):=gf uo Ib ha hb hm
end L3
namespace L3
open PySem PySem.W PyProof.Rows
end L3
namespace L3
def Se(n:Nat)(δs:DA):DS:=λρ=>δs ρ>>=λds=>if ds.length<=lim then br n else ag
end L3
namespace K1
open PySem PySem.Spec L2 L3
open PyProof.Rows hiding St
def Ni:Nat->Nat
 |1=>1
 |4=>4
 |_=>0
def cB(cA:Nat->Addr)(n:Nat):Addr:=cA (Ni n)
def uY(cA:Nat->Addr):List Addr:=[cA 0,cA 1,cA 4]
def Eh(k:Nat):M D:=ae (.tup [.str "refused", .int ((Ni k:Nat):Int)])
def A8:DS:=(bO (fU (dA lz (aC (dV 0) (aC (dC (.raw (.ty "int"))) aN))) (JU (dA lz (aC (dV 0) (aC (dC (.raw (.ty "bool"))) aN))))))
def fc:List D->M D:=bV 1 (A8)
def zy:DS:=(bO (fU (dA lz (aC (dV 0) (aC (dC (.raw (.ty "str"))) aN))) (fU (d2 lU (dA bx (aC (dV 0) aN)) (dC (.int 1))) (d2 (ET false) (dV 0) (dC (.str "abcdef"))))))
def dN:List D->M D:=bV 1 (zy)
def sj:DS:=(bO (a7 0 (λρ=>(aC (dA bx (aC (d2 ba (dV 0) (dC (.int 0))) aN)) aN) ρ>>=fJ) bI (dA aS (aC (dV 2) (aC (dV 0) aN)))))
def cR:List D->M D:=bV 2 (sj)
def zD:DS:=(bO (d2 ni (d2 ba (dV 0) (d2 ba (dV 1) (dC (.int 0)))) (d2 ba (dV 1) (dC (.int 1)))))
def eC:List D->M D:=bV 2 (zD)
def A6:DS:=(aF (bu 3 (dA En (aC (d2 gJ (d2 ba (dV 0) (dC (.int 0))) (d2 ba (dV 1) (dC (.int 0)))) aN))) (aF (bu 4 (dA En (aC (d2 gJ (d2 ba (dV 0) (dC (.int 1))) (d2 ba (dV 1) (dC (.int 1)))) aN))) (aF (jy (cW (d2 lU (dV 2) (dC (.int 4)))) (bO (d2 lU (d2 cV (dV 3) (dV 4)) (dC (.int 1)))) eB) (bO (d2 lU (dA vH (aC (dV 3) (aC (dV 4) aN))) (dC (.int 1)))))))
def er:List D->M D:=bV 5 (A6)
def JN:DS:=(aF (oQ 1) (aF (λρ=>noex ((cN (putN 2) (Ll (bX (dV 0)) (λρ=>(dV 0) ρ>>=jH)) (b9 [2] (fV 1 (dV 2) (dC (.bl true))))) ρ)) (xk 1 (bO (dV 1)))))
def ke:List D->M D:=bV 3 (JN)
def sm:DS:=(aF (jy (cW (d2 lU (dV 0) (dA bS aN))) (bO (d2 iV (dC (.int 7)) (dV 1))) eB) (bO (d2 cV (d2 EU (dV 0) (d2 lV (dV 1) (dA bx (aC (dV 0) aN)))) (d2 iV (dC (.int 6553)) (d2 sC (dV 1) (dA bx (aC (dV 0) aN)))))))
def gF:List D->M D:=bV 2 (sm)
def zA:DS:=(aF (jy (pe (e9 (du (dA lz (aC (dV 0) (aC (dC (.raw (.ty "str"))) aN))))) (e9 (cW (zF (λi j=>decide (i<=j)) (λi j=>decide (i<=j)) (dC (.int 1)) (dA bx (aC (dV 0) aN)) (dC (.int 8)))))) (bO (dC (.bl false))) eB) (bO (dA allM (aC (a7 0 (λρ=>(dV 0) ρ>>=MK) bI (ay 1 dN (aC (dV 0) aN))) aN))))
def gE:List D->M D:=bV 1 (zA)
def zE:DS:=(jy (pe (e9 (du (ay 1 fc (aC (dV 0) aN)))) (cW (d2 (sD true) (dV 0) (dA aS (aC (dC (.int 4)) (aC (dC (.int 8)) aN)))))) (Se 1 (aC (dC (.str "ways are 4 or 8")) aN)) eB)
def bY:List D->M D:=bV 1 (zE)
def zx:DS:=(aF (wA 1) (aF (λρ=>noex ((cN (putN 2) (λρ=>(aC (dA bx (aC (dV 0) aN)) aN) ρ>>=fJ) (b9 [2] (GN 1 (ay 2 cR (aC (dV 0) (aC (dV 2) aN)))))) ρ)) (xk 1 (bO (dV 1)))))
def cY:List D->M D:=bV 3 (zx)
def xf:DS:=(aF (wA 3) (aF (λρ=>noex ((cN (putN 4) (λρ=>(aC (dA vH (aC (d2 gJ (d2 ba (dV 1) (dC (.int 0))) (dC (.int 1))) (aC (dC (.int 0)) aN))) (aC (dA yt (aC (d2 cV (d2 ba (dV 1) (dC (.int 0))) (dC (.int 2))) (aC (dA bx (aC (dV 0) aN)) aN))) aN)) ρ>>=uJ) (b9 [4,5] (cN (putN 5) (λρ=>(aC (dA vH (aC (d2 gJ (d2 ba (dV 1) (dC (.int 1))) (dC (.int 1))) (aC (dC (.int 0)) aN))) (aC (dA yt (aC (d2 cV (d2 ba (dV 1) (dC (.int 1))) (dC (.int 2))) (aC (dA bx (aC (d2 ba (dV 0) (dC (.int 0))) aN)) aN))) aN)) ρ>>=uJ) (b9 [5] (jy (du (ay 3 er (aC (dV 1) (aC (dA aS (aC (dV 4) (aC (dV 5) aN))) (aC (dV 2) aN))))) (pG 3 (dA aS (aC (dV 4) (aC (dV 5) aN)))) eB))))) ρ)) (xk 3 (bO (dV 3)))))
def a6:List D->M D:=bV 6 (xf)
def oV:DS:=(aF (bu 3 (d2 lV (d2 cV (d2 iV (d2 lV (ay 2 gF (aC (dV 0) (aC (dV 1) aN))) (dC (.int 2147483563))) (dC (.int 69069))) (d2 iV (dC (.int 104723)) (d2 cV (dV 1) (dC (.int 1))))) (dC (.int 2147483563)))) (aF (bu 3 (d2 lV (d2 cV (d2 iV (dV 3) (dV 3)) (d2 sC (dV 3) (dC (.int 3)))) (dC (.int 2147483399)))) (bO (d2 lV (d2 sC (d2 lV (d2 cV (d2 iV (dV 3) (dV 3)) (d2 sC (dV 3) (dC (.int 7)))) (dC (.int 2147483647))) (dC (.int 11))) (dV 2)))))
def aV:List D->M D:=bV 4 (oV)
def sk:DS:=(aF (jy (pe (e9 (du (dA lz (aC (dV 0) (aC (dC (.raw (.ty "tuple"))) aN))))) (e9 (cW (zF (λi j=>decide (i<=j)) (λi j=>decide (i<=j)) (dC (.int 1)) (dA bx (aC (dV 0) aN)) (dC (.int 8)))))) (bO (dC (.bl false))) eB) (aF (jy (e9 (du (dA allM (aC (a7 0 (pd (dV 0)) bI (ay 1 gE (aC (dV 0) aN))) aN)))) (bO (dC (.bl false))) eB) (bO (dA allM (aC (a7 0 (pd (dV 0)) bI (d2 lU (dA bx (aC (dV 0) aN)) (dA bx (aC (d2 ba (dV 1) (dC (.int 0))) aN)))) aN)))))
def iU:List D->M D:=bV 1 (sk)
def xb:DS:=(aF (bu 3 (ay 2 eC (aC (dV 0) (aC (dV 1) aN)))) (bO (a7 0 (bX (ay 3 a6 (aC (dV 0) (aC (dV 1) (aC (dV 2) aN))))) (cW (d2 lU (ay 2 eC (aC (dV 1) (aC (dV 0) aN))) (dV 4))) (dV 0))))
def dg:List D->M D:=bV 4 (xb)
def SD:DE:=a7 0 (λρ=>(aC (dV 4) aN) ρ>>=fJ) bI (d2 ni (dV 6) (ay 3 aV (aC (dV 1) (aC (d2 cV (d2 cV (d2 cV (dV 2) (dC (.int 3))) (d2 iV (dC (.int 7)) (dV 8))) (dV 0)) (aC (dA bx (aC (dV 6) aN)) aN)))))
def SE:DS:=bu 6 (d2 Bx (dV 6) (dA aS (aC (dM Ql joinM (dC (.str "")) (aC (dV 8) aN)) aN)))
def zB:DS:=(aF (bu 3 (d2 cV (dC (.int 1)) (ay 3 aV (aC (dV 0) (aC (dV 1) (aC (dV 2) aN)))))) (aF (bu 4 (d2 cV (dC (.int 1)) (ay 3 aV (aC (dV 0) (aC (d2 cV (dV 1) (dC (.int 1))) (aC (dV 2) aN)))))) (aF (bu 5 (d2 pj (dA bS (aC (dC (.str "ab")) (aC (dC (.str "abc")) (aC (dC (.str "aab")) (aC (dC (.str "fa")) aN))))) (ay 3 aV (aC (dV 0) (aC (d2 cV (dV 1) (dC (.int 2))) (aC (dC (.int 4)) aN)))))) (aF (bu 6 (dA aS aN)) (aF (λρ=>noex ((cN (putN 7) (λρ=>(aC (dV 3) aN) ρ>>=fJ) (b9 [7,8] (aF (bu 8 (SD)) (SE)))) ρ)) (bO (dV 6)))))))
def dO:List D->M D:=bV 9 (zB)
def xc:DS:=(jy (e9 (du (ay 1 iU (aC (dV 0) aN)))) (Se 0 (aC (dC (.str "a tuple of 1 to 8 texts of 1 to 8 letters, all as long, is asked for")) aN)) eB)
def bK:List D->M D:=bV 1 (xc)
def MI:DS:=b9 [7] (jy (Hq (cW (d2 (jE true) (dV 7) (dV 3)))) (aF (fV 3 (dV 7) (dV 6)) (pG 5 (dV 7))) eB)
def xh:DS:=(aF (uK 3 (λρ=>(dV 1) ρ>>=λx=>(dC .non) ρ>>=λy=>tQ x y)) (aF (bu 4 (dA bS (aC (dV 1) aN))) (aF (λρ=>noex ((AQ (du (dV 4)) (b9 [5,6,7] (aF (wA 5) (aF (cN (putN 6) (bX (dV 4)) (b9 [6,7] (cN (putN 7) (bX (ay 3 dg (aC (dV 0) (aC (dV 6) (aC (dV 2) aN))))) (MI)))) (xk 5 (bu 4 (dV 5))))))) ρ)) (xk 3 (bO (dV 3))))))
def dX:List D->M D:=bV 8 (xh)
def xg:DS:=(aF (oQ 1) (aF (λρ=>noex ((cN (jw [2,3]) (λρ=>(aC (dV 0) aN) ρ>>=n9) (b9 [2,3,4] (cN (putN 4) (bX (dV 3)) (b9 [4] (fV 1 (dV 4) (dV 2)))))) ρ)) (xk 1 (bO (dV 1)))))
def fY:List D->M D:=bV 5 (xg)
def w9:DS:=(bO (HB (d2 (sD false) (d2 ba (dV 1) (dC (.int 0))) (dA aS (aC (dC (.int 0)) (aC (d2 gJ (dA bx (aC (dV 0) aN)) (dC (.int 1))) aN)))) (d2 (sD false) (d2 ba (dV 1) (dC (.int 1))) (dA aS (aC (dC (.int 0)) (aC (d2 gJ (dA bx (aC (d2 ba (dV 0) (dC (.int 0))) aN)) (dC (.int 1))) aN))))))
def dU:List D->M D:=bV 2 (w9)
def zC:DS:=(aF (bu 1 (dA bS aN)) (aF (λρ=>noex ((cN (putN 2) (λρ=>(aC (dA bx (aC (dV 0) aN)) aN) ρ>>=fJ) (b9 [2] (bu 1 (d2 gG (dV 1) (a7 0 (λρ=>(aC (dA bx (aC (d2 ba (dV 0) (dC (.int 0))) aN)) aN) ρ>>=fJ) bI (dA aS (aC (dV 3) (aC (dV 0) aN)))))))) ρ)) (bO (dV 1))))
def cZ:List D->M D:=bV 3 (zC)
def Eu:DS:=(b9 [5,6,7,8] (aF (bu 6 (d2 cV (d2 ba (dV 1) (dC (.int 0))) (dV 4))) (aF (bu 7 (d2 cV (d2 ba (dV 1) (dC (.int 1))) (dV 5))) (aF (bu 8 (fU (zF (λi j=>decide (i<=j)) (λi j=>decide (i<j)) (dC (.int 0)) (dV 6) (dA bx (aC (dV 0) aN))) (zF (λi j=>decide (i<=j)) (λi j=>decide (i<j)) (dC (.int 0)) (dV 7) (dA bx (aC (d2 ba (dV 0) (dC (.int 0))) aN))))) (jy (lq (du (dV 8)) (lq (cW (d2 qi (dA aS (aC (dV 4) (aC (dV 5) aN))) (dA aS (aC (dC (.int 0)) (aC (dC (.int 0)) aN))))) (pe (cW (d2 lU (dV 2) (dC (.int 8)))) (cW (d2 lU (d2 iV (dV 4) (dV 5)) (dC (.int 0))))))) (pG 3 (dA aS (aC (dV 6) (aC (dV 7) aN)))) eB)))))
def w_:DS:=(aF (wA 3) (aF (λρ=>noex ((cN (putN 4) (pd (dA aS (aC (d1 Dx (dC (.int 1))) (aC (dC (.int 0)) (aC (dC (.int 1)) aN))))) (b9 [4,5,6,7,8] (cN (putN 5) (pd (dA aS (aC (d1 Dx (dC (.int 1))) (aC (dC (.int 0)) (aC (dC (.int 1)) aN))))) Eu))) ρ)) (xk 3 (bO (dV 3)))))
def dW:List D->M D:=bV 9 (w_)
def fE(K:WI)(cA:Nat->Addr):DS:=(aF (bu 1 (dA bS (aC (dA (nj K (uY cA)) (aC (dV 0) (aC (dC (.raw (.ref (cA 0)))) aN))) (aC (dA (nj K (uY cA)) (aC (dV 0) (aC (dC (.raw (.ref (cA 1)))) aN))) (aC (dA (nj K (uY cA)) (aC (dV 0) (aC (dC (.raw (.ref (cA 2)))) aN))) aN))))) (aF (bu 1 (d2 gG (dV 1) (dA bS (aC (dA (nj K (uY cA)) (aC (dV 0) (aC (dC (.raw (.ref (cA 3)))) aN))) (aC (dA (nj K (uY cA)) (aC (dV 0) (aC (dC (.raw (.ref (cA 4)))) aN))) (aC (dA (nj K (uY cA)) (aC (dV 0) (aC (dC (.raw (.ref (cA 5)))) aN))) aN)))))) (aF (bu 1 (d2 gG (dV 1) (dA bS (aC (dA (nj K (uY cA)) (aC (dV 0) (aC (dC (.raw (.ref (cA 6)))) aN))) aN)))) (aF (jy (pe (cW (d2 qi (dM gL CI (dV 1) (aC (dC (.bl true)) aN)) (dC (.int 1)))) (e9 (du (dA (nj K (uY cA)) (aC (dV 0) (aC (dC (.raw (.ty "ValueError"))) aN)))))) (bO (dA aS (aC (dC (.str "refused")) (aC (d1 Dx (dC (.int 1))) aN)))) eB) (bO (dA aS (aC (dC (.str "refused")) (aC (dM gL Lm (dV 1) (aC (dC (.bl true)) aN)) aN))))))))
def bU(K:WI)(cA:Nat->Addr):List D->M D:=bV 2 (fE K cA)
def Qw:DS:=(b9 [7,8] (jy (Hq (lq (cW (d2 (jE false) (dV 7) (dV 2))) (cW (d2 qi (d2 cy (dV 2) (dV 7)) (d2 cy (dV 2) (dV 5)))))) (aF (bu 8 (Hd (dA aS (aC (dA yt (aC (d2 cy (dV 2) (dV 5)) (aC (d2 cy (dV 2) (dV 7)) aN))) (aC (dA vH (aC (d2 cy (dV 2) (dV 5)) (aC (d2 cy (dV 2) (dV 7)) aN))) aN))))) (fV 6 (dV 8) (Hd (d2 cV (ju (dV 6) (dV 8) (dC (.int 0))) (dC (.int 1)))))) eB))
def so:DS:=(aF (oQ 2) (aF (λρ=>noex ((cN (jw [3,4]) (λρ=>(aC (dV 1) aN) ρ>>=n9) (b9 [3,4,5] (cN (putN 5) (bX (dV 4)) (b9 [5] (fV 2 (dV 5) (dV 3)))))) ρ)) (aF (oQ 6) (aF (Po [5] (xk 2 (λρ=>noex ((cN (putN 5) (λρ=>(dV 2) ρ>>=jH) (b9 [5,7,8] (cN (putN 7) (bX (dA bS (aC (dA aS (aC (d2 cV (d2 ba (dV 5) (dC (.int 0))) (dC (.int 1))) (aC (d2 ba (dV 5) (dC (.int 1))) aN))) (aC (dA aS (aC (d2 ba (dV 5) (dC (.int 0))) (aC (d2 cV (d2 ba (dV 5) (dC (.int 1))) (dC (.int 1))) aN))) aN)))) Qw))) ρ)))) (xk 6 (bO (a7 0 (bX (dA oS (aC (dV 6) aN))) bI (dA aS (aC (dV 0) (aC (d2 cy (dV 7) (dV 0)) aN))))))))))
def cS:List D->M D:=bV 9 (so)
def tm:DS:=(jy (pe (e9 (du (ay 1 fc (aC (dV 1) aN)))) (e9 (cW (zF (λi j=>decide (i<=j)) (λi j=>decide (i<j)) (dC (.int 0)) (dV 1) (dV 0))))) (Se 4 (aC (dC (.str "the number of a patch of the board is asked for")) aN)) eB)
def dB:List D->M D:=bV 2 (tm)
def pJ:DS:=(bO (dA anyM (aC (a7 0 (bX (dV 1)) bI (ay 2 dU (aC (dV 1) (aC (dV 0) aN)))) aN)))
def b7:List D->M D:=bV 2 (pJ)
def TJ:DS:=(b9 [8,9,10] (jy (Hq (cW (d2 qi (d2 cy (dV 2) (dV 8)) (d2 cy (dV 2) (dV 9))))) (aF (bu 10 (Hd (dA yu (aC (d2 cy (dV 2) (dV 8)) (aC (d2 cy (dV 2) (dV 9)) aN))))) (aF (fV 2 (dV 8) (dV 10)) (aF (fV 2 (dV 9) (dV 10)) (bu 7 (dC (.bl true)))))) eB))
def Qq:DS:=(b9 [5,6] (aF (bu 6 (d2 ni (d2 ba (dV 0) (d2 ba (dV 4) (dC (.int 0)))) (d2 ba (dV 4) (dC (.int 1))))) (jy (lq (cW (d2 Ab (dV 4) (dV 5))) (cW (d2 lU (dV 6) (d2 ni (d2 ba (dV 0) (d2 ba (dV 5) (dC (.int 0)))) (d2 ba (dV 5) (dC (.int 1))))))) (pG 3 (dA aS (aC (dV 4) (aC (dV 5) aN)))) eB)))
def RS:DS:=(b9 [8,9,10] (aF (bu 7 (dC (.bl false))) (xk 3 (cN (jw [8,9]) (bX (dV 3)) TJ))))
def xa:DS:=(aF (uK 2 (λρ=>(aC (a7 0 (bX (ay 1 cZ (aC (dV 0) aN))) bI (dA aS (aC (dV 0) (aC (dV 0) aN)))) aN) ρ>>=Bo)) (aF (wA 3) (aF (λρ=>noex ((cN (putN 4) (bX (ay 1 cZ (aC (dV 0) aN))) (b9 [4,5,6] (cN (putN 5) (bX (ay 3 dW (aC (dV 0) (aC (dV 4) (aC (dV 1) aN))))) Qq))) ρ)) (aF (bu 7 (dC (.bl true))) (aF (λρ=>noex ((AQ (du (dV 7)) RS) ρ)) (xk 2 (bO (dV 2))))))))
def fX:List D->M D:=bV 11 (xa)
def Qu:DS:=(b9 [5,6] (jy (cW (d2 P5 (d2 cy (dV 2) (dV 4)) (d2 cy (dV 2) (dV 5)))) (aF (bu 6 (dA aS (aC (d2 cy (dV 2) (dV 4)) (aC (d2 cy (dV 2) (dV 5)) aN)))) (fV 3 (dV 6) (Hd (d2 cV (ju (dV 3) (dV 6) (dC (.int 0))) (dC (.int 1)))))) eB))
def sq:DS:=(aF (bu 2 (ay 1 fY (aC (dV 1) aN))) (aF (oQ 3) (aF (λρ=>noex ((cN (putN 4) (bX (ay 1 cY (aC (dV 0) aN))) (b9 [4,5,6] (cN (putN 5) (bX (ay 3 a6 (aC (dV 0) (aC (dV 4) (aC (dC (.int 4)) aN))))) Qu))) ρ)) (xk 3 (bO (dV 3))))))
def cT:List D->M D:=bV 7 (sq)
def RU:DS:=(b9 [4] (fV 3 (d2 cy (dV 2) (dV 4)) (NC (d2 gG (ju (dV 3) (d2 cy (dV 2) (dV 4)) (dA bS aN)) (dA bS (aC (dV 4) aN))))))
def tf:DS:=(aF (bu 2 (ay 2 fX (aC (dV 0) (aC (dV 1) aN)))) (aF (oQ 3) (aF (λρ=>noex ((cN (putN 4) (bX (ay 1 cZ (aC (dV 0) aN))) RU) ρ)) (xk 3 (bO (a7 0 (bX (dA oS (aC (dV 3) aN))) bI (d2 cy (dV 4) (dV 0))))))))
def cK:List D->M D:=bV 5 (tf)
def QJ:DS:=(b9 [4,5] (jy (Hq (cW (d2 (jE true) (dV 4) (dV 3)))) (aF (bu 5 (dA oS (aC (ay 3 dX (aC (dV 0) (aC (dV 4) (aC (dV 1) aN)))) aN))) (aF (pG 2 (dV 5)) (GP 3 (ay 1 ke (aC (dV 5) aN))))) eB))
def s_:DS:=(aF (wA 2) (aF (oQ 3) (aF (λρ=>noex ((cN (putN 4) (bX (ay 1 cY (aC (dV 0) aN))) QJ) ρ)) (xk 2 (bO (dV 2))))))
def a8:List D->M D:=bV 6 (s_)
def ij:DS:=(aF (kM (ay 1 bK (aC (dV 0) aN))) (aF (kM (ay 1 bY (aC (dV 1) aN))) (aF (bu 3 (ay 2 a8 (aC (dV 0) (aC (dV 1) aN)))) (aF (kM (ay 2 dB (aC (dA bx (aC (dV 3) aN)) (aC (dV 2) aN)))) (bO (d2 pj (dV 3) (dV 2)))))))
def aQ:List D->M D:=bV 4 (ij)
def A9:DS:=(aF (kM (ay 1 bK (aC (dV 0) aN))) (aF (kM (ay 1 bY (aC (dV 1) aN))) (bO (d1 nV (ay 2 cT (aC (dV 0) (aC (ay 2 a8 (aC (dV 0) (aC (dV 1) aN))) aN)))))))
def fe:List D->M D:=bV 2 (A9)
def A7:DS:=(aF (kM (ay 1 bK (aC (dV 0) aN))) (aF (kM (ay 1 bY (aC (dV 1) aN))) (aF (bu 2 (a7 0 (bX (ay 2 a8 (aC (dV 0) (aC (dV 1) aN)))) bI (dA bx (aC (dV 0) aN)))) (bO (dM gL qu (dV 2) (aC (dA g8 (aC (dV 2) aN)) aN))))))
def fb:List D->M D:=bV 3 (A7)
def D_:DS:=(aF (kM (ay 1 bK (aC (dV 0) aN))) (aF (kM (ay 1 bY (aC (dV 1) aN))) (bO (a7 2 (λρ=>(aC (ay 2 a8 (aC (dV 0) (aC (dV 1) aN))) aN) ρ>>=n9) (du (ay 2 b7 (aC (dV 2) (aC (dV 1) aN)))) (dV 0)))))
def gp:List D->M D:=bV 2 (D_)
def MX:DS:=(bO (dA bx (aC (ay 3 aQ (aC (dV 0) (aC (dV 1) (aC (dV 2) aN)))) aN)))
def lx:List D->M D:=bV 3 (MX)
def PO:DS:=(aF (bu 3 (ay 3 aQ (aC (dV 0) (aC (dV 1) (aC (dV 2) aN))))) (aF (bu 4 (ay 1 ke (aC (dV 3) aN))) (aF (bu 5 (dC (.int 0))) (aF (λρ=>noex ((cN (putN 6) (bX (dV 3)) (b9 [6] (GL 5 (d2 gJ (dC (.int 4)) (dA bx (aC (a7 0 (bX (ay 3 a6 (aC (dV 0) (aC (dV 6) (aC (dC (.int 4)) aN))))) (cW (d2 (jE false) (dV 0) (dV 5))) (dV 0)) aN)))))) ρ)) (bO (dV 5))))))
def qf:List D->M D:=bV 7 (PO)
def PM:DS:=(aF (bu 3 (ay 3 aQ (aC (dV 0) (aC (dV 1) (aC (dV 2) aN))))) (aF (bu 4 (a7 0 (bX (dV 3)) bI (d2 ba (dV 0) (dC (.int 0))))) (aF (bu 5 (a7 0 (bX (dV 3)) bI (d2 ba (dV 0) (dC (.int 1))))) (bO (dA aS (aC (dA me (aC (dV 4) aN)) (aC (dA me (aC (dV 5) aN)) (aC (dA g8 (aC (dV 4) aN)) (aC (dA g8 (aC (dV 5) aN)) aN)))))))))
def qe:List D->M D:=bV 6 (PM)
def Ea:DS:=(aF (bu 1 (dC (.int 0))) (aF (λρ=>noex ((cN (jw [2,3]) (bX (dV 0)) (b9 [2,3,4] (aF (bu 4 (dA bS (aC (dA aS (aC (d2 cV (dV 2) (dC (.int 1))) (aC (dV 3) aN))) (aC (dA aS (aC (d2 gJ (dV 2) (dC (.int 1))) (aC (dV 3) aN))) (aC (dA aS (aC (dV 2) (aC (d2 cV (dV 3) (dC (.int 1))) aN))) (aC (dA aS (aC (dV 2) (aC (d2 gJ (dV 3) (dC (.int 1))) aN))) aN)))))) (bu 1 (d2 cV (dV 1) (dA bx (aC (a7 0 (bX (dV 4)) (cW (d2 (xV true) (dV 0) (dV 1))) (dV 0)) aN))))))) ρ)) (bO (dV 1))))
def iE:List D->M D:=bV 5 (Ea)
def th:DS:=(MH (aF (jy (cW (d2 P5 (dV 0) (dC (.int 3)))) (bO (ED [lx,qf,qe] 3 (dV 0) (aC (dV 1) (aC (dV 2) (aC (dV 3) aN))))) eB) (bO (ED [fe,fb,gp] 2 (d2 gJ (dV 0) (dC (.int 3))) (aC (dV 1) (aC (dV 2) aN))))) λk=>noex (Eh k))
def aJ:List D->M D:=bV 5 (th)
def oW:DS:=(bu 1 (ay 3 dO (aC (dV 0) (aC (dC (.int 0)) (aC (dC (.int 4)) aN)))))
def oX:DS:=(bu 2 (d2 pj (dA bS (aC (dC (.int 4)) (aC (dC (.int 8)) aN))) (ay 3 aV (aC (dV 0) (aC (dC (.int 50)) (aC (dC (.int 2)) aN))))))
def oY:DS:=(bu 3 (ay 2 cK (aC (dV 1) (aC (dV 2) aN))))
def oZ:DS:=(wA 4)
def LO:DS:=(b9 [5,6,7,8,9] (aF (bu 7 (a7 0 (bX (dV 6)) bI (d2 ba (dV 0) (dC (.int 0))))) (aF (bu 8 (a7 0 (bX (dV 6)) bI (d2 ba (dV 0) (dC (.int 1))))) (aF (bu 9 (dA bS (aC (dA bx (aC (dV 6) aN)) (aC (ay 1 iE (aC (dV 6) aN)) (aC (dA aS (aC (dA me (aC (dV 7) aN)) (aC (dA me (aC (dV 8) aN)) (aC (dA g8 (aC (dV 7) aN)) (aC (dA g8 (aC (dV 8) aN)) aN))))) aN))))) (aF (jy (cW (d2 qi (a7 0 (λρ=>(aC (dC (.int 3)) aN) ρ>>=fJ) bI (ay 4 aJ (aC (dV 0) (aC (dV 2) (aC (dV 3) (aC (dV 6) aN)))))) (dV 9))) (bO (dC (.bl false))) eB) (jy (pe (cW (d2 (kP false) (dC (.int 0)) (d2 gG (dV 7) (dV 8)))) (pe (cW (d2 (kP false) (d2 gJ (dA bx (aC (dV 1) aN)) (dC (.int 1))) (dV 7))) (cW (d2 (kP false) (d2 gJ (dA bx (aC (d2 ba (dV 1) (dC (.int 0))) aN)) (dC (.int 1))) (dV 8))))) (pG 4 (dV 5)) eB))))))
def o3:DS:=(λρ=>noex ((cN (jw [5,6]) (λρ=>(aC (dV 3) aN) ρ>>=n9) LO) ρ))
def o4:DS:=(bu 10 (a7 0 (bX (dV 3)) bI (dA bx (aC (dV 0) aN))))
def o5:DS:=(xk 4 (bu 9 (dA bS (aC (ay 2 cS (aC (dV 1) (aC (dV 3) aN))) (aC (dM gL qu (dV 10) (aC (dA g8 (aC (dV 10) aN)) aN)) (aC (dV 4) aN))))))
def o6:DS:=(jy (cW (d2 qi (a7 0 (pd (dA aS (aC (dC (.int 3)) (aC (dC (.int 4)) (aC (dC (.int 5)) aN))))) bI (ay 4 aJ (aC (dV 0) (aC (dV 2) (aC (dV 3) (aC (dC .non) aN)))))) (dV 9))) (bO (dC (.bl false))) eB)
def o7:DS:=(bu 11 (d2 pj (dA bS (aC (d1 Dx (dC (.int 1))) (aC (dA bx (aC (dV 3) aN)) (aC (dC .non) (aC (dC (.bl false)) (aC (dC (.str "0")) aN)))))) (ay 3 aV (aC (dV 0) (aC (dC (.int 51)) (aC (dC (.int 5)) aN))))))
def o8:DS:=(jy (cW (d2 qi (a7 0 (λρ=>(aC (dC (.int 3)) aN) ρ>>=fJ) bI (ay 4 aJ (aC (dV 0) (aC (dV 2) (aC (dV 3) (aC (dV 12) aN)))))) (d2 EY (dA bS (aC (dA aS (aC (dC (.str "refused")) (aC (dC (.int 4)) aN))) aN)) (dC (.int 3))))) (bO (dC (.bl false))) eB)
def mY:DS:=(bu 12 (d2 pj (dA bS (aC (dC (.int 5)) (aC (dC .non) (aC (dC (.int 0)) aN)))) (ay 3 aV (aC (dV 0) (aC (dC (.int 52)) (aC (dC (.int 3)) aN))))))
def mZ:DS:=(jy (cW (d2 qi (a7 0 (λρ=>(aC (dC (.int 6)) aN) ρ>>=fJ) bI (ay 4 aJ (aC (dV 0) (aC (dV 2) (aC (dV 13) (aC (dV 12) aN)))))) (d2 EY (dA bS (aC (dA aS (aC (dC (.str "refused")) (aC (dC (.int 1)) aN))) aN)) (dC (.int 6))))) (bO (dC (.bl false))) eB)
def m6:DS:=(bO (d2 lU (a7 0 (λρ=>(aC (dC (.int 6)) aN) ρ>>=fJ) bI (ay 4 aJ (aC (dV 0) (aC (dA FC (aC (dV 2) aN)) (aC (dC (.int 5)) (aC (dV 12) aN)))))) (d2 EY (dA bS (aC (dA aS (aC (dC (.str "refused")) (aC (dC (.int 0)) aN))) aN)) (dC (.int 6)))))
def nZ:DS:=(aF oW (aF oX (aF oY (aF oZ (aF o3 (aF o4 (aF o5 (aF o6 (aF o7 (aF o8 (aF mY (aF mZ m6))))))))))))
def kf:List D->M D:=bV 13 nZ
def QL:List Str:=["NoBoard","NoWays","NoCell","NoLetter","NoNumber","NoFit","Nothing"]
structure Bl (K:WI) (mg:Str->Option Value) (base:Heap) (cv:Nat->Value) (cA:Nat->Addr) (Cp:Addr):Prop where
 len:mg "len"=none
 isinstance:mg "isinstance"=none
 all:mg "all"=none
 any:mg "any"=none
 abs:mg "abs"=none
 max:mg "max"=none
 min:mg "min"=none
 range:mg "range"=none
 str:mg "str"=none
 int:mg "int"=none
 bool:mg "bool"=none
 tuple:mg "tuple"=none
 list:mg "list"=none
 dict:mg "dict"=none
 sorted:mg "sorted"=none
 enumerate:mg "enumerate"=none
 ValueError:mg "ValueError"=none
 LETTERS:∃t,mg "LETTERS"=some (.str "abcdef" t)
 MOST_ROWS:∃t,mg "MOST_ROWS"=some (.int 8 t)
 MOST_COLUMNS:∃t,mg "MOST_COLUMNS"=some (.int 8 t)
 cls:∀n x,QL[n]? =some x->mg x=some (.ref (cA n))
 own0:OwnCls "NoBoard" (cA 0) [.type "ValueError", .type "Exception", .type "BaseException", .type "object"] "ValueError.__new__" mg base
 own1:OwnCls "NoWays" (cA 1) [.type "ValueError", .type "Exception", .type "BaseException", .type "object"] "ValueError.__new__" mg base
 own4:OwnCls "NoNumber" (cA 4) [.type "ValueError", .type "Exception", .type "BaseException", .type "object"] "ValueError.__new__" mg base
 cvE:∀n,cv n= .ref (cB cA n)
 top:mg "PatchError"=some (.ref Cp)
 exm:∀n,Z5 K (cv n) (.ref Cp)=some true
 exs:∀C∈uY cA,ExcC K C
 kit:∀n m,n∈[0,1,4]->m<7->WV K (.ref (cA n)) (.ref (cA m))=some (decide (n=m))
 kitV:∀n,n∈[0,1,4]->WV K (.ref (cA n)) (.type "ValueError")=some true
section
variable{P:Xc}{w:World}{K:WI}{mg:Str->Option Value}{base:Heap}{cv:Nat->Value}{cA:Nat->Addr}{Cp:Addr}{f:Addr}
abbrev lI:Stmt:=top 13
def qS:List Str:=["thing"]
def rp:List Str:=["thing"]
def mR{j k:Nat}{A:Xu}(r:Room k A)(h:j<=k:=by decide):Room j A:=r.mono h
def di{N Q:List Str}{sc:Scope}(k:sc.kind= .function:=by rfl)(c:sc.isCoroutine=false:=by rfl)(g:sc.isGenerator=false:=by rfl)(p:N.take Q.length=Q:=by rfl)(h:N.Nodup/\(∀x∈Q,sc.names.lookup x=some .local\/sc.names.lookup x=some .cell)/\∀y∈sc.names,y.2≠ .free:=by decide+kernel):FnScope N Q sc:=⟨k,c,g,h.1,p,h.2.1,h.2.2⟩
def zh:FnScope qS rp (ai lI):=di
def yN(B:Bl K mg base cv cA Cp)(T:bG K mg "is_whole" lI f):au P w K mg base cv 1 "is_whole" 1 (fc):=
 aE (N:=qS) (ps:=rp) T zh (λ_ _ _ _ _ _ us hl=>match us,hl with | [_],_=>rfl) λ_ _ _ _ _ _ hr=>
  (ar (aG (vY (rF rfl B.isinstance rfl (aa (af (pv 0)) (aa (uy rfl B.int rfl) ah))) (we (Mg (rF rfl B.isinstance rfl (aa (af (pv 0)) (aa (uy rfl B.bool rfl) ah))))))))
abbrev jZ:Stmt:=top 14
def oq:List Str:=["thing"]
def oF:List Str:=["thing"]
def wD:FnScope oq oF (ai jZ):=di
def vR(B:Bl K mg base cv cA Cp)(T:bG K mg "is_letter" jZ f):au P w K mg base cv 1 "is_letter" 1 (dN):=
 aE (N:=oq) (ps:=oF) T wD (λ_ _ _ _ _ _ us hl=>match us,hl with | [_],_=>rfl) λ_ _ _ _ _ _ hr=>
  (ar (aG (vY (rF rfl B.isinstance rfl (aa (af (pv 0)) (aa (uy rfl B.str rfl) ah))) (vY (yT hr.units (bQ rfl B.len (aa (af (pv 0)) ah)) ak) (we (Me (af (pv 0)) (IX rfl B.LETTERS (by decide))))))))
abbrev eX:Stmt:=top 19
def eQ:List Str:=["board","row"]
def jP:List Str:=["board","row"]
def pH:FnScope eQ jP (ai eX):=di
def pA(B:Bl K mg base cv cA Cp)(T:bG K mg "cells_of_row" eX f):au P w K mg base cv 1 "cells_of_row" 2 (cR):=
 aE (N:=eQ) (ps:=jP) T pH (λ_ _ _ _ _ _ us hl=>match us,hl with | [_,_],_=>rfl) λ_ _ _ _ _ _ hr=>
  (ar (aG (cw (tn:=["column"]) (n:=0) (aU (N:=eQ) (osc:=(ai eX)) rfl rfl (by decide+kernel)) rfl rfl (cM rfl B.range (aa (bQ rfl B.len (aa (bj (af (pv 0)) ak) ah)) ah)) (λ_ _ _ _ _ _ _=>bH (show Xr (((["column"]:List Str))++b6 ["column"] eQ) by decide+kernel) rfl rfl) (λ_ _ _ _ _ _=>bE) (λ_ _ _ _ _ _=>(bA (aa (af (pv 2)) (aa (af (pv 0)) ah)))))))
abbrev j1:Stmt:=top 21
def oy:List Str:=["board","cell"]
def oK:List Str:=["board","cell"]
def wF:FnScope oy oK (ai j1):=di
def vV(B:Bl K mg base cv cA Cp)(T:bG K mg "letter_of" j1 f):au P w K mg base cv 1 "letter_of" 2 (eC):=
 aE (N:=oy) (ps:=oK) T wF (λ_ _ _ _ _ _ us hl=>match us,hl with | [_,_],_=>rfl) λ_ _ _ _ _ _ hr=>
  (ar (aG (v9 (bj (af (pv 0)) (bj (af (pv 1)) ak)) (bj (af (pv 1)) ak))))
abbrev lH:Stmt:=top 22
def qR:List Str:=["one","other","ways","down","along"]
def rm:List Str:=["one","other","ways"]
def j3:FnScope qR rm (ai lH):=di
def yK(B:Bl K mg base cv cA Cp)(T:bG K mg "are_next" lH f):au P w K mg base cv 1 "are_next" 3 (er):=
 aE (N:=qR) (ps:=rm) T j3 (λ_ _ _ _ _ _ us hl=>match us,hl with | [_,_,_],_=>rfl) λ_ _ _ _ _ _ hr=>
  (aj (aL j3.nd rfl (.inl rfl) (Gb rfl B.abs (aa (fR (bj (af (pv 0)) ak) (bj (af (pv 1)) ak)) ah) rfl)) (aj (aL j3.nd rfl (.inl rfl) (Gb rfl B.abs (aa (fR (bj (af (pv 0)) ak) (bj (af (pv 1)) ak)) ah) rfl)) (aj (cq (uB hr.units (af (pv 2)) ak) (ar (aG (yT hr.units (cb (af (pv 3)) (af (pv 4))) ak))) bN) (ar (aG (yT hr.units (v_ rfl rfl B.max rfl (aa (af (pv 3)) (aa (af (pv 4)) ah))) ak))))))
abbrev wB:Stmt:=top 24
def BN:List Str:=["things","found","thing"]
def BY:List Str:=["things"]
def rP:FnScope BN BY (ai wB):=di
def FY(B:Bl K mg base cv cA Cp)(T:bG K mg "keyed" wB f):au P w K mg base cv 1 "keyed" 1 (ke):=
 aE (N:=BN) (ps:=BY) T rP (λ_ _ _ _ _ _ us hl=>match us,hl with | [_],_=>rfl) λ_ _ _ _ _ _ hr=>
  (aj (gQ rP.nd rfl (.inl rfl)) (aj (cx (bC W3 rfl (IY (aY (af (pv 0))) (yV (af (pv 0)))) (aR rP.nd rfl (.inl rfl)) bD (aZ (ar (eV hr.units (pv 1) (af (pv 2)) h9))))) (ar (dm (i:=1) (aG (af (pv 1)))))))
abbrev jo:Stmt:=top 29
def mn:List Str:=["found","numbers","number","patch","cell"]
def mE:List Str:=["found"]
def d_:FnScope mn mE (ai jo):=di
def sT(B:Bl K mg base cv cA Cp)(T:bG K mg "numbers_of" jo f):au P w K mg base cv 1 "numbers_of" 1 (fY):=
 aE (N:=mn) (ps:=mE) T d_ (λ_ _ _ _ _ _ us hl=>match us,hl with | [_],_=>rfl) λ_ _ _ _ _ _ hr=>
  (aj (gQ d_.nd rfl (.inl rfl)) (aj (cx (bC W3 rfl (mH rfl B.enumerate (aa (af (pv 0)) ah)) (nJ rfl (dz (aR d_.nd rfl (.inl rfl)) (dz (aR d_.nd rfl (.inl rfl)) kB))) (mK (is:=[2,3])) (aZ (ar (bC W3 rfl (aY (af (pv 3))) (aR d_.nd rfl (.inl rfl)) bD (aZ (ar (eV hr.units (pv 1) (af (pv 4)) (af (pv 2)))))))))) (ar (dm (i:=1) (aG (af (pv 1)))))))
abbrev jj:Stmt:=top 33
def mf:List Str:=["board","cell"]
def mx:List Str:=["board","cell"]
def sV:FnScope mf mx (ai jj):=di
def sN(B:Bl K mg base cv cA Cp)(T:bG K mg "is_at_edge" jj f):au P w K mg base cv 1 "is_at_edge" 2 (dU):=
 aE (N:=mf) (ps:=mx) T sV (λ_ _ _ _ _ _ us hl=>match us,hl with | [_,_],_=>rfl) λ_ _ _ _ _ _ hr=>
  (ar (aG (O0 (Gf (bj (af (pv 1)) ak) (bA (aa ak (aa (fR (bQ rfl B.len (aa (af (pv 0)) ah)) ak) ah)))) (we (Gf (bj (af (pv 1)) ak) (bA (aa ak (aa (fR (bQ rfl B.len (aa (bj (af (pv 0)) ak) ah)) ak) ah))))))))
abbrev lJ:Stmt:=top 43
def qT:List Str:=["_law_script","_law_k"]
def rq:List Str:=["_law_script","_law_k"]
def zi:FnScope qT rq (ai lJ):=di
def yO(B:Bl K mg base cv cA Cp)(T:bG K mg "_law_cell" lJ f):au P w K mg base cv 1 "_law_cell" 2 (gF):=
 aE (N:=qT) (ps:=rq) T zi (λ_ _ _ _ _ _ us hl=>match us,hl with | [_,_],_=>rfl) λ_ _ _ _ _ _ hr=>
  (aj (cq (uB hr.units (af (pv 0)) (dj ah)) (ar (aG (jU ak (af (pv 1))))) bN) (ar (aG (cb (Mf (af (pv 0)) (nH (af (pv 1)) (bQ rfl B.len (aa (af (pv 0)) ah)))) (jU ak (vZ (af (pv 1)) (bQ rfl B.len (aa (af (pv 0)) ah))))))))
abbrev ig:Stmt:=top 46
def g_:List Str:=["_law_board_here","_law_found","_law_row"]
def oH:List Str:=["_law_board_here"]
def gn:FnScope g_ oH (ai ig):=di
def vT(B:Bl K mg base cv cA Cp)(T:bG K mg "_law_cells" ig f):au P w K mg base cv 1 "_law_cells" 1 (cZ):=
 aE (N:=g_) (ps:=oH) T gn (λ_ _ _ _ _ _ us hl=>match us,hl with | [_],_=>rfl) λ_ _ _ _ _ _ hr=>
  (aj (aL gn.nd rfl (.inl rfl) (dj ah)) (aj (cx (bC W3 rfl (cM rfl B.range (aa (bQ rfl B.len (aa (af (pv 0)) ah)) ah)) (aR gn.nd rfl (.inr rfl)) bD (aZ (ar (aL gn.nd rfl (.inl rfl) (mG (af (pv 1)) (cw (tn:=["_law_column"]) (n:=0) (aU (N:=g_) (osc:=(ai ig)) rfl rfl (by decide+kernel)) rfl rfl (cM rfl B.range (aa (bQ rfl B.len (aa (bj (af (pv 0)) ak) ah)) ah)) (λ_ _ _ _ _ _ _=>bH (show Xr (((["_law_column"]:List Str))++b6 ["_law_column"] g_) by decide+kernel) rfl rfl) (λ_ _ _ _ _ _=>bE) (λ_ _ _ _ _ _=>(bA (aa (af (pv 3)) (aa (af (pv 0)) ah))))))))))) (ar (aG (af (pv 1))))))
abbrev jk:Stmt:=top 47
def mi:List Str:=["_law_board_here","_law_cell_here","_law_ways","_law_found","_law_down","_law_right","_law_row","_law_column","_law_inside"]
def my:List Str:=["_law_board_here","_law_cell_here","_law_ways"]
def cO:FnScope mi my (ai jk):=di
def sO(B:Bl K mg base cv cA Cp)(T:bG K mg "_law_beside" jk f):au P w K mg base cv 1 "_law_beside" 3 (dW):=
 aE (N:=mi) (ps:=my) T cO (λ_ _ _ _ _ _ us hl=>match us,hl with | [_,_,_],_=>rfl) λ_ _ _ _ _ _ hr=>
  (aj (jg cO.nd rfl (.inl rfl)) (aj (cx (bC W3 rfl (mI (bA (aa (wa ak) (aa ak (aa ak ah))))) (aR cO.nd rfl (.inl rfl)) bD (aZ (ar (bC W3 rfl (mI (bA (aa (wa ak) (aa ak (aa ak ah))))) (aR cO.nd rfl (.inl rfl)) bD (aZ (aj (aL cO.nd rfl (.inl rfl) (cb (bj (af (pv 1)) ak) (af (pv 4)))) (aj (aL cO.nd rfl (.inl rfl) (cb (bj (af (pv 1)) ak) (af (pv 5)))) (aj (aL cO.nd rfl (.inl rfl) (vY (Ge rl BV ak (af (pv 6)) (bQ rfl B.len (aa (af (pv 0)) ah))) (we (Ge rl BV ak (af (pv 7)) (bQ rfl B.len (aa (bj (af (pv 0)) ak) ah)))))) (ar (cq (PDW.t (pQ (ej (af (pv 8))) (pQ (oP hr.units (bA (aa (af (pv 4)) (aa (af (pv 5)) ah))) (bA (aa ak (aa ak ah)))) (rJ (PDW.t (jV (uB hr.units (af (pv 2)) ak) (jf (uB hr.units (jU (af (pv 4)) (af (pv 5))) ak)))))))) (ar (kC (pv 3) (bA (aa (af (pv 6)) (aa (af (pv 7)) ah))))) bN))))))))))) (ar (dm (i:=3) (aG (af (pv 3)))))))
abbrev iu:Stmt:=top 50
def kS:List Str:=["_law_e","_law_flags"]
def kZ:List Str:=["_law_e"]
def e8:FnScope kS kZ (ai iu):=di
def ri(B:Bl K mg base cv cA Cp)(T:bG K mg "_law_refused" iu f):pK P w K mg base cv 1 "_law_refused" 1 (bU K cA):=
 zX (N:=kS) (ps:=kZ) T e8 (λ_ _ _ _ _ _ us hl=>match us,hl with | [_],_=>rfl) λcu A outer s H hr=>
  (aj (aL e8.nd rfl (.inl rfl) (dj (aa (jT B.exs rfl B.isinstance rfl (aa (af (pv 0)) (aa (je rfl (B.cls 0 "NoBoard" rfl)) ah))) (aa (jT B.exs rfl B.isinstance rfl (aa (af (pv 0)) (aa (je rfl (B.cls 1 "NoWays" rfl)) ah))) (aa (jT B.exs rfl B.isinstance rfl (aa (af (pv 0)) (aa (je rfl (B.cls 2 "NoCell" rfl)) ah))) ah))))) (aj (aL e8.nd rfl (.inl rfl) (mG (af (pv 1)) (dj (aa (jT B.exs rfl B.isinstance rfl (aa (af (pv 0)) (aa (je rfl (B.cls 3 "NoLetter" rfl)) ah))) (aa (jT B.exs rfl B.isinstance rfl (aa (af (pv 0)) (aa (je rfl (B.cls 4 "NoNumber" rfl)) ah))) (aa (jT B.exs rfl B.isinstance rfl (aa (af (pv 0)) (aa (je rfl (B.cls 5 "NoFit" rfl)) ah))) ah)))))) (aj (aL e8.nd rfl (.inl rfl) (mG (af (pv 1)) (dj (aa (jT B.exs rfl B.isinstance rfl (aa (af (pv 0)) (aa (je rfl (B.cls 6 "Nothing" rfl)) ah))) ah)))) (aj (cq (PDW.t (jV (oP hr.units (Mc (af (pv 1)) (aa h9 ah)) ak) (jf (fw (ej (jT B.exs rfl B.isinstance rfl (aa (af (pv 0)) (aa (uy rfl B.ValueError rfl) ah)))))))) (ar (aG (bA (aa eU (aa (wa ak) ah))))) bN) (ar (aG (bA (aa eU (aa (Md (af (pv 1)) (aa h9 ah)) ah)))))))))
abbrev eY:Stmt:=top 52
def eR:List Str:=["_law_board_here","_law_rows","_law_own","_law_number","_law_row","_law_cell_here","_law_found","_law_there","_law_pair"]
def jQ:List Str:=["_law_board_here","_law_rows"]
def bF:FnScope eR jQ (ai eY):=di
def pB(B:Bl K mg base cv cA Cp)(T:bG K mg "_law_touching" eY f):au P w K mg base cv 1 "_law_touching" 2 (cS):=
 aE (N:=eR) (ps:=jQ) T bF (λ_ _ _ _ _ _ us hl=>match us,hl with | [_,_],_=>rfl) λ_ _ _ _ _ _ hr=>
  (aj (gQ bF.nd rfl (.inl rfl)) (aj (cx (bC W3 rfl (mH rfl B.enumerate (aa (af (pv 1)) ah)) (nJ rfl (dz (aR bF.nd rfl (.inl rfl)) (dz (aR bF.nd rfl (.inl rfl)) kB))) (mK (is:=[3,4])) (aZ (ar (bC W3 rfl (aY (af (pv 4))) (aR bF.nd rfl (.inl rfl)) bD (aZ (ar (eV hr.units (pv 2) (af (pv 5)) (af (pv 3)))))))))) (aj (gQ bF.nd rfl (.inr rfl)) (aj (Jk (dm (i:=2) (cx (bC W3 rfl (yV (af (pv 2))) (aR bF.nd rfl (.inl rfl)) bD (aZ (ar (bC W3 rfl (aY (dj (aa (bA (aa (cb (bj (af (pv 5)) ak) ak) (aa (bj (af (pv 5)) ak) ah))) (aa (bA (aa (bj (af (pv 5)) ak) (aa (cb (bj (af (pv 5)) ak) ak) ah))) ah)))) (aR bF.nd rfl (.inl rfl)) bD (aZ (ar (cq (wj (PDW.t (pQ (Gw hr.units (af (pv 7)) (af (pv 2))) (rJ (oP hr.units (dE hr.units (af (pv 2)) (af (pv 7))) (dE hr.units (af (pv 2)) (af (pv 5)))))))) (aj (aL bF.nd rfl (.inl rfl) (B4 (bA (aa (AJ rfl rfl B.min rfl (aa (dE hr.units (af (pv 2)) (af (pv 5))) (aa (dE hr.units (af (pv 2)) (af (pv 7))) ah))) (aa (v_ rfl rfl B.max rfl (aa (dE hr.units (af (pv 2)) (af (pv 5))) (aa (dE hr.units (af (pv 2)) (af (pv 7))) ah))) ah))))) (ar (eV hr.units (pv 6) (af (pv 8)) (B4 (cb (v7 hr.units (af (pv 6)) (af (pv 8)) ak ⟨rfl,rfl,rfl,rfl⟩) ak))))) bN)))))))))) (ar (dm (i:=6) (aG (cw (tn:=["_law_pair"]) (n:=0) (aU (N:=eR) (osc:=(ai eY)) rfl rfl (by decide+kernel)) rfl rfl (aY (wg rfl rfl B.sorted rfl (aa (af (pv 6)) ah))) (λ_ _ _ _ _ _ _=>bH (show Xr (((["_law_pair"]:List Str))++b6 ["_law_pair"] eR) by decide+kernel) rfl rfl) (λ_ _ _ _ _ _=>bE) (λ_ _ _ _ _ _=>(bA (aa (af (pv 0)) (aa (dE hr.units (af (pv 7)) (af (pv 0))) ah))))))))))))
abbrev kF:Stmt:=top 53
def kr:List Str:=["_law_row","_law_found","_law_down","_law_right","_law_around"]
def uv:List Str:=["_law_row"]
def fk:FnScope kr uv (ai kF):=di
def AB(B:Bl K mg base cv cA Cp)(T:bG K mg "_law_rim" kF f):au P w K mg base cv 1 "_law_rim" 1 (iE):=
 aE (N:=kr) (ps:=uv) T fk (λ_ _ _ _ _ _ us hl=>match us,hl with | [_],_=>rfl) λ_ _ _ _ _ _ hr=>
  (aj (aL fk.nd rfl (.inl rfl) ak) (aj (cx (bC W3 rfl (aY (af (pv 0))) (nJ rfl (dz (aR fk.nd rfl (.inl rfl)) (dz (aR fk.nd rfl (.inl rfl)) kB))) (mK (is:=[2,3])) (aZ (aj (aL fk.nd rfl (.inl rfl) (dj (aa (bA (aa (cb (af (pv 2)) ak) (aa (af (pv 3)) ah))) (aa (bA (aa (fR (af (pv 2)) ak) (aa (af (pv 3)) ah))) (aa (bA (aa (af (pv 2)) (aa (cb (af (pv 3)) ak) ah))) (aa (bA (aa (af (pv 2)) (aa (fR (af (pv 3)) ak) ah))) ah)))))) (ar (aL fk.nd rfl (.inl rfl) (cb (af (pv 1)) (bQ rfl B.len (aa (cw (tn:=["_law_cell_here"]) (n:=0) (aU (N:=kr) (osc:=(ai kF)) rfl rfl (by decide+kernel)) rfl rfl (aY (af (pv 4))) (λ_ _ _ _ _ _ _=>bH (show Xr (((["_law_cell_here"]:List Str))++b6 ["_law_cell_here"] kr) by decide+kernel) rfl rfl) (λ_ _ _ _ _ _=>(mQ (DW hr.units (af (pv 0)) (af (pv 1))))) (λ_ _ _ _ _ _=>(af (pv 0)))) ah))))))))) (ar (aG (af (pv 1))))))
abbrev mO:Stmt:=top 15
def mh:List Str:=["thing"]
def yQ:List Str:=["thing"]
def DY:FnScope mh yQ (ai mO):=di
def DH(B:Bl K mg base cv cA Cp)(xA:au P w K mg base cv 1 "is_letter" 1 dN)(T:bG K mg "is_row" mO f):au P w K mg base cv 2 "is_row" 1 (gE):=
 aE (N:=mh) (ps:=yQ) T DY (λ_ _ _ _ _ _ us hl=>match us,hl with | [_],_=>rfl) λ_ _ _ _ _ _ hr=>
  (aj (cq (PDW.t (jV (fw (ej (rF rfl B.isinstance rfl (aa (af (pv 0)) (aa (uy rfl B.str rfl) ah))))) (jf (fw (AN rl rl ak (bQ rfl B.len (aa (af (pv 0)) ah)) (B2 rfl B.MOST_COLUMNS)))))) (ar (aG h9)) bN) (ar (aG (AH rfl rfl B.all rfl (aa (cw (tn:=["sign"]) (n:=0) (aU (N:=mh) (osc:=(ai mO)) rfl rfl (by decide+kernel)) rfl rfl (IZ (af (pv 0))) (λ_ _ _ _ _ _ _=>bH (show Xr (((["sign"]:List Str))++b6 ["sign"] mh) by decide+kernel) rfl rfl) (λ_ _ _ _ _ _=>bE) (λ_ _ _ _ _ _=>(bJ xA (mR hr) rfl dG (aa (af (pv 0)) ah) rfl))) ah)))))
abbrev j2:Stmt:=top 18
def oz:List Str:=["thing"]
def oM:List Str:=["thing"]
def wG:FnScope oz oM (ai j2):=di
def vW(B:Bl K mg base cv cA Cp)(lg:au P w K mg base cv 1 "is_whole" 1 fc)(T:bG K mg "need_ways" j2 f):au P w K mg base cv 2 "need_ways" 1 (bY):=
 aE (N:=oz) (ps:=oM) T wG (λ_ _ _ _ _ _ us hl=>match us,hl with | [_],_=>rfl) λ_ _ _ _ _ _ hr=>
  (ar (cq (PDW.t (jV (fw (ej (bJ lg (mR hr) rfl bT (aa (af (pv 0)) ah) rfl))) (jf (DV (af (pv 0)) (bA (aa ak (aa ak ah))))))) (ar (nL B.own1 Z2 rfl rfl (B.cvE 1) FE (aa eU ah))) bN))
abbrev jY:Stmt:=top 20
def om:List Str:=["board","found","row"]
def oE:List Str:=["board"]
def jr:FnScope om oE (ai jY):=di
def vQ(B:Bl K mg base cv cA Cp)(pZ:au P w K mg base cv 1 "cells_of_row" 2 cR)(T:bG K mg "all_cells" jY f):au P w K mg base cv 2 "all_cells" 1 (cY):=
 aE (N:=om) (ps:=oE) T jr (λ_ _ _ _ _ _ us hl=>match us,hl with | [_],_=>rfl) λ_ _ _ _ _ _ hr=>
  (aj (jg jr.nd rfl (.inl rfl)) (aj (cx (bC W3 rfl (cM rfl B.range (aa (bQ rfl B.len (aa (af (pv 0)) ah)) ah)) (aR jr.nd rfl (.inl rfl)) bD (aZ (ar (Jj (pv 1) (bJ pZ (mR hr) rfl dG (aa (af (pv 0)) (aa (af (pv 2)) ah)) rfl)))))) (ar (dm (i:=1) (aG (af (pv 1)))))))
abbrev jm:Stmt:=top 23
def ml:List Str:=["board","cell","ways","found","row","column"]
def mD:List Str:=["board","cell","ways"]
def fC:FnScope ml mD (ai jm):=di
def sS(B:Bl K mg base cv cA Cp)(zS:au P w K mg base cv 1 "are_next" 3 er)(T:bG K mg "next_cells" jm f):au P w K mg base cv 2 "next_cells" 3 (a6):=
 aE (N:=ml) (ps:=mD) T fC (λ_ _ _ _ _ _ us hl=>match us,hl with | [_,_,_],_=>rfl) λ_ _ _ _ _ _ hr=>
  (aj (jg fC.nd rfl (.inl rfl)) (aj (cx (bC W3 rfl (rH rfl B.range (aa (v_ rfl rfl B.max rfl (aa (fR (bj (af (pv 1)) ak) ak) (aa ak ah))) (aa (AJ rfl rfl B.min rfl (aa (cb (bj (af (pv 1)) ak) ak) (aa (bQ rfl B.len (aa (af (pv 0)) ah)) ah))) ah))) (aR fC.nd rfl (.inl rfl)) bD (aZ (ar (bC W3 rfl (rH rfl B.range (aa (v_ rfl rfl B.max rfl (aa (fR (bj (af (pv 1)) ak) ak) (aa ak ah))) (aa (AJ rfl rfl B.min rfl (aa (cb (bj (af (pv 1)) ak) ak) (aa (bQ rfl B.len (aa (bj (af (pv 0)) ak) ah)) ah))) ah))) (aR fC.nd rfl (.inl rfl)) bD (aZ (ar (cq (ej (bJ zS (mR hr) rfl dG (aa (af (pv 1)) (aa (bA (aa (af (pv 4)) (aa (af (pv 5)) ah))) (aa (af (pv 2)) ah))) rfl)) (ar (kC (pv 3) (bA (aa (af (pv 4)) (aa (af (pv 5)) ah))))) bN)))))))) (ar (dm (i:=3) (aG (af (pv 3)))))))
abbrev ix:Stmt:=top 31
def kU:List Str:=["many","thing"]
def k8:List Str:=["many","thing"]
def rQ:FnScope kU k8 (ai ix):=di
def rk(B:Bl K mg base cv cA Cp)(lg:au P w K mg base cv 1 "is_whole" 1 fc)(T:bG K mg "need_number" ix f):au P w K mg base cv 2 "need_number" 2 (dB):=
 aE (N:=kU) (ps:=k8) T rQ (λ_ _ _ _ _ _ us hl=>match us,hl with | [_,_],_=>rfl) λ_ _ _ _ _ _ hr=>
  (ar (cq (PDW.t (jV (fw (ej (bJ lg (mR hr) rfl bT (aa (af (pv 1)) ah) rfl))) (jf (fw (AN rl BV ak (af (pv 1)) (af (pv 0))))))) (ar (nL B.own4 Z2 rfl rfl (B.cvE 4) FE (aa eU ah))) bN))
abbrev el:Stmt:=top 34
def ei:List Str:=["board","some"]
def jv:List Str:=["board","some"]
def nS:FnScope ei jv (ai el):=di
def nA(B:Bl K mg base cv cA Cp)(uZ:au P w K mg base cv 1 "is_at_edge" 2 dU)(T:bG K mg "comes_to_edge" el f):au P w K mg base cv 2 "comes_to_edge" 2 (b7):=
 aE (N:=ei) (ps:=jv) T nS (λ_ _ _ _ _ _ us hl=>match us,hl with | [_,_],_=>rfl) λ_ _ _ _ _ _ hr=>
  (ar (aG (Mb rfl rfl B.any rfl (aa (cw (tn:=["cell"]) (n:=0) (aU (N:=ei) (osc:=(ai el)) rfl rfl (by decide+kernel)) rfl rfl (aY (af (pv 1))) (λ_ _ _ _ _ _ _=>bH (show Xr (((["cell"]:List Str))++b6 ["cell"] ei) by decide+kernel) rfl rfl) (λ_ _ _ _ _ _=>bE) (λ_ _ _ _ _ _=>(bJ uZ (mR hr) rfl dG (aa (af (pv 1)) (aa (af (pv 0)) ah)) rfl))) ah))))
abbrev j0:Stmt:=top 44
def ou:List Str:=["_law_script","_law_k","_law_many","_law_cell_here"]
def oJ:List Str:=["_law_script","_law_k","_law_many"]
def js:FnScope ou oJ (ai j0):=di
def vU(B:Bl K mg base cv cA Cp)(zV:au P w K mg base cv 1 "_law_cell" 2 gF)(T:bG K mg "_law_drawn" j0 f):au P w K mg base cv 2 "_law_drawn" 3 (aV):=
 aE (N:=ou) (ps:=oJ) T js (λ_ _ _ _ _ _ us hl=>match us,hl with | [_,_,_],_=>rfl) λ_ _ _ _ _ _ hr=>
  (aj (aL js.nd rfl (.inl rfl) (nH (cb (jU (nH (bJ zV (mR hr) rfl bT (aa (af (pv 0)) (aa (af (pv 1)) ah)) rfl) ak) ak) (jU ak (cb (af (pv 1)) ak))) ak)) (aj (aL js.nd rfl (.inl rfl) (nH (cb (jU (af (pv 3)) (af (pv 3))) (vZ (af (pv 3)) ak)) ak)) (ar (aG (nH (vZ (nH (cb (jU (af (pv 3)) (af (pv 3))) (vZ (af (pv 3)) ak)) ak) ak) (af (pv 2)))))))
abbrev gj:Stmt:=top 48
def f9:List Str:=["_law_board_here","_law_ways","_law_found","_law_pairs","_law_cell_here","_law_there","_law_mine","_law_changed","_law_one","_law_other","_law_least"]
def mz:List Str:=["_law_board_here","_law_ways"]
def bp:FnScope f9 mz (ai gj):=di
def sP(B:Bl K mg base cv cA Cp)(gX:au P w K mg base cv 1 "_law_cells" 1 cZ)(u3:au P w K mg base cv 1 "_law_beside" 3 dW)(T:bG K mg "_law_labels" gj f):au P w K mg base cv 2 "_law_labels" 2 (fX):=
 aE (N:=f9) (ps:=mz) T bp (λ_ _ _ _ _ _ us hl=>match us,hl with | [_,_],_=>rfl) λ_ _ _ _ _ _ hr=>
  (aj (yW bp.nd rfl (.inl rfl) (Gh hr.units rfl rfl B.dict rfl (aa (cw (tn:=["_law_cell_here"]) (n:=0) (aU (N:=f9) (osc:=(ai gj)) rfl rfl (by decide+kernel)) rfl rfl (aY (bJ gX (mR hr) rfl bT (aa (af (pv 0)) ah) rfl)) (λ_ _ _ _ _ _ _=>bH (show Xr (((["_law_cell_here"]:List Str))++b6 ["_law_cell_here"] f9) by decide+kernel) rfl rfl) (λ_ _ _ _ _ _=>bE) (λ_ _ _ _ _ _=>(bA (aa (af (pv 0)) (aa (af (pv 0)) ah))))) ah))) (aj (jg bp.nd rfl (.inl rfl)) (aj (cx (bC W3 rfl (aY (bJ gX (mR hr) rfl dG (aa (af (pv 0)) ah) rfl)) (aR bp.nd rfl (.inl rfl)) bD (aZ (ar (bC W3 rfl (aY (bJ u3 (mR hr) rfl dG (aa (af (pv 0)) (aa (af (pv 4)) (aa (af (pv 1)) ah))) rfl)) (aR bp.nd rfl (.inl rfl)) bD (aZ (aj (aL bp.nd rfl (.inl rfl) (v9 (bj (af (pv 0)) (bj (af (pv 4)) ak)) (bj (af (pv 4)) ak))) (ar (cq (PDW.t (pQ (Mx hr.units (af (pv 4)) (af (pv 5))) (rJ (uB hr.units (af (pv 6)) (v9 (bj (af (pv 0)) (bj (af (pv 5)) ak)) (bj (af (pv 5)) ak)))))) (ar (kC (pv 3) (bA (aa (af (pv 4)) (aa (af (pv 5)) ah))))) bN))))))))) (aj (aL bp.nd rfl (.inl rfl) h9) (aj (cx (uA W3 (ej (af (pv 7))) (aZ (aj (aL bp.nd rfl (.inl rfl) h9) (ar (dm (i:=3) (bC W3 rfl (aY (af (pv 3))) (nJ rfl (dz (aR bp.nd rfl (.inl rfl)) (dz (aR bp.nd rfl (.inl rfl)) kB))) (mK (is:=[8,9])) (aZ (ar (cq (wj (oP hr.units (dE hr.units (af (pv 2)) (af (pv 8))) (dE hr.units (af (pv 2)) (af (pv 9))))) (aj (aL bp.nd rfl (.inl rfl) (B4 (IW hr.units rfl rfl B.min rfl (aa (dE hr.units (af (pv 2)) (af (pv 8))) (aa (dE hr.units (af (pv 2)) (af (pv 9))) ah))))) (aj (eV hr.units (pv 2) (af (pv 8)) (af (pv 10))) (aj (eV hr.units (pv 2) (af (pv 9)) (af (pv 10))) (ar (aL bp.nd rfl (.inl rfl) h9))))) bN)))))))))) (ar (dm (i:=2) (aG (af (pv 2))))))))))
abbrev gR:Stmt:=top 16
def fj:List Str:=["thing"]
def ro:List Str:=["thing"]
def zg:FnScope fj ro (ai gR):=di
def yM(B:Bl K mg base cv cA Cp)(Ew:au P w K mg base cv 2 "is_row" 1 gE)(T:bG K mg "is_board" gR f):au P w K mg base cv 3 "is_board" 1 (iU):=
 aE (N:=fj) (ps:=ro) T zg (λ_ _ _ _ _ _ us hl=>match us,hl with | [_],_=>rfl) λ_ _ _ _ _ _ hr=>
  (aj (cq (PDW.t (jV (fw (ej (rF rfl B.isinstance rfl (aa (af (pv 0)) (aa (uy rfl B.tuple rfl) ah))))) (jf (fw (AN rl rl ak (bQ rfl B.len (aa (af (pv 0)) ah)) (B2 rfl B.MOST_ROWS)))))) (ar (aG h9)) bN) (aj (cq (fw (ej (AH rfl rfl B.all rfl (aa (cw (tn:=["row"]) (n:=0) (aU (N:=fj) (osc:=(ai gR)) rfl rfl (by decide+kernel)) rfl rfl (mI (af (pv 0))) (λ_ _ _ _ _ _ _=>bH (show Xr (((["row"]:List Str))++b6 ["row"] fj) by decide+kernel) rfl rfl) (λ_ _ _ _ _ _=>bE) (λ_ _ _ _ _ _=>(bJ Ew (mR hr) rfl dG (aa (af (pv 0)) ah) rfl))) ah)))) (ar (aG h9)) bN) (ar (aG (AH rfl rfl B.all rfl (aa (cw (tn:=["row"]) (n:=0) (aU (N:=fj) (osc:=(ai gR)) rfl rfl (by decide+kernel)) rfl rfl (mI (af (pv 0))) (λ_ _ _ _ _ _ _=>bH (show Xr (((["row"]:List Str))++b6 ["row"] fj) by decide+kernel) rfl rfl) (λ_ _ _ _ _ _=>bE) (λ_ _ _ _ _ _=>(yT hr.units (bQ rfl B.len (aa (af (pv 0)) ah)) (bQ rfl B.len (aa (bj (af (pv 1)) ak) ah))))) ah))))))
abbrev gm:Stmt:=top 26
def f_:List Str:=["board","cell","ways","letter"]
def mB:List Str:=["board","cell","ways"]
def k9:FnScope f_ mB (ai gm):=di
def sQ(B:Bl K mg base cv cA Cp)(n4:au P w K mg base cv 1 "letter_of" 2 eC)(eJ:au P w K mg base cv 2 "next_cells" 3 a6)(T:bG K mg "like_cells" gm f):au P w K mg base cv 3 "like_cells" 3 (dg):=
 aE (N:=f_) (ps:=mB) T k9 (λ_ _ _ _ _ _ us hl=>match us,hl with | [_,_,_],_=>rfl) λ_ _ _ _ _ _ hr=>
  (aj (aL k9.nd rfl (.inr rfl) (bJ n4 (mR hr) rfl bT (aa (af (pv 0)) (aa (af (pv 1)) ah)) rfl)) (ar (aG (cw (tn:=["near"]) (n:=0) (aU (N:=f_) (osc:=(ai gm)) rfl rfl (by decide+kernel)) rfl rfl (aY (bJ eJ (mR hr) rfl bT (aa (af (pv 0)) (aa (af (pv 1)) (aa (af (pv 2)) ah))) rfl)) (λ_ _ _ _ _ _ _=>bH (show Xr (((["near"]:List Str))++b6 ["near"] f_) by decide+kernel) rfl rfl) (λ_ _ _ _ _ _=>(mQ (uB hr.units (bJ n4 (mR hr) rfl dG (aa (af (pv 1)) (aa (af (pv 0)) ah)) rfl) (af (pv 4))))) (λ_ _ _ _ _ _=>(af (pv 0)))))))
abbrev gS:Stmt:=top 35
def jO:List Str:=["board","found","numbers","shared","cell","near","pair"]
def jR:List Str:=["board","found"]
def cC:FnScope jO jR (ai gS):=di
def pC(B:Bl K mg base cv cA Cp)(u6:au P w K mg base cv 1 "numbers_of" 1 fY)(jA:au P w K mg base cv 2 "all_cells" 1 cY)(eJ:au P w K mg base cv 2 "next_cells" 3 a6)(T:bG K mg "shared_sides" gS f):au P w K mg base cv 3 "shared_sides" 2 (cT):=
 aE (N:=jO) (ps:=jR) T cC (λ_ _ _ _ _ _ us hl=>match us,hl with | [_,_],_=>rfl) λ_ _ _ _ _ _ hr=>
  (aj (aL cC.nd rfl (.inl rfl) (bJ u6 (mR hr) rfl bT (aa (af (pv 1)) ah) rfl)) (aj (gQ cC.nd rfl (.inl rfl)) (aj (cx (bC W3 rfl (aY (bJ jA (mR hr) rfl dG (aa (af (pv 0)) ah) rfl)) (aR cC.nd rfl (.inl rfl)) bD (aZ (ar (bC W3 rfl (aY (bJ eJ (mR hr) rfl dG (aa (af (pv 0)) (aa (af (pv 4)) (aa ak ah))) rfl)) (aR cC.nd rfl (.inl rfl)) bD (aZ (ar (cq (Kj (dE hr.units (af (pv 2)) (af (pv 4))) (dE hr.units (af (pv 2)) (af (pv 5)))) (aj (aL cC.nd rfl (.inl rfl) (bA (aa (dE hr.units (af (pv 2)) (af (pv 4))) (aa (dE hr.units (af (pv 2)) (af (pv 5))) ah)))) (ar (eV hr.units (pv 3) (af (pv 6)) (B4 (cb (v7 hr.units (af (pv 3)) (af (pv 6)) ak ⟨rfl,rfl,rfl,rfl⟩) ak))))) bN)))))))) (ar (dm (i:=3) (aG (af (pv 3))))))))
abbrev ib:Stmt:=top 45
def g9:List Str:=["_law_script","_law_at","_law_most","_law_rows","_law_wide","_law_alphabet","_law_found","_law_row","_law_signs"]
def oG:List Str:=["_law_script","_law_at","_law_most"]
def cH:FnScope g9 oG (ai ib):=di
def vS(B:Bl K mg base cv cA Cp)(bB:au P w K mg base cv 2 "_law_drawn" 3 aV)(T:bG K mg "_law_board" ib f):au P w K mg base cv 3 "_law_board" 3 (dO):=
 aE (N:=g9) (ps:=oG) T cH (λ_ _ _ _ _ _ us hl=>match us,hl with | [_,_,_],_=>rfl) λ_ _ _ _ _ _ hr=>
  (aj (aL cH.nd rfl (.inl rfl) (cb ak (bJ bB (mR hr) rfl bT (aa (af (pv 0)) (aa (af (pv 1)) (aa (af (pv 2)) ah))) rfl))) (aj (aL cH.nd rfl (.inl rfl) (cb ak (bJ bB (mR hr) rfl bT (aa (af (pv 0)) (aa (cb (af (pv 1)) ak) (aa (af (pv 2)) ah))) rfl))) (aj (aL cH.nd rfl (.inr rfl) (rG (dj (aa eU (aa eU (aa eU (aa eU ah))))) (bJ bB (mR hr) rfl bT (aa (af (pv 0)) (aa (cb (af (pv 1)) ak) (aa ak ah))) rfl))) (aj (aL cH.nd rfl (.inl rfl) (bA ah)) (aj (cx (bC W3 rfl (cM rfl B.range (aa (af (pv 3)) ah)) (aR cH.nd rfl (.inr rfl)) bD (aZ (aj (dP (tn:=["_law_k"]) (n:=0) cH.nd rfl (.inl rfl) (aU (N:=g9) (osc:=(ai ib)) rfl rfl (by decide+kernel)) rfl rfl (cM rfl B.range (aa (af (pv 4)) ah)) (λ_ _ _ _ _ _ _=>bH (show Xr (((["_law_k"]:List Str))++b6 ["_law_k"] g9) by decide+kernel) rfl rfl) (λ_ _ _ _ _ _=>bE) (λ_ _ _ _ _ _=>(v9 (af (pv 6)) (bJ bB (mR hr) rfl dG (aa (af (pv 1)) (aa (cb (cb (cb (af (pv 2)) ak) (jU ak (af (pv 8)))) (af (pv 0))) (aa (bQ rfl B.len (aa (af (pv 6)) ah)) ah))) rfl)))) (ar (aL cH.nd rfl (.inl rfl) (IT (af (pv 6)) (bA (aa (IU eU (aa (af (pv 8)) ah)) ah))))))))) (ar (aG (af (pv 6)))))))))
abbrev fB:Stmt:=top 49
def fq:List Str:=["_law_board_here","_law_ways","_law_labels_here","_law_rows","_law_cell_here"]
def kY:List Str:=["_law_board_here","_law_ways"]
def e7:FnScope fq kY (ai fB):=di
def rh(B:Bl K mg base cv cA Cp)(u4:au P w K mg base cv 2 "_law_labels" 2 fX)(gX:au P w K mg base cv 1 "_law_cells" 1 cZ)(T:bG K mg "_law_patches" fB f):au P w K mg base cv 3 "_law_patches" 2 (cK):=
 aE (N:=fq) (ps:=kY) T e7 (λ_ _ _ _ _ _ us hl=>match us,hl with | [_,_],_=>rfl) λ_ _ _ _ _ _ hr=>
  (aj (aL e7.nd rfl (.inl rfl) (bJ u4 (mR hr) rfl bT (aa (af (pv 0)) (aa (af (pv 1)) ah)) rfl)) (aj (gQ e7.nd rfl (.inr rfl)) (aj (cx (bC W3 rfl (aY (bJ gX (mR hr) rfl dG (aa (af (pv 0)) ah) rfl)) (aR e7.nd rfl (.inl rfl)) bD (aZ (ar (eV hr.units (pv 3) (dE hr.units (af (pv 2)) (af (pv 4))) (O1 (mG (v7 hr.units (af (pv 3)) (dE hr.units (af (pv 2)) (af (pv 4))) (dj ah) ⟨rfl,rfl,rfl,rfl⟩) (dj (aa (af (pv 4)) ah))))))))) (ar (dm (i:=3) (aG (cw (tn:=["_law_first"]) (n:=0) (aU (N:=fq) (osc:=(ai fB)) rfl rfl (by decide+kernel)) rfl rfl (aY (wg rfl rfl B.sorted rfl (aa (af (pv 3)) ah))) (λ_ _ _ _ _ _ _=>bH (show Xr (((["_law_first"]:List Str))++b6 ["_law_first"] fq) by decide+kernel) rfl rfl) (λ_ _ _ _ _ _=>bE) (λ_ _ _ _ _ _=>(dE hr.units (af (pv 4)) (af (pv 0)))))))))))
abbrev jl:Stmt:=top 17
def mj:List Str:=["thing"]
def mC:List Str:=["thing"]
def sW:FnScope mj mC (ai jl):=di
def sR(B:Bl K mg base cv cA Cp)(zU:au P w K mg base cv 3 "is_board" 1 iU)(T:bG K mg "need_board" jl f):au P w K mg base cv 4 "need_board" 1 (bK):=
 aE (N:=mj) (ps:=mC) T sW (λ_ _ _ _ _ _ us hl=>match us,hl with | [_],_=>rfl) λ_ _ _ _ _ _ hr=>
  (ar (cq (fw (ej (bJ zU (mR hr) rfl bT (aa (af (pv 0)) ah) rfl))) (ar (nL B.own0 Z2 rfl rfl (B.cvE 0) FE (aa eU ah))) bN))
abbrev jq:Stmt:=top 27
def mq:List Str:=["board","start","ways","back","ring","further","cell","near"]
def mF:List Str:=["board","start","ways"]
def cP:FnScope mq mF (ai jq):=di
def sU(B:Bl K mg base cv cA Cp)(u5:au P w K mg base cv 3 "like_cells" 3 dg)(T:bG K mg "steps_back" jq f):au P w K mg base cv 4 "steps_back" 3 (dX):=
 aE (N:=mq) (ps:=mF) T cP (λ_ _ _ _ _ _ us hl=>match us,hl with | [_,_,_],_=>rfl) λ_ _ _ _ _ _ hr=>
  (aj (yW cP.nd rfl (.inl rfl) (DQ hr.units (af (pv 1)) wc)) (aj (aL cP.nd rfl (.inl rfl) (dj (aa (af (pv 1)) ah))) (aj (cx (uA W3 (ej (af (pv 4))) (aZ (aj (jg cP.nd rfl (.inl rfl)) (aj (bC W3 rfl (aY (af (pv 4))) (aR cP.nd rfl (.inl rfl)) bD (aZ (ar (bC W3 rfl (aY (bJ u5 (mR hr) rfl dG (aa (af (pv 0)) (aa (af (pv 6)) (aa (af (pv 2)) ah))) rfl)) (aR cP.nd rfl (.inl rfl)) bD (aZ (ar (cq (wj (uC hr.units (af (pv 7)) (af (pv 3)))) (aj (eV hr.units (pv 3) (af (pv 7)) (af (pv 6))) (ar (kC (pv 5) (af (pv 7))))) bN))))))) (ar (dm (i:=5) (aL cP.nd rfl (.inl rfl) (af (pv 5)))))))))) (ar (dm (i:=3) (aG (af (pv 3))))))))
abbrev ir:Stmt:=top 28
def kR:List Str:=["board","ways","found","seen","cell","patch"]
def kX:List Str:=["board","ways"]
def dR:FnScope kR kX (ai ir):=di
def rf(B:Bl K mg base cv cA Cp)(jA:au P w K mg base cv 2 "all_cells" 1 cY)(u7:au P w K mg base cv 4 "steps_back" 3 dX)(u0:au P w K mg base cv 1 "keyed" 1 ke)(T:bG K mg "all_patches" ir f):au P w K mg base cv 5 "all_patches" 2 (a8):=
 aE (N:=kR) (ps:=kX) T dR (λ_ _ _ _ _ _ us hl=>match us,hl with | [_,_],_=>rfl) λ_ _ _ _ _ _ hr=>
  (aj (jg dR.nd rfl (.inl rfl)) (aj (gQ dR.nd rfl (.inl rfl)) (aj (cx (bC W3 rfl (aY (bJ jA (mR hr) rfl dG (aa (af (pv 0)) ah) rfl)) (aR dR.nd rfl (.inl rfl)) bD (aZ (ar (cq (wj (uC hr.units (af (pv 4)) (af (pv 3)))) (aj (aL dR.nd rfl (.inl rfl) (wg rfl rfl B.sorted rfl (aa (bJ u7 (mR hr) rfl dG (aa (af (pv 0)) (aa (af (pv 4)) (aa (af (pv 1)) ah))) rfl) ah))) (aj (kC (pv 2) (af (pv 5))) (ar (Jm hr.units (pv 3) (bJ u0 (mR hr) rfl dG (aa (af (pv 5)) ah) rfl) ⟨rfl,rfl,rfl,rfl⟩)))) bN))))) (ar (dm (i:=2) (aG (af (pv 2))))))))
abbrev eZ:Stmt:=top 32
def hJ:List Str:=["board","ways","number","found"]
def h7:List Str:=["board","ways","number"]
def gT:FnScope hJ h7 (ai eZ):=di
def lF(B:Bl K mg base cv cA Cp)(de:au P w K mg base cv 4 "need_board" 1 bK)(dJ:au P w K mg base cv 2 "need_ways" 1 bY)(cI:au P w K mg base cv 5 "all_patches" 2 a8)(sA:au P w K mg base cv 2 "need_number" 2 dB)(T:bG K mg "patch_of_number" eZ f):au P w K mg base cv 6 "patch_of_number" 3 (aQ):=
 aE (N:=hJ) (ps:=h7) T gT (λ_ _ _ _ _ _ us hl=>match us,hl with | [_,_,_],_=>rfl) λ_ _ _ _ _ _ hr=>
  (aj (gc (bJ de (mR hr) rfl bT (aa (af (pv 0)) ah) rfl)) (aj (gc (bJ dJ (mR hr) rfl bT (aa (af (pv 1)) ah) rfl)) (aj (aL gT.nd rfl (.inl rfl) (bJ cI (mR hr) rfl bT (aa (af (pv 0)) (aa (af (pv 1)) ah)) rfl)) (aj (gc (bJ sA (mR hr) rfl bT (aa (bQ rfl B.len (aa (af (pv 3)) ah)) (aa (af (pv 2)) ah)) rfl)) (ar (aG (rG (af (pv 3)) (af (pv 2)))))))))
abbrev lK:Stmt:=top 39
def qU:List Str:=["board","ways"]
def rA:List Str:=["board","ways"]
def zj:FnScope qU rA (ai lK):=di
def yP(B:Bl K mg base cv cA Cp)(de:au P w K mg base cv 4 "need_board" 1 bK)(dJ:au P w K mg base cv 2 "need_ways" 1 bY)(p5:au P w K mg base cv 3 "shared_sides" 2 cT)(cI:au P w K mg base cv 5 "all_patches" 2 a8)(T:bG K mg "touching" lK f):au P w K mg base cv 6 "touching" 2 (fe):=
 aE (N:=qU) (ps:=rA) T zj (λ_ _ _ _ _ _ us hl=>match us,hl with | [_,_],_=>rfl) λ_ _ _ _ _ _ hr=>
  (aj (gc (bJ de (mR hr) rfl bT (aa (af (pv 0)) ah) rfl)) (aj (gc (bJ dJ (mR hr) rfl bT (aa (af (pv 1)) ah) rfl)) (ar (aG (Gg rfl hr.units rfl B.sorted rfl (bJ p5 (mR hr) rfl bT (aa (af (pv 0)) (aa (bJ cI (mR hr) rfl bT (aa (af (pv 0)) (aa (af (pv 1)) ah)) rfl) ah)) rfl))))))
abbrev ji:Stmt:=top 40
def jb:List Str:=["board","ways","lengths"]
def rn:List Str:=["board","ways"]
def oR:FnScope jb rn (ai ji):=di
def yL(B:Bl K mg base cv cA Cp)(de:au P w K mg base cv 4 "need_board" 1 bK)(dJ:au P w K mg base cv 2 "need_ways" 1 bY)(cI:au P w K mg base cv 5 "all_patches" 2 a8)(T:bG K mg "greatest" ji f):au P w K mg base cv 6 "greatest" 2 (fb):=
 aE (N:=jb) (ps:=rn) T oR (λ_ _ _ _ _ _ us hl=>match us,hl with | [_,_],_=>rfl) λ_ _ _ _ _ _ hr=>
  (aj (gc (bJ de (mR hr) rfl bT (aa (af (pv 0)) ah) rfl)) (aj (gc (bJ dJ (mR hr) rfl bT (aa (af (pv 1)) ah) rfl)) (aj (dP (tn:=["patch"]) (n:=0) oR.nd rfl (.inl rfl) (aU (N:=jb) (osc:=(ai ji)) rfl rfl (by decide+kernel)) rfl rfl (aY (bJ cI (mR hr) rfl bT (aa (af (pv 0)) (aa (af (pv 1)) ah)) rfl)) (λ_ _ _ _ _ _ _=>bH (show Xr (((["patch"]:List Str))++b6 ["patch"] jb) by decide+kernel) rfl rfl) (λ_ _ _ _ _ _=>bE) (λ_ _ _ _ _ _=>(bQ rfl B.len (aa (af (pv 0)) ah)))) (ar (aG (B1 (af (pv 2)) (aa (kA rfl rfl B.max rfl (aa (af (pv 2)) ah)) ah)))))))
abbrev kE:Stmt:=top 41
def kq:List Str:=["board","ways"]
def uu:List Str:=["board","ways"]
def AS:FnScope kq uu (ai kE):=di
def AA(B:Bl K mg base cv cA Cp)(de:au P w K mg base cv 4 "need_board" 1 bK)(dJ:au P w K mg base cv 2 "need_ways" 1 bY)(o9:au P w K mg base cv 2 "comes_to_edge" 2 b7)(cI:au P w K mg base cv 5 "all_patches" 2 a8)(T:bG K mg "at_edge" kE f):au P w K mg base cv 6 "at_edge" 2 (gp):=
 aE (N:=kq) (ps:=uu) T AS (λ_ _ _ _ _ _ us hl=>match us,hl with | [_,_],_=>rfl) λ_ _ _ _ _ _ hr=>
  (aj (gc (bJ de (mR hr) rfl bT (aa (af (pv 0)) ah) rfl)) (aj (gc (bJ dJ (mR hr) rfl bT (aa (af (pv 1)) ah) rfl)) (ar (aG (cw (tn:=["number","patch"]) (n:=2) (aU (N:=kq) (osc:=(ai kE)) rfl rfl (by decide+kernel)) rfl rfl (mH rfl B.enumerate (aa (bJ cI (mR hr) rfl bT (aa (af (pv 0)) (aa (af (pv 1)) ah)) rfl) ah)) (λ_ _ _ _ _ _ _=>MR (show Xr (((["number","patch"]:List Str))++b6 ["number","patch"] kq) by decide+kernel) rfl rfl rfl rfl rfl) (λ_ _ _ _ _ _=>(mQ (ej (bJ o9 (mR hr) rfl dG (aa (af (pv 2)) (aa (af (pv 1)) ah)) rfl)))) (λ_ _ _ _ _ _=>(af (pv 0))))))))
abbrev AR:Stmt:=top 36
def FJ:List Str:=["board","ways","number"]
def F_:List Str:=["board","ways","number"]
def Jz:FnScope FJ F_ (ai AR):=di
def IF(B:Bl K mg base cv cA Cp)(cE:au P w K mg base cv 6 "patch_of_number" 3 aQ)(T:bG K mg "size" AR f):au P w K mg base cv 7 "size" 3 (lx):=
 aE (N:=FJ) (ps:=F_) T Jz (λ_ _ _ _ _ _ us hl=>match us,hl with | [_,_,_],_=>rfl) λ_ _ _ _ _ _ hr=>
  (ar (aG (bQ rfl B.len (aa (bJ cE (mR hr) rfl bT (aa (af (pv 0)) (aa (af (pv 1)) (aa (af (pv 2)) ah))) rfl) ah))))
abbrev Cc:Stmt:=top 37
def BO:List Str:=["board","ways","number","patch","inside","told","cell"]
def Kh:List Str:=["board","ways","number"]
def nT:FnScope BO Kh (ai Cc):=di
def LW(B:Bl K mg base cv cA Cp)(cE:au P w K mg base cv 6 "patch_of_number" 3 aQ)(u0:au P w K mg base cv 1 "keyed" 1 ke)(eJ:au P w K mg base cv 2 "next_cells" 3 a6)(T:bG K mg "rim" Cc f):au P w K mg base cv 7 "rim" 3 (qf):=
 aE (N:=BO) (ps:=Kh) T nT (λ_ _ _ _ _ _ us hl=>match us,hl with | [_,_,_],_=>rfl) λ_ _ _ _ _ _ hr=>
  (aj (aL nT.nd rfl (.inl rfl) (bJ cE (mR hr) rfl bT (aa (af (pv 0)) (aa (af (pv 1)) (aa (af (pv 2)) ah))) rfl)) (aj (aL nT.nd rfl (.inr rfl) (bJ u0 (mR hr) rfl bT (aa (af (pv 3)) ah) rfl)) (aj (aL nT.nd rfl (.inl rfl) ak) (aj (cx (bC W3 rfl (aY (af (pv 3))) (aR nT.nd rfl (.inl rfl)) bD (aZ (ar (Ji nT.nd rfl (.inl rfl) (fR ak (bQ rfl B.len (aa (cw (tn:=["near"]) (n:=0) (aU (N:=BO) (osc:=(ai Cc)) rfl rfl (by decide+kernel)) rfl rfl (aY (bJ eJ (mR hr) rfl dG (aa (af (pv 0)) (aa (af (pv 6)) (aa ak ah))) rfl)) (λ_ _ _ _ _ _ _=>bH (show Xr (((["near"]:List Str))++b6 ["near"] BO) by decide+kernel) rfl rfl) (λ_ _ _ _ _ _=>(mQ (Gw hr.units (af (pv 0)) (af (pv 5))))) (λ_ _ _ _ _ _=>(af (pv 0)))) ah)))))))) (ar (aG (af (pv 5))))))))
abbrev zd:Stmt:=top 38
def ug:List Str:=["board","ways","number","patch","rows","columns"]
def Kg:List Str:=["board","ways","number"]
def wC:FnScope ug Kg (ai zd):=di
def LV(B:Bl K mg base cv cA Cp)(cE:au P w K mg base cv 6 "patch_of_number" 3 aQ)(T:bG K mg "box" zd f):au P w K mg base cv 7 "box" 3 (qe):=
 aE (N:=ug) (ps:=Kg) T wC (λ_ _ _ _ _ _ us hl=>match us,hl with | [_,_,_],_=>rfl) λ_ _ _ _ _ _ hr=>
  (aj (aL wC.nd rfl (.inl rfl) (bJ cE (mR hr) rfl bT (aa (af (pv 0)) (aa (af (pv 1)) (aa (af (pv 2)) ah))) rfl)) (aj (dP (tn:=["cell"]) (n:=0) wC.nd rfl (.inl rfl) (aU (N:=ug) (osc:=(ai zd)) rfl rfl (by decide+kernel)) rfl rfl (aY (af (pv 3))) (λ_ _ _ _ _ _ _=>bH (show Xr (((["cell"]:List Str))++b6 ["cell"] ug) by decide+kernel) rfl rfl) (λ_ _ _ _ _ _=>bE) (λ_ _ _ _ _ _=>(bj (af (pv 0)) ak))) (aj (dP (tn:=["cell"]) (n:=0) wC.nd rfl (.inl rfl) (aU (N:=ug) (osc:=(ai zd)) rfl rfl (by decide+kernel)) rfl rfl (aY (af (pv 3))) (λ_ _ _ _ _ _ _=>bH (show Xr (((["cell"]:List Str))++b6 ["cell"] ug) by decide+kernel) rfl rfl) (λ_ _ _ _ _ _=>bE) (λ_ _ _ _ _ _=>(bj (af (pv 0)) ak))) (ar (aG (bA (aa (pP rfl rfl B.min rfl (aa (af (pv 4)) ah)) (aa (pP rfl rfl B.min rfl (aa (af (pv 5)) ah)) (aa (kA rfl rfl B.max rfl (aa (af (pv 4)) ah)) (aa (kA rfl rfl B.max rfl (aa (af (pv 5)) ah)) ah))))))))))
def Ig(B:Bl K mg base cv cA Cp){n m:Nat}(hn:n∈[0,1,4])(hm:m<7):nj K (uY cA) [.exc (cA n), .raw (.ref (cA m))]=ae (.bl (decide (n=m))):=by
 have h:cA n∈uY cA:=by
  unfold uY;simp only[WG,XH,or_false] at hn;rcases hn with rfl | rfl | rfl<;>simp
 show (if cA n∈uY cA then(match WV K (.ref (cA n)) (.ref (cA m)) with | some b=>ae (D.bl b) | none=>ag) else ag)=_;rw[adF h,B.kit n m hn hm]
def Fm(B:Bl K mg base cv cA Cp){n:Nat}(hn:n∈[0,1,4]):nj K (uY cA) [.exc (cA n), .raw (.ty "ValueError")]=ae (.bl true):=by
 have h:cA n∈uY cA:=by
  unfold uY;simp only[WG,XH,or_false] at hn;rcases hn with rfl | rfl | rfl<;>simp
 show (if cA n∈uY cA then(match WV K (.ref (cA n)) (.type "ValueError") with | some b=>ae (D.bl b) | none=>ag) else ag)=_;rw[adF h,B.kitV n hn]
def Ca(k:Nat):Ni k∈[0,1,4]:=by
 unfold Ni;split<;>simp
def y_(B:Bl K mg base cv cA Cp)(k:Nat):bU K cA [.exc (cB cA k)]=Eh k:=by
 unfold Eh cB;have hn:=Ca k;generalize Ni k=n at hn;have hx:∀m (hm:m<7),nj K (uY cA) [.exc (cA n), .raw (.ref (cA m))]=ae (.bl (decide (n=m))):=λm hm=>Ig B hn hm;have hv:=Fm B hn;have x0:=hx 0 (by decide);have x1:=hx 1 (by decide);have x2:=hx 2 (by decide);have x3:=hx 3 (by decide);have x4:=hx 4 (by decide);have x5:=hx 5 (by decide);have x6:=hx 6 (by decide);clear hx B;simp only[WG,XH,or_false] at hn;rcases hn with rfl | rfl | rfl
 ·simp only[bU,fE,hv,x0,x1,x2,x3,x4,x5,x6,bV,aF,bu,dA,aC,aN,dV,dC,d1,d2,dM,pe,e9,du,jy,bO,eB,cW,ax,WD,YL,YG,Xa,WU,WE,Xx,Y5,Y6,Xm,Xn,bS,Nat.reduceSub,Nat.reduceAdd,lim,Nat.reduceLeDiff,if_true,gG,gL,CI,bools,decide_true,decide_false,Nat.reduceEqDiff];rfl
 ·simp only[bU,fE,hv,x0,x1,x2,x3,x4,x5,x6,bV,aF,bu,dA,aC,aN,dV,dC,d1,d2,dM,pe,e9,du,jy,bO,eB,cW,ax,WD,YL,YG,Xa,WU,WE,Xx,Y5,Y6,Xm,Xn,bS,Nat.reduceSub,Nat.reduceAdd,lim,Nat.reduceLeDiff,if_true,gG,gL,CI,bools,decide_true,decide_false,Nat.reduceEqDiff];rfl
 ·simp only[bU,fE,hv,x0,x1,x2,x3,x4,x5,x6,bV,aF,bu,dA,aC,aN,dV,dC,d1,d2,dM,pe,e9,du,jy,bO,eB,cW,ax,WD,YL,YG,Xa,WU,WE,Xx,Y5,Y6,Xm,Xn,bS,Nat.reduceSub,Nat.reduceAdd,lim,Nat.reduceLeDiff,if_true,gG,gL,CI,bools,decide_true,decide_false,Nat.reduceEqDiff];rfl
def hh(B:Bl K mg base cv cA Cp){i:Nat}(k:Nat)(ρ:cQ)(e:ρ[i]? =some (some (.fz (.exc (cB cA k))))):bO (Ex 1 (bU K cA) (aC (dV i) aN)) ρ=(Eh k>>=λd=>ae (.rt d)):=by
 have h4:dV i ρ=ae (.exc (cB cA k)):=by unfold dV;rw[e]
 show ((dV i ρ>>=λx=>aN ρ>>=λxs=>ae (x::xs))>>=λds=>if ds.length=1 then noex (noex (bU K cA ds)) else ag)>>=_=_;rw[h4];show (if [D.exc (cB cA k)].length=1 then noex (noex (bU K cA [.exc (cB cA k)])) else ag)>>=_=_;rw[y_ B k];rfl
abbrev iw:Stmt:=top 51
def kT:List Str:=["_law_which","_law_board_here","_law_ways","_law_number","_law_e"]
def k7:List Str:=["_law_which","_law_board_here","_law_ways","_law_number"]
def j4:FnScope kT k7 (ai iw):=di
def rj(B:Bl K mg base cv cA Cp)(sy:pK P w K mg base cv 1 "_law_refused" 1 (bU K cA))(zW:au P w K mg base cv 6 "touching" 2 fe)(zT:au P w K mg base cv 6 "greatest" 2 fb)(Cw:au P w K mg base cv 6 "at_edge" 2 gp)(KG:au P w K mg base cv 7 "size" 3 lx)(Nw:au P w K mg base cv 7 "rim" 3 qf)(Nv:au P w K mg base cv 7 "box" 3 qe)(T:bG K mg "_law_told" iw f):au P w K mg base cv 8 "_law_told" 4 (aJ):=
 aE (N:=kT) (ps:=k7) T j4 (λ_ _ _ _ _ _ us hl=>match us,hl with | [_,_,_,_],_=>rfl) λ_ _ _ _ _ _ hr=>
  (ar (Jl (i:=4) (hd:=Eh) B.cvE j4.nd rfl rfl rfl B.top B.exm (λpn Ec Xw' hp=>(aj (cq (Kj (af (pv 0)) ak) (ar (aG (yU KG Nw Nv (mR hr) (mR hr) (mR hr) rfl rfl rfl hp (af (pv 0)) (aa (af (pv 1)) (aa (af (pv 2)) (aa (af (pv 3)) ah))) rfl))) bN) (ar (aG (yU zW zT Cw (mR hr) (mR hr) (mR hr) rfl rfl rfl hp (fR (af (pv 0)) ak) (aa (af (pv 1)) (aa (af (pv 2)) ah)) rfl))))) (λea=>(ar (aG (Hx sy (RoomH.of (mR hr) _) rfl (aa (af (pv 4)) ah))))) (λk ρ _ e=>hh B k ρ e)))
abbrev av:Stmt:=top 54
def aK:List Str:=["_law_script","_law_board_here","_law_ways","_law_rows","_law_edge","_law_number","_law_row","_law_down","_law_right","_law_due","_law_sizes","_law_odd","_law_none"]
def nE:List Str:=["_law_script"]
def bP:FnScope aK nE (ai av):=di
def wI(B:Bl K mg base cv cA Cp)(jB:au P w K mg base cv 3 "_law_board" 3 dO){cu:Value}{A:Xu}{outer:List Env}{s:WC}{H:Hp}{E:XK}(hr:Room 8 (A.deeper (YD "law" (ai av) s.heap.objs.size f cu))):
 Box (iR (bh (dq P w cv) P w K mg base aK "law" (ai av) f cu A outer s H E) (λn H'=>E (cv n) none H') ((bf av).getD 0 (.Pass ⟨0,0,0,0⟩)) oW):=
 ⟨(aL bP.nd rfl (.inr rfl) (bJ jB (mR hr) rfl bT (aa (af (pv 0)) (aa ak (aa ak ah))) rfl))⟩
def wJ(B:Bl K mg base cv cA Cp)(bB:au P w K mg base cv 2 "_law_drawn" 3 aV){cu:Value}{A:Xu}{outer:List Env}{s:WC}{H:Hp}{E:XK}(hr:Room 8 (A.deeper (YD "law" (ai av) s.heap.objs.size f cu))):
 Box (iR (bh (dq P w cv) P w K mg base aK "law" (ai av) f cu A outer s H E) (λn H'=>E (cv n) none H') ((bf av).getD 1 (.Pass ⟨0,0,0,0⟩)) oX):=
 ⟨(aL bP.nd rfl (.inr rfl) (rG (dj (aa ak (aa ak ah))) (bJ bB (mR hr) rfl bT (aa (af (pv 0)) (aa ak (aa ak ah))) rfl)))⟩
def wK(B:Bl K mg base cv cA Cp)(ik:au P w K mg base cv 3 "_law_patches" 2 cK){cu:Value}{A:Xu}{outer:List Env}{s:WC}{H:Hp}{E:XK}(hr:Room 8 (A.deeper (YD "law" (ai av) s.heap.objs.size f cu))):
 Box (iR (bh (dq P w cv) P w K mg base aK "law" (ai av) f cu A outer s H E) (λn H'=>E (cv n) none H') ((bf av).getD 2 (.Pass ⟨0,0,0,0⟩)) oY):=
 ⟨(aL bP.nd rfl (.inl rfl) (bJ ik (mR hr) rfl bT (aa (af (pv 1)) (aa (af (pv 2)) ah)) rfl))⟩
def wL(B:Bl K mg base cv cA Cp){cu:Value}{A:Xu}{outer:List Env}{s:WC}{H:Hp}{E:XK}(hr:Room 8 (A.deeper (YD "law" (ai av) s.heap.objs.size f cu))):
 Box (iR (bh (dq P w cv) P w K mg base aK "law" (ai av) f cu A outer s H E) (λn H'=>E (cv n) none H') ((bf av).getD 3 (.Pass ⟨0,0,0,0⟩)) oZ):=
 ⟨(jg bP.nd rfl (.inl rfl))⟩
def wM(B:Bl K mg base cv cA Cp)(m9:au P w K mg base cv 1 "_law_rim" 1 iE)(aW:au P w K mg base cv 8 "_law_told" 4 aJ){cu:Value}{A:Xu}{outer:List Env}{s:WC}{H:Hp}{E:XK}(hr:Room 8 (A.deeper (YD "law" (ai av) s.heap.objs.size f cu))):
 Box (iR (bh (dq P w cv) P w K mg base aK "law" (ai av) f cu A outer s H E) (λn H'=>E (cv n) none H') ((bf av).getD 4 (.Pass ⟨0,0,0,0⟩)) o3):=
 ⟨(cx (bC W3 rfl (mH rfl B.enumerate (aa (af (pv 3)) ah)) (nJ rfl (dz (aR bP.nd rfl (.inr rfl)) (dz (aR bP.nd rfl (.inl rfl)) kB))) (mK (is:=[5,6])) (aZ (aj (dP (tn:=["_law_cell_here"]) (n:=0) bP.nd rfl (.inl rfl) (aU (N:=aK) (osc:=(ai av)) rfl rfl (by decide+kernel)) rfl rfl (aY (af (pv 6))) (λ_ _ _ _ _ _ _=>bH (show Xr (((["_law_cell_here"]:List Str))++b6 ["_law_cell_here"] aK) by decide+kernel) rfl rfl) (λ_ _ _ _ _ _=>bE) (λ_ _ _ _ _ _=>(bj (af (pv 0)) ak))) (aj (dP (tn:=["_law_cell_here"]) (n:=0) bP.nd rfl (.inl rfl) (aU (N:=aK) (osc:=(ai av)) rfl rfl (by decide+kernel)) rfl rfl (aY (af (pv 6))) (λ_ _ _ _ _ _ _=>bH (show Xr (((["_law_cell_here"]:List Str))++b6 ["_law_cell_here"] aK) by decide+kernel) rfl rfl) (λ_ _ _ _ _ _=>bE) (λ_ _ _ _ _ _=>(bj (af (pv 0)) ak))) (aj (aL bP.nd rfl (.inl rfl) (dj (aa (bQ rfl B.len (aa (af (pv 6)) ah)) (aa (bJ m9 (mR hr) rfl dG (aa (af (pv 6)) ah) rfl) (aa (bA (aa (pP rfl rfl B.min rfl (aa (af (pv 7)) ah)) (aa (pP rfl rfl B.min rfl (aa (af (pv 8)) ah)) (aa (kA rfl rfl B.max rfl (aa (af (pv 7)) ah)) (aa (kA rfl rfl B.max rfl (aa (af (pv 8)) ah)) ah))))) ah))))) (aj (cq (oP hr.units (cw (tn:=["_law_which"]) (n:=0) (aU (N:=aK) (osc:=(ai av)) rfl rfl (by decide+kernel)) rfl rfl (cM rfl B.range (aa ak ah)) (λ_ _ _ _ _ _ _=>bH (show Xr (((["_law_which"]:List Str))++b6 ["_law_which"] aK) by decide+kernel) rfl rfl) (λ_ _ _ _ _ _=>bE) (λ_ _ _ _ _ _=>(bJ aW (mR hr) rfl dG (aa (af (pv 0)) (aa (af (pv 2)) (aa (af (pv 3)) (aa (af (pv 6)) ah)))) rfl))) (af (pv 9))) (ar (aG h9)) bN) (ar (cq (PDW.t (jV (wm ak (mG (af (pv 7)) (af (pv 8)))) (jV (wm (fR (bQ rfl B.len (aa (af (pv 1)) ah)) ak) (af (pv 7))) (jf (wm (fR (bQ rfl B.len (aa (bj (af (pv 1)) ak) ah)) ak) (af (pv 8))))))) (ar (kC (pv 4) (af (pv 5)))) bN)))))))))⟩
def wN(B:Bl K mg base cv cA Cp){cu:Value}{A:Xu}{outer:List Env}{s:WC}{H:Hp}{E:XK}(hr:Room 8 (A.deeper (YD "law" (ai av) s.heap.objs.size f cu))):
 Box (iR (bh (dq P w cv) P w K mg base aK "law" (ai av) f cu A outer s H E) (λn H'=>E (cv n) none H') ((bf av).getD 5 (.Pass ⟨0,0,0,0⟩)) o4):=
 ⟨(dP (tn:=["_law_row"]) (n:=0) bP.nd rfl (.inl rfl) (aU (N:=aK) (osc:=(ai av)) rfl rfl (by decide+kernel)) rfl rfl (aY (af (pv 3))) (λ_ _ _ _ _ _ _=>bH (show Xr (((["_law_row"]:List Str))++b6 ["_law_row"] aK) by decide+kernel) rfl rfl) (λ_ _ _ _ _ _=>bE) (λ_ _ _ _ _ _=>(bQ rfl B.len (aa (af (pv 0)) ah))))⟩
def wO(B:Bl K mg base cv cA Cp)(gB:au P w K mg base cv 1 "_law_touching" 2 cS){cu:Value}{A:Xu}{outer:List Env}{s:WC}{H:Hp}{E:XK}(hr:Room 8 (A.deeper (YD "law" (ai av) s.heap.objs.size f cu))):
 Box (iR (bh (dq P w cv) P w K mg base aK "law" (ai av) f cu A outer s H E) (λn H'=>E (cv n) none H') ((bf av).getD 6 (.Pass ⟨0,0,0,0⟩)) o5):=
 ⟨(dm (i:=4) (aL bP.nd rfl (.inl rfl) (dj (aa (bJ gB (mR hr) rfl bT (aa (af (pv 1)) (aa (af (pv 3)) ah)) rfl) (aa (B1 (af (pv 10)) (aa (kA rfl rfl B.max rfl (aa (af (pv 10)) ah)) ah)) (aa (af (pv 4)) ah))))))⟩
def wQ(B:Bl K mg base cv cA Cp)(aW:au P w K mg base cv 8 "_law_told" 4 aJ){cu:Value}{A:Xu}{outer:List Env}{s:WC}{H:Hp}{E:XK}(hr:Room 8 (A.deeper (YD "law" (ai av) s.heap.objs.size f cu))):
 Box (iR (bh (dq P w cv) P w K mg base aK "law" (ai av) f cu A outer s H E) (λn H'=>E (cv n) none H') ((bf av).getD 7 (.Pass ⟨0,0,0,0⟩)) o6):=
 ⟨(cq (oP hr.units (cw (tn:=["_law_which"]) (n:=0) (aU (N:=aK) (osc:=(ai av)) rfl rfl (by decide+kernel)) rfl rfl (mI (bA (aa ak (aa ak (aa ak ah))))) (λ_ _ _ _ _ _ _=>bH (show Xr (((["_law_which"]:List Str))++b6 ["_law_which"] aK) by decide+kernel) rfl rfl) (λ_ _ _ _ _ _=>bE) (λ_ _ _ _ _ _=>(bJ aW (mR hr) rfl dG (aa (af (pv 0)) (aa (af (pv 2)) (aa (af (pv 3)) (aa wc ah)))) rfl))) (af (pv 9))) (ar (aG h9)) bN)⟩
def wR(B:Bl K mg base cv cA Cp)(bB:au P w K mg base cv 2 "_law_drawn" 3 aV){cu:Value}{A:Xu}{outer:List Env}{s:WC}{H:Hp}{E:XK}(hr:Room 8 (A.deeper (YD "law" (ai av) s.heap.objs.size f cu))):
 Box (iR (bh (dq P w cv) P w K mg base aK "law" (ai av) f cu A outer s H E) (λn H'=>E (cv n) none H') ((bf av).getD 8 (.Pass ⟨0,0,0,0⟩)) o7):=
 ⟨(aL bP.nd rfl (.inr rfl) (rG (dj (aa (wa ak) (aa (bQ rfl B.len (aa (af (pv 3)) ah)) (aa wc (aa h9 (aa eU ah)))))) (bJ bB (mR hr) rfl bT (aa (af (pv 0)) (aa ak (aa ak ah))) rfl)))⟩
def wU(B:Bl K mg base cv cA Cp)(aW:au P w K mg base cv 8 "_law_told" 4 aJ){cu:Value}{A:Xu}{outer:List Env}{s:WC}{H:Hp}{E:XK}(hr:Room 8 (A.deeper (YD "law" (ai av) s.heap.objs.size f cu))):
 Box (iR (bh (dq P w cv) P w K mg base aK "law" (ai av) f cu A outer s H E) (λn H'=>E (cv n) none H') ((bf av).getD 9 (.Pass ⟨0,0,0,0⟩)) o8):=
 ⟨(cq (oP hr.units (cw (tn:=["_law_which"]) (n:=0) (aU (N:=aK) (osc:=(ai av)) rfl rfl (by decide+kernel)) rfl rfl (cM rfl B.range (aa ak ah)) (λ_ _ _ _ _ _ _=>bH (show Xr (((["_law_which"]:List Str))++b6 ["_law_which"] aK) by decide+kernel) rfl rfl) (λ_ _ _ _ _ _=>bE) (λ_ _ _ _ _ _=>(bJ aW (mR hr) rfl dG (aa (af (pv 0)) (aa (af (pv 2)) (aa (af (pv 3)) (aa (af (pv 12)) ah)))) rfl))) (AK (dj (aa (bA (aa eU (aa ak ah))) ah)) ak)) (ar (aG h9)) bN)⟩
def sY(B:Bl K mg base cv cA Cp)(bB:au P w K mg base cv 2 "_law_drawn" 3 aV){cu:Value}{A:Xu}{outer:List Env}{s:WC}{H:Hp}{E:XK}(hr:Room 8 (A.deeper (YD "law" (ai av) s.heap.objs.size f cu))):
 Box (iR (bh (dq P w cv) P w K mg base aK "law" (ai av) f cu A outer s H E) (λn H'=>E (cv n) none H') ((bf av).getD 10 (.Pass ⟨0,0,0,0⟩)) mY):=
 ⟨(aL bP.nd rfl (.inr rfl) (rG (dj (aa ak (aa wc (aa ak ah)))) (bJ bB (mR hr) rfl bT (aa (af (pv 0)) (aa ak (aa ak ah))) rfl)))⟩
def sZ(B:Bl K mg base cv cA Cp)(aW:au P w K mg base cv 8 "_law_told" 4 aJ){cu:Value}{A:Xu}{outer:List Env}{s:WC}{H:Hp}{E:XK}(hr:Room 8 (A.deeper (YD "law" (ai av) s.heap.objs.size f cu))):
 Box (iR (bh (dq P w cv) P w K mg base aK "law" (ai av) f cu A outer s H E) (λn H'=>E (cv n) none H') ((bf av).getD 11 (.Pass ⟨0,0,0,0⟩)) mZ):=
 ⟨(cq (oP hr.units (cw (tn:=["_law_which"]) (n:=0) (aU (N:=aK) (osc:=(ai av)) rfl rfl (by decide+kernel)) rfl rfl (cM rfl B.range (aa ak ah)) (λ_ _ _ _ _ _ _=>bH (show Xr (((["_law_which"]:List Str))++b6 ["_law_which"] aK) by decide+kernel) rfl rfl) (λ_ _ _ _ _ _=>bE) (λ_ _ _ _ _ _=>(bJ aW (mR hr) rfl dG (aa (af (pv 0)) (aa (af (pv 2)) (aa (af (pv 13)) (aa (af (pv 12)) ah)))) rfl))) (AK (dj (aa (bA (aa eU (aa ak ah))) ah)) ak)) (ar (aG h9)) bN)⟩
def s9(B:Bl K mg base cv cA Cp)(aW:au P w K mg base cv 8 "_law_told" 4 aJ){cu:Value}{A:Xu}{outer:List Env}{s:WC}{H:Hp}{E:XK}(hr:Room 8 (A.deeper (YD "law" (ai av) s.heap.objs.size f cu))):
 Box (iR (bh (dq P w cv) P w K mg base aK "law" (ai av) f cu A outer s H E) (λn H'=>E (cv n) none H') ((bf av).getD 12 (.Pass ⟨0,0,0,0⟩)) m6):=
 ⟨(aG (yT hr.units (cw (tn:=["_law_which"]) (n:=0) (aU (N:=aK) (osc:=(ai av)) rfl rfl (by decide+kernel)) rfl rfl (cM rfl B.range (aa ak ah)) (λ_ _ _ _ _ _ _=>bH (show Xr (((["_law_which"]:List Str))++b6 ["_law_which"] aK) by decide+kernel) rfl rfl) (λ_ _ _ _ _ _=>bE) (λ_ _ _ _ _ _=>(bJ aW (mR hr) rfl dG (aa (af (pv 0)) (aa (IV rfl B.list rfl (aa (af (pv 2)) ah)) (aa ak (aa (af (pv 12)) ah)))) rfl))) (AK (dj (aa (bA (aa eU (aa ak ah))) ah)) ak)))⟩
def yJ{fd:Ze}(B:Bl K mg base cv cA Cp)(jB:au P w K mg base cv 3 "_law_board" 3 dO)(ik:au P w K mg base cv 3 "_law_patches" 2 cK)(bB:au P w K mg base cv 2 "_law_drawn" 3 aV)(gB:au P w K mg base cv 1 "_law_touching" 2 cS)(m9:au P w K mg base cv 1 "_law_rim" 1 iE)(aW:au P w K mg base cv 8 "_law_told" 4 aJ)(Fn:Fun K "law" "law" av f fd):FnOk P w K mg base (dq P w cv) 9 f fd nE (El K cv 1 kf):=
 NM (N:=aK) (ps:=nE) (τ:=nZ) Fn bP λcu A outer s H E hr=>by
  obtain⟨Wk⟩:Box (PSDs (bh (dq P w cv) P w K mg base aK "law" (ai av) f cu A outer s H E) (λn H'=>E (cv n) none H') (bf av) nZ):=(fN (wI B jB hr) (fN (wJ B bB hr) (fN (wK B ik hr) (fN (wL B hr) (fN (wM B m9 aW hr) (fN (wN B hr) (fN (wO B gB hr) (fN (wQ B aW hr) (fN (wR B bB hr) (fN (wU B aW hr) (fN (sY B bB hr) (fN (sZ B aW hr) (KD (s9 B aW hr))))))))))))))
  assumption
end
end K1
namespace K1
open PySem L2 L3
def FI{ds:List D}(h:ds.length<=lim):bS ds=ae (.lst ds):=adF h
def cF:lim=4096:=rfl
def iz{i:Nat}{x:α}(h:xs[i]? =some x):L2.atI xs (i:Int)=some x:=by
 obtain⟨hi,e⟩:=WQ.mp h;unfold L2.atI Fs;rw[adF (Int.natCast_nonneg i),adF (by exact Int.ofNat_lt.mpr hi)];exact h
def aq{δs:DA}(h:δs ρ=ae ds)(hl:ds.length=m):ay m g δs ρ=g ds:=by
 unfold ay;rw[h];exact adF hl
def aH{ρ:cQ}(h1:a ρ=ae x)(h2:r ρ=ae xs):aC a r ρ=ae (x::xs):=by
 unfold aC;rw[h1,ax,h2];rfl
def aM{ρ:cQ}{x y:D}(h1:a ρ=ae x)(h2:b ρ=ae y):d2 g a b ρ=g x y:=by
 unfold d2;rw[h1,ax,h2];rfl
def bo{ρ:cQ}{xs:List D}(h:a ρ=ae xs):dA g a ρ=g xs:=by
 unfold dA;rw[h];rfl
def iF{i j:Int}(h:0<j):lV (.int i) (.int j)=ae (.int (i % j)):=by
 show (if decide (0<j)=true then _ else _)=_;rw[adF (adJ h)]
def lT{i j:Int}(h:0<j)(h2:j<1073741824):sC (.int i) (.int j)=ae (.int (i / j)):=by
 show (if decide (0<j/\j<1073741824)=true then _ else _)=_;rw[adF (adJ ⟨h,h2⟩)]
def gH{i j:Int}(h:(-(2 ^ 64)<i/\i<2 ^ 64)\/(-(2 ^ 64)<j/\j<2 ^ 64)):iV (.int i) (.int j)=ae (.int (i*j)):=by
 show (if decide _=true then _ else _)=_;rw[adF (adJ h)]
def jD{i j:Int}:cV (.int i) (.int j)=ae (.int (i+j)):=rfl
def EB(ns:List Int)(hl:ns.length<=63)(k:Nat):∃v,gF [.scr ns, .int (k:Int)]=ae (.int v):=by
 cases ns with
 |nil=>
  refine⟨7*(k:Int),?_⟩;rfl
 |cons n r=>
  have hp:0<(n::r).length:=acO _;generalize e:(n::r)=ns at*;have he:fW 6 (.scr ns) (.lst [])=some false:=by subst e;rfl
  obtain⟨y,hy⟩:∃y,ns[k % ns.length]? =some y:=⟨_,Wy (Nat.mod_lt _ hp)⟩
  have Qg:(0:Int)<(ns.length:Int):=by omega
  have h1:lV (.int (k:Int)) (.int (ns.length:Int))=ae (.int ((k % ns.length:Nat):Int)):=iF Qg;have h2:sC (.int (k:Int)) (.int (ns.length:Int))=ae (.int ((k:Int) / (ns.length:Int))):=lT Qg (by omega);have h3:EU (.scr ns) (.int ((k % ns.length:Nat):Int))=ae (.int y):=by
   show (match L2.atI ns ((k % ns.length:Nat):Int) with | some n=>ae (D.int n) | none=>ag)=_;rw[iz hy]
  have h4:iV (.int 6553) (.int ((k:Int) / (ns.length:Int)))=ae (.int (6553*((k:Int) / (ns.length:Int)))):=gH (.inl ⟨by decide,by decide⟩);refine⟨y+6553*((k:Int) / (ns.length:Int)),?_⟩;simp only[gF,sm,bV,aF,jy,bO,eB,cW,d2,dV,dC,dA,aC,aN,bS,bx,Ed,lU,he,ax,h1,h2,h3,h4,WD,YL,YG,Xa,WE,Xx,Xm,Xn,cF,Nat.reduceAdd,Xq,if_true,W9,if_false,cV,gI]
def e_(ns:List Int)(hl:ns.length<=63)(k m:Nat)(hm:0<m):∃v:Nat,v<m/\aV [.scr ns, .int (k:Int), .int (m:Int)]=ae (.int (v:Int)):=by
 obtain⟨c,hc⟩:=EB ns hl k;have b1:=abT (c % 2147483563*69069+104723*((k:Int)+1)) (b:=2147483563) (by decide);have b2:=abc (c % 2147483563*69069+104723*((k:Int)+1)) (b:=2147483563) (by decide);generalize hx:(c % 2147483563*69069+104723*((k:Int)+1)) % 2147483563=x at b1 b2;have b3:=abT (x*x+x / 3) (b:=2147483399) (by decide);have b4:=abc (x*x+x / 3) (b:=2147483399) (by decide);generalize hy:(x*x+x / 3) % 2147483399=y at b3 b4;have m1:iV (.int (c % 2147483563)) (.int 69069)=_:=gH (.inr ⟨by decide,by decide⟩);have m2:iV (.int 104723) (.int ((k:Int)+1))=_:=gH (.inl ⟨by decide,by decide⟩);have m3:iV (.int x) (.int x)=_:=gH (.inl ⟨by omega,by omega⟩);have m4:iV (.int y) (.int y)=_:=gH (.inl ⟨by omega,by omega⟩);have hM:(0:Int)<(m:Int):=Int.ofNat_lt.mpr hm;have n1:=abT ((y*y+y / 7) % 2147483647 / 11) (b:=(m:Int)) (by omega);have n2:=abc ((y*y+y / 7) % 2147483647 / 11) hM;have q1:lV (.int c) (.int 2147483563)=_:=iF (by decide);have q2:lV (.int (c % 2147483563*69069+104723*((k:Int)+1))) (.int 2147483563)=_:=iF (by decide);have q3:sC (.int x) (.int 3)=_:=lT (by decide) (by decide);have q4:lV (.int (x*x+x / 3)) (.int 2147483399)=_:=iF (by decide);have q5:sC (.int y) (.int 7)=_:=lT (by decide) (by decide);have q6:lV (.int (y*y+y / 7)) (.int 2147483647)=_:=iF (by decide);have q7:sC (.int ((y*y+y / 7) % 2147483647)) (.int 11)=_:=lT (by decide) (by decide);have q8:lV (.int ((y*y+y / 7) % 2147483647 / 11)) (.int (m:Int))=_:=iF hM;refine⟨((y*y+y / 7) % 2147483647 / 11 % (m:Int)).toNat,by omega,?_⟩;rw[aa0 n1];rw[hx] at q2;rw[hy] at q4;simp only[aV,oV,bV,aF,bu,bO,ay,d2,dV,dC,dA,aC,aN,ax,hc,WD,YL,YG,Xa,WE,Xx,Xm,Xn,WU,Y5,Y6,Nat.reduceAdd,Nat.reduceSub,if_true,jD,m1,m2,m3,m4,q1,q2,q3,q4,q5,q6,q7,q8]
def FQ{α:Type}(a:α):noex (ae a)=ae a:=rfl
def xU{I:Nat->cQ->Prop}:∀(ds:List D) (i:Nat) (ρ:cQ),I i ρ->
 (∀j d,ds[j]? =some d->∀ρ,I (i+j) ρ->∃ρ1 ρ2,put d ρ=some ρ1/\body ρ1=ae (.nx ρ2)/\I (i+j+1) ρ2)->∃ρ',forL put body ds ρ=ae (.nx ρ')/\I (i+ds.length) ρ'
 |[],i,ρ,h,_=>⟨ρ,rfl,h⟩
 |d::ds,i,ρ,h,step=>by
  obtain⟨ρ1,ρ2,e1,e2,h2⟩:=step 0 d rfl ρ h;obtain⟨ρ',e3,h3⟩:=xU (I:=I) ds (i+1) ρ2 h2 λj d' hd ρ hI=>by
   have:=step (j+1) d' hd ρ (by rw[show i+(j+1)=i+1+j by omega];exact hI);rw[show i+(j+1)+1=i+1+j+1 by omega] at this;exact this
  refine⟨ρ',?_,?_⟩
  ·show (match put d ρ with | none=>ag | some ρ1=>body ρ1>>=λo=>match o with | .nx ρ2=>forL put body ds ρ2 | .rt v=>ae (.rt v))=_;rw[e1];show (body ρ1>>=λo=>match o with | .nx ρ2=>forL put body ds ρ2 | .rt v=>ae (.rt v))=_;rw[e2];exact e3
  ·rw[show i+(d::ds).length=i+1+ds.length by simp;omega];exact h3
def tK{Pr:D->Prop}:∀(ds:List D),(∀d∈ds,∃y,f d=ae (some y)/\Pr y)->∃ys,d6 f ds=ae ys/\ys.length=ds.length/\∀y∈ys,Pr y
 |[],_=>⟨[],rfl,rfl,λ_ h=>by cases h⟩
 |d::ds,h=>by
  obtain⟨y,e,hy⟩:=h d (WB ..);obtain⟨ys,e2,hl,hp⟩:=tK ds λd' hd=>h d' (Wz _ hd);refine⟨y::ys,?_,by simp[hl],λz hz=>?_⟩
  ·rw[df,e,ax,e2];rfl
  ·cases hz with
   |head=>exact hy
   |tail _ hz=>exact hp z hz
def iC{g:D->D}:∀(ds:List D),(∀d∈ds,f d=ae (some (g d)))->d6 f ds=ae (ds.map g)
 |[],_=>rfl
 |d::ds,h=>by
  rw[df,h d (WB ..),ax,iC ds λd' hd=>h d' (Wz _ hd)];rfl
def Lo(x:Str):Bool:=!(Zm ("abcdef":Str) x 0 ("abcdef":Str).length 1).isEmpty
structure Row (W:Nat) (r:Str):Prop where
 len:r.length=W
 let':∀c∈r.cps.toList,Lo ⟨#[c]⟩=true
structure Good (bd:List Str) (W:Nat):Prop where
 r1:1<=bd.length
 r5:bd.length<=5
 w1:1<=W
 w5:W<=5
 rows:∀r∈bd,Row W r
abbrev lE(c:Nat):Prop:=Lo ⟨#[c]⟩=true/\c≠101/\c≠100
def T6(r:Str):Prop:=∀c∈r.cps.toList,c≠101
def PR(r:Str):Prop:=∀c∈r.cps.toList,c≠101/\c≠100
def zr:∀(ys:List D),(∀y∈ys,∃c,y= .str ⟨#[c]⟩/\lE c)->∃xs,wZ ys=some xs/\xs.length=ys.length/\(xs.map (·.length)).sum=ys.length/\Row ys.length (fO xs)/\PR (fO xs)
 |[],_=>⟨[],rfl,rfl,rfl,⟨rfl,λc h=>by cases h⟩,λc h=>by cases h⟩
 |y::ys,h=>by
  obtain⟨c,e,hc⟩:=h y (WB ..);obtain⟨xs,e1,e2,e3,e4,e5⟩:=zr ys λz hz=>h z (Wz _ hz);subst e;have x_:∀z,z∈((⟨#[c]⟩:Str)++fO xs).cps.toList->z=c\/z∈(fO xs).cps.toList:=λz hz=>by
   have:((⟨#[c]⟩:Str)++fO xs).cps= #[c]++(fO xs).cps:=rfl;rw[this] at hz;simpa using hz
  refine⟨⟨#[c]⟩::xs,?_,by simp[e2],?_,⟨?_,λz hz=>?_⟩,λz hz=>?_⟩
  ·show (wZ ys).map _=_;rw[e1];rfl
  ·rw[WD,X1,e3];show 1+ys.length=_;simp;omega
  ·show ((⟨#[c]⟩:Str)++fO xs).length=_;rw[j5,e4.len];show 1+ys.length=_;simp;omega
  ·rcases x_ z hz with rfl | q
   ·exact hc.1
   ·exact e4.let' z q
  ·rcases x_ z hz with rfl | q
   ·exact hc.2
   ·exact e5 z q
def GJ{n:Nat}{d:D}(h:d∈iP lo n):∃i:Nat,i<n/\d= .int (lo+(i:Int)):=by
 unfold iP at h;obtain⟨i,hi,e⟩:=WM.mp h;exact⟨i,Yq.mp hi,e.symm⟩
def Jv{n j:Nat}{d:D}(h:(iP lo n)[j]? =some d):j<n/\d= .int (lo+(j:Int)):=by
 unfold iP at h;rw[WT] at h;by_cases hj:j<n
 ·rw[aaT hj] at h;cases h;exact⟨hj,rfl⟩
 ·rw[ZO (by simpa using hj)] at h;cases h
def jX(lo:Int)(n:Nat):(iP lo n).length=n:=by simp[iP]
abbrev iW(w:Nat):D:= .int w
abbrev fz(d:D):Option Sl:=some (.fz d)
def fP{ρ:cQ}{d:D}:iB 0 bI δe ρ d=(δe (fz d::ρ)>>=λy=>ae (some y)):=rfl
def z0{ρ:cQ}{d:D}:iB 0 δt δe ρ d=(δt (fz d::ρ)>>=λb=>if b then δe (fz d::ρ)>>=λy=>ae (some y) else ae none):=rfl
def ao{ρ ρ':cQ}{o:M Out}(h:a ρ=ae (.nx ρ'))(h2:b ρ'=o):aF a b ρ=o:=by
 unfold aF;rw[h];exact h2
def kD{ρ:cQ}{d:D}(h:a ρ=ae (.rt d)):aF a b ρ=ae (.rt d):=by
 unfold aF;rw[h];rfl
def aO{ρ:cQ}{d:D}(h:δ ρ=ae d):bu i δ ρ=ae (.nx (ρ.set i (fz d))):=by
 unfold bu;rw[h];rfl
def fK{ρ:cQ}{o:M Out}(h:c ρ=ae true)(h2:a ρ=o):jy c a b ρ=o:=by
 unfold jy;rw[h];exact h2
def eE{ρ:cQ}{o:M Out}(h:c ρ=ae false)(h2:b ρ=o):jy c a b ρ=o:=by
 unfold jy;rw[h];exact h2
def bc{ρ:cQ}{d:D}(h:δ ρ=ae d):bO δ ρ=ae (.rt d):=by
 unfold bO;rw[h];rfl
def cU{ρ:cQ}{d:D}(h:δ ρ=ae d):kM δ ρ=ae (.nx ρ):=by
 unfold kM;rw[h];rfl
def bb{ds:List D}{d:D}(h:τ (ds.map (λd=>some (Sl.fz d))++WU (n - ds.length) none)=ae (.rt d)):bV n τ ds=ae d:=by
 unfold bV;rw[h];rfl
def B_{ds:List D}{ρ:cQ}(h:τ (ds.map (λd=>some (Sl.fz d))++WU (n - ds.length) none)=ae (.nx ρ)):bV n τ ds=ae .non:=by
 unfold bV;rw[h];rfl
def dH{τ:DS}{ds:List D}(h:τ (ds.map (λd=>some (Sl.fz d))++WU (n - ds.length) none)=br k):bV n τ ds=br k:=by
 unfold bV;rw[h];rfl
def GO{ρ:cQ}(h:δi ρ=ae ds)(h2:forL put b ds ρ=ae o):noex (cN put δi b ρ)=ae o:=by
 unfold cN;rw[h,ax,h2];rfl
def aT{τ:DS}{ρ ρ':cQ}(h:τ ρ=ae (.nx ρ')):b9 is τ ρ=ae (.nx (fgt is ρ')):=by
 unfold b9;rw[h];rfl
def bq{δe:DE}(h:δi ρ=ae ds)(h2:d6 (iB n δt δe ρ) ds=ae ys)(h3:ys.length<=lim):a7 n δi δt δe ρ=ae (.lst ys):=by
 unfold a7;rw[h,ax,h2,FQ,ax,FI h3]
def nR{n:Nat}(h:n<=4096):fJ [.int (n:Int)]=ae (iP 0 n):=by
 show (if -4096<=(n:Int)/\(n:Int)<=4096 then ae (iP 0 (n:Int).toNat) else ag)=_;rw[adF ⟨by omega,by omega⟩];rfl
structure Alpha (al:Str):Prop where
 pos:0<al.length
 ok:∀c∈al.cps.toList,lE c
def Kv:Alpha "ab"/\Alpha "abc"/\Alpha "aab"/\Alpha "fa":=by
 refine⟨⟨by decide+kernel,?_⟩,⟨by decide+kernel,?_⟩,⟨by decide+kernel,?_⟩,⟨by decide+kernel,?_⟩⟩<;>decide+kernel
def EV{i:Nat}(h:i<x.length):∃c,c∈x.cps.toList/\x.cps.toList[i]? =some c/\ni (.str x) (.int (i:Int))=ae (.str ⟨#[c]⟩):=by
 have h:i<x.cps.toList.length:=by rw[W5];exact h
 refine⟨x.cps.toList[i],Zp h,Wy h,?_⟩;show (match L2.atI x.cps.toList (i:Int) with | some c=>ae (D.str ⟨#[c]⟩) | none=>ag)=_;rw[iz (Wy h)]
abbrev brd(bd:List Str):D:= .tup (bd.map D.str)
abbrev sgn(at' mo:Nat)(ns:List Int)(W:Nat)(al:Str)(bd:List Str)(R:Nat)(x7 x8:Option Sl):cQ:=[fz (.scr ns),fz (.int (at':Int)),fz (.int (mo:Int)),fz (.int (R:Int)),fz (.int (W:Int)),fz (.str al),fz (brd bd),x7,x8]
def D1(at' mo:Nat)(ns:List Int)(hl:ns.length<=63)(al:Str)(ha:Alpha al)(j W R:Nat)(hW:W<=5)(bd:List Str)(x8:Option Sl):
 ∃ys,SD (sgn at' mo ns W al bd R (fz (.int (0+(j:Int)))) x8)=ae (.lst ys)/\ys.length=W/\∀y∈ys,∃c,y= .str ⟨#[c]⟩/\lE c:=by
 obtain⟨ys,e,Ej,hp⟩:=tK (f:=iB 0 bI (d2 ni (dV 6) (ay 3 aV (aC (dV 1) (aC (d2 cV (d2 cV (d2 cV (dV 2) (dC (.int 3))) (d2 iV (dC (.int 7)) (dV 8))) (dV 0)) (aC (dA bx (aC (dV 6) aN)) aN)))))
  (sgn at' mo ns W al bd R (fz (.int (0+(j:Int)))) x8)) (Pr:=λy=>∃c,y= .str ⟨#[c]⟩/\lE c) (iP 0 W) λd hd=>by
  obtain⟨i,hi,rfl⟩:=GJ hd;obtain⟨v,hv,e⟩:=e_ ns hl (at'+3+7*j+i) al.length ha.pos;obtain⟨c,hc,_,e2⟩:=EV hv;refine⟨.str ⟨#[c]⟩,?_,c,rfl,ha.ok c hc⟩;rw[fP];have k:(at':Int)+3+7*(0+(j:Int))+(0+(i:Int))=((at'+3+7*j+i:Nat):Int):=by omega
  have m1:iV (.int 7) (.int (0+(j:Int)))=ae (.int (7*(0+(j:Int)))):=gH (.inl ⟨by decide,by decide⟩);simp only[ay,d2,dV,dC,dA,aC,aN,ax,WE,Xx,Xm,Xn,Nat.reduceAdd,if_true,jD,m1,k,bx,e,e2]
 refine⟨ys,bq (nR (n:=W) (by omega)) e (by rw[Ej,jX,cF];omega),by rw[Ej,jX],hp⟩
def Hy(at' mo:Nat)(ns:List Int)(W:Nat)(al:Str)(bd:List Str)(R:Nat)(x7:Option Sl)(ys:List D)(hb:bd.length<=5)(hy:ys.length<=5)(s3:∀y∈ys,∃c,y= .str ⟨#[c]⟩/\lE c):
 ∃r,(Row ys.length r/\PR r)/\SE (sgn at' mo ns W al bd R x7 (fz (.lst ys)))=ae (.nx (sgn at' mo ns W al (bd++[r]) R x7 (fz (.lst ys)))):=by
 obtain⟨xs,t1,t2,t3,t4⟩:=zr ys s3;refine⟨fO xs,t4,?_⟩;have jn:joinM (.str "") [.lst ys]=ae (.str (fO xs)):=by
  show (match wZ ys with | some (xs:List Str)=>if ("":Str).length=0/\(xs.map (λx:Str=>x.length)).sum<=lim then ae (D.str (fO xs)) else ag | none=>ag)=_;rw[t1];show (if ("":Str).length=0/\(xs.map (λx:Str=>x.length)).sum<=lim then ae (D.str (fO xs)) else ag)=_;rw[adF ⟨rfl,by rw[t3,cF];omega⟩]
 have ct:Bx (brd bd) (.tup [.str (fO xs)])=ae (brd (bd++[fO xs])):=by
  show (if (bd.map D.str).length+1<=lim then ae (D.tup (bd.map D.str++[.str (fO xs)])) else ag)=_;rw[adF (by rw[Ww,cF];omega)];simp[brd]
 refine(aO (d:=brd (bd++[fO xs])) ?_).trans rfl;simp only[d2,dV,dC,dA,aC,aN,dM,Ql,ax,Xm,Xn,if_true,jn,aS,WE,Xx,cF,Nat.reduceAdd,Nat.reduceLeDiff,ct]
def zQ(ns:List Int)(hl:ns.length<=63)(at' mo:Nat)(m0:0<mo)(m5:mo<=5):∃bd W,Good bd W/\(∀r∈bd,PR r)/\bd.length<=mo/\W<=mo/\dO [.scr ns, .int (at':Int), .int (mo:Int)]=ae (brd bd):=by
 obtain⟨r,hr,e1⟩:=e_ ns hl at' mo m0;obtain⟨c,hc,e2⟩:=e_ ns hl (at'+1) mo m0;obtain⟨a,ha,e3⟩:=e_ ns hl (at'+2) 4 (by decide);obtain⟨al,J2,e4⟩:∃al,Alpha al/\pj (.lst [.str "ab", .str "abc", .str "aab", .str "fa"]) (.int (a:Int))=ae (.str al):=by
  obtain⟨a1,a2,a3,a4⟩:=Kv
  match a,ha with
  |0,_=>exact⟨_,a1,rfl⟩
  |1,_=>exact⟨_,a2,rfl⟩
  |2,_=>exact⟨_,a3,rfl⟩
  |3,_=>exact⟨_,a4,rfl⟩
 have k1:(1:Int)+(r:Int)=((r+1:Nat):Int):=by omega
 have k2:(1:Int)+(c:Int)=((c+1:Nat):Int):=by omega
 have Ee:aV [.scr ns, .int (at':Int), .int (mo:Int)]=ae (.int (r:Int)):=e1;have M0:aV [.scr ns, .int ((at':Int)+1), .int (mo:Int)]=ae (.int (c:Int)):=e2;have P1:aV [.scr ns, .int ((at':Int)+2), .int 4]=ae (.int (a:Int)):=e3;obtain⟨ρ',f1,bd,f2,f3,f4⟩:=xU (put:=putN 7) (body:=b9 [7,8] (aF (bu 8 SD) SE))
  (I:=λi ρ=>∃bd,ρ=sgn at' mo ns (c+1) al bd (r+1) none none/\bd.length=i/\∀z∈bd,Row (c+1) z/\PR z)
  (iP 0 (r+1)) 0 (sgn at' mo ns (c+1) al [] (r+1) none none) ⟨[],rfl,rfl,λ_ h=>by cases h⟩ λj d hd ρ ⟨bd,hρ,hb,hw⟩=>by
   obtain⟨hj,rfl⟩:=Jv hd;subst hρ;obtain⟨ys,s1,s2,s3⟩:=D1 at' mo ns hl al J2 j (c+1) (r+1) (by omega) bd none;obtain⟨zM,t1,t2⟩:=Hy at' mo ns (c+1) al bd (r+1) (fz (.int (0+(j:Int)))) ys (by omega) (by omega) s3;refine⟨_,_,rfl,aT (ao (aO s1) t2),bd++[zM],rfl,by simp[hb],λz hz=>?_⟩;rcases XI.mp hz with h | h
   ·exact hw z h
   ·have h:z=zM:=by simpa using h
    subst h;rw[s2] at t1;exact t1
 refine⟨bd,c+1,⟨by rw[f3,jX];omega,by rw[f3,jX];omega,by omega,by omega,λr q=>(f4 r q).1⟩,λr q=>(f4 r q).2,by rw[f3,jX];omega,by omega,?_⟩;subst f2;refine bb ?_;refine ao (aO (d:= .int ((r+1:Nat):Int)) ?_) ?_
 ·simp only[ay,d2,dV,dC,aC,aN,ax,WD,YL,YG,Xa,WE,Xx,Xm,Xn,Nat.reduceAdd,if_true,jD,Ee,k1]
 refine ao (aO (d:= .int ((c+1:Nat):Int)) ?_) ?_
 ·simp only[ay,d2,dV,dC,aC,aN,ax,WD,YL,YG,Xa,WE,Xx,WU,Y5,Y6,Nat.reduceSub,Xm,Xn,Nat.reduceAdd,if_true,jD,M0,k2]
 refine ao (aO (d:= .str al) ?_) ?_
 ·simp only[ay,d2,dV,dC,dA,aC,aN,ax,WD,YL,YG,Xa,WE,Xx,WU,Y5,Y6,Nat.reduceSub,Xm,Xn,Nat.reduceAdd,if_true,jD,P1,bS,cF,Nat.reduceLeDiff,e4]
 refine ao (aO rfl) ?_;refine ao (GO (nR (by omega)) f1) ?_;exact bc rfl
def zP(ns:List Int)(hl:ns.length<=63)(at' mo:Nat)(m0:0<mo)(m5:mo<=5):∃bd W,Good bd W/\(∀r∈bd,T6 r)/\bd.length<=mo/\W<=mo/\dO [.scr ns, .int (at':Int), .int (mo:Int)]=ae (brd bd):=
 let ⟨bd,W,h1,h3,h2⟩:=zQ ns hl at' mo m0 m5
 ⟨bd,W,h1,λr hr c hc=>(h3 r hr c hc).1,h2⟩
def zR(ns:List Int)(hl:ns.length<=63)(at' mo:Nat)(m0:0<mo)(m5:mo<=5):∃bd W,Good bd W/\bd.length<=mo/\W<=mo/\dO [.scr ns, .int (at':Int), .int (mo:Int)]=ae (brd bd):=
 let ⟨bd,W,h1,_,h2⟩:=zP ns hl at' mo m0 m5
 ⟨bd,W,h1,h2⟩
def Plain:D->Prop
 | .non | .bl _ | .int _ | .str _ | .tup _ | .lst _=>True
 |_=>False
def isStr:D->Bool
 | .str _=>true
 |_=>false
def isTup:D->Bool
 | .tup _=>true
 |_=>false
def g7{d:D}(h:Plain d):lz [d, .raw (.ty "str")]=ae (.bl (isStr d)):=by
 cases d<;>first | rfl | exact h.elim
def BF{d:D}(h:Plain d):lz [d, .raw (.ty "tuple")]=ae (.bl (isTup d)):=by
 cases d<;>first | rfl | exact h.elim
def vF:D->Bool
 | .str x=>(x.length==1)&&Lo x
 |_=>false
def gD{i:Nat}{d:D}(h:ρ[i]? =some (fz d)):dV i ρ=ae d:=by
 unfold dV;rw[h]
def eq_int(i j:Int):lU (.int i) (.int j)=ae (.bl (i==j)):=rfl
def ne_int(i j:Int):qi (.int i) (.int j)=ae (.bl (!(i==j))):=rfl
def len_str(x:Str):bx [.str x]=ae (.int (x.length:Int)):=rfl
def in_str(x:Str):ET false (.str x) (.str "abcdef")=ae (.bl (Lo x)):=rfl
def mr(a b:Nat):((a:Int)==(b:Int))=(a==b):=by
 by_cases h:a=b
 ·subst h;simp
 ·have h2:¬(a:Int)=(b:Int):=by omega
  rw[adO.mpr h,adO.mpr h2]
def Ir(h:Plain d){i:Nat}{ρ:cQ}(hρ:ρ[i]? =some (fz d)):
 fU (dA lz (aC (dV i) (aC (dC (.raw (.ty "str"))) aN))) (fU (d2 lU (dA bx (aC (dV i) aN)) (dC (.int 1))) (d2 (ET false) (dV i) (dC (.str "abcdef")))) ρ=ae (.bl (vF d)):=by
 have hv:=gD hρ;have e1:=mr;cases d with
 |str x=>
  have k:((x.length:Int)==1)=(x.length==1):=mr x.length 1;simp only[fU,dA,aC,aN,dC,d2,hv,ax,g7 h,isStr,Ed,if_true,len_str,eq_int,k,in_str,vF];cases x.length==1<;>rfl
 |non=>simp only[fU,dA,aC,aN,dC,d2,hv,ax,g7 h,isStr,Ed,if_false,W9,vF]
 |bl b=>simp only[fU,dA,aC,aN,dC,d2,hv,ax,g7 h,isStr,Ed,if_false,W9,vF]
 |int b=>simp only[fU,dA,aC,aN,dC,d2,hv,ax,g7 h,isStr,Ed,if_false,W9,vF]
 |tup b=>simp only[fU,dA,aC,aN,dC,d2,hv,ax,g7 h,isStr,Ed,if_false,W9,vF]
 |lst b=>simp only[fU,dA,aC,aN,dC,d2,hv,ax,g7 h,isStr,Ed,if_false,W9,vF]
 |raw _=>exact h.elim
 |exc _=>exact h.elim
 |scr _=>exact h.elim
 |dct _ _=>exact h.elim
 |dci _ _=>exact h.elim
def sE{d:D}(h:Plain d):dN [d]=ae (.bl (vF d)):=bb (bc (Ir h rfl))
def kl(x:Str):Bool:=x.cps.toList.all λc=>Lo ⟨#[c]⟩
def pE:D->Bool
 | .str x=>(decide (1<=x.length)&&decide (x.length<=8))&&kl x
 |_=>false
def tI(l:List Bool):bools (l.map D.bl)=some l:=by
 induction l with
 |nil=>rfl
 |cons b r ih=>show (bools (r.map D.bl)).map _=_;rw[ih];rfl
def all_map(l:List Bool):allM [.lst (l.map D.bl)]=ae (.bl (l.all id)):=by
 show (match bools (l.map D.bl) with | some bs=>ae (D.bl (bs.all id)) | none=>ag)=_;rw[tI]
def EC{ρ:cQ}{n:Nat}(h:δ ρ=ae (.int (n:Int))):
 cW (zF (λi j=>decide (i<=j)) (λi j=>decide (i<=j)) (dC (.int 1)) δ (dC (.int 8))) ρ=ae (decide (1<=n)&&decide (n<=8)):=by
 have k1:decide ((1:Int)<=(n:Int))=decide (1<=n):=by by_cases h:1<=n<;>simp[h]<;>omega
 have k2:decide ((n:Int)<=8)=decide (n<=8):=by by_cases h:n<=8<;>simp[h]<;>omega
 simp only[cW,zF,dC,h,ax,k1,k2,gI,Ed];cases decide (1<=n)<;>rfl
def Aj(h:Plain d):gE [d]=ae (.bl (pE d)):=by
 refine bb ?_;have hρ:([d].map (λd=>some (Sl.fz d))++WU (1 - [d].length) none)=[fz d]:=rfl;rw[hρ];have hv:dV 0 [fz d]=ae d:=rfl;have no:isStr d=false->zA [fz d]=ae (.rt (.bl false)):=λhs=>by
  refine kD (fK ?_ (bc rfl));simp only[pe,e9,du,dA,aC,aN,dC,hv,ax,g7 h,hs,G_,ab3,if_true]
 cases d with
 |str x=>
  have hi:du (dA lz (aC (dV 0) (aC (dC (.raw (.ty "str"))) aN))) [fz (.str x)]=ae true:=by
   simp only[du,dA,aC,aN,dC,hv,ax,g7 h,isStr,G_]
  have hl:dA bx (aC (dV 0) aN) [fz (.str x)]=ae (.int (x.length:Int)):=rfl;have hc:=EC hl;by_cases hr:(decide (1<=x.length)&&decide (x.length<=8))=true
  ·rw[hr] at hc;refine ao (eE ?_ rfl) (bc ?_)
   ·unfold pe e9;rw[hi,ax,ax,hc];rfl
   ·have hb:x.length<=8:=by simp only[WR,adH] at hr;exact hr.2
    have cm:a7 0 (λρ=>(dV 0) ρ>>=MK) bI (ay 1 dN (aC (dV 0) aN)) [fz (.str x)]=ae (.lst ((x.cps.toList.map λc=>Lo ⟨#[c]⟩).map D.bl)):=by
     refine bq rfl ?_ ?_
     ·have:=iC (f:=iB 0 bI (ay 1 dN (aC (dV 0) aN)) [fz (.str x)]) (g:=λd=>D.bl (vF d)) (signs x) λd hd=>by
       rw[fP];obtain⟨c,_,rfl⟩:=WM.mp hd;show (dN [.str ⟨#[c]⟩]>>=λy=>ae (some y))=_;rw[sE (d:= .str ⟨#[c]⟩) trivial];rfl
      rw[this];unfold signs;rw[Xo,Xo];congr 1
     ·rw[Ww,Ww,W5,cF];exact Xf hb (by decide)
    rw[bo (aH cm rfl),all_map];show ae (D.bl ((x.cps.toList.map λc=>Lo ⟨#[c]⟩).all id))=ae (D.bl ((decide (1<=x.length)&&decide (x.length<=8))&&kl x));rw[hr];unfold kl;rw[Zu];rfl
  ·have hr:(decide (1<=x.length)&&decide (x.length<=8))=false:=by simpa using hr
   rw[hr] at hc;have:pE (.str x)=false:=by
    show ((decide (1<=x.length)&&decide (x.length<=8))&&kl x)=false;rw[hr];rfl
   rw[this];refine kD (fK ?_ (bc rfl));unfold pe e9;rw[hi,ax,ax,hc];rfl
 |non=>exact no rfl
 |bl b=>exact no rfl
 |int b=>exact no rfl
 |tup b=>exact no rfl
 |lst b=>exact no rfl
 |raw _=>exact h.elim
 |exc _=>exact h.elim
 |scr _=>exact h.elim
 |dct _ _=>exact h.elim
 |dci _ _=>exact h.elim
def lB:D->Nat
 | .str x=>x.length
 |_=>0
def m8:D->Bool
 | .tup ds=>(decide (1<=ds.length)&&decide (ds.length<=8))&&(ds.all pE&&ds.all λd=>lB d==lB (ds.headD .non))
 |_=>false
def Plain2:D->Prop
 | .tup ds=>∀d∈ds,Plain d
 |d=>Plain d
def Plain2.plain{d:D}(h:Plain2 d):Plain d:=by
 cases d<;>first | exact h | exact trivial
def TH{r:List D}(h:ds=d::r):ba (.tup ds) (.int 0)=ae d:=by
 subst h;show (match L2.atI (d::r) ((0:Nat):Int) with | some d=>ae d | none=>ag)=_;rw[iz (x:=d) rfl]
def Jw{d:D}(h:pE d=true):∃x,d= .str x:=by
 cases d<;>first | exact⟨_,rfl⟩ | cases h
def CS{d:D}(h:Plain d):pe (e9 (du (dA lz (aC (dV 0) (aC (dC (.raw (.ty "tuple"))) aN))))) (e9 (cW (zF (λi j=>decide (i<=j)) (λi j=>decide (i<=j)) (dC (.int 1)) (dA bx (aC (dV 0) aN)) (dC (.int 8))))) [fz d]=
 ae (match d with | .tup ds=>!(decide (1<=ds.length)&&decide (ds.length<=8)) | _=>true):=by
 have hv:dV 0 [fz d]=ae d:=rfl;have no:isTup d=false->pe (e9 (du (dA lz (aC (dV 0) (aC (dC (.raw (.ty "tuple"))) aN))))) (e9 (cW (zF (λi j=>decide (i<=j)) (λi j=>decide (i<=j)) (dC (.int 1)) (dA bx (aC (dV 0) aN)) (dC (.int 8))))) [fz d]=ae true:=λhs=>by
  simp only[pe,e9,du,dA,aC,aN,dC,hv,ax,BF h,hs,G_,ab3,if_true]
 cases d with
 |tup ds=>
  have hi:du (dA lz (aC (dV 0) (aC (dC (.raw (.ty "tuple"))) aN))) [fz (.tup ds)]=ae true:=by
   simp only[du,dA,aC,aN,dC,hv,ax,BF h,isTup,G_]
  have hl:dA bx (aC (dV 0) aN) [fz (.tup ds)]=ae (.int (ds.length:Int)):=rfl;unfold pe e9;rw[hi,ax,ax,EC hl];rfl
 |non=>exact no rfl
 |bl b=>exact no rfl
 |int b=>exact no rfl
 |str b=>exact no rfl
 |lst b=>exact no rfl
 |raw _=>exact h.elim
 |exc _=>exact h.elim
 |scr _=>exact h.elim
 |dct _ _=>exact h.elim
 |dci _ _=>exact h.elim
def all_rows(h:∀d∈ds,Plain d)(hl:ds.length<=8):dA allM (aC (a7 0 (pd (dV 0)) bI (ay 1 gE (aC (dV 0) aN))) aN) [fz (.tup ds)]=ae (.bl (ds.all pE)):=by
 have cm:a7 0 (pd (dV 0)) bI (ay 1 gE (aC (dV 0) aN)) [fz (.tup ds)]=ae (.lst ((ds.map pE).map D.bl)):=by
  refine bq (ds:=ds) rfl ?_ (by rw[Ww,Ww,cF];omega);rw[Xo];refine iC (g:=D.bl∘pE) ds λd hd=>?_;rw[fP];show (gE [d]>>=λy=>ae (some y))=_;rw[Aj (h d hd)];rfl
 rw[bo (aH cm rfl),all_map,Zu];rfl
def all_lens(hs:∀d∈ds,∃x,d= .str x)(h0:1<=ds.length)(hl:ds.length<=8):
 dA allM (aC (a7 0 (pd (dV 0)) bI (d2 lU (dA bx (aC (dV 0) aN)) (dA bx (aC (d2 ba (dV 1) (dC (.int 0))) aN)))) aN) [fz (.tup ds)]=ae (.bl (ds.all λd=>lB d==lB (ds.headD .non))):=by
 obtain⟨d0,r,e0⟩:∃d0 r,ds=d0::r:=by
  cases ds with
  |nil=>simp at h0
  |cons a r=>exact⟨a,r,rfl⟩
 have hh:ds.headD .non=d0:=by rw[e0];rfl
 obtain⟨x0,Tw⟩:=hs d0 (by rw[e0];exact WB ..);have cm:a7 0 (pd (dV 0)) bI (d2 lU (dA bx (aC (dV 0) aN)) (dA bx (aC (d2 ba (dV 1) (dC (.int 0))) aN))) [fz (.tup ds)]=ae (.lst ((ds.map λd=>lB d==lB (ds.headD .non)).map D.bl)):=by
  refine bq (ds:=ds) rfl ?_ (by rw[Ww,Ww,cF];omega);rw[Xo];refine iC (g:=D.bl∘λd=>lB d==lB (ds.headD .non)) ds λd hd=>?_;rw[fP];obtain⟨x,rfl⟩:=hs d hd;have k:((x.length:Int)==(x0.length:Int))=(x.length==x0.length):=mr _ _;have i0:ba (.tup ds) (.int 0)=ae (.str x0):=by rw[TH e0,Tw]
  have U6:ds.headD .non= .str x0:=by rw[hh,Tw]
  simp only[d2,dA,aC,aN,dC,dV,ax,Xm,Xn,len_str,i0,eq_int,k,abE,lB,U6]
 rw[bo (aH cm rfl),all_map,Zu];rfl
def lZ{d:D}(h:Plain2 d):iU [d]=ae (.bl (m8 d)):=by
 refine bb ?_;have hρ:([d].map (λd=>some (Sl.fz d))++WU (1 - [d].length) none)=[fz d]:=rfl;rw[hρ];have hf:=CS h.plain;have no:(∀ds,d≠ .tup ds)->sk [fz d]=ae (.rt (.bl (m8 d))):=λhn=>by
  cases d<;>first | exact adK rfl (hn _) | exact kD (fK hf (bc rfl))
 cases d with
 |tup ds=>
  have hf:_=ae (!(decide (1<=ds.length)&&decide (ds.length<=8))):=hf;by_cases hr:(decide (1<=ds.length)&&decide (ds.length<=8))=true
  ·rw[hr] at hf;have hb:=hr;simp only[WR,adH] at hb;have e:m8 (.tup ds)=(ds.all pE&&ds.all λd=>lB d==lB (ds.headD .non)):=by
    show ((decide (1<=ds.length)&&decide (ds.length<=8))&&_)=_;rw[hr,aa_]
   rw[e];have a1:=all_rows h hb.2;refine ao (eE hf rfl) ?_;cases hc:ds.all pE with
   |false=>
    rw[hc] at a1;refine kD (fK ?_ (bc rfl));unfold e9 du;rw[a1];rfl
   |true=>
    rw[hc] at a1;refine ao (eE ?_ rfl) (bc ?_)
    ·unfold e9 du;rw[a1];rfl
    ·rw[aa_];exact all_lens (λd hd=>Jw (Xe.mp hc d hd)) hb.1 hb.2
  ·have hr:(decide (1<=ds.length)&&decide (ds.length<=8))=false:=by simpa using hr
   rw[hr] at hf;have e:m8 (.tup ds)=false:=by
    show ((decide (1<=ds.length)&&decide (ds.length<=8))&&_)=_;rw[hr];rfl
   rw[e];exact kD (fK hf (bc rfl))
 |non=>exact no λ_ z=>by cases z
 |bl b=>exact no λ_ z=>by cases z
 |int b=>exact no λ_ z=>by cases z
 |str b=>exact no λ_ z=>by cases z
 |lst b=>exact no λ_ z=>by cases z
 |raw _=>exact h.elim
 |exc _=>exact h.elim
 |scr _=>exact h.elim
 |dct _ _=>exact h.elim
 |dci _ _=>exact h.elim
structure Brd (ob:List Str) (V:Nat):Prop where
 r1:1<=ob.length
 r8:ob.length<=8
 w1:1<=V
 w8:V<=8
 rows:∀r∈ob,Row V r
def Good.brd(hg:Good bd W):Brd bd W:=⟨hg.r1,by have:=hg.r5;omega,hg.w1,by have:=hg.w5;omega,hg.rows⟩
def Brd.board{V:Nat}(h:Brd ob V):m8 (brd ob)=true:=by
 have Li:∀r∈ob,pE (.str r)=true:=λr hr=>by
  have q:=h.rows r hr;show ((decide (1<=r.length)&&decide (r.length<=8))&&kl r)=true;rw[q.len];have a:decide (1<=V)=true:=adJ h.w1;have b:decide (V<=8)=true:=adJ h.w8;rw[a,b];show kl r=true;exact Xe.mpr λc hc=>q.let' c hc
 have h0:lB ((ob.map D.str).headD .non)=V:=by
  have:=h.r1;have hr:=h.rows;cases ob with
  |nil=>simp at this
  |cons x l=>exact(hr x (WB ..)).len
 show ((decide (1<=(ob.map D.str).length)&&decide ((ob.map D.str).length<=8))&&((ob.map D.str).all pE&&(ob.map D.str).all λd=>lB d==lB ((ob.map D.str).headD .non)))=true;rw[h0,Ww,adJ h.r1,adJ h.r8];have a:(ob.map D.str).all pE=true:=Xe.mpr λd hd=>by
  obtain⟨r,hr,rfl⟩:=WM.mp hd;exact Li r hr
 have b:((ob.map D.str).all λd=>lB d==V)=true:=Xe.mpr λd hd=>by
  obtain⟨r,hr,rfl⟩:=WM.mp hd;show (r.length==V)=true;rw[(h.rows r hr).len];simp
 rw[a,b];rfl
def Cv:Plain2 (brd bd):=λd hd=>by
 obtain⟨r,_,rfl⟩:=WM.mp hd;trivial
def il(h:δ ρ=ae (.bl b)):du δ ρ=ae b:=by
 unfold du;rw[h];rfl
def fS(h:δ ρ=ae (.bl b)):cW δ ρ=ae b:=by
 unfold cW;rw[h];rfl
def ng(h:τ ρ=ae b):e9 τ ρ=ae (!b):=by
 unfold e9;rw[h];rfl
def xG(h1:a ρ=ae p)(h2:c ρ=ae q):pe a c ρ=ae (p||q):=by
 unfold pe;rw[h1,ax];cases p
 ·exact h2
 ·rfl
def ve(h1:a ρ=ae p)(h2:c ρ=ae q):lq a c ρ=ae (p&&q):=by
 unfold lq;rw[h1,ax];cases p
 ·rfl
 ·exact h2
def KI(h1:a ρ=ae false):lq a c ρ=ae false:=by
 unfold lq;rw[h1];rfl
def HA(h1:a ρ=ae (.bl p))(h2:c ρ=ae (.bl q)):fU a c ρ=ae (.bl (p&&q)):=by
 unfold fU;rw[h1,ax];cases p
 ·rfl
 ·exact h2
def KJ(h1:a ρ=ae (.bl p))(h2:c ρ=ae (.bl q)):HB a c ρ=ae (.bl (p||q)):=by
 unfold HB;rw[h1,ax];cases p
 ·exact h2
 ·rfl
def Brd.nb{V:Nat}(h:Brd ob V):bK [brd ob]=ae .non:=by
 refine B_ (eE (ng (il (b:=true) ?_)) rfl);refine(aq (ds:=[brd ob]) rfl rfl).trans ?_;rw[lZ Cv,h.board]
structure Ln (V:Nat) (r:Str):Prop where
 len:r.length=V
structure Wd (ob:List Str) (V:Nat):Prop where
 r1:1<=ob.length
 r8:ob.length<=8
 w1:1<=V
 w8:V<=8
 rows:∀r∈ob,Ln V r
def Brd.wd{V:Nat}(h:Brd ob V):Wd ob V:=⟨h.r1,h.r8,h.w1,h.w8,λr hr=>⟨(h.rows r hr).len⟩⟩
def Wd.len0{V:Nat}(h:Wd ob V)(hρ:ρ[i]? =some (fz (brd ob))):dA bx (aC (d2 ba (dV i) (dC (.int 0))) aN) ρ=ae (.int (V:Int)):=by
 have h1:=h.r1;have hr:=h.rows;obtain⟨x,l,e⟩:∃x l,ob=x::l:=by
  cases ob with
  |nil=>simp at h1
  |cons x l=>exact⟨x,l,rfl⟩
 have hx:x.length=V:=(hr x (by rw[e];exact WB ..)).len;have i0:ba (brd ob) (.int 0)=ae (.str x):=TH (show ob.map D.str=D.str x::l.map D.str by rw[e];rfl);have k:=aM (g:=ba) (gD hρ) (show dC (.int 0) ρ=ae (.int 0) from rfl);rw[i0] at k;rw[bo (aH k rfl)];show ae (D.int (x.length:Int))=_;rw[hx]
def Brd.len0{V:Nat}(h:Brd ob V)(hρ:ρ[i]? =some (fz (brd ob))):dA bx (aC (d2 ba (dV i) (dC (.int 0))) aN) ρ=ae (.int (V:Int)):=h.wd.len0 hρ
def Dp(hρ:ρ[i]? =some (fz (brd bd))):dA bx (aC (dV i) aN) ρ=ae (.int (bd.length:Int)):=by
 have:bx [brd bd]=ae (.int (bd.length:Int)):=by
  show ae (D.int ((bd.map D.str).length:Int))=_;rw[Ww]
 simp only[dA,aC,aN,gD hρ,ax,this]
def MW:D->Bool
 | .int _=>true
 |_=>false
def uR(h:Plain d):fc [d]=ae (.bl (MW d)):=by
 cases d<;>first | rfl | exact h.elim
def Ny(h:δ ρ=ae (.int i))(h2:ε ρ=ae (.int n)):
 zF (λi j=>decide (i<=j)) (λi j=>decide (i<j)) (dC (.int 0)) δ ε ρ=ae (.bl (decide (0<=i)&&decide (i<n))):=by
 simp only[zF,dC,h,h2,ax,gI];cases decide (0<=i)<;>rfl
def OF:ba (.tup [d,e]) (.int 0)=ae d/\ba (.tup [d,e]) (.int 1)=ae e:=⟨rfl,rfl⟩
abbrev Cell:=Nat×Nat
def cD(c:Cell):D:= .tup [.int (c.1:Int), .int (c.2:Int)]
def On(R W:Nat)(c:Cell):Prop:=c.1<R/\c.2<W
instance {R W:Nat}{c:Cell}:Decidable (On R W c):=by unfold On;infer_instance
def Ways(w:Nat):Prop:=w=4\/w=8
def Ways.nw(h:Ways w):bY [iW w]=ae .non:=by
 rcases h with rfl | rfl<;>rfl
def ch(x:Str)(j:Nat):Nat:=x.cps.toList.getD j 0
def at2(bd:List Str)(i j:Nat):Nat:=ch (bd.getD i ⟨#[]⟩) j
abbrev lt(bd:List Str)(c:Cell):Nat:=at2 bd c.1 c.2
def sg(n:Nat):D:= .str ⟨#[n]⟩
def Ce{c:Nat}(h:c<x.length):ni (.str x) (.int (c:Int))=ae (sg (ch x c)):=by
 have h':c<x.cps.toList.length:=by rw[W5];exact h
 show (match L2.atI x.cps.toList (c:Int) with | some c=>ae (D.str ⟨#[c]⟩) | none=>ag)=_;rw[iz (Wy h')];unfold sg ch;rw[WK,Wy h'];rfl
def getD_mem{bd:List Str}(h:i<bd.length):bd.getD i ⟨#[]⟩∈bd:=by
 rw[WK,Wy h];exact Zp h
def Ft{i:Nat}(h:i<bd.length):ba (brd bd) (.int (i:Int))=ae (.str (bd.getD i ⟨#[]⟩)):=by
 show (match L2.atI (bd.map D.str) (i:Int) with | some d=>ae d | none=>ag)=_;rw[iz ?_];rw[WT,Wy h,WK,Wy h];rfl
def kQ(hg:Brd bd W)(h:On bd.length W c):eC [brd bd,cD c]=ae (sg (lt bd c)):=by
 refine bb (bc ?_);refine(aM ((aM rfl rfl).trans (Ft h.1)) rfl).trans ?_;exact Ce (by rw[(hg.rows _ (getD_mem h.1)).len];exact h.2)
def JY(a b:Nat):lU (sg a) (sg b)=ae (.bl (decide (a=b))):=by
 show ae (D.bl (decide ((⟨#[a]⟩:Str)=⟨#[b]⟩)))=_;congr 2;by_cases h:a=b
 ·subst h;simp
 ·have:¬((⟨#[a]⟩:Str)=⟨#[b]⟩):=λz=>by
   injection z with z
   exact h (by simpa using z)
  rw[adI h,adI this]
def gV(a b:Nat):Nat:=max a b - min a b
def gx(w:Nat)(a b:Cell):Bool:=if w=4 then decide (gV a.1 b.1+gV a.2 b.2=1) else decide (max (gV a.1 b.1) (gV a.2 b.2)=1)
def Bc(a b:Nat):En [.int ((a:Int) - (b:Int))]=ae (.int (gV a b:Int)):=by
 show ae (D.int _)=_;congr 2;unfold gV;omega
def uT(hw:Ways w)(a b:Cell):er [cD a,cD b,iW w]=ae (.bl (gx w a b)):=by
 refine bb ?_;refine ao ((aO (Bc a.1 b.1)).trans rfl) ?_;refine ao ((aO (Bc a.2 b.2)).trans rfl) ?_;rcases hw with rfl | rfl
 ·refine kD (fK (fS rfl) (bc ?_));show ae (D.bl (((gV a.1 b.1:Int)+(gV a.2 b.2:Int))==1))=_;unfold gx;rw[adF rfl];congr 2;have:((gV a.1 b.1:Int)+(gV a.2 b.2:Int))=((gV a.1 b.1+gV a.2 b.2:Nat):Int):=by omega
  rw[this];have e:=mr (gV a.1 b.1+gV a.2 b.2) 1;exact e.trans rfl
 ·refine ao (eE (fS rfl) rfl) (bc ?_);show ae (D.bl ((if (gV a.1 b.1:Int)<(gV a.2 b.2:Int) then(gV a.2 b.2:Int) else(gV a.1 b.1:Int))==1))=_;have hn:gx 8 a b=decide (max (gV a.1 b.1) (gV a.2 b.2)=1):=rfl;rw[hn];congr 2;have:(if (gV a.1 b.1:Int)<(gV a.2 b.2:Int) then(gV a.2 b.2:Int) else(gV a.1 b.1:Int))=((max (gV a.1 b.1) (gV a.2 b.2):Nat):Int):=by split<;>omega
  rw[this];have e:=mr (max (gV a.1 b.1) (gV a.2 b.2)) 1;exact e.trans rfl
def qY(w:Nat)(a b:Cell):gx w a b=gx w b a:=by
 have e:∀x y:Nat,gV x y=gV y x:=λx y=>by unfold gV;omega
 unfold gx;rw[e a.1,e a.2]
def LS(hw:Ways w):gx w a a=false:=by
 unfold gx gV;rcases hw with rfl | rfl<;>simp
def cj(h1:put d ρ=some ρ1)(h2:body ρ1=ae (.nx ρ2)):forL put body (d::ds) ρ=forL put body ds ρ2:=by
 show (match put d ρ with | none=>ag | some ρ1=>body ρ1>>=λo=>match o with | .nx ρ2=>forL put body ds ρ2 | .rt v=>ae (.rt v))=_;rw[h1];show (body ρ1>>=λo=>match o with | .nx ρ2=>forL put body ds ρ2 | .rt v=>ae (.rt v))=_;rw[h2];rfl
section
variable{α σ:Type}{put:D->cQ->Option cQ}{body:DS}
def gq(enc:α->D)(mk:σ->cQ)(step:σ->α->σ)(I:σ->Prop):∀(xs:List α) (s:σ),I s->(∀s,I s->∀x∈xs,I (step s x)/\∃ρ1,put (enc x) (mk s)=some ρ1/\body ρ1=ae (.nx (mk (step s x))))->
 I (xs.foldl step s)/\forL put body (xs.map enc) (mk s)=ae (.nx (mk (xs.foldl step s)))
 |[],s,h,_=>⟨h,rfl⟩
 |x::xs,s,h,st=>by
  obtain⟨h2,ρ1,e1,e2⟩:=st s h x (WB ..);obtain⟨h3,e3⟩:=gq enc mk step I xs (step s x) h2 λs hs y hy=>st s hs y (Wz _ hy);exact⟨h3,(cj e1 e2).trans e3⟩
def d7(enc:α->D)(mk:List D->cQ)(g:α->List D):∀(xs:List α) (u8:List D),(u8++xs.flatMap g).length<=B->(∀x∈xs,∀u8,(u8++g x).length<=B->∃ρ1,put (enc x) (mk u8)=some ρ1/\body ρ1=ae (.nx (mk (u8++g x))))->
 forL put body (xs.map enc) (mk u8)=ae (.nx (mk (u8++xs.flatMap g)))
 |[],u8,_,_=>by simp;rfl
 |x::xs,u8,hB,st=>by
  have SV:((u8++g x)++xs.flatMap g).length<=B:=by simpa[Ys,ZJ] using hB
  obtain⟨ρ1,e1,e2⟩:=st x (WB ..) u8 (Xf (by simp only[WL];omega) SV);have e3:=d7 enc mk g xs (u8++g x) SV λy hy=>st y (Wz _ hy);rw[WD,cj e1 e2,e3,Ys,ZJ]
end
def da(h:δi ρ=ae ds)(h2:forL put b ds ρ=m):cN put δi b ρ=m:=by
 unfold cN;rw[h];exact h2
def cG{τ:DS}(h:τ ρ=ae o):(λρ=>noex (τ ρ)) ρ=ae o:=by
 show noex (τ ρ)=_;rw[h];rfl
def zb(lo n:Nat):iP (lo:Int) n=(Xs lo n).map λ(k:Nat)=>D.int (k:Int):=by
 unfold iP;rw[acQ];have:∀(n a:Nat),(Xs a n).map (λ(i:Nat)=>D.int ((lo:Int)+(i:Int)))=(Xs (lo+a) n).map λ(k:Nat)=>D.int (k:Int):=by
  intro n;induction n with
  |zero=>intro a;rfl
  |succ n ih=>
   intro a;rw[ZS,ZS,WD,WD,ih (a+1)];rfl
 exact this n 0
def GI(h:δ ρ=ae (.int (n:Int)))(hn:n<=4096):(aC δ aN ρ>>=fJ)=ae ((W8 n).map λ(k:Nat)=>D.int (k:Int)):=by
 rw[aH h rfl,ax,nR hn,show iP 0 n=iP ((0:Nat):Int) n from rfl,zb,acQ]
def Pm(h:δ ρ=ae (.int (i:Int)))(h2:ε ρ=ae (.int (j:Int)))(hi:i<=4096)(hj:j<=4096):(aC δ (aC ε aN) ρ>>=uJ)=ae ((Xs i (j - i)).map λ(k:Nat)=>D.int (k:Int)):=by
 rw[aH h (aH h2 rfl),ax];show (if (-4096<=(i:Int)/\(i:Int)<=4096)/\(-4096<=(j:Int)/\(j:Int)<=4096) then ae (iP (i:Int) ((j:Int) - (i:Int)).toNat) else ag)=_;rw[adF ⟨⟨by omega,by omega⟩,by omega,by omega⟩,show ((j:Int) - (i:Int)).toNat=j - i by omega,zb]
def dQ(W r:Nat):List Cell:=(W8 W).map λk=>(r,k)
def aw(R W:Nat):List Cell:=(W8 R).flatMap (dQ W)
def az:c∈aw R W↔On R W c:=by
 unfold aw dQ On;simp only[Zo,Yq,WM];constructor
 ·rintro⟨r,hr,k,hk,rfl⟩;exact⟨hr,hk⟩
 ·rintro⟨h1,h2⟩;exact⟨c.1,h1,c.2,h2,rfl⟩
def aX(R W:Nat):(aw R W).length=R*W:=by
 unfold aw;have:∀l:List Nat,(l.flatMap (dQ W)).length=l.length*W:=by
  intro l;induction l with
  |nil=>simp
  |cons a l ih=>rw[Ys,WL,ih,WE,Nat.succ_mul];simp[dQ];omega
 rw[this,aah]
def m_(hg:Brd bd W)(r:Nat):cR [brd bd, .int (r:Int)]=ae (.lst ((dQ W r).map cD)):=by
 have:=hg.w8;refine bb (bc (bq (GI (hg.len0 rfl) (by omega)) ?_ (by simp[dQ,cF];omega)));rw[show (dQ W r).map cD=((W8 W).map λ(k:Nat)=>D.int (k:Int)).map (λe=> .tup [.int (r:Int),e]) by simp[dQ,Xo];intro a _;rfl];exact iC _ λe _=>rfl
def kN(hg:Brd bd W):cY [brd bd]=ae (.lst ((aw bd.length W).map cD)):=by
 have h8:=hg.r8;have w8:=hg.w8;have hm:bd.length*W<=64:=YQ h8 w8;have CY:(W8 bd.length).flatMap (λr=>(dQ W r).map cD)=(aw bd.length W).map cD:=by
  unfold aw;rw[ZT]
 have e:=d7 (put:=putN 2) (body:=b9 [2] (GN 1 (ay 2 cR (aC (dV 0) (aC (dV 2) aN))))) (λ(k:Nat)=>D.int (k:Int)) (λu8=>[fz (brd bd),some (.ow (.lst u8)),none]) (λr=>(dQ W r).map cD) (W8 bd.length) []
  (by rw[Xa,CY,Ww,aX];exact hm) λr hr u8 hB=>by
   refine⟨[fz (brd bd),some (.ow (.lst u8)),fz (.int (r:Int))],rfl,?_⟩;refine(aT (ρ':=[fz (brd bd),some (.ow (.lst (u8++(dQ W r).map cD))),fz (.int (r:Int))]) ?_).trans rfl;show (cR [brd bd, .int (r:Int)]>>=λd=>lstM d>>=λes=>if u8.length+es.length<=lim then ae (Out.nx (List.set [fz (brd bd),some (.ow (.lst u8)),fz (.int (r:Int))] 1 (some (.ow (.lst (u8++es)))))) else ag)=_;rw[m_ hg,ax];show (if u8.length+((dQ W r).map cD).length<=lim then ae (Out.nx [fz (brd bd),some (.ow (.lst (u8++(dQ W r).map cD))),fz (.int (r:Int))]) else ag)=_;rw[adF (by rw[WL] at hB;rw[cF];omega)]
 rw[Xa,CY] at e;refine bb (ao rfl (ao (cG (da (GI (Dp rfl) (by omega)) e)) ?_));rfl
def eS(R W w:Nat)(c:Cell):List Cell:=
 (Xs (c.1 - 1) (min (c.1+2) R - (c.1 - 1))).flatMap λr=>((Xs (c.2 - 1) (min (c.2+2) W - (c.2 - 1))).map λk=>(r,k)).filter (gx w c)
def gw(hw:Ways w):x∈eS R W w c↔On R W x/\gx w c x=true:=by
 unfold eS On;simp only[Zo,W7,WM,adA];constructor
 ·rintro⟨r,⟨h1,h2⟩,⟨k,⟨h3,h4⟩,rfl⟩,h5⟩;refine⟨⟨?_,?_⟩,h5⟩
  ·show r<R;omega
  ·show k<W;omega
 ·rintro⟨⟨h1,h2⟩,h5⟩;have h6:gV c.1 x.1<=1/\gV c.2 x.2<=1:=by
   unfold gx at h5;rcases hw with rfl | rfl
   ·rw[adF rfl] at h5;have:=adL h5;omega
   ·rw[adG (by decide)] at h5;have:=adL h5;omega
  unfold gV at h6;exact⟨x.1,⟨by omega,by omega⟩,⟨x.2,⟨by omega,by omega⟩,rfl⟩,h5⟩
def uc(R W w:Nat)(c:Cell):(eS R W w c).length<=9:=by
 unfold eS;rw[ac0];have h:∀r,(((Xs (c.2 - 1) (min (c.2+2) W - (c.2 - 1))).map λk=>(r,k)).filter (gx w c)).length<=3:=λr=>by
  refine Xf (XO ..) ?_;rw[Ww,aa8];omega
 have:∀(l:List Nat),(l.map λr=>(((Xs (c.2 - 1) (min (c.2+2) W - (c.2 - 1))).map λk=>(r,k)).filter (gx w c)).length).sum<=3*l.length:=by
  intro l;induction l with
  |nil=>simp
  |cons a l ih=>rw[WD,X1,WE];have:=h a;omega
 refine Xf (this _) ?_;rw[aa8];omega
abbrev nc(b c w:D)(u8:List D)(x4 x5:Option Sl):cQ:=[fz b,fz c,fz w,some (.ow (.lst u8)),x4,x5]
def gO(hg:Brd bd W)(hw:Ways w)(hc:On bd.length W c):a6 [brd bd,cD c,iW w]=ae (.lst ((eS bd.length W w c).map cD)):=by
 have h8:=hg.r8;have w8:=hg.w8;obtain⟨c1,c2⟩:=hc;have N9:∀n:Nat,vH [.int ((n:Int) - 1), .int 0]=ae (.int ((n - 1:Nat):Int)):=λn=>by
  show ae (D.int (if (0:Int)>(n:Int) - 1 then 0 else(n:Int) - 1))=_;congr 2;split<;>omega
 have N_:∀n m:Nat,yt [.int ((n:Int)+2), .int (m:Int)]=ae (.int ((min (n+2) m:Nat):Int)):=λn m=>by
  show ae (D.int (if (m:Int)<(n:Int)+2 then(m:Int) else(n:Int)+2))=_;congr 2;split<;>omega
 have inner:∀(r:Nat) (u8:List D),u8.length<=16->forL (putN 5) (b9 [5] (jy (du (ay 3 er (aC (dV 1) (aC (dA aS (aC (dV 4) (aC (dV 5) aN))) (aC (dV 2) aN))))) (pG 3 (dA aS (aC (dV 4) (aC (dV 5) aN)))) eB))
  ((Xs (c.2 - 1) (min (c.2+2) W - (c.2 - 1))).map λ(k:Nat)=>D.int (k:Int)) (nc (brd bd) (cD c) (iW w) u8 (fz (.int (r:Int))) none)=
  ae (.nx (nc (brd bd) (cD c) (iW w) (u8++(Xs (c.2 - 1) (min (c.2+2) W - (c.2 - 1))).flatMap λk=>if gx w c (r,k) then [cD (r,k)] else []) (fz (.int (r:Int))) none)):=λr u8 kK=>by
  refine d7 (λ(k:Nat)=>D.int (k:Int)) (λu8=>nc (brd bd) (cD c) (iW w) u8 (fz (.int (r:Int))) none) (λk=>if gx w c (r,k) then [cD (r,k)] else []) (B:=64) _ u8 ?_ λk hk u8 hB=>?_
  ·rw[WL,ac0];have:∀l:List Nat,(l.map λk=>(if gx w c (r,k) then [cD (r,k)] else []).length).sum<=l.length:=by
    intro l;induction l with
    |nil=>simp
    |cons a l ih=>rw[WD,X1,WE];split<;>simp<;>omega
   have h2:=this (Xs (c.2 - 1) (min (c.2+2) W - (c.2 - 1)));rw[aa8] at h2;omega
  ·refine⟨nc (brd bd) (cD c) (iW w) u8 (fz (.int (r:Int))) (fz (.int (k:Int))),rfl,?_⟩;have ht:du (ay 3 er (aC (dV 1) (aC (dA aS (aC (dV 4) (aC (dV 5) aN))) (aC (dV 2) aN)))) (nc (brd bd) (cD c) (iW w) u8 (fz (.int (r:Int))) (fz (.int (k:Int))))=ae (gx w c (r,k)):=
    il ((aq rfl rfl).trans (uT hw c (r,k)))
   cases hn:gx w c (r,k) with
   |true=>
    rw[hn] at ht;rw[hn,adF rfl,WL] at hB;refine(aT (ρ':=nc (brd bd) (cD c) (iW w) (u8++[cD (r,k)]) (fz (.int (r:Int))) (fz (.int (k:Int)))) (fK ht ?_)).trans rfl;show (if u8.length<lim then ae (Out.nx (nc (brd bd) (cD c) (iW w) (u8++[cD (r,k)]) (fz (.int (r:Int))) (fz (.int (k:Int))))) else ag)=_;rw[adF (by rw[cF];simp at hB;omega)]
   |false=>
    rw[hn] at ht;refine(aT (eE ht rfl)).trans ?_;simp;rfl
 have flt:∀r,((Xs (c.2 - 1) (min (c.2+2) W - (c.2 - 1))).flatMap λk=>if gx w c (r,k) then [cD (r,k)] else [])=(((Xs (c.2 - 1) (min (c.2+2) W - (c.2 - 1))).map λk=>(r,k)).filter (gx w c)).map cD:=λr=>by
  generalize Xs (c.2 - 1) (min (c.2+2) W - (c.2 - 1))=l;induction l with
  |nil=>rfl
  |cons a l ih=>
   rw[Ys,ih,WD,XR];cases gx w c (r,a)<;>rfl
 have tot:(Xs (c.1 - 1) (min (c.1+2) bd.length - (c.1 - 1))).flatMap (λr=>(((Xs (c.2 - 1) (min (c.2+2) W - (c.2 - 1))).map λk=>(r,k)).filter (gx w c)).map cD)=(eS bd.length W w c).map cD:=by
  unfold eS;rw[ZT]
 have outer:=d7 (put:=putN 4) (body:=b9 [4,5] (cN (putN 5) (λρ=>(aC (dA vH (aC (d2 gJ (d2 ba (dV 1) (dC (.int 1))) (dC (.int 1))) (aC (dC (.int 0)) aN))) (aC (dA yt (aC (d2 cV (d2 ba (dV 1) (dC (.int 1))) (dC (.int 2))) (aC (dA bx (aC (d2 ba (dV 0) (dC (.int 0))) aN)) aN))) aN)) ρ>>=uJ) (b9 [5] (jy (du (ay 3 er (aC (dV 1) (aC (dA aS (aC (dV 4) (aC (dV 5) aN))) (aC (dV 2) aN))))) (pG 3 (dA aS (aC (dV 4) (aC (dV 5) aN)))) eB))))
  (λ(k:Nat)=>D.int (k:Int)) (λu8=>nc (brd bd) (cD c) (iW w) u8 none none) (λr=>(((Xs (c.2 - 1) (min (c.2+2) W - (c.2 - 1))).map λk=>(r,k)).filter (gx w c)).map cD) (Xs (c.1 - 1) (min (c.1+2) bd.length - (c.1 - 1))) []
  (by rw[Xa,tot,Ww];have:=uc bd.length W w c;omega) λr hr u8 hB=>by
   refine⟨nc (brd bd) (cD c) (iW w) u8 (fz (.int (r:Int))) none,rfl,?_⟩;have e:=inner r u8 (by rw[WL] at hB;omega);rw[flt r] at e;refine(aT (da (Pm ?_ ?_ (by omega) (by omega)) e)).trans rfl
   ·exact(bo rfl).trans (N9 c.2)
   ·refine(bo ?_).trans (N_ c.2 W);exact aH (show d2 cV (d2 ba (dV 1) (dC (.int 1))) (dC (.int 2)) (nc (brd bd) (cD c) (iW w) u8 (fz (.int (r:Int))) none)=ae (.int ((c.2:Int)+2)) from rfl) (aH (hg.len0 rfl) rfl)
 rw[Xa,tot] at outer;refine bb (ao rfl (ao (cG (da (Pm ?_ ?_ (by omega) (by omega)) outer)) ?_))
 ·exact(bo rfl).trans (N9 c.1)
 ·refine(bo ?_).trans (N_ c.1 bd.length);exact aH (show d2 cV (d2 ba (dV 1) (dC (.int 0))) (dC (.int 2)) (nc (brd bd) (cD c) (iW w) [] none none)=ae (.int ((c.1:Int)+2)) from rfl) (aH (Dp rfl) rfl)
 ·rfl
def bL(bd:List Str)(W w:Nat)(c:Cell):List Cell:=(eS bd.length W w c).filter λx=>decide (lt bd x=lt bd c)
def gu(hw:Ways w):x∈bL bd W w c↔On bd.length W x/\gx w c x=true/\lt bd x=lt bd c:=by
 unfold bL;rw[W7,gw hw,adH,and_assoc]
def Dr(bd:List Str)(W w:Nat)(c:Cell):(bL bd W w c).length<=9:=Xf (XO ..) (uc ..)
def j9(enc:α->D)(p:α->Bool):∀(xs:List α),(∀x∈xs,f (enc x)=ae (if p x then some (enc x) else none))->d6 f (xs.map enc)=ae ((xs.filter p).map enc)
 |[],_=>rfl
 |x::xs,h=>by
  rw[WD,df,h x (WB ..),ax,j9 enc p xs λy hy=>h y (Wz _ hy),XR];cases p x<;>rfl
def qK(hg:Brd bd W)(hw:Ways w)(hc:On bd.length W c):dg [brd bd,cD c,iW w]=ae (.lst ((bL bd W w c).map cD)):=by
 refine bb (ao (ρ':=[fz (brd bd),fz (cD c),fz (iW w),fz (sg (lt bd c))]) ((aO ((aq rfl rfl).trans (kQ hg hc))).trans rfl) (bc ?_));refine bq ?_ (j9 cD _ _ λx hx=>?_) (by rw[Ww,cF];exact Xf (Dr bd W w c) (by decide))
 ·show (ay 3 a6 _ _>>=lstM)=_;have e:ay 3 a6 (aC (dV 0) (aC (dV 1) (aC (dV 2) aN))) [fz (brd bd),fz (cD c),fz (iW w),fz (sg (lt bd c))]=ae (.lst ((eS bd.length W w c).map cD)):=gO hg hw hc;rw[e];rfl
 ·have H8:=(gw hw).mp hx;rw[z0];have e:cW (d2 lU (ay 2 eC (aC (dV 1) (aC (dV 0) aN))) (dV 4)) (fz (cD x)::[fz (brd bd),fz (cD c),fz (iW w),fz (sg (lt bd c))])=ae (decide (lt bd x=lt bd c)):=by
   refine fS ?_;exact(aM ((aq rfl rfl).trans (kQ hg H8.1)) rfl).trans (JY _ _)
  rw[e,ax];cases decide (lt bd x=lt bd c)<;>rfl
end K1
namespace K1
section
variable{α:Type}[DecidableEq α]
structure Bk (α:Type) where
 ks:List α
 ps:List (Option α)
 fu:List α
def fF(c:α)(s:Bk α)(x:α):Bk α:=if x∈s.ks then s else⟨s.ks++[x],s.ps++[some c],s.fu++[x]⟩
variable(nb:α->List α)
def n0(s:Bk α)(c:α):Bk α:=(nb c).foldl (fF c) s
def dF(s:Bk α)(W1:List α):Bk α:=W1.foldl (n0 nb) s
def Rb(a:α):Nat->α->Prop
 |0,x=>x=a
 |k+1,x=>Rb a k x\/∃y,Rb a k y/\x∈nb y
variable{nb}{a:α}
def Rb.mono(h:i<=j)(r:Rb nb a i x):Rb nb a j x:=by
 induction h with
 |refl=>exact r
 |step _ ih=>exact .inl ih
structure Grown (P:α->α->Prop) (s t:Bk α):Prop where
 ex:∃fs:List (α×α),t.ks=s.ks++fs.map (·.1)/\t.ps=s.ps++fs.map (λp=>some p.2)/\t.fu=s.fu++fs.map (·.1)/\(∀p∈fs,P p.2 p.1)
 nd:s.ks.Nodup->t.ks.Nodup
def Grown.refl(s:Bk α):Grown P s s:=⟨⟨[],by simp,by simp,by simp,λ_ h=>by cases h⟩,id⟩
def Grown.trans(h1:Grown P s t)(h2:Grown P t u):Grown P s u:=by
 obtain⟨fs,a1,a2,a3,a4⟩:=h1.ex;obtain⟨gs,b1,b2,b3,b4⟩:=h2.ex;refine⟨⟨fs++gs,by rw[b1,a1];simp,by rw[b2,a2];simp,by rw[b3,a3];simp,λp hp=>?_⟩,λh=>h2.nd (h1.nd h)⟩;rcases XI.mp hp with h | h
 ·exact a4 p h
 ·exact b4 p h
def xr(s:Bk α)(h:P c x):Grown P s (fF c s x):=by
 unfold fF;split
 ·exact Grown.refl s
 ·rename_i hx;refine⟨⟨[(x,c)],rfl,rfl,rfl,λp hp=>?_⟩,λhn=>?_⟩
  ·have:p=(x,c):=by simpa using hp
   subst this;exact h
  ·refine YU.mpr ⟨hn,by simp,λy hy z hz e=>?_⟩;have hz:z=x:=by simpa using hz
   rw[e,hz] at hy;exact hx hy
def Ct(s:Bk α):y∈(fF c s x).ks↔y∈s.ks\/y=x:=by
 unfold fF;split
 ·rename_i hx;exact⟨.inl,λh=>h.elim id λe=>by rw[e];exact hx⟩
 ·simp
def foldStep:∀(l:List α) (s:Bk α),(∀x∈l,P c x)->Grown P s (l.foldl (fF c) s)/\∀y,y∈(l.foldl (fF c) s).ks↔y∈s.ks\/y∈l
 |[],s,_=>⟨Grown.refl s,λy=>by simp⟩
 |x::l,s,h=>by
  obtain⟨h1,h2⟩:=foldStep l (fF c s x) λy hy=>h y (Wz _ hy);refine⟨(xr s (h x (WB ..))).trans h1,λy=>?_⟩;rw[Z3,h2 y,Ct];simp[or_assoc]
def xT:∀(l:List α) (s:Bk α),(∀c∈l,∀x∈nb c,P c x)->Grown P s (dF nb s l)/\∀y,y∈(dF nb s l).ks↔y∈s.ks\/∃c∈l,y∈nb c
 |[],s,_=>⟨Grown.refl s,λy=>by simp[dF]⟩
 |c::l,s,h=>by
  obtain⟨g1,m1⟩:=foldStep (nb c) s (h c (WB ..));obtain⟨g2,m2⟩:=xT l (n0 nb s c) λc' hc=>h c' (Wz _ hc);refine⟨g1.trans g2,λy=>?_⟩;show y∈(dF nb (n0 nb s c) l).ks↔_;rw[m2 y];show (y∈((nb c).foldl (fF c) s).ks\/_)↔_;rw[m1 y];simp[or_assoc]
structure Rng (nb:α->List α) (a:α) (k:Nat) (ks:List α) (ps:List (Option α)) (W1:List α):Prop where
 len:ks.length=ps.length
 nd:ks.Nodup
 mem:∀x,x∈ks↔Rb nb a k x
 rg:∀x,x∈W1↔Rb nb a k x/\∀j,Rb nb a j x->k<=j
 par:∀x p,(x,some p)∈ks.zip ps->x∈nb p/\p∈ks/\∀j,Rb nb a j x->∃i,j=i+1/\Rb nb a i p
 non:∀x,(x,none)∈ks.zip ps->x=a
 sz:k<=ks.length/\(W1≠[]->k+1<=ks.length)
def Rng.zero(nb:α->List α)(a:α):Rng nb a 0 [a] [none] [a] where
 len:=rfl
 nd:=by simp
 mem:=λx=>by simp[Rb]
 rg:=λx=>by simp[Rb]
 par:=λx p h=>by simp at h
 non:=λx h=>by simpa using h
 sz:=⟨by simp,λ_=>by simp⟩
def Rng.next(h:Rng nb a k ks ps W1)(hr:W1≠[]):Rng nb a (k+1) (dF nb ⟨ks,ps,[]⟩ W1).ks (dF nb ⟨ks,ps,[]⟩ W1).ps (dF nb ⟨ks,ps,[]⟩ W1).fu:=by
 obtain⟨g,m⟩:=xT (P:=λc x=>c∈W1/\x∈nb c) W1 ⟨ks,ps,[]⟩ λc hc x hx=>⟨hc,hx⟩
 obtain⟨fs,e1,e2,e3,e4⟩:=g.ex;have Fb:=g.nd h.nd;have hm:∀x,x∈(dF nb ⟨ks,ps,[]⟩ W1).ks↔Rb nb a (k+1) x:=λx=>by
  rw[m x];show (x∈ks\/_)↔(Rb nb a k x\/_);constructor
  ·rintro(q | ⟨c,hc,hx⟩)
   ·exact .inl ((h.mem x).mp q)
   ·exact .inr ⟨c,((h.rg c).mp hc).1,hx⟩
  ·rintro(q | ⟨y,hy,hx⟩)
   ·exact .inl ((h.mem x).mpr q)
   ·by_cases hk:∀j,Rb nb a j y->k<=j
    ·exact .inr ⟨y,(h.rg y).mpr ⟨hy,hk⟩,hx⟩
    ·refine .inl ((h.mem x).mpr ?_);obtain⟨j,hj⟩:=ab2.mp hk;obtain⟨Rf,U9⟩:=acw.mp hj;exact Rb.mono (i:=j+1) (by omega) (.inr ⟨y,Rf,hx⟩)
 have Ee:(dF nb ⟨ks,ps,[]⟩ W1).ks=ks++fs.map (·.1):=e1;have M0:(dF nb ⟨ks,ps,[]⟩ W1).ps=ps++fs.map (λp=>some p.2):=e2;have P1:(dF nb ⟨ks,ps,[]⟩ W1).fu=fs.map (·.1):=e3;have new:∀x,x∈fs.map (·.1)->¬Rb nb a k x:=λx hx hk=>by
  rw[Ee] at Fb;exact(YU.mp Fb).2.2 x ((h.mem x).mpr hk) x hx rfl
 have OI:∀x,¬Rb nb a k x->∀j,Rb nb a j x->k+1<=j:=λx hx j hj=>by
  by_cases U_:k+1<=j
  ·exact U_
  ·exact adK (Rb.mono (by omega) hj) hx
 have Oy:(dF nb ⟨ks,ps,[]⟩ W1).ks.zip (dF nb ⟨ks,ps,[]⟩ W1).ps=ks.zip ps++fs.map λp=>(p.1,some p.2):=by
  rw[Ee,M0,List.zip_append h.len];congr 1;rw[List.zip_map']
 refine⟨?_,Fb,hm,λx=>?_,λx p hp=>?_,λx hx=>?_,?_⟩
 ·rw[Ee,M0,WL,WL,Ww,Ww,h.len]
 ·rw[P1];constructor
  ·intro hx;exact⟨(hm x).mp (by rw[Ee];exact Xv _ hx),OI x (new x hx)⟩
  ·rintro⟨h1,h2⟩;have h3:=(hm x).mpr h1;rw[Ee] at h3;rcases XI.mp h3 with q | q
   ·have:=h2 k ((h.mem x).mp q);omega
   ·exact q
 ·rw[Oy] at hp;rcases XI.mp hp with q | q
  ·obtain⟨q1,q2,q3⟩:=h.par x p q;exact⟨q1,by rw[Ee];exact YT _ q2,q3⟩
  ·obtain⟨f,hf,e⟩:=WM.mp q;cases e;obtain⟨f1,f2⟩:=e4 f hf;have hc:=(h.rg f.2).mp f1;refine⟨f2,by rw[Ee];exact YT _ ((h.mem _).mpr hc.1),λj hj=>?_⟩;have:=OI f.1 (new f.1 (WM.mpr ⟨f,hf,rfl⟩)) j hj;exact⟨j - 1,by omega,Rb.mono (by omega) hc.1⟩
 ·rw[Oy] at hx;rcases XI.mp hx with q | q
  ·exact h.non x q
  ·obtain⟨f,hf,e⟩:=WM.mp q;cases e
 ·have hs:=h.sz.2 hr;rw[Ee,WL,Ww];refine⟨by omega,λg6=>?_⟩;have:fs≠[]:=λz=>g6 (by rw[P1,z];rfl);have:=List.length_pos_iff.mpr this;omega
def Rng.last(h:Rng nb a k ks ps []):∀x,x∈ks↔∃j,Rb nb a j x:=by
 have none:∀x,¬(Rb nb a k x/\∀j,Rb nb a j x->k<=j):=λx q=>by
  have:=(h.rg x).mpr q;cases this
 have hk:∀x,Rb nb a k x->∃i,i<k/\Rb nb a i x:=λx hx=>by
  by_cases q:∀j,Rb nb a j x->k<=j
  ·exact adK ⟨hx,q⟩ (none x)
  ·obtain⟨j,hj⟩:=ab2.mp q;obtain⟨Rf,U9⟩:=acw.mp hj;exact⟨j,by omega,Rf⟩
 have all:∀j x,Rb nb a j x->Rb nb a k x:=by
  intro j;induction j with
  |zero=>intro x hx;exact Rb.mono (Xq _) hx
  |succ j ih=>
   rintro x (q | ⟨y,hy,hx⟩)
   ·exact ih x q
   ·obtain⟨i,hi,hr⟩:=hk y (ih y hy);exact Rb.mono (i:=i+1) (by omega) (.inr ⟨y,hr,hx⟩)
 exact λx=>⟨λq=>⟨k,(h.mem x).mp q⟩,λ⟨j,hj⟩=>(h.mem x).mpr (all j x hj)⟩
def d8{l U:List α}(hn:l.Nodup)(h:∀x∈l,x∈U):l.length<=U.length:=by
 induction l generalizing U with
 |nil=>simp
 |cons a l ih=>
  rw[X9] at hn;have hl:∀x∈l,x∈U.erase a:=λx hx=>by
   have g6:x≠a:=λz=>hn.1 (by rw[<-z];exact hx);exact(acS g6).mpr (h x (Wz _ hx))
  have h1:=ih hn.2 hl;have h2:=aai (h a (WB ..));have h3:=ZH (h a (WB ..));rw[WE];omega
end
end K1
namespace K1
open PySem L2 L3
def keyOf(c:Cell):List Key:=[.inl (c.1:Int), .inl (c.2:Int)]
def iI(h:keyOf a=keyOf b):a=b:=by
 unfold keyOf at h;injection h with h1 h2
 injection h1 with h1
 injection h2 with h2 _
 injection h2 with h2
 exact ace (aaN h1) (aaN h2)
def iZ(c:Cell):eF (cD c)=some (keyOf c):=rfl
def gA:∀{ks:List Cell}{ds:List D},c∉ks->fL (ks.map keyOf) ds (keyOf c)=none
 |[],_,_=>by simp[fL]
 |k::ks,[],_=>by simp[fL]
 |k::ks,d::ds,h=>by
  rw[WD];unfold fL;rw[adG (λz=>h (by rw[iI z];exact WB ..))];exact gA λz=>h (Wz _ z)
def nX:∀{ks:List Cell}{ds:List D},ks.length=ds.length->c∈ks->∃d,fL (ks.map keyOf) ds (keyOf c)=some d/\(c,d)∈ks.zip ds
 |[],_,_,h=>by cases h
 |k::ks,[],hl,_=>by simp at hl
 |k::ks,d::ds,hl,h=>by
  rw[WD];unfold fL;by_cases hk:k=c
  ·subst hk;rw[adF rfl];exact⟨d,rfl,by simp⟩
  ·rw[adG (λz=>hk (iI z))];have hc:c∈ks:=by
    rcases WG.mp h with q | q
    ·exact adK q.symm hk
    ·exact q
   obtain⟨d',e1,e2⟩:=nX (by simpa using hl) hc;exact⟨d',e1,by simp[e2]⟩
def pN{ks:List Cell}(hl:ks.length=ds.length):jE neg (cD c) (.dct (ks.map keyOf) ds)=ae (.bl (if neg then !decide (c∈ks) else decide (c∈ks))):=by
 show (match (eF (cD c)).map (fL (ks.map keyOf) ds) with | some o=>ae (D.bl (if neg then !o.isSome else o.isSome)) | none=>ag)=_;rw[iZ];show ae (D.bl (if neg then !(fL (ks.map keyOf) ds (keyOf c)).isSome else(fL (ks.map keyOf) ds (keyOf c)).isSome))=_;by_cases h:c∈ks
 ·obtain⟨d,e,_⟩:=nX hl h;rw[e,adJ h];rfl
 ·rw[gA h,adI h];rfl
def yX(h:c∉ks)(hl:ds.length<lim):nM (.dct (ks.map keyOf) ds) (cD c) d=some (.dct ((ks++[c]).map keyOf) (ds++[d])):=by
 show (match eF (cD c) with | some kk=>if ds.length<lim then some (C.dct (dZ (ks.map keyOf) ds kk) (c_ (ks.map keyOf) ds kk d)) else none | none=>none)=_;rw[iZ];show (if ds.length<lim then some (C.dct (dZ (ks.map keyOf) ds (keyOf c)) (c_ (ks.map keyOf) ds (keyOf c) d)) else none)=_;rw[adF hl];unfold dZ c_;rw[gA h];simp
def zp(h:τ (og ρ)=ae b):Hq τ ρ=ae b:=by
 unfold Hq;rw[h];rfl
def Bm(h:δ (og ρ)=ae d)(hf:xQ d=true):Hd δ ρ=ae d:=by
 unfold Hd;rw[h];show qg d=_;unfold qg;rw[hf];rfl
def HM(c:Cell):xQ (cD c)=true:=rfl
def si(h1:c ρ=ae true)(h2:body ρ=ae (.nx ρ'))(h3:fo c body n ρ'=m):fo c body (n+1) ρ=m:=by
 show (c ρ>>=λb=>if b then body ρ>>=λo=>match o with | .nx ρ'=>fo c body n ρ' | .rt d=>ae (.rt d) else ae (.nx ρ))=_;rw[h1,ax,adF rfl,h2];exact h3
def zu(h1:c ρ=ae false):fo c body (n+1) ρ=ae (.nx ρ):=by
 show (c ρ>>=λb=>if b then body ρ>>=λo=>match o with | .nx ρ'=>fo c body n ρ' | .rt d=>ae (.rt d) else ae (.nx ρ))=_;rw[h1];rfl
def Ga:Option Cell->D
 |none=> .non
 |some c=>cD c
abbrev JS(ks:List Cell)(ps:List (Option Cell)):C:= .dct (ks.map keyOf) (ps.map Ga)
abbrev JT(ks:List Cell)(ps:List (Option Cell)):D:= .dct (ks.map keyOf) (ps.map Ga)
abbrev sb(b s w:D)(ks:List Cell)(ps:List (Option Cell))(x4 x5 x6 x7:Option Sl):cQ:=[fz b,fz s,fz w,some (.ow (JS ks ps)),x4,x5,x6,x7]
structure Bok (R W:Nat) (s:Bk Cell):Prop where
 len:s.ks.length=s.ps.length
 nd:s.ks.Nodup
 on:∀x∈s.ks,On R W x
 fu:s.fu.length<=s.ks.length
def Bok.le(h:Bok R W s):s.ks.length<=R*W:=by
 rw[<-aX R W];exact d8 h.nd λx hx=>az.mpr (h.on x hx)
def Bok.step(h:Bok R W s)(hx:On R W x):Bok R W (fF c s x):=by
 unfold fF;split
 ·exact h
 ·rename_i hn;refine⟨by simp[h.len],?_,λy hy=>?_,by simp;exact h.fu⟩
  ·refine YU.mpr ⟨h.nd,by simp,λy hy z hz e=>?_⟩;have hz:z=x:=by simpa using hz
   rw[e,hz] at hy;exact hn hy
  ·rcases XI.mp hy with q | q
   ·exact h.on y q
   ·have:y=x:=by simpa using q
    rw[this];exact hx
def Jy(hg:Brd bd W)(h:Bok bd.length W s):
 MI (sb (brd bd) (cD a) w s.ks s.ps r (some (.ow (.lst (s.fu.map cD)))) (fz (cD c)) (fz (cD x)))=ae (.nx (sb (brd bd) (cD a) w (fF c s x).ks (fF c s x).ps r (some (.ow (.lst ((fF c s x).fu.map cD)))) (fz (cD c)) none)):=by
 have hle:=h.le;have hm:bd.length*W<=64:=YQ hg.r8 hg.w8;have ht:Hq (cW (d2 (jE true) (dV 7) (dV 3))) (sb (brd bd) (cD a) w s.ks s.ps r (some (.ow (.lst (s.fu.map cD)))) (fz (cD c)) (fz (cD x)))=ae (!decide (x∈s.ks)):=
  zp (fS ((aM rfl rfl).trans (pN (by rw[Ww];exact h.len))))
 by_cases hx:x∈s.ks
 ·rw[adJ hx] at ht;have e:fF c s x=s:=adF hx;rw[e];exact(aT (eE ht rfl)).trans rfl
 ·rw[adI hx] at ht;have e:fF c s x=⟨s.ks++[x],s.ps++[some c],s.fu++[x]⟩:=adG hx;rw[e];refine(aT (ρ':=sb (brd bd) (cD a) w (s.ks++[x]) (s.ps++[some c]) r (some (.ow (.lst ((s.fu++[x]).map cD)))) (fz (cD c)) (fz (cD x))) (fK ht (ao (ρ':=sb (brd bd) (cD a) w (s.ks++[x]) (s.ps++[some c]) r (some (.ow (.lst (s.fu.map cD)))) (fz (cD c)) (fz (cD x))) ?_ ?_))).trans rfl
  ·show (match nM (JS s.ks s.ps) (cD x) (cD c) with | some c'=>ae (Out.nx (List.set (sb (brd bd) (cD a) w s.ks s.ps r (some (.ow (.lst (s.fu.map cD)))) (fz (cD c)) (fz (cD x))) 3 (some (.ow c')))) | none=>ag)=_;rw[yX hx (by rw[Ww,<-h.len,cF];omega)];rw[show s.ps.map Ga++[cD c]=(s.ps++[some c]).map Ga by simp[Ga]];rfl
  ·show (if (s.fu.map cD).length<lim then ae (Out.nx (sb (brd bd) (cD a) w (s.ks++[x]) (s.ps++[some c]) r (some (.ow (.lst (s.fu.map cD++[cD x])))) (fz (cD c)) (fz (cD x)))) else ag)=_;have:=h.fu;rw[adF (by rw[Ww,cF];omega)];rw[show s.fu.map cD++[cD x]=(s.fu++[x]).map cD by simp]
def Pq:DS:=b9 [6,7] (cN (putN 7) (bX (ay 3 dg (aC (dV 0) (aC (dV 6) (aC (dV 2) aN))))) MI)
def Cd(hg:Brd bd W)(hw:Ways w)(hc:On bd.length W c)(h:Bok bd.length W s):
 Bok bd.length W (n0 (bL bd W w) s c)/\Pq (sb (brd bd) (cD a) (iW w) s.ks s.ps r (some (.ow (.lst (s.fu.map cD)))) (fz (cD c)) none)=
  ae (.nx (sb (brd bd) (cD a) (iW w) (n0 (bL bd W w) s c).ks (n0 (bL bd W w) s c).ps r (some (.ow (.lst ((n0 (bL bd W w) s c).fu.map cD)))) none none)):=by
 obtain⟨h1,e⟩:=gq (put:=putN 7) cD (λs:Bk Cell=>sb (brd bd) (cD a) (iW w) s.ks s.ps r (some (.ow (.lst (s.fu.map cD)))) (fz (cD c)) none) (fF c) (Bok bd.length W) (bL bd W w c) s h λs hs x hx=>
  ⟨hs.step ((gu hw).mp hx).1,_,rfl,Jy hg hs⟩
 refine⟨h1,(aT (da ?_ e)).trans rfl⟩;show (ay 3 dg (aC (dV 0) (aC (dV 6) (aC (dV 2) aN))) (sb (brd bd) (cD a) (iW w) s.ks s.ps r (some (.ow (.lst (s.fu.map cD)))) (fz (cD c)) none)>>=lstM)=_;have e2:ay 3 dg (aC (dV 0) (aC (dV 6) (aC (dV 2) aN))) (sb (brd bd) (cD a) (iW w) s.ks s.ps r (some (.ow (.lst (s.fu.map cD)))) (fz (cD c)) none)=ae (.lst ((bL bd W w c).map cD)):=qK hg hw hc;rw[e2];rfl
def Pp:DS:=b9 [5,6,7] (aF (wA 5) (aF (cN (putN 6) (bX (dV 4)) Pq) (xk 5 (bu 4 (dV 5)))))
def Jx(hg:Brd bd W)(hw:Ways w)(hr:∀c∈W1,On bd.length W c)(h:Bok bd.length W s)(hf:s.fu=[]):
 Bok bd.length W (dF (bL bd W w) s W1)/\Pp (sb (brd bd) (cD a) (iW w) s.ks s.ps (fz (.lst (W1.map cD))) none none none)=
  ae (.nx (sb (brd bd) (cD a) (iW w) (dF (bL bd W w) s W1).ks (dF (bL bd W w) s W1).ps (fz (.lst ((dF (bL bd W w) s W1).fu.map cD))) none none none)):=by
 obtain⟨h1,e⟩:=gq (put:=putN 6) cD (λs:Bk Cell=>sb (brd bd) (cD a) (iW w) s.ks s.ps (fz (.lst (W1.map cD))) (some (.ow (.lst (s.fu.map cD)))) none none) (n0 (bL bd W w)) (Bok bd.length W) W1 s h λs hs c hc=>
  ⟨(Cd (a:=a) (r:=fz (.lst (W1.map cD))) hg hw (hr c hc) hs).1,_,rfl,(Cd hg hw (hr c hc) hs).2⟩
 refine⟨h1,(aT (ρ':=sb (brd bd) (cD a) (iW w) (dF (bL bd W w) s W1).ks (dF (bL bd W w) s W1).ps (fz (.lst ((dF (bL bd W w) s W1).fu.map cD))) (fz (.lst ((dF (bL bd W w) s W1).fu.map cD))) none none) ?_).trans rfl⟩;refine ao rfl (ao (ρ':=sb (brd bd) (cD a) (iW w) (dF (bL bd W w) s W1).ks (dF (bL bd W w) s W1).ps (fz (.lst (W1.map cD))) (some (.ow (.lst ((dF (bL bd W w) s W1).fu.map cD)))) none none) ?_ rfl);rw[hf] at e;exact da rfl e
def zf(hg:Brd bd W)(hw:Ways w)(ha:On bd.length W a):∀(fuel k:Nat) (ks:List Cell) (ps:List (Option Cell)) (W1:List Cell),bd.length*W+2<=fuel+k->Rng (bL bd W w) a k ks ps W1->(∀x∈ks,On bd.length W x)->
 ∃k' ks' Qr,Rng (bL bd W w) a k' ks' Qr []/\(∀x∈ks',On bd.length W x)/\fo (du (dV 4)) Pp fuel (sb (brd bd) (cD a) (iW w) ks ps (fz (.lst (W1.map cD))) none none none)=ae (.nx (sb (brd bd) (cD a) (iW w) ks' Qr (fz (.lst [])) none none none))
 |0,k,ks,ps,W1,hf,hR,kg=>by
  have h1:ks.length<=bd.length*W:=by
   rw[<-aX bd.length W];exact d8 hR.nd λx hx=>az.mpr (kg x hx)
  have:=hR.sz.1;omega
 |fuel+1,k,ks,ps,[],hf,hR,kg=>⟨k,ks,ps,hR,kg,zu rfl⟩
 |fuel+1,k,ks,ps,c::W1,hf,hR,kg=>by
  have g6:c::W1≠[]:=by simp
  have hN:=hR.next g6;have Rv:∀x∈c::W1,On bd.length W x:=λx hx=>kg x ((hR.mem x).mpr ((hR.rg x).mp hx).1);obtain⟨hb,e⟩:=Jx hg hw Rv (s:=⟨ks,ps,[]⟩) ⟨hR.len,hR.nd,kg,Xq _⟩ rfl;obtain⟨k',ks',Qr,q1,q2,q3⟩:=zf hg hw ha fuel (k+1) _ _ _ (by omega) hN hb.on;exact⟨k',ks',Qr,q1,q2,si rfl e q3⟩
def rW(hg:Brd bd W)(hw:Ways w)(ha:On bd.length W a):
 ∃k ks ps,Rng (bL bd W w) a k ks ps []/\(∀x∈ks,On bd.length W x)/\dX [brd bd,cD a,iW w]=ae (JT ks ps):=by
 have hm:bd.length*W<=64:=YQ hg.r8 hg.w8;obtain⟨k,ks,ps,h1,h2,h3⟩:=zf hg hw ha lim 0 [a] [none] [a] (by rw[cF];omega) (Rng.zero _ _) (λx hx=>(show x=a by simpa using hx)▸ha);refine⟨k,ks,ps,h1,h2,bb (ao rfl (ao rfl (ao (cG h3) rfl)))⟩
def tq[DecidableEq α](n:Nat)(enc:α->D):Prop:=∀k x y,fW (n+k) (enc x) (enc y)=some (decide (x=y))
def HJ(n:Nat)(xs ys:List D):fW (n+1) (.tup xs) (.tup ys)=lM (fW n) xs ys:=rfl
def j_(n:Nat)(i j:Int):fW n (.int i) (.int j)=some (i==j):=by cases n<;>rfl
def Bt[DecidableEq α](h:∀x y,f (enc x) (enc y)=some (decide (x=y))):∀(xs ys:List α),lM f (xs.map enc) (ys.map enc)=some (decide (xs=ys))
 |[],[]=>rfl
 |[],_::_=>by simp[lM]
 |_::_,[]=>by simp[lM]
 |x::xs,y::ys=>by
  rw[WD,WD];show (match f (enc x) (enc y),lM f (xs.map enc) (ys.map enc) with | some b,some r=>some (b&&r) | _,_=>none)=_;rw[h,Bt h xs ys];show some (decide (x=y)&&decide (xs=ys))=_;congr 1;by_cases h1:x=y<;>by_cases h2:xs=ys<;>simp[h1,h2]
def EK:tq 1 cD:=λk a b=>by
 rw[abt];show (match fW k (.int (a.1:Int)) (.int (b.1:Int)),lM (fW k) [.int (a.2:Int)] [.int (b.2:Int)] with | some b,some r=>some (b&&r) | _,_=>none)=_;rw[j_];show (match some ((a.1:Int)==(b.1:Int)),(match fW k (.int (a.2:Int)) (.int (b.2:Int)),lM (fW k) [] [] with | some b,some r=>some (b&&r) | _,_=>none) with | some b,some r=>some (b&&r) | _,_=>none)=_;rw[j_];show some (((a.1:Int)==(b.1:Int))&&(((a.2:Int)==(b.2:Int))&&true))=_;rw[mr,mr,acg];congr 1;obtain⟨a1,a2⟩:=a;obtain⟨b1,b2⟩:=b;by_cases h1:a1=b1<;>by_cases h2:a2=b2<;>simp[h1,h2]
def HG[DecidableEq α](h:tq n enc):tq (n+1) (λl:List α=> .lst (l.map enc)):=λk x y=>by
 rw[show n+1+k=(n+k)+1 by omega];exact Bt (h k) x y
def QN[DecidableEq α](h:tq n enc)(hn:n<=6)(x y:α):lU (enc x) (enc y)=ae (.bl (decide (x=y))):=by
 have:=h (6 - n) x y;rw[show n+(6 - n)=6 by omega] at this;unfold lU;rw[this]
def KP[DecidableEq α](h:tq n enc)(hn:n<=6)(x y:α):qi (enc x) (enc y)=ae (.bl (!decide (x=y))):=by
 have:=h (6 - n) x y;rw[show n+(6 - n)=6 by omega] at this;unfold qi;rw[this]
abbrev cL(l:List Cell):D:= .lst (l.map cD)
def OP(a b:Cell):qi (cD a) (cD b)=ae (.bl (!decide (a=b))):=KP EK (by decide) a b
def ic(c:Cell):List Int:=[(c.1:Int),(c.2:Int)]
def tJ(a b:Cell):Bool:=if a.1=b.1 then decide (a.2<b.2) else decide (a.1<b.1)
def Ic(k:Cell):List Cell->List Cell
 |[]=>[k]
 |x::r=>if tJ k x then k::x::r else x::Ic k r
def iQ:List Cell->List Cell
 |[]=>[]
 |k::r=>Ic k (iQ r)
def Ao(a b:Cell):dI (ic a) (ic b)=tJ a b:=by
 show (if (a.1:Int)=(b.1:Int) then(if (a.2:Int)=(b.2:Int) then false else decide ((a.2:Int)<(b.2:Int))) else decide ((a.1:Int)<(b.1:Int)))=_;unfold tJ;by_cases h:a.1=b.1
 ·rw[adF h,adF (by omega)];by_cases h2:a.2=b.2
  ·rw[adF (by omega),h2];simp
  ·rw[adG (by omega)];by_cases h3:a.2<b.2
   ·rw[adJ h3,adJ (by omega)]
   ·rw[adI h3,adI (by omega)]
 ·rw[adG h,adG (by omega)];by_cases h3:a.1<b.1
  ·rw[adJ h3,adJ (by omega)]
  ·rw[adI h3,adI (by omega)]
def Fi(k:Cell):∀l:List Cell,insI (ic k) (l.map ic)=(Ic k l).map ic
 |[]=>rfl
 |x::r=>by
  rw[WD];unfold insI Ic;rw[Ao];cases tJ k x with
  |true=>rfl
  |false=>rw[adG (by decide),adG (by decide),WD,Fi k r]
def pV:∀l:List Cell,sortI (l.map ic)=(iQ l).map ic
 |[]=>rfl
 |k::r=>by
  rw[WD];unfold sortI iQ;rw[pV r,Fi]
def qt(h:ic a=ic b):a=b:=by
 unfold ic at h;injection h with h1 h2
 injection h2 with h2 _
 exact ace (aaN h1) (aaN h2)
def dD:x∈iQ l↔x∈l:=by
 have h:=gz (x:=ic x) (l:=l.map ic);rw[pV] at h;constructor
 ·intro hx;obtain⟨y,hy,e⟩:=WM.mp (h.mp (WM.mpr ⟨x,hx,rfl⟩));rw[<-qt e];exact hy
 ·intro hx;obtain⟨y,hy,e⟩:=WM.mp (h.mpr (WM.mpr ⟨x,hx,rfl⟩));rw[<-qt e];exact hy
def RiseC(l:List Cell):Prop:=l.Pairwise λa b=>tJ a b=true
def pU:xo (l.map ic)↔RiseC l:=by
 unfold xo RiseC;rw[Yr];constructor<;>intro h<;>refine Yz ?_ h<;>intro a b q
 ·rw[<-Ao];exact q
 ·rw[Ao];exact q
def yD{l:List Cell}(h:l.Nodup):(l.map ic).Nodup:=by
 unfold Xr at h⊢;rw[Yr];exact Yz (λh z=>h (qt z)) h
def fm{l:List Cell}(h:l.Nodup):RiseC (iQ l):=by
 have:=jt (yD h);rw[pV] at this;exact pU.mp this
def nQ(ha:RiseC a)(hb:RiseC b)(h:∀x,x∈a↔x∈b):a=b:=by
 have e:=mM (pU.mpr ha) (pU.mpr hb) λx=>by
  constructor
  ·intro hx;obtain⟨y,hy,rfl⟩:=WM.mp hx;exact WM.mpr ⟨y,(h y).mp hy,rfl⟩
  ·intro hx;obtain⟨y,hy,rfl⟩:=WM.mp hx;exact WM.mpr ⟨y,(h y).mpr hy,rfl⟩
 have inj:∀(a b:List Cell),a.map ic=b.map ic->a=b:=by
  intro a;induction a with
  |nil=>intro b h;cases b with
   |nil=>rfl
   |cons=>simp at h
  |cons x a ih=>intro b h;cases b with
   |nil=>simp at h
   |cons y b=>
    rw[WD,WD] at h;injection h with h1 h2
    rw[qt h1,ih b h2]
 exact inj a b e
def RiseC.nodup(h:RiseC l):l.Nodup:=by
 refine Yz ?_ h;intro a b q z;subst z;unfold tJ at q;rw[adF rfl] at q;have:=adL q;omega
def kj:∀ks:List Cell,fg (ks.map keyOf)=some (ks.map ic)
 |[]=>rfl
 |k::r=>by
  show (match tZ (keyOf k),fg (r.map keyOf) with | some x,some xs=>some (x::xs) | _,_=>none)=_;rw[kj r];rfl
def OU{ks:List Cell}(h:ks.Nodup)(hl:ks.length<64):fQ (ks.map ic)=true:=by
 unfold fQ;rw[Ww,adJ (yD h),adJ hl];simp;intro a b _ z;cases z
def rV(h:ks.Nodup)(hl:ks.length<64):oS [.dct (ks.map keyOf) ds]=ae (cL (iQ ks)):=by
 show (match fg (ks.map keyOf) with | some ks=>if fQ ks&&ks.all (λk=>decide (k.length<=lim)) then ae (D.lst ((sortI ks).map tupI)) else ag | none=>ag)=_;rw[kj];show (if fQ (ks.map ic)&&(ks.map ic).all (λk=>decide (k.length<=lim)) then ae (D.lst ((sortI (ks.map ic)).map tupI)) else ag)=_;rw[OU h hl];have:(ks.map ic).all (λk=>decide (k.length<=lim))=true:=by
  simp;intro a b _;show 2<=lim
  decide
 rw[this,acg,adF rfl,pV,Xo];rfl
def Cn(bd:List Str)(W w:Nat)(a b:Cell):Prop:=∃j,Rb (bL bd W w) a j b
def Cn.refl:Cn bd W w a a:=⟨0,rfl⟩
def Ap(hw:Ways w)(ha:On bd.length W a)(h:b∈bL bd W w a):a∈bL bd W w b:=by
 obtain⟨h1,h2,h3⟩:=(gu hw).mp h;exact(gu hw).mpr ⟨ha,by rw[qY];exact h2,h3.symm⟩
def yZ(hw:Ways w)(ha:On bd.length W a):∀{j:Nat},Rb (bL bd W w) a j b->On bd.length W b
 |0,h=>by rw[show b=a from h];exact ha
 |j+1, .inl h=>yZ hw ha h
 |j+1, .inr ⟨y,_,hy⟩=>((gu hw).mp hy).1
def rM(h:c∈bL bd W w a):∀{j:Nat},Rb (bL bd W w) c j b->Rb (bL bd W w) a (j+1) b
 |0,q=> .inr ⟨a,rfl,by rw[show b=c from q];exact h⟩
 |j+1, .inl q=> .inl (rM h q)
 |j+1, .inr ⟨y,q,hy⟩=> .inr ⟨y,rM h q,hy⟩
def wt(hw:Ways w)(ha:On bd.length W a):∀{j:Nat},Rb (bL bd W w) a j b->Rb (bL bd W w) b j a
 |0,h=>show a=b from(show b=a from h).symm
 |j+1, .inl h=> .inl (wt hw ha h)
 |j+1, .inr ⟨y,q,hy⟩=>rM (Ap hw (yZ hw ha q) hy) (wt hw ha q)
def rN(h:Rb (bL bd W w) a i b):∀{j:Nat},Rb (bL bd W w) b j c->Rb (bL bd W w) a (i+j) c
 |0,q=>by rw[show c=b from q];exact h
 |j+1, .inl q=> .inl (rN h q)
 |j+1, .inr ⟨y,q,hy⟩=> .inr ⟨y,rN h q,hy⟩
section
variable{bd:List Str}{W w:Nat}{a b c:Cell}
def Cn.on(hw:Ways w)(ha:On bd.length W a)(h:Cn bd W w a b):On bd.length W b:=let ⟨_,q⟩:=h;yZ hw ha q
def Cn.symm(hw:Ways w)(ha:On bd.length W a)(h:Cn bd W w a b):Cn bd W w b a:=let ⟨j,q⟩:=h;⟨j,wt hw ha q⟩
def Cn.trans(h:Cn bd W w a b)(h2:Cn bd W w b c):Cn bd W w a c:=let ⟨i,q⟩:=h;let ⟨j,r⟩:=h2;⟨i+j,rN q r⟩
def Cn.step(h:Cn bd W w a b)(h2:c∈bL bd W w b):Cn bd W w a c:=let ⟨j,q⟩:=h;⟨j+1, .inr ⟨b,q,h2⟩⟩
end
structure IsPatch (bd:List Str) (W w:Nat) (a:Cell) (P:List Cell):Prop where
 rise:RiseC P
 mem:∀x,x∈P↔Cn bd W w a x
def IsPatch.one(h:IsPatch bd W w a P)(h2:IsPatch bd W w a Q):P=Q:=nQ h.rise h2.rise λx=>(h.mem x).trans (h2.mem x).symm
def uX{bd:List Str}{ks:List Cell}(hn:ks.Nodup)(kg:∀x∈ks,On bd.length W x):ks.length<=bd.length*W:=by
 rw[<-aX bd.length W];exact d8 hn λx hx=>az.mpr (kg x hx)
def Ku(w:Nat):List Cell->Bool
 |a::b::r=>gx w a b&&Ku w (b::r)
 |_=>true
abbrev wr(bd w a b k t:D):cQ:=[fz bd,fz w,fz a,fz b,fz k,fz t]
def cJ(enc:α->D)(g:α->D):∀(xs:List α),(∀x∈xs,f (enc x)=ae (some (g x)))->d6 f (xs.map enc)=ae (xs.map g)
 |[],_=>rfl
 |x::xs,h=>by
  rw[WD,df,h x (WB ..),ax,cJ enc g xs λy hy=>h y (Wz _ hy)];rfl
def RN(h:ρ[i]? =some (fz (.lst ds))):bX (dV i) ρ=ae ds:=by
 unfold bX;rw[gD h];rfl
def Cr:∀(p:List Cell) (c:Cell),(Xs 1 (p.length - 1)).all (λi=>gx w (p.getD (i - 1) c) (p.getD i c))=Ku w p
 |[],_=>rfl
 |[_],_=>rfl
 |a::b::r,c=>by
  have ih:=Cr (w:=w) (b::r) c;unfold Ku;rw[<-ih];show (Xs 1 (r.length+1)).all _=(_&&(Xs 1 r.length).all _)
  rw[ZS,Zz];congr 1;rw[show Xs (1+1) r.length=(Xs 1 r.length).map (1+ ·) from(List.map_add_range' 1 r.length 1).symm,Zu];refine aaH.mpr ?_;simp only[Xe,adA,abE];constructor
  ·intro h i hi;have:=h i hi;rw[show 1+i - 1=(i - 1)+1 by omega,abt 1 i] at this;exact this
  ·intro h i hi;have:=h i hi;rw[show 1+i - 1=(i - 1)+1 by omega,abt 1 i];exact this
def bW(ks:List Cell)(c:Cell):List Cell:=if c∈ks then ks else ks++[c]
def bw(l:List Cell):List Cell:=l.foldl bW []
def a_(ks:List Cell):List D:=ks.map λ_=> .bl true
def b_:x∈bW ks c↔x∈ks\/x=c:=by
 unfold bW;split
 ·rename_i h;exact⟨.inl,λq=>q.elim id λe=>by rw[e];exact h⟩
 ·simp
def jC:∀(l ks:List Cell),(ks.Nodup->(l.foldl bW ks).Nodup)/\(∀x,x∈l.foldl bW ks↔x∈ks\/x∈l)/\(l.foldl bW ks).length<=ks.length+l.length
 |[],ks=>⟨id,λx=>by simp,by simp⟩
 |c::l,ks=>by
  obtain⟨h1,h2,h3⟩:=jC l (bW ks c);refine⟨λhn=>h1 ?_,λx=>?_,?_⟩
  ·unfold bW;split
   ·exact hn
   ·rename_i hc;refine YU.mpr ⟨hn,by simp,λy hy z hz e=>?_⟩;have hz:z=c:=by simpa using hz
    rw[e,hz] at hy;exact hc hy
  ·rw[Z3,h2 x,b_];simp[or_assoc]
  ·rw[Z3,WE];have:(bW ks c).length<=ks.length+1:=by unfold bW;split<;>simp
   omega
def gr:x∈bw l↔x∈l:=by
 unfold bw;rw[(jC l []).2.1 x];simp
def qV(l:List Cell):(bw l).Nodup:=(jC l []).1 YN
def nr(l:List Cell):(bw l).length<=l.length:=by have:=(jC l []).2.2;simpa[bw] using this
def uI:∀{ks:List (List Key)}{l:List Cell},ks.length=l.length->nP ks (a_ l) k (.bl true)=a_ l
 |[],[],_=>rfl
 |k'::ks,c::l,h=>by
  show (if k'=k then D.bl true else D.bl true)::nP ks (a_ l) k (.bl true)=_;rw[uI (by simpa using h)];split<;>rfl
 |[],_::_,h=>by simp at h
 |_::_,[],h=>by simp at h
def Gz(hl:ks.length<lim):nM (.dct (ks.map keyOf) (a_ ks)) (cD c) (.bl true)=some (.dct ((bW ks c).map keyOf) (a_ (bW ks c))):=by
 have P3:(a_ ks).length=ks.length:=by simp[a_]
 unfold bW;by_cases h:c∈ks
 ·rw[adF h];show (match eF (cD c) with | some kk=>if (a_ ks).length<lim then some (C.dct (dZ (ks.map keyOf) (a_ ks) kk) (c_ (ks.map keyOf) (a_ ks) kk (.bl true))) else none | none=>none)=_;rw[iZ];show (if (a_ ks).length<lim then some (C.dct (dZ (ks.map keyOf) (a_ ks) (keyOf c)) (c_ (ks.map keyOf) (a_ ks) (keyOf c) (.bl true))) else none)=_;rw[adF (by rw[P3];exact hl)];obtain⟨d,e,_⟩:=nX P3.symm h;unfold dZ c_;rw[e];show some (C.dct (ks.map keyOf) (nP (ks.map keyOf) (a_ ks) (keyOf c) (.bl true)))=_;rw[uI (by simp)]
 ·rw[adG h,yX h (by rw[P3];exact hl)];simp[a_]
abbrev jG(l:List Cell):D:= .dct ((bw l).map keyOf) (a_ (bw l))
def t_(hl:l.length<4000):ke [cL l]=ae (jG l):=by
 have e:∀(xs ks:List Cell),ks.length+xs.length<4000->forL (putN 2) (b9 [2] (fV 1 (dV 2) (dC (.bl true)))) (xs.map cD) [fz (cL l),some (.ow (.dct (ks.map keyOf) (a_ ks))),none]=ae (.nx [fz (cL l),some (.ow (.dct ((xs.foldl bW ks).map keyOf) (a_ (xs.foldl bW ks)))),none]):=by
  intro xs;induction xs with
  |nil=>intro ks _;rfl
  |cons x xs ih=>
   intro ks hk;rw[WE] at hk;have hle:(bW ks x).length<=ks.length+1:=by unfold bW;split<;>simp
   refine(cj rfl ?_).trans (ih (bW ks x) (by omega));refine(aT (ρ':=[fz (cL l),some (.ow (.dct ((bW ks x).map keyOf) (a_ (bW ks x)))),fz (cD x)]) ?_).trans rfl;show (match nM (.dct (ks.map keyOf) (a_ ks)) (cD x) (.bl true) with | some c'=>ae (Out.nx [fz (cL l),some (.ow c'),fz (cD x)]) | none=>ag)=_;rw[Gz (by rw[cF];omega)]
 refine bb (ao rfl (ao (cG (da rfl (e l [] (by simpa using hl)))) rfl))
def Dm{ks:List Cell}:jH (.dct (ks.map keyOf) ds)=ae (ks.map cD):=by
 show (if (ks.map keyOf).all (λk=>decide (k.length<=lim)&&k.all um) then ae ((ks.map keyOf).map tupK) else ag)=_;have:(ks.map keyOf).all (λk=>decide (k.length<=lim)&&k.all um)=true:=by
  simp only[Xe,WM];rintro k ⟨c,_,rfl⟩;rfl
 rw[adF this,Xo];rfl
def vC(l:List Cell):bx [cL l]=ae (.int (l.length:Int)):=by
 show ae (D.int ((l.map cD).length:Int))=_;rw[Ww]
def KH(h:a.length+b.length<=4096):gG (cL a) (cL b)=ae (cL (a++b)):=by
 show (if (a.map cD).length+(b.map cD).length<=lim then ae (D.lst (a.map cD++b.map cD)) else ag)=_;rw[adF (by rw[Ww,Ww,cF];exact h),<-X_]
def ON(a b:Nat):qi (.int (a:Int)) (.int (b:Int))=ae (.bl (!(a==b))):=by
 rw[ne_int,mr]
def vf(ks:List Cell)(f:Cell->D):C:= .dct (ks.map keyOf) (ks.map f)
def lr(ks:List Cell)(f:Cell->D):D:= .dct (ks.map keyOf) (ks.map f)
def dS(f:Cell->D)(x:Cell)(d:D):Cell->D:=λy=>if y=x then d else f y
def mT:∀{ks:List Cell},x∈ks->fL (ks.map keyOf) (ks.map f) (keyOf x)=some (f x)
 |y::ks,h=>by
  show (if keyOf y=keyOf x then some (f y) else fL (ks.map keyOf) (ks.map f) (keyOf x))=_;by_cases e:y=x
  ·subst e;rw[adF rfl]
  ·rw[adG (λz=>e (iI z))];rcases WG.mp h with q | q
   ·exact adK q.symm e
   ·exact mT q
def iY(h:x∈ks):cy (lr ks f) (cD x)=ae (f x):=by
 show (match ((eF (cD x)).map λk=>fL (ks.map keyOf) (ks.map f) k) with | some (some v)=>ae v | _=>ag)=_;rw[iZ];show (match some (fL (ks.map keyOf) (ks.map f) (keyOf x)) with | some (some v)=>ae v | _=>ag)=_;rw[mT h]
def vj(h:x∈ks):getM (lr ks f) (cD x) v=ae (f x):=by
 show (match ((eF (cD x)).map λk=>fL (ks.map keyOf) (ks.map f) k) with | some (some x)=>ae x | some none=>ae v | none=>ag)=_;rw[iZ];show (match some (fL (ks.map keyOf) (ks.map f) (keyOf x)) with | some (some x)=>ae x | some none=>ae v | none=>ag)=_;rw[mT h]
def qj(h:x∉ks):getM (lr ks f) (cD x) v=ae v:=by
 show (match ((eF (cD x)).map λk=>fL (ks.map keyOf) (ks.map f) k) with | some (some x)=>ae x | some none=>ae v | none=>ag)=_;rw[iZ];show (match some (fL (ks.map keyOf) (ks.map f) (keyOf x)) with | some (some x)=>ae x | some none=>ae v | none=>ag)=_;rw[gA h]
def wy:∀{ks:List Cell},nP (ks.map keyOf) (ks.map f) (keyOf x) d=ks.map (dS f x d)
 |[]=>rfl
 |y::ks=>by
  show (if keyOf y=keyOf x then d else f y)::nP (ks.map keyOf) (ks.map f) (keyOf x) d=_;rw[wy,WD];congr 1;unfold dS;by_cases e:y=x
  ·subst e;rw[adF rfl,adF rfl]
  ·rw[adG (λz=>e (iI z)),adG e]
def Jq(hl:ks.length<lim):nM (vf ks f) (cD x) d=some (vf (bW ks x) (dS f x d)):=by
 show (match eF (cD x) with | some kk=>if (ks.map f).length<lim then some (C.dct (dZ (ks.map keyOf) (ks.map f) kk) (c_ (ks.map keyOf) (ks.map f) kk d)) else none | none=>none)=_;rw[iZ];show (if (ks.map f).length<lim then some (C.dct (dZ (ks.map keyOf) (ks.map f) (keyOf x)) (c_ (ks.map keyOf) (ks.map f) (keyOf x) d)) else none)=_;rw[adF (by rw[Ww];exact hl)];unfold vf bW dZ c_;by_cases h:x∈ks
 ·rw[mT h,adF h];show some (C.dct (ks.map keyOf) (nP (ks.map keyOf) (ks.map f) (keyOf x) d))=_;rw[wy]
 ·rw[gA h,adG h];show some (C.dct (ks.map keyOf++[keyOf x]) (ks.map f++[d]))=_;have e1:ks.map f=ks.map (dS f x d):=X2 λy hy=>by
   unfold dS;rw[adG (λz:y=x=>h (z▸hy))]
  have e2:(ks++[x]).map (dS f x d)=ks.map (dS f x d)++[d]:=by
   rw[X_];congr 1;show [dS f x d x]=[d]
   unfold dS;rw[adF rfl]
  rw[X_,e1,e2];rfl
def jh(h0:ρ[i]? =some (some (.ow (vf ks f))))(hv:δv ρ=ae d)(hk:δk ρ=ae (cD x))(hl:ks.length<lim):
 fV i δk δv ρ=ae (.nx (ρ.set i (some (.ow (vf (bW ks x) (dS f x d)))))):=by
 unfold fV AF;rw[h0];show (δv ρ>>=λv=>δk ρ>>=λk=>match nM (vf ks f) k v with | some c'=>ae (Out.nx (ρ.set i (some (.ow c')))) | none=>ag)=_;rw[hv,ax,hk,ax,Jq hl]
def jI(hg:Wd bd W):cZ [brd bd]=ae (cL (aw bd.length W)):=by
 have h8:=hg.r8;have w8:=hg.w8;have hm:bd.length*W<=64:=YQ h8 w8;have CY:(W8 bd.length).flatMap (λr=>(dQ W r).map cD)=(aw bd.length W).map cD:=by
  unfold aw;rw[ZT]
 have e:=d7 (put:=putN 2) (body:=b9 [2] (bu 1 (d2 gG (dV 1) (a7 0 (λρ=>(aC (dA bx (aC (d2 ba (dV 0) (dC (.int 0))) aN)) aN) ρ>>=fJ) bI (dA aS (aC (dV 3) (aC (dV 0) aN))))))) (λ(k:Nat)=>D.int (k:Int)) (λu8=>[fz (brd bd),fz (.lst u8),none]) (λr=>(dQ W r).map cD) (W8 bd.length) []
  (by rw[Xa,CY,Ww,aX];exact hm) λr hr u8 hB=>by
   refine⟨[fz (brd bd),fz (.lst u8),fz (.int (r:Int))],rfl,?_⟩;refine(aT (ρ':=[fz (brd bd),fz (.lst (u8++(dQ W r).map cD)),fz (.int (r:Int))]) ?_).trans rfl;have hc:a7 0 (λρ=>(aC (dA bx (aC (d2 ba (dV 0) (dC (.int 0))) aN)) aN) ρ>>=fJ) bI (dA aS (aC (dV 3) (aC (dV 0) aN))) [fz (brd bd),fz (.lst u8),fz (.int (r:Int))]=ae (.lst ((dQ W r).map cD)):=by
    refine bq (GI (hg.len0 rfl) (by omega)) ?_ (by simp[dQ,cF];omega);rw[show (dQ W r).map cD=(W8 W).map (λk=>cD (r,k)) by simp[dQ,Xo]];exact cJ (λ(k:Nat)=>D.int (k:Int)) (λk=>cD (r,k)) _ λk _=>rfl
   refine(aO ((aM rfl hc).trans ?_)).trans rfl;show (if u8.length+((dQ W r).map cD).length<=lim then ae (D.lst (u8++(dQ W r).map cD)) else ag)=_;rw[adF (by rw[WL] at hB;rw[cF];omega)]
 rw[Xa,CY] at e;refine bb (ao rfl (ao (cG (da (GI (Dp rfl) (by omega)) e)) ?_));rfl
def xt(R W w:Nat)(c:Cell)(d e:Int):Bool:=((decide (0<=(c.1:Int)+d)&&decide ((c.1:Int)+d<(R:Int)))&&(decide (0<=(c.2:Int)+e)&&decide ((c.2:Int)+e<(W:Int))))&&((!(d==0&&e==0))&&((w==8)||(d*e==0)))
def lb(R W w:Nat)(c:Cell)(d e:Int):List Cell:=if xt R W w c d e then [(((c.1:Int)+d).toNat,((c.2:Int)+e).toNat)] else []
def lO(R W w:Nat)(c:Cell):List Cell:=[-1,0,1].flatMap λd=>[-1,0,1].flatMap λe=>lb R W w c d e
def Er(R W w:Nat)(c:Cell)(d e:Int):(lb R W w c d e).length<=1:=by unfold lb;split<;>simp
def xu(R W w:Nat)(c:Cell):(lO R W w c).length<=9:=by
 have h:=Er R W w c;simp only[lO,Ys,List.flatMap_nil,WL,Xp];have:=h (-1) (-1);have:=h (-1) 0;have:=h (-1) 1;have:=h 0 (-1);have:=h 0 0;have:=h 0 1;have:=h 1 (-1);have:=h 1 0;have:=h 1 1;omega
def Bd(h:d.natAbs<=1):d∈[(-1:Int),0,1]:=by
 have:d= -1\/d=0\/d=1:=by omega
 rcases this with rfl | rfl | rfl<;>decide
def Bh:∀d∈[(-1:Int),0,1],∀e∈[(-1:Int),0,1],∀w∈[4,8],((!(d==0&&e==0))&&((w==8)||(d*e==0)))=if w=4 then decide (d.natAbs+e.natAbs=1) else decide (max d.natAbs e.natAbs=1):=by decide
def Bp{a x:Nat}(h:(x:Int)=a+d):gV a x=d.natAbs:=by
 unfold gV;omega
def BR{a1 a2 x1 x2:Nat}(h1:(x1:Int)=a1+d)(h2:(x2:Int)=a2+e):gx w (a1,a2) (x1,x2)=if w=4 then decide (d.natAbs+e.natAbs=1) else decide (max d.natAbs e.natAbs=1):=by
 show (if w=4 then decide (gV a1 x1+gV a2 x2=1) else decide (max (gV a1 x1) (gV a2 x2)=1))=_;rw[Bp h1,Bp h2]
def qM(hw:Ways w)(hc:On R W c):x∈lO R W w c↔On R W x/\gx w c x=true:=by
 obtain⟨c1,c2⟩:=c;obtain⟨x1,x2⟩:=x;have Tb:c1<R:=hc.1;have E4:c2<W:=hc.2;have key:(x1,x2)∈lO R W w (c1,c2)↔∃d∈[(-1:Int),0,1],∃e∈[(-1:Int),0,1],xt R W w (c1,c2) d e=true/\(x1:Int)=c1+d/\(x2:Int)=c2+e:=by
  unfold lO lb;simp only[Zo];constructor
  ·rintro⟨d,hd,e,he,h⟩;by_cases hb:xt R W w (c1,c2) d e=true
   ·rw[adF hb] at h;have By:=hb;unfold xt at By;simp only[WR,adH] at By;have h:=XY.mp h;rw[ZQ] at h;exact⟨d,hd,e,he,hb,by omega,by omega⟩
   ·rw[adG hb] at h;cases h
  ·rintro⟨d,hd,e,he,hb,h1,h2⟩;refine⟨d,hd,e,he,?_⟩;rw[adF hb];exact XY.mpr (by rw[ZQ];exact⟨by omega,by omega⟩)
 rw[key];constructor
 ·rintro⟨d,hd,e,he,hb,h1,h2⟩;unfold xt at hb;rw[WR] at hb;have h3:=hb.1;simp only[WR,adH] at h3;refine⟨⟨show x1<R by omega,show x2<W by omega⟩,?_⟩;rw[BR h1 h2,<-Bh d hd e he w (by rcases hw with rfl | rfl<;>decide)];exact hb.2
 ·rintro⟨⟨h1,h2⟩,h3⟩;have e1:(x1:Int)=c1+((x1:Int) - c1):=by omega
  have e2:(x2:Int)=c2+((x2:Int) - c2):=by omega
  rw[BR e1 e2] at h3;have hn:((x1:Int) - c1).natAbs<=1/\((x2:Int) - c2).natAbs<=1:=by
   rcases hw with rfl | rfl
   ·have:=adL h3;omega
   ·have:=adL h3;omega
  have m1:=Bd hn.1;have m2:=Bd hn.2;rw[<-Bh _ m1 _ m2 w (by rcases hw with rfl | rfl<;>decide)] at h3;refine⟨_,m1,_,m2,?_,e1,e2⟩;unfold xt;rw[WR];refine⟨?_,h3⟩;have h1:x1<R:=h1;have h2:x2<W:=h2;rw[<-e1,<-e2];simp only[WR,adH];omega
def IB(a b c d:Int):qi (.tup [.int a, .int b]) (.tup [.int c, .int d])=ae (.bl (!(a==c&&b==d))):=by
 show (match fW 6 (.tup [.int a, .int b]) (.tup [.int c, .int d]) with | some b=>ae (D.bl (!b)) | none=>ag)=_;have:fW 6 (.tup [.int a, .int b]) (.tup [.int c, .int d])=some (a==c&&b==d):=by
  rw[show (6:Nat)=5+1 from rfl,HJ];unfold lM;rw[j_];cases h:(a==c)
  ·rfl
  ·unfold lM;rw[j_];cases h2:(b==d)
   ·rfl
   ·rfl
 rw[this]
def Hw(hg:Wd bd W)(hd:d∈[(-1:Int),0,1])(he:e∈[(-1:Int),0,1])(hl:(u8++(lb bd.length W w c d e).map cD).length<=64):
 Eu [fz (brd bd),fz (cD c),fz (iW w),some (.ow (.lst u8)),fz (.int d),fz (.int e),none,none,none]=ae (.nx [fz (brd bd),fz (cD c),fz (iW w),some (.ow (.lst (u8++(lb bd.length W w c d e).map cD))),fz (.int d),none,none,none,none]):=by
 have x_:fU (zF (λi j=>decide (i<=j)) (λi j=>decide (i<j)) (dC (.int 0)) (dV 6) (dA bx (aC (dV 0) aN))) (zF (λi j=>decide (i<=j)) (λi j=>decide (i<j)) (dC (.int 0)) (dV 7) (dA bx (aC (d2 ba (dV 0) (dC (.int 0))) aN))) [fz (brd bd),fz (cD c),fz (iW w),some (.ow (.lst u8)),fz (.int d),fz (.int e),fz (.int ((c.1:Int)+d)),fz (.int ((c.2:Int)+e)),none]=
  ae (.bl ((decide (0<=(c.1:Int)+d)&&decide ((c.1:Int)+d<(bd.length:Int)))&&(decide (0<=(c.2:Int)+e)&&decide ((c.2:Int)+e<(W:Int))))):=HA (Ny rfl (Dp rfl)) (Ny rfl (hg.len0 rfl))
 have Vf: -(2:Int) ^ 64<d/\d<2 ^ 64:=by
  simp only[WG,XH,or_false] at hd;rcases hd with rfl | rfl | rfl<;>decide
 have ht:∀{b8:Bool},lq (du (dV 8)) (lq (cW (d2 qi (dA aS (aC (dV 4) (aC (dV 5) aN))) (dA aS (aC (dC (.int 0)) (aC (dC (.int 0)) aN))))) (pe (cW (d2 lU (dV 2) (dC (.int 8)))) (cW (d2 lU (d2 iV (dV 4) (dV 5)) (dC (.int 0)))))) [fz (brd bd),fz (cD c),fz (iW w),some (.ow (.lst u8)),fz (.int d),fz (.int e),fz (.int ((c.1:Int)+d)),fz (.int ((c.2:Int)+e)),fz (.bl b8)]=
  ae (b8&&((!(d==0&&e==0))&&((w==8)||(d*e==0)))):=λ{b8}=>
  ve (il rfl) (ve (fS ((aM rfl rfl).trans (IB ..))) (xG (fS ((aM rfl rfl).trans ((eq_int _ _).trans (by rw[show ((w:Int)==8)=(w==8) from mr w 8])))) (fS ((aM ((aM rfl rfl).trans (gH (.inl Vf))) rfl).trans (eq_int _ _)))))
 have pre:∀{ρ':cQ},jy (lq (du (dV 8)) (lq (cW (d2 qi (dA aS (aC (dV 4) (aC (dV 5) aN))) (dA aS (aC (dC (.int 0)) (aC (dC (.int 0)) aN))))) (pe (cW (d2 lU (dV 2) (dC (.int 8)))) (cW (d2 lU (d2 iV (dV 4) (dV 5)) (dC (.int 0))))))) (pG 3 (dA aS (aC (dV 6) (aC (dV 7) aN)))) eB [fz (brd bd),fz (cD c),fz (iW w),some (.ow (.lst u8)),fz (.int d),fz (.int e),fz (.int ((c.1:Int)+d)),fz (.int ((c.2:Int)+e)),fz (.bl ((decide (0<=(c.1:Int)+d)&&decide ((c.1:Int)+d<(bd.length:Int)))&&(decide (0<=(c.2:Int)+e)&&decide ((c.2:Int)+e<(W:Int)))))]=ae (.nx ρ')->
  Eu [fz (brd bd),fz (cD c),fz (iW w),some (.ow (.lst u8)),fz (.int d),fz (.int e),none,none,none]=ae (.nx (fgt [5,6,7,8] ρ')):=λ{ρ'} h=>
  aT (ao rfl
   (ao rfl (ao ((aO x_).trans rfl) h)))
 have Hh:xt bd.length W w c d e=(((decide (0<=(c.1:Int)+d)&&decide ((c.1:Int)+d<(bd.length:Int)))&&(decide (0<=(c.2:Int)+e)&&decide ((c.2:Int)+e<(W:Int))))&&((!(d==0&&e==0))&&((w==8)||(d*e==0)))):=rfl;have ht:=ht (b8:=(decide (0<=(c.1:Int)+d)&&decide ((c.1:Int)+d<(bd.length:Int)))&&(decide (0<=(c.2:Int)+e)&&decide ((c.2:Int)+e<(W:Int))));rw[<-Hh] at ht;by_cases hb:xt bd.length W w c d e=true
 ·have By:=hb;rw[Hh] at By;simp only[WR,adH] at By;have eg:(lb bd.length W w c d e).map cD=[.tup [.int ((c.1:Int)+d), .int ((c.2:Int)+e)]]:=by
   unfold lb;rw[adF hb];show [D.tup [.int ((((c.1:Int)+d).toNat:Nat):Int), .int ((((c.2:Int)+e).toNat:Nat):Int)]]=_;rw[aa0 (by omega),aa0 (by omega)]
  rw[eg] at hl⊢;rw[hb] at ht;refine(pre (ρ':=[fz (brd bd),fz (cD c),fz (iW w),some (.ow (.lst (u8++[.tup [.int ((c.1:Int)+d), .int ((c.2:Int)+e)]]))),fz (.int d),fz (.int e),fz (.int ((c.1:Int)+d)),fz (.int ((c.2:Int)+e)),fz (.bl ((decide (0<=(c.1:Int)+d)&&decide ((c.1:Int)+d<(bd.length:Int)))&&(decide (0<=(c.2:Int)+e)&&decide ((c.2:Int)+e<(W:Int)))))]) (fK ht ?_)).trans rfl;show (if u8.length<lim then ae (Out.nx [fz (brd bd),fz (cD c),fz (iW w),some (.ow (.lst (u8++[.tup [.int ((c.1:Int)+d), .int ((c.2:Int)+e)]]))),fz (.int d),fz (.int e),fz (.int ((c.1:Int)+d)),fz (.int ((c.2:Int)+e)),_]) else ag)=_;rw[adF (by rw[WL] at hl;rw[cF];simp at hl;omega)]
 ·have eg:(lb bd.length W w c d e).map cD=[]:=by
   unfold lb;rw[adG hb];rfl
  rw[eg,Xp];rw[Zf.mpr hb] at ht;exact(pre (eE ht rfl)).trans rfl
def vA{W w:Nat}(hg:Wd bd W):dW [brd bd,cD c,iW w]=ae (cL (lO bd.length W w c)):=by
 have x_:∀d∈[(-1:Int),0,1],∀u8:List D,(u8++([(-1:Int),0,1].flatMap λe=>(lb bd.length W w c d e).map cD)).length<=64->
  forL (putN 5) Eu ([(-1:Int),0,1].map D.int) [fz (brd bd),fz (cD c),fz (iW w),some (.ow (.lst u8)),fz (.int d),none,none,none,none]=
   ae (.nx [fz (brd bd),fz (cD c),fz (iW w),some (.ow (.lst (u8++([(-1:Int),0,1].flatMap λe=>(lb bd.length W w c d e).map cD)))),fz (.int d),none,none,none,none]):=λd hd u8 hl=>
  d7 D.int (λu8=>[fz (brd bd),fz (cD c),fz (iW w),some (.ow (.lst u8)),fz (.int d),none,none,none,none]) (λe=>(lb bd.length W w c d e).map cD) [(-1:Int),0,1] u8 hl λe he kJ Ej=>⟨_,rfl,Hw hg hd he Ej⟩
 have CY:([(-1:Int),0,1].flatMap λd=>[(-1:Int),0,1].flatMap λe=>(lb bd.length W w c d e).map cD)=(lO bd.length W w c).map cD:=by
  unfold lO;simp only[ZT]
 have Of:=d7 (put:=putN 4) (body:=b9 [4,5,6,7,8] (cN (putN 5) (pd (dA aS (aC (d1 Dx (dC (.int 1))) (aC (dC (.int 0)) (aC (dC (.int 1)) aN))))) Eu)) D.int (λu8=>[fz (brd bd),fz (cD c),fz (iW w),some (.ow (.lst u8)),none,none,none,none,none]) (λd=>[(-1:Int),0,1].flatMap λe=>(lb bd.length W w c d e).map cD) [(-1:Int),0,1] []
  (by rw[Xa,CY,Ww];have:=xu bd.length W w c;omega) λd hd u8 hl=>⟨_,rfl,(aT (da rfl (x_ d hd u8 hl))).trans rfl⟩
 rw[Xa,CY] at Of;refine bb (ao rfl (ao (cG (da rfl Of)) ?_));rfl
def GU(hg:Wd bd W)(hx:On bd.length W x)(hb:dV b ρ=ae (brd bd))(hi:dV i ρ=ae (cD x)):d2 ni (d2 ba (dV b) (d2 ba (dV i) (dC (.int 0)))) (d2 ba (dV i) (dC (.int 1))) ρ=ae (sg (lt bd x)):=by
 have h1:d2 ba (dV i) (dC (.int 0)) ρ=ae (.int (x.1:Int)):=(aM hi rfl).trans OF.1;have h2:d2 ba (dV i) (dC (.int 1)) ρ=ae (.int (x.2:Int)):=(aM hi rfl).trans OF.2;refine(aM ((aM hb h1).trans (Ft hx.1)) h2).trans (Ce ?_);rw[(hg.rows _ (getD_mem hx.1)).len];exact hx.2
def Fy(a b:Cell):HT.lexLt (ic a) (ic b)=tJ a b:=by
 show (if (a.1:Int)=(b.1:Int) then(if (a.2:Int)=(b.2:Int) then false else decide ((a.2:Int)<(b.2:Int))) else decide ((a.1:Int)<(b.1:Int)))=_;unfold tJ;by_cases h1:a.1=b.1
 ·rw[adF (by omega),adF h1];by_cases h2:a.2=b.2
  ·rw[adF (by omega),adI (by omega)]
  ·rw[adG (by omega),adN];omega
 ·rw[adG (by omega),adG h1,adN];omega
def FD(a b:Cell):Nd (cD a) (cD b)=some (tJ a b):=by
 show some (HT.lexLt (ic a) (ic b))=_;rw[Fy]
def HN(a b:Cell):Ab (cD a) (cD b)=ae (.bl (tJ a b)):=by
 unfold Ab;rw[FD]
def cz(a b:Cell):Cell:=if tJ b a then b else a
def Iw(a b:Cell):yu [cD a,cD b]=ae (cD (cz a b)):=by
 show (match Nd (cD b) (cD a) with | some r=>ae (if r then cD b else cD a) | none=>ag)=_;rw[FD];unfold cz;cases tJ b a<;>rfl
def rank(W:Nat)(x:Cell):Nat:=x.1*W+x.2
def eK(ha:On R W a)(hb:On R W b):tJ a b=true↔rank W a<rank W b:=by
 unfold tJ rank;have h1:=ha.2;have h2:=hb.2;by_cases h:a.1=b.1
 ·rw[adF h,adH,h];omega
 ·rw[adG h,adH];constructor
  ·intro q;have:(a.1+1)*W<=b.1*W:=Z0 _ q;rw[adk,adj] at this;omega
  ·intro q;refine Classical.byContradiction λz=>?_;have:(b.1+1)*W<=a.1*W:=Z0 _ (by omega);rw[adk,adj] at this;omega
def mL(ha:On R W a)(hb:On R W b)(h:rank W a=rank W b):a=b:=by
 have n1:¬tJ a b=true:=λz=>by have:=(eK ha hb).mp z;omega
 have n2:¬tJ b a=true:=λz=>by have:=(eK hb ha).mp z;omega
 unfold tJ at n1 n2;obtain⟨a1,a2⟩:=a;obtain⟨b1,b2⟩:=b;simp only at n1 n2;by_cases h1:a1=b1
 ·rw[adF h1,adH] at n1;rw[adF h1.symm,adH] at n2;rw[ZQ];exact⟨h1,by omega⟩
 ·rw[adG h1,adH] at n1;rw[adG (XD h1),adH] at n2;omega
def Js(ha:On R W a):rank W a<R*W:=by
 unfold rank;have:(a.1+1)*W<=R*W:=Z0 _ ha.1;rw[adk,adj] at this;have:=ha.2;omega
def Dt(a b:Cell):cz a b=a\/cz a b=b:=by unfold cz;split;exact .inr rfl;exact .inl rfl
def Ds(ha:On R W a)(hb:On R W b):rank W (cz a b)<=rank W a/\rank W (cz a b)<=rank W b:=by
 unfold cz;by_cases h:tJ b a=true
 ·rw[adF h];have:=(eK hb ha).mp h;omega
 ·rw[adG h];have:¬rank W b<rank W a:=λz=>h ((eK hb ha).mpr z);omega
def AY{f g:α->Nat}:∀{l:List α},(∀x∈l,f x<=g x)->(l.map f).sum<=(l.map g).sum
 |[],_=>WO _
 |a::l,h=>by
  rw[WD,WD,X1,X1];exact Nat.add_le_add (h a (WB ..)) (AY λx hx=>h x (Wz _ hx))
def G2{f g:α->Nat}:∀{l:List α},(∀x∈l,f x<=g x)->(∃x∈l,f x<g x)->(l.map f).sum<(l.map g).sum
 |[],_,⟨x,hx,_⟩=>by cases hx
 |a::l,h,⟨x,hx,hl⟩=>by
  rw[WD,WD,X1,X1];have h1:=h a (WB ..);have h2:=AY λx hx=>h x (Wz _ hx);rcases WG.mp hx with rfl | hx
  ·omega
  ·have:=G2 (λx hx=>h x (Wz _ hx)) ⟨x,hx,hl⟩;omega
section
variable{bd:List Str}{W w:Nat}
def dY(s:(Cell->Cell)×Bool)(p:Cell×Cell):(Cell->Cell)×Bool:=
 if s.1 p.1=s.1 p.2 then s else(λz=>if z=p.2 then cz (s.1 p.1) (s.1 p.2) else if z=p.1 then cz (s.1 p.1) (s.1 p.2) else s.1 z,true)
structure Lab (bd:List Str) (W w:Nat) (L:Cell->Cell):Prop where
 on:∀x,On bd.length W x->On bd.length W (L x)
 cn:∀x,On bd.length W x->Cn bd W w x (L x)
 le:∀x,On bd.length W x->rank W (L x)<=rank W x
def mu(R W:Nat)(L:Cell->Cell):Nat:=((aw R W).map λx=>rank W (L x)).sum
def zN(bd:List Str)(W w:Nat)(p:Cell×Cell):Prop:=On bd.length W p.1/\On bd.length W p.2/\Cn bd W w p.1 p.2
def yr(hw:Ways w){p:Cell×Cell}(hp:zN bd W w p)(h:Lab bd W w s.1):
 Lab bd W w (dY s p).1/\mu bd.length W (dY s p).1<=mu bd.length W s.1/\((dY s p).2=s.2/\(dY s p).1=s.1/\s.1 p.1=s.1 p.2\/(dY s p).2=true/\mu bd.length W (dY s p).1<mu bd.length W s.1):=by
 obtain⟨h1,h2,h3⟩:=hp;unfold dY;by_cases e:s.1 p.1=s.1 p.2
 ·rw[adF e];exact⟨h,WO _, .inl ⟨rfl,rfl,e⟩⟩
 ·rw[adG e];have o1:=h.on _ h1;have o2:=h.on _ h2;have hle:=Ds o1 o2;have Tq:=Dt (s.1 p.1) (s.1 p.2);have kg:On bd.length W (cz (s.1 p.1) (s.1 p.2)):=by rcases Tq with q | q<;>rw[q]<;>assumption
  have c1:Cn bd W w p.1 (cz (s.1 p.1) (s.1 p.2)):=by
   rcases Tq with q | q<;>rw[q]
   ·exact h.cn _ h1
   ·exact h3.trans (h.cn _ h2)
  have c2:Cn bd W w p.2 (cz (s.1 p.1) (s.1 p.2)):=(h3.symm hw h1).trans c1;have TK:∀z,On bd.length W z->rank W (if z=p.2 then cz (s.1 p.1) (s.1 p.2) else if z=p.1 then cz (s.1 p.1) (s.1 p.2) else s.1 z)<=rank W (s.1 z):=λz hz=>by
   by_cases z1:z=p.2
   ·rw[adF z1,z1];exact hle.2
   ·rw[adG z1];by_cases z2:z=p.1
    ·rw[adF z2,z2];exact hle.1
    ·rw[adG z2];exact WO _
  have lt':mu bd.length W (λz=>if z=p.2 then cz (s.1 p.1) (s.1 p.2) else if z=p.1 then cz (s.1 p.1) (s.1 p.2) else s.1 z)<mu bd.length W s.1:=by
   refine G2 (λx hx=>TK x (az.mp hx)) ?_;have g6:rank W (s.1 p.1)≠rank W (s.1 p.2):=λz=>e (mL o1 o2 z);by_cases q:rank W (s.1 p.1)<rank W (s.1 p.2)
   ·refine⟨p.2,az.mpr h2,?_⟩;show rank W (if p.2=p.2 then _ else _)<_;rw[adF rfl];omega
   ·refine⟨p.1,az.mpr h1,?_⟩;by_cases q2:p.1=p.2
    ·rw[q2] at g6;exact adK rfl g6
    ·show rank W (if p.1=p.2 then _ else if p.1=p.1 then _ else _)<_;rw[adG q2,adF rfl];omega
  refine⟨⟨λx hx=>?_,λx hx=>?_,λx hx=>Xf (TK x hx) (h.le x hx)⟩,Yc lt', .inr ⟨rfl,lt'⟩⟩
  ·show On _ _ (if x=p.2 then _ else if x=p.1 then _ else s.1 x);split
   ·exact kg
   ·split
    ·exact kg
    ·exact h.on x hx
  ·show Cn _ _ _ _ (if x=p.2 then _ else if x=p.1 then _ else s.1 x);by_cases z1:x=p.2
   ·rw[adF z1,z1];exact c2
   ·rw[adG z1];by_cases z2:x=p.1
    ·rw[adF z2,z2];exact c1
    ·rw[adG z2];exact h.cn x hx
def Kc(hw:Ways w):∀(ps:List (Cell×Cell)) (s:(Cell->Cell)×Bool),(∀p∈ps,zN bd W w p)->Lab bd W w s.1->
 Lab bd W w (ps.foldl dY s).1/\mu bd.length W (ps.foldl dY s).1<=mu bd.length W s.1/\((ps.foldl dY s).2=s.2/\(ps.foldl dY s).1=s.1/\(∀p∈ps,s.1 p.1=s.1 p.2)\/(ps.foldl dY s).2=true/\mu bd.length W (ps.foldl dY s).1<mu bd.length W s.1)
 |[],s,_,h=>⟨h,WO _, .inl ⟨rfl,rfl,λp hp=>by cases hp⟩⟩
 |p::ps,s,hp,h=>by
  obtain⟨a1,a2,a3⟩:=yr hw (hp p (WB ..)) h;obtain⟨b1,b2,b3⟩:=Kc hw ps (dY s p) (λq hq=>hp q (Wz _ hq)) a1;rw[Z3];refine⟨b1,Xf b2 a2,?_⟩;rcases b3 with⟨c1,c2,c3⟩ | ⟨c1,c2⟩
  ·rcases a3 with⟨d1,d2,d3⟩ | ⟨d1,d2⟩
   ·refine .inl ⟨c1.trans d1,c2.trans d2,λq hq=>?_⟩;rcases WG.mp hq with rfl | hq
    ·exact d3
    ·rw[<-d2];exact c3 q hq
   ·exact .inr ⟨c1.trans d1,by rw[c2];exact d2⟩
  ·exact .inr ⟨c1,W_ c2 a2⟩
def pD(p:Cell×Cell):D:= .tup [cD p.1,cD p.2]
def Im(bd:List Str)(W w:Nat)(ps:List (Cell×Cell))(s:(Cell->Cell)×Bool)(x8 x9 PL:Option Sl):cQ:=[fz (brd bd),fz (iW w),some (.ow (vf (aw bd.length W) λx=>cD (s.1 x))),fz (.lst (ps.map pD)),none,none,none,fz (.bl s.2),x8,x9,PL]
def uS(h:x∈ks):bW ks x=ks:=adF h
def Ip(hg:Wd bd W)(h1:On bd.length W p.1)(h2:On bd.length W p.2):
 TJ (Im bd W w ps s (fz (cD p.1)) (fz (cD p.2)) none)=ae (.nx (Im bd W w ps (dY s p) none none none)):=by
 have hm:bd.length*W<=64:=YQ hg.r8 hg.w8;have NW:(aw bd.length W).length<lim:=by rw[aX,cF];omega
 have m1:=az.mpr h1;have m2:=az.mpr h2;have i1:∀{PL:Option Sl},d2 cy (dV 2) (dV 8) (og (Im bd W w ps s (fz (cD p.1)) (fz (cD p.2)) PL))=ae (cD (s.1 p.1)):=(aM (y:=cD p.1) rfl rfl).trans (iY m1);have i2:∀{PL:Option Sl},d2 cy (dV 2) (dV 9) (og (Im bd W w ps s (fz (cD p.1)) (fz (cD p.2)) PL))=ae (cD (s.1 p.2)):=(aM (y:=cD p.2) rfl rfl).trans (iY m2);have ht:Hq (cW (d2 qi (d2 cy (dV 2) (dV 8)) (d2 cy (dV 2) (dV 9)))) (Im bd W w ps s (fz (cD p.1)) (fz (cD p.2)) none)=ae (!decide (s.1 p.1=s.1 p.2)):=zp (fS ((aM i1 i2).trans (OP _ _)));unfold dY;by_cases e:s.1 p.1=s.1 p.2
 ·rw[adJ e] at ht;rw[adF e];exact(aT (eE ht rfl)).trans rfl
 ·rw[adI e] at ht;rw[adG e];have Rj:Hd (dA yu (aC (d2 cy (dV 2) (dV 8)) (aC (d2 cy (dV 2) (dV 9)) aN))) (Im bd W w ps s (fz (cD p.1)) (fz (cD p.2)) none)=ae (cD (cz (s.1 p.1) (s.1 p.2))):=
   Bm ((bo (aH i1 (aH i2 rfl))).trans (Iw _ _)) (HM _)
  refine(aT (fK ht (ao ((aO Rj).trans rfl) (ao ((jh rfl rfl rfl NW).trans rfl) (ao ((jh rfl rfl rfl (by rw[uS m1];exact NW)).trans rfl) rfl))))).trans ?_;rw[uS m1,uS m2];unfold Im;have ef:dS (dS (λx=>cD (s.1 x)) p.1 (cD (cz (s.1 p.1) (s.1 p.2)))) p.2 (cD (cz (s.1 p.1) (s.1 p.2)))=λx=>cD (if x=p.2 then cz (s.1 p.1) (s.1 p.2) else if x=p.1 then cz (s.1 p.1) (s.1 p.2) else s.1 x):=by
   funext x;unfold dS;by_cases z1:x=p.2
   ·rw[adF z1,adF z1]
   ·rw[adG z1,adG z1];by_cases z2:x=p.1
    ·rw[adF z2,adF z2]
    ·rw[adG z2,adG z2]
  rw[ef];rfl
end
def FL(h:δ ρ=ae c):uK i δ ρ=ae (.nx (ρ.set i (some (.ow c)))):=by
 unfold uK;rw[h];rfl
def yg(h:δ ρ=ae (cL l)):bX δ ρ=ae (l.map cD):=by
 show (δ ρ>>=lstM)=_;rw[h];rfl
def cX(R W:Nat):RiseC (aw R W):=by
 unfold RiseC aw dQ;rw[acD];constructor
 ·intro r _;rw[Yr];exact List.pairwise_lt_range.imp λh=>by show (if _ then _ else _)=true;rw[adF rfl,adH];exact h
 ·refine List.pairwise_lt_range.imp λ{a b} h x hx y hy=>?_;obtain⟨i,_,rfl⟩:=WM.mp hx;obtain⟨j,_,rfl⟩:=WM.mp hy;show (if a=b then _ else decide (a<b))=true;rw[adG (by omega),adH];exact h
section
variable{bd:List Str}{W w:Nat}
def xy(bd:List Str)(x y:Cell):Bool:=tJ x y&&decide (lt bd x=lt bd y)
def Hu(bd:List Str)(x y:Cell):List D:=if xy bd x y then [pD (x,y)] else []
def bZ(bd:List Str)(W w:Nat):List (Cell×Cell):=(aw bd.length W).flatMap λx=>((lO bd.length W w x).filter (xy bd x)).map λy=>(x,y)
def lC(hw:Ways w):p∈bZ bd W w↔On bd.length W p.1/\On bd.length W p.2/\gx w p.1 p.2=true/\lt bd p.1=lt bd p.2/\tJ p.1 p.2=true:=by
 unfold bZ xy;simp only[Zo,WM,W7,WR,adH];constructor
 ·rintro⟨x,hx,y,⟨hy,h1,h2⟩,rfl⟩;have hx:=az.mp hx;have:=(qM hw hx).mp hy;exact⟨hx,this.1,this.2,h2,h1⟩
 ·rintro⟨h1,h2,h3,h4,h5⟩;exact⟨p.1,az.mpr h1,p.2,⟨(qM hw h1).mpr ⟨h2,h3⟩,h5,h4⟩,rfl⟩
def rC(hw:Ways w)(h:p∈bZ bd W w):zN bd W w p:=by
 obtain⟨h1,h2,h3,h4,_⟩:=(lC hw).mp h;exact⟨h1,h2,Cn.refl.step ((gu hw).mpr ⟨h2,h3,h4.symm⟩)⟩
def xx(x:Cell):∀l:List Cell,l.flatMap (Hu bd x)=((l.filter (xy bd x)).map λy=>(x,y)).map pD
 |[]=>rfl
 |y::l=>by
  rw[Ys,xx x l];unfold Hu;by_cases h:xy bd x y=true
  ·rw[adF h,aap h];rfl
  ·rw[adG h,aaq h];rfl
def Ek(bd:List Str)(w:Nat)(o:Option Sl)(u8:List D)(x4 x5 x6:Option Sl):cQ:=[fz (brd bd),fz (iW w),o,some (.ow (.lst u8)),x4,x5,x6,none,none,none,none]
def Jg(hg:Wd bd W)(hx:On bd.length W x)(hy:On bd.length W y)(hl:(u8++Hu bd x y).length<=600):
 Qq (Ek bd w o u8 (fz (cD x)) (fz (cD y)) none)=ae (.nx (Ek bd w o (u8++Hu bd x y) (fz (cD x)) none none)):=by
 have ht:lq (cW (d2 Ab (dV 4) (dV 5))) (cW (d2 lU (dV 6) (d2 ni (d2 ba (dV 0) (d2 ba (dV 5) (dC (.int 0)))) (d2 ba (dV 5) (dC (.int 1)))))) (Ek bd w o u8 (fz (cD x)) (fz (cD y)) (fz (sg (lt bd x))))=ae (xy bd x y):=
  ve (fS ((aM rfl rfl).trans (HN _ _))) (fS ((aM rfl (GU hg hy rfl rfl)).trans (JY _ _)))
 have h6:d2 ni (d2 ba (dV 0) (d2 ba (dV 4) (dC (.int 0)))) (d2 ba (dV 4) (dC (.int 1))) (Ek bd w o u8 (fz (cD x)) (fz (cD y)) none)=ae (sg (lt bd x)):=GU hg hx rfl rfl;unfold Hu at hl⊢;by_cases hb:xy bd x y=true
 ·rw[adF hb] at hl⊢;rw[hb] at ht;refine(aT (ρ':=Ek bd w o (u8++[pD (x,y)]) (fz (cD x)) (fz (cD y)) (fz (sg (lt bd x)))) (ao ((aO h6).trans rfl) (fK ht ?_))).trans rfl;show (if u8.length<lim then ae (Out.nx (Ek bd w o (u8++[pD (x,y)]) (fz (cD x)) (fz (cD y)) (fz (sg (lt bd x))))) else ag)=_;rw[adF (by rw[WL] at hl;rw[cF];simp at hl;omega)]
 ·rw[adG hb,Xp];rw[Zf.mpr hb] at ht;exact(aT (ao ((aO h6).trans rfl) (eE ht rfl))).trans rfl
def l9(f:α->List β)(h:∀a,(f a).length<=n):∀l:List α,(l.flatMap f).length<=n*l.length
 |[]=>Xq _
 |a::l=>by
  rw[Ys,WL,WE,Nat.mul_add,Nat.mul_one];have:=h a;have:=l9 f h l;omega
def Jf(hg:Wd bd W)(hw:Ways w):forL (putN 4) (b9 [4,5,6] (cN (putN 5) (bX (ay 3 dW (aC (dV 0) (aC (dV 4) (aC (dV 1) aN))))) Qq)) ((aw bd.length W).map cD) (Ek bd w o [] none none none)=ae (.nx (Ek bd w o ((bZ bd W w).map pD) none none none)):=by
 have hm:bd.length*W<=64:=YQ hg.r8 hg.w8;have CY:(aw bd.length W).flatMap (λx=>(lO bd.length W w x).flatMap (Hu bd x))=(bZ bd W w).map pD:=by
  unfold bZ;rw[ZT];congr 1;funext x;exact xx x _
 have Tn:((bZ bd W w).map pD).length<=576:=by
  rw[Ww];have:=l9 (λx=>((lO bd.length W w x).filter (xy bd x)).map λy=>(x,y)) (λx=>by rw[Ww];exact Xf (XO ..) (xu ..)) (aw bd.length W);rw[aX] at this;exact Xf this (by omega)
 have:=d7 (put:=putN 4) (body:=b9 [4,5,6] (cN (putN 5) (bX (ay 3 dW (aC (dV 0) (aC (dV 4) (aC (dV 1) aN))))) Qq)) (B:=600) cD (λu8=>Ek bd w o u8 none none none) (λx=>(lO bd.length W w x).flatMap (Hu bd x)) (aw bd.length W) [] (by rw[Xa,CY];omega) λx hx u8 hl=>by
  have hx:=az.mp hx;refine⟨Ek bd w o u8 (fz (cD x)) none none,rfl,(aT (ρ':=Ek bd w o (u8++(lO bd.length W w x).flatMap (Hu bd x)) (fz (cD x)) none none) (da (ds:=(lO bd.length W w x).map cD) ?_ ?_)).trans rfl⟩
  ·exact yg ((aq rfl rfl).trans (vA hg))
  ·exact d7 cD (λu8=>Ek bd w o u8 (fz (cD x)) none none) (Hu bd x) _ u8 hl λy hy kJ Ej=>⟨_,rfl,Jg hg hx ((qM hw hx).mp hy).1 Ej⟩
 rw[Xa,CY] at this;exact this
def OJ(bd:List Str)(W w:Nat)(s:(Cell->Cell)×Bool)(x3:Option Sl):cQ:=[fz (brd bd),fz (iW w),some (.ow (vf (aw bd.length W) λx=>cD (s.1 x))),x3,none,none,none,fz (.bl s.2),none,none,none]
def Io(hg:Wd bd W)(hw:Ways w)(h3:x3=some (.ow (.lst ((bZ bd W w).map pD)))\/x3=fz (.lst ((bZ bd W w).map pD)))(h:Lab bd W w L):
 RS (OJ bd W w (L,b) x3)=ae (.nx (OJ bd W w ((bZ bd W w).foldl dY (L,false)) (fz (.lst ((bZ bd W w).map pD))))):=by
 have hf:=(gq (put:=jw [8,9]) pD (λs=>Im bd W w (bZ bd W w) s none none none) dY (λs=>Lab bd W w s.1) (bZ bd W w) (L,false) h λs hs p hp=>by
  obtain⟨q1,q2,q3⟩:=rC hw hp;exact⟨(yr hw (rC hw hp) hs).1,_,rfl,Ip hg q1 q2⟩).2
 refine(aT (ρ':=Im bd W w (bZ bd W w) ((bZ bd W w).foldl dY (L,false)) none none none) (ao rfl ?_)).trans rfl;rcases h3 with rfl | rfl
 ·exact da rfl hf
 ·exact da rfl hf
def ym(hg:Wd bd W)(hw:Ways w):∀(fuel:Nat) (L:Cell->Cell) (x3:Option Sl),x3=some (.ow (.lst ((bZ bd W w).map pD)))\/x3=fz (.lst ((bZ bd W w).map pD))->Lab bd W w L->mu bd.length W L+2<=fuel->
 ∃L',Lab bd W w L'/\(∀p∈bZ bd W w,L' p.1=L' p.2)/\fo (du (dV 7)) RS fuel (OJ bd W w (L,true) x3)=ae (.nx (OJ bd W w (L',false) (fz (.lst ((bZ bd W w).map pD)))))
 |0,_,_,_,_,hf=>by omega
 |1,_,_,_,_,hf=>by omega
 |fuel+2,L,x3,h3,h,hf=>by
  have hp:=Io (b:=true) hg hw h3 h;obtain⟨a1,a2,a3⟩:=Kc hw (bZ bd W w) (L,false) (λp hp=>rC hw hp) h;rcases a3 with⟨b1,b2,b3⟩ | ⟨b1,b2⟩
  ·have e:(bZ bd W w).foldl dY (L,false)=(L,false):=ace b2 b1;rw[e] at hp;exact⟨L,h,b3,si (il rfl) hp (zu (il rfl))⟩
  ·have e:(bZ bd W w).foldl dY (L,false)=(((bZ bd W w).foldl dY (L,false)).1,true):=ace rfl b1;obtain⟨L',c1,c2,c3⟩:=ym hg hw (fuel+1) _ _ (.inr rfl) a1 (by have b2:mu bd.length W _<mu bd.length W L:=b2;omega);rw[e] at hp;exact⟨L',c1,c2,si (il rfl) hp c3⟩
def Least(bd:List Str)(W w:Nat)(x m:Cell):Prop:=Cn bd W w x m/\∀z,Cn bd W w x z->rank W m<=rank W z
def rX(hw:Ways w){L:Cell->Cell}(h:∀p∈bZ bd W w,L p.1=L p.2)(hx:On bd.length W x):∀{j:Nat}{y:Cell},Rb (bL bd W w) x j y->L x=L y
 |0,y,h0=>by rw[show y=x from h0]
 |j+1,y,h0=>by
  rcases h0 with q | ⟨z,q1,q2⟩
  ·exact rX hw h hx q
  ·rw[rX hw h hx q1];have hz:=yZ hw hx q1;obtain⟨y1,y2,y3⟩:=(gu hw).mp q2;by_cases fM:rank W z<rank W y
   ·exact h (z,y) ((lC hw).mpr ⟨hz,y1,y2,y3.symm,(eK hz y1).mpr fM⟩)
   ·have g6:rank W z≠rank W y:=λe=>by
     have:=mL hz y1 e;subst this;rw[LS hw] at y2;cases y2
    exact(h (y,z) ((lC hw).mpr ⟨y1,hz,by rw[qY];exact y2,y3,(eK y1 hz).mpr (by omega)⟩)).symm
def qI(hg:Wd bd W)(hw:Ways w):∃L:Cell->Cell,(∀x,On bd.length W x->Least bd W w x (L x))/\fX [brd bd,iW w]=ae (lr (aw bd.length W) λx=>cD (L x)):=by
 have hm:bd.length*W<=64:=YQ hg.r8 hg.w8;have l0:Lab bd W w id:=⟨λx hx=>hx,λx hx=>Cn.refl,λx hx=>WO _⟩
 have Wq:mu bd.length W id<=4032:=by
  unfold mu;have:=AY (l:=aw bd.length W) λx hx=>by
   have:=Js (az.mp hx);show rank W x<=63;omega
  refine Xf this ?_;rw[List.map_const',List.sum_replicate_nat,aX];have:bd.length*W*63<=64*63:=Z0 _ hm;omega
 obtain⟨L,h1,h2,h3⟩:=ym hg hw lim id (some (.ow (.lst ((bZ bd W w).map pD)))) (.inl rfl) l0 (by rw[cF];omega);refine⟨L,λx hx=>⟨h1.cn x hx,λz hz=>?_⟩,?_⟩
 ·obtain⟨j,q⟩:=hz;rw[rX hw h2 hx q];exact h1.le z (yZ hw hx q)
 ·have Fb:((aw bd.length W).map keyOf).Nodup:=by
   exact(cX _ _).nodup.map (f:=keyOf) λa b h z=>h (iI z)
  have pk:(aC (a7 0 (bX (ay 1 cZ (aC (dV 0) aN))) bI (dA aS (aC (dV 0) (aC (dV 0) aN)))) aN) [fz (brd bd),fz (iW w),none,none,none,none,none,none,none,none,none]=ae [.lst ((aw bd.length W).map λx=>pD (x,x))]:=by
   refine aH (bq ?_ (cJ cD (λx=>pD (x,x)) _ λx _=>rfl) (by rw[Ww,aX,cF];omega)) rfl;exact yg ((aq rfl rfl).trans (jI hg))
  have Rp:∀l:List Cell,lG (l.map λx=>pD (x,x))=some (l.map keyOf,l.map cD):=λl=>by
   induction l with
   |nil=>rfl
   |cons a l ih=>
    show (match eF (cD a),lG (l.map λx=>pD (x,x)) with | some kk,some q=>some (kk::q.1,cD a::q.2) | _,_=>none)=_;rw[ih];rfl
  refine bb (ao (ρ':=[fz (brd bd),fz (iW w),some (.ow (vf (aw bd.length W) cD)),none,none,none,none,none,none,none,none]) ?_ (ao rfl (ao (cG (da ?_ (Jf hg hw))) (ao rfl (ao (ρ':=OJ bd W w (L,false) (fz (.lst ((bZ bd W w).map pD)))) ?_ rfl)))))
  ·refine FL ?_;refine(adM (· >>=Bo) pk).trans ?_;show (match lG ((aw bd.length W).map λx=>pD (x,x)) with | some q=>if q.1.Nodup/\q.2.length<=lim then ae (C.dct q.1 q.2) else ag | none=>ag)=_;rw[Rp];show (if ((aw bd.length W).map keyOf).Nodup/\((aw bd.length W).map cD).length<=lim then ae (C.dct ((aw bd.length W).map keyOf) ((aw bd.length W).map cD)) else ag)=_;rw[adF ⟨Fb,by rw[Ww,aX,cF];omega⟩];rfl
  ·exact yg ((aq rfl rfl).trans (jI hg))
  ·exact cG h3
end
def NU:((aw 8 8).map λc=>gY (ic c)).Nodup:=by decide+kernel
def uh:∀{l:List α},(l.map f).Nodup->∀a∈l,∀b∈l,f a=f b->a=b
 |x::l,h,a,ha,b,hb,e=>by
  rw[WD,X9] at h;by_cases h1:a=x
  ·by_cases h2:b=x
   ·rw[h1,h2]
   ·have hb:b∈l:=(WG.mp hb).resolve_left h2;exact adK (WM.mpr ⟨b,hb,by rw[<-h1];exact e.symm⟩) h.1
  ·have ha:a∈l:=(WG.mp ha).resolve_left h1;by_cases h2:b=x
   ·exact adK (WM.mpr ⟨a,ha,by rw[<-h2];exact e⟩) h.1
   ·exact uh h.2 a ha b ((WG.mp hb).resolve_left h2) e
def HQ(hR:R<=8)(hW:W<=8){l:List Cell}(hn:l.Nodup)(kg:∀x∈l,On R W x):(l.map λc=>gY (ic c)).Nodup:=by
 have h8:∀x∈l,x∈aw 8 8:=λx hx=>az.mpr ⟨by have:=(kg x hx).1;omega,by have:=(kg x hx).2;omega⟩;rw[Xr,Yr];refine List.Pairwise.imp_of_mem (λ{a b} ha hb h z=>h ?_) hn;exact uh NU a (h8 a ha) b (h8 b hb) z
def Mz{ks:List Cell}{f:Cell->D}{x:Cell}{d:D}:dZ (ks.map keyOf) (ks.map f) (keyOf x)=(bW ks x).map keyOf/\c_ (ks.map keyOf) (ks.map f) (keyOf x) d=(bW ks x).map (dS f x d):=by
 unfold bW dZ c_;by_cases h:x∈ks
 ·rw[mT h,adF h];exact⟨rfl,wy⟩
 ·rw[gA h,adG h];have e1:ks.map f=ks.map (dS f x d):=X2 λy hy=>by
   unfold dS;rw[adG (λz:y=x=>h (z▸hy))]
  have e2:(ks++[x]).map (dS f x d)=ks.map (dS f x d)++[d]:=by
   rw[X_];congr 1;show [dS f x d x]=[d]
   unfold dS;rw[adF rfl]
  exact⟨by rw[X_];rfl,by rw[e2,<-e1];rfl⟩
def qQ:∀(l ks:List Cell),dh (ks.map keyOf) (a_ ks) (l.map keyOf) (a_ l)=((l.foldl bW ks).map keyOf,a_ (l.foldl bW ks))
 |[],ks=>rfl
 |x::l,ks=>by
  show dh (dZ (ks.map keyOf) (a_ ks) (keyOf x)) (c_ (ks.map keyOf) (a_ ks) (keyOf x) (.bl true)) (l.map keyOf) (a_ l)=_;have h:=Mz (ks:=ks) (f:=λ_=>D.bl true) (x:=x) (d:= .bl true);have e:dS (λ_=>D.bl true) x (.bl true)=λ_=>D.bl true:=by
   funext y;unfold dS;split<;>rfl
  rw[e] at h;rw[show a_ ks=ks.map (λ_=>D.bl true) from rfl,h.1,h.2];exact qQ l (bW ks x)
def ER{l ks:List Cell}(h:ks.Nodup):(l.foldl bW ks).Nodup:=(jC l ks).1 h
section
open Classical
variable{bd:List Str}{W w:Nat}
noncomputable def bM(bd:List Str)(W w:Nat)(m:Cell):List Cell:=(aw bd.length W).filter λx=>decide (Cn bd W w m x)
noncomputable def cp(bd:List Str)(W w:Nat)(l:List Cell):List Cell:=l.filter λx=>decide (Least bd W w x x)
def eD(hw:Ways w){m:Cell}(hm:On bd.length W m):IsPatch bd W w m (bM bd W w m):=by
 refine⟨(cX _ _).filter _,λx=>?_⟩;unfold bM;rw[W7,az,adH];exact⟨λh=>h.2,λh=>⟨h.on hw hm,h⟩⟩
def Least.on(hw:Ways w){x m:Cell}(hx:On bd.length W x)(h:Least bd W w x m):On bd.length W m:=h.1.on hw hx
def Least.move(hw:Ways w){x y m:Cell}(hx:On bd.length W x)(h:Least bd W w x m)(hy:Cn bd W w x y):Least bd W w y m:=
 ⟨(hy.symm hw hx).trans h.1,λz hz=>h.2 z (hy.trans hz)⟩
def Least.one(hw:Ways w){x m n:Cell}(hx:On bd.length W x)(h:Least bd W w x m)(h2:Least bd W w x n):m=n:=
 mL (h.on hw hx) (h2.on hw hx) (aaM (h.2 n h2.1) (h2.2 m h.1))
def Least.self(hw:Ways w){x m:Cell}(hx:On bd.length W x)(h:Least bd W w x m):Least bd W w m m:=h.move hw hx h.1
variable(L:Cell->Cell)
def ub(hw:Ways w):∃L:Cell->Cell,∀x,On bd.length W x->Least bd W w x (L x):=by
 have h:∀x,∃m,On bd.length W x->Least bd W w x m:=λx=>by
  by_cases hx:On bd.length W x
  ·have hP:=eD hw hx;cases hp:bM bd W w x with
   |nil=>have:=(hP.mem x).mpr Cn.refl;rw[hp] at this;cases this
   |cons m r=>
    rw[hp] at hP;have hm:=(hP.mem m).mp (WB ..);refine⟨m,λ_=>⟨hm,λz hz=>?_⟩⟩;rcases WG.mp ((hP.mem z).mpr hz) with rfl | VN
    ·exact WO _
    ·exact Yc ((eK (hm.on hw hx) (hz.on hw hx)).mp ((Ym.mp hP.rise).1 z VN))
  ·exact⟨x,λz=>adK z hx⟩
 exact⟨λx=>acI (h x),λx=>abW (h x)⟩
noncomputable def pF(L:Cell->Cell)(s:List Cell):Cell->D:=λk=>cL (s.filter λx=>decide (L x=k))
noncomputable def TM(L:Cell->Cell)(s:List Cell):C:=vf (bw (s.map L)) (pF L s)
noncomputable def Hn(bd:List Str)(W w:Nat)(L:Cell->Cell)(s:List Cell)(x4:Option Sl):cQ:=[fz (brd bd),fz (iW w),fz (lr (aw bd.length W) λx=>cD (L x)),some (.ow (TM L s)),x4]
def Bn:∀l:List Cell,qb (l.map cD)=true
 |[]=>rfl
 |x::l=>by
  show (tO (cD x)&&qb (l.map cD))=true;rw[Bn l];rfl
def HC{δ:DE}{ρ:cQ}{l:List Cell}(h1:mw ρ=true)(h:δ (og ρ)=ae (cL l)):NC δ ρ=ae (cL l):=by
 unfold NC;rw[adF h1,h];show (if tO (cL l) then ae (cL l) else ag)=_;rw[adF (show tO (cL l)=true from Bn l)]
def An(l:List Cell)(x:Cell):bw (l++[x])=bW (bw l) x:=by
 unfold bw;rw[adB];rfl
def EZ{i:Nat}{ρ:cQ}{δk:DE}{ks:List Cell}{f:Cell->D}{k:Cell}(h1:dV i ρ=ae (lr ks f))(h2:δk ρ=ae (cD k)):ju (dV i) δk (dA bS aN) ρ=ae (if k∈ks then f k else .lst []):=by
 unfold ju;rw[h1,ax];show (δk ρ>>=λk=>dA bS aN ρ>>=λv=>getM (lr ks f) k v)=_;rw[h2,ax];show getM (lr ks f) (cD k) (.lst [])=_;by_cases h:k∈ks
 ·rw[vj h,adF h]
 ·rw[qj h,adG h]
def Iv(hg:Wd bd W){L:Cell->Cell}{s:List Cell}{x:Cell}(hx:On bd.length W x)(hs:s.length<64):RU (Hn bd W w L s (fz (cD x)))=ae (.nx (Hn bd W w L (s++[x]) none)):=by
 have hl:(bw (s.map L)).length<lim:=by
  have:=nr (s.map L);rw[Ww] at this;rw[cF];omega
 have i1:∀{o:Option Sl},d2 cy (dV 2) (dV 4) [fz (brd bd),fz (iW w),fz (lr (aw bd.length W) λx=>cD (L x)),o,fz (cD x)]=ae (cD (L x)):=(aM (x:=lr (aw bd.length W) λx=>cD (L x)) (y:=cD x) rfl rfl).trans (iY (az.mpr hx));have hv:NC (d2 gG (ju (dV 3) (d2 cy (dV 2) (dV 4)) (dA bS aN)) (dA bS (aC (dV 4) aN))) (Hn bd W w L s (fz (cD x)))=ae (cL ((s.filter λy=>decide (L y=L x))++[x])):=by
  refine HC rfl ?_;have g:ju (dV 3) (d2 cy (dV 2) (dV 4)) (dA bS aN) (og (Hn bd W w L s (fz (cD x))))=ae (cL (s.filter λy=>decide (L y=L x))):=by
   refine(EZ (i:=3) (ks:=bw (s.map L)) (f:=pF L s) (k:=L x) rfl i1).trans ?_;by_cases h:L x∈bw (s.map L)
   ·rw[adF h];rfl
   ·rw[adG h];have:s.filter (λy=>decide (L y=L x))=[]:=List.filter_eq_nil_iff.mpr λy hy=>by
     rw[adH];exact λz=>h (gr.mpr (WM.mpr ⟨y,hy,z⟩))
    rw[this];rfl
  exact(aM (y:=cL [x]) g rfl).trans (KH (by have:=XO (λy=>decide (L y=L x)) s;show _+1<=4096;omega))
 refine(aT ((jh (ks:=bw (s.map L)) (f:=pF L s) (x:=L x) rfl hv i1 hl).trans rfl)).trans ?_;have ef:dS (pF L s) (L x) (cL ((s.filter λy=>decide (L y=L x))++[x]))=pF L (s++[x]):=by
  funext k;unfold dS pF;rw[adn];by_cases e:k=L x
  ·subst e;rw[adF rfl,aap (by simp),aaE]
  ·rw[adG e,aaq (by simp;exact λz=>e z.symm),aaE,Xp]
 show ae (Out.nx [fz (brd bd),fz (iW w),fz (lr (aw bd.length W) λx=>cD (L x)),some (.ow (vf (bW (bw (s.map L)) (L x)) (dS (pF L s) (L x) (cL ((s.filter λy=>decide (L y=L x))++[x]))))),none])=_;rw[ef,<-An];unfold Hn TM;rw[X_];rfl
def BK(hg:Wd bd W){L:Cell->Cell}:∀(l s:List Cell),(∀x∈l,On bd.length W x)->s.length+l.length<=64->forL (putN 4) RU (l.map cD) (Hn bd W w L s none)=ae (.nx (Hn bd W w L (s++l) none))
 |[],s,_,_=>by rw[Xp];rfl
 |x::l,s,h,hl=>by
  rw[WE] at hl;have:=BK hg (L:=L) l (s++[x]) (λy hy=>h y (Wz _ hy)) (by rw[WL];show _+1+_<=_;omega);rw[ZJ] at this;exact(cj rfl (Iv hg (h x (WB ..)) (by omega))).trans this
noncomputable def jS(bd:List Str)(W w:Nat):D:= .lst ((cp bd W w (aw bd.length W)).map λm=>cL (bM bd W w m))
def sF(hg:Wd bd W)(hs:bd.length*W<64)(hw:Ways w):cK [brd bd,iW w]=ae (jS bd W w):=by
 have hm:bd.length*W<=64:=YQ hg.r8 hg.w8;obtain⟨L,hL,eL⟩:=qI hg hw;have P3:(aw bd.length W).length<=64:=by rw[aX];omega
 have lp:=BK (w:=w) (L:=L) hg (aw bd.length W) [] (λx hx=>az.mp hx) (by simpa using P3);rw[Xa] at lp;have N6:(bw ((aw bd.length W).map L)).length<64:=by
  have:=nr ((aw bd.length W).map L);rw[Ww,aX] at this;omega
 have J9:iQ (bw ((aw bd.length W).map L))=cp bd W w (aw bd.length W):=by
  refine nQ (fm (qV _)) ((cX _ _).filter _) λk=>?_;rw[dD,gr,WM];unfold cp;rw[W7,adH];constructor
  ·rintro⟨x,hx,rfl⟩;have hx:=az.mp hx;exact⟨az.mpr ((hL x hx).on hw hx),(hL x hx).self hw hx⟩
  ·rintro⟨hk,h⟩;exact⟨k,hk,(hL k (az.mp hk)).one hw (az.mp hk) h⟩
 have Li:∀k∈cp bd W w (aw bd.length W),pF L (aw bd.length W) k=cL (bM bd W w k):=λk hk=>by
  unfold cp at hk;rw[W7,adH] at hk;have Vb:=az.mp hk.1;unfold pF bM;congr 1;refine adD λx hx=>?_;have hx:=az.mp hx;rw[adN];constructor
  ·intro e;have:=(hL x hx).1;rw[e] at this;exact this.symm hw hx
  ·intro e;exact(hL x hx).one hw hx (hk.2.move hw Vb e)
 refine bb (ao (ρ':=[fz (brd bd),fz (iW w),fz (lr (aw bd.length W) λx=>cD (L x)),none,none]) ((aO (d:=lr (aw bd.length W) λx=>cD (L x)) ((aq (ds:=[brd bd,iW w]) rfl rfl).trans eL)).trans rfl) (ao (ρ':=Hn bd W w L [] none) rfl (ao (ρ':=Hn bd W w L (aw bd.length W) none) (cG (da (ds:=(aw bd.length W).map cD) (yg ((aq (ds:=[brd bd]) rfl rfl).trans (jI hg))) lp)) ?_)));refine bc (bq (ds:=(cp bd W w (aw bd.length W)).map cD) (ys:=(cp bd W w (aw bd.length W)).map λm=>cL (bM bd W w m)) (yg ?_) (cJ cD (λm=>cL (bM bd W w m)) _ λm hm=>?_) ?_)
 ·rw[<-J9];exact(bo (xs:=[lr (bw ((aw bd.length W).map L)) (pF L (aw bd.length W))]) rfl).trans (rV (qV _) N6)
 ·rw[fP,<-Li m hm];have Vk:m∈bw ((aw bd.length W).map L):=by rw[<-dD,J9];exact hm
  have:d2 cy (dV 4) (dV 0) (fz (cD m)::frz 3 (Hn bd W w L (aw bd.length W) none))=ae (pF L (aw bd.length W) m):=(aM (x:=lr (bw ((aw bd.length W).map L)) (pF L (aw bd.length W))) (y:=cD m) rfl rfl).trans (iY Vk);rw[this];rfl
 ·rw[Ww,cF];have:=XO (λx=>decide (Least bd W w x x)) (aw bd.length W);unfold cp;omega
def pq(hg:Brd bd W)(hs:bd.length*W<64)(hw:Ways w):cK [brd bd,iW w]=ae (jS bd W w):=sF hg.wd hs hw
end
section
open Classical
variable{bd:List Str}{W w:Nat}
noncomputable def Cs(bd:List Str)(W w:Nat)(s:List Cell):List D:=(cp bd W w s).map λm=>cL (bM bd W w m)
noncomputable def Kw(bd:List Str)(W w:Nat)(s ks:List Cell)(x4 x5:Option Sl):cQ:=[fz (brd bd),fz (iW w),some (.ow (.lst (Cs bd W w s))),some (.ow (.dct (ks.map keyOf) (a_ ks))),x4,x5]
structure Seen (bd:List Str) (W w:Nat) (s ks:List Cell):Prop where
 nd:ks.Nodup
 on:∀y∈ks,On bd.length W y
 mem:∀y,y∈ks↔∃m∈cp bd W w s,Cn bd W w m y
def Hc(h0:ρ[i]? =some (some (.ow (.dct (ks.map keyOf) (a_ ks)))))(hd:δ ρ=ae (jG l))(hz:ks.length+l.length<=4096)(hh:ks=[]->((bw l).map λc=>gY (ic c)).Nodup):
 GP i δ ρ=ae (.nx (ρ.set i (some (.ow (.dct (((bw l).foldl bW ks).map keyOf) (a_ ((bw l).foldl bW ks))))))):=by
 unfold GP AF;rw[h0];show (δ ρ>>=λd=>match Hb (ks.map keyOf) (a_ ks) d with | some c'=>ae (Out.nx (ρ.set i (some (.ow c')))) | none=>ag)=_;rw[hd,ax];have:Hb (ks.map keyOf) (a_ ks) (jG l)=some (.dct (((bw l).foldl bW ks).map keyOf) (a_ ((bw l).foldl bW ks))):=by
  show (match fg ((bw l).map keyOf) with | some ns=>if (a_ ks).length+(a_ (bw l)).length<=lim/\((ks.map keyOf).isEmpty=true->(ns.map gY).Nodup) then some (C.dct (dh (ks.map keyOf) (a_ ks) ((bw l).map keyOf) (a_ (bw l))).1 (dh (ks.map keyOf) (a_ ks) ((bw l).map keyOf) (a_ (bw l))).2) else none | none=>none)=_;rw[kj];show (if (a_ ks).length+(a_ (bw l)).length<=lim/\((ks.map keyOf).isEmpty=true->(((bw l).map ic).map gY).Nodup) then some (C.dct (dh (ks.map keyOf) (a_ ks) ((bw l).map keyOf) (a_ (bw l))).1 (dh (ks.map keyOf) (a_ ks) ((bw l).map keyOf) (a_ (bw l))).2) else none)=_;have c1:(a_ ks).length+(a_ (bw l)).length<=lim:=by
   have:=nr l;unfold a_;rw[Ww,Ww,cF];omega
  have c2:(ks.map keyOf).isEmpty=true->(((bw l).map ic).map gY).Nodup:=λz=>by
   rw[Xo];exact hh (by cases ks with | nil=>rfl | cons _ _=>cases z)
  rw[adF ⟨c1,c2⟩,qQ]
 rw[this]
def zl(hg:Brd bd W)(hs:bd.length*W<64)(hw:Ways w)(hx:On bd.length W x)(h0:dV 0 ρ=ae (brd bd))(h1:dV 1 ρ=ae (iW w))(h4:dV 4 ρ=ae (cD x)):
 dA oS (aC (ay 3 dX (aC (dV 0) (aC (dV 4) (aC (dV 1) aN)))) aN) ρ=ae (cL (bM bd W w x)):=by
 obtain⟨k,ks,ps,q1,q2,q3⟩:=rW hg hw hx;have e1:ay 3 dX (aC (dV 0) (aC (dV 4) (aC (dV 1) aN))) ρ=ae (JT ks ps):=(aq (aH h0 (aH h4 (aH h1 rfl))) rfl).trans q3;refine(bo (aH e1 rfl)).trans ((rV q1.nd (abb (uX q1.nd q2) hs)).trans ?_);have:iQ ks=bM bd W w x:=IsPatch.one ⟨fm q1.nd,λx=>dD.trans (q1.last x)⟩ (eD hw hx);rw[this]
def ja(s:List Cell)(x:Cell):cp bd W w (s++[x])=if Least bd W w x x then cp bd W w s++[x] else cp bd W w s:=by
 unfold cp;rw[adn];by_cases h:Least bd W w x x
 ·rw[adF h,aap (by rw[adH];exact h),aaE]
 ·rw[adG h,aaq (by rw[adH];exact h),aaE,Xp]
def Hs(hg:Brd bd W)(hs:bd.length*W<64)(hw:Ways w){L:Cell->Cell}(hL:∀x,On bd.length W x->Least bd W w x (L x))(e:s++x::r=aw bd.length W)(h:Seen bd W w s ks):
 ∃ks',Seen bd W w (s++[x]) ks'/\QJ (Kw bd W w s ks (fz (cD x)) none)=ae (.nx (Kw bd W w (s++[x]) ks' none none)):=by
 have hx:On bd.length W x:=az.mp (by rw[<-e];simp);have Fe:=cX bd.length W;rw[<-e] at Fe;have Nc:∀y∈s,On bd.length W y:=λy hy=>az.mp (by rw[<-e];simp[hy]);have Rv:∀y∈r,On bd.length W y:=λy hy=>az.mp (by rw[<-e];simp[hy]);have HR:∀y∈s,rank W y<rank W x:=λy hy=>(eK (Nc y hy) hx).mp ((acR.mp Fe).2.2 y hy x (WB ..));have K9:∀y∈r,rank W x<rank W y:=λy hy=>(eK hx (Rv y hy)).mp ((Ym.mp (acR.mp Fe).2.1).1 y hy);have M9:ks.length<=64:=by have:=uX h.nd h.on;omega
 have yc:s.length<64:=by
  have:=adM ac1 e;rw[aX,WL,WE] at this;omega
 have ht:Hq (cW (d2 (jE true) (dV 4) (dV 3))) (Kw bd W w s ks (fz (cD x)) none)=ae (!decide (x∈ks)):=
  zp (fS ((aM rfl rfl).trans (pN (by simp[a_]))))
 by_cases hl:Least bd W w x x
 ·have RG:x∉ks:=λz=>by
   obtain⟨m,hm,hc⟩:=(h.mem x).mp z;unfold cp at hm;rw[W7,adH] at hm;have h1:=HR m hm.1;have h2:=hl.2 m (hc.symm hw (Nc m hm.1));omega
  rw[adI RG] at ht;have hP:=eD hw hx;have K6:∀y∈bM bd W w x,On bd.length W y:=λy hy=>((hP.mem y).mp hy).on hw hx;have K5:(bM bd W w x).length<=64:=by have:=uX hP.rise.nodup K6;omega
  have CY:(Cs bd W w s).length<lim:=by
   unfold Cs;rw[Ww,cF];have:=XO (λx=>decide (Least bd W w x x)) s;unfold cp;omega
  refine⟨(bw (bM bd W w x)).foldl bW ks,⟨ER h.nd,λy hy=>?_,λy=>?_⟩,?_⟩
  ·rcases((jC (bw (bM bd W w x)) ks).2.1 y).mp hy with q | q
   ·exact h.on y q
   ·exact K6 y (gr.mp q)
  ·rw[(jC (bw (bM bd W w x)) ks).2.1 y,gr,h.mem y,ja,adF hl,hP.mem y];constructor
   ·rintro(⟨m,hm,hc⟩ | hc)
    ·exact⟨m,XI.mpr (.inl hm),hc⟩
    ·exact⟨x,by simp,hc⟩
   ·rintro⟨m,hm,hc⟩;rcases XI.mp hm with hm | hm
    ·exact .inl ⟨m,hm,hc⟩
    ·rw[XY.mp hm] at hc;exact .inr hc
  ·have ef:Cs bd W w (s++[x])=Cs bd W w s++[cL (bM bd W w x)]:=by
    unfold Cs;rw[ja,adF hl,X_];rfl
   refine(aT (ρ':=[fz (brd bd),fz (iW w),some (.ow (.lst (Cs bd W w s++[cL (bM bd W w x)]))),some (.ow (.dct (((bw (bM bd W w x)).foldl bW ks).map keyOf) (a_ ((bw (bM bd W w x)).foldl bW ks)))),fz (cD x),fz (cL (bM bd W w x))]) (fK ht (ao ((aO (zl hg hs hw hx rfl rfl rfl)).trans rfl) (ao (ρ':=[fz (brd bd),fz (iW w),some (.ow (.lst (Cs bd W w s++[cL (bM bd W w x)]))),some (.ow (.dct (ks.map keyOf) (a_ ks))),fz (cD x),fz (cL (bM bd W w x))]) ?_ ?_)))).trans ?_
   ·show (if (Cs bd W w s).length<lim then ae (Out.nx [fz (brd bd),fz (iW w),some (.ow (.lst (Cs bd W w s++[cL (bM bd W w x)]))),some (.ow (.dct (ks.map keyOf) (a_ ks))),fz (cD x),fz (cL (bM bd W w x))]) else ag)=_;rw[adF CY]
   ·exact(Hc rfl ((aq rfl rfl).trans (t_ (by omega))) (by omega) (λ_=>HQ hg.r8 hg.w8 (qV _) λy hy=>K6 y (gr.mp hy))).trans rfl
   ·unfold Kw;rw[ef];rfl
 ·have hm:=hL x hx;have g6:L x≠x:=λz=>hl (by rw[z] at hm;exact hm);have fM:rank W (L x)<rank W x:=by
   have h1:=hm.2 x Cn.refl;have h2:rank W (L x)≠rank W x:=λz=>g6 (mL (hm.on hw hx) hx z);omega
  have Vm:L x∈s:=by
   have:L x∈s++x::r:=by rw[e];exact az.mpr (hm.on hw hx)
   rcases XI.mp this with q | q
   ·exact q
   ·rcases WG.mp q with q | q
    ·exact adK q g6
    ·have:=K9 _ q;omega
  have RG:x∈ks:=(h.mem x).mpr ⟨L x,by unfold cp;rw[W7,adH];exact⟨Vm,hm.self hw hx⟩,hm.1.symm hw hx⟩;rw[adJ RG] at ht;refine⟨ks,⟨h.nd,h.on,λy=>by rw[ja,adG hl];exact h.mem y⟩,?_⟩;have ef:Cs bd W w (s++[x])=Cs bd W w s:=by
   unfold Cs;rw[ja,adG hl]
  refine(aT (eE ht rfl)).trans ?_;unfold Kw;rw[ef];rfl
def Be(hg:Brd bd W)(hs:bd.length*W<64)(hw:Ways w){L:Cell->Cell}(hL:∀x,On bd.length W x->Least bd W w x (L x)):∀(r s ks:List Cell),s++r=aw bd.length W->Seen bd W w s ks->
 ∃ks',forL (putN 4) QJ (r.map cD) (Kw bd W w s ks none none)=ae (.nx (Kw bd W w (aw bd.length W) ks' none none))
 |[],s,ks,e,h=>by
  rw[Xp] at e;exact⟨ks,by rw[e];rfl⟩
 |x::r,s,ks,e,h=>by
  obtain⟨RP,h1,e1⟩:=Hs hg hs hw hL e h;obtain⟨RQ,e2⟩:=Be hg hs hw hL r (s++[x]) RP (by rw[ZJ];exact e) h1;exact⟨RQ,(cj rfl e1).trans e2⟩
def eh(hg:Brd bd W)(hs:bd.length*W<64)(hw:Ways w):a8 [brd bd,iW w]=ae (jS bd W w):=by
 obtain⟨L,hL⟩:=ub hw;obtain⟨ks,e⟩:=Be hg hs hw hL (aw bd.length W) [] [] rfl ⟨YN,(λy hy=>(by cases hy)),(λy=>⟨λz=>(by cases z),λ⟨m,hm,_⟩=>(by cases hm)⟩)⟩;refine bb (ao rfl (ao rfl (ao (cG (da (yg ((aq rfl rfl).trans (kN hg))) e)) rfl)))
end
structure NumOk (R W:Nat) (Ps:List (List Cell)) (ks:List Cell) (f:Cell->Nat):Prop where
 nd:ks.Nodup
 on:∀y∈ks,On R W y
 num:∀y∈ks,∃P,Ps[f y]? =some P/\y∈P
def TU:DS:=b9 [4] (fV 1 (dV 4) (dV 2))
def Qn(Ps:List (List Cell))(ks:List Cell)(f:Cell->Nat)(x2 x3 x4:Option Sl):cQ:=[fz (.lst (Ps.map cL)),some (.ow (vf ks λy=> .int (f y:Int))),x2,x3,x4]
def j7:x∈bW ks x:=b_.mpr (.inr rfl)
def Kf(hm:R*W<=64){i:Nat}(hP:Ps[i]? =some P)(kg:∀y∈P,On R W y):∀(l ks:List Cell) (f:Cell->Nat),(∀y∈l,y∈P)->NumOk R W Ps ks f->
 ∃ks' f',NumOk R W Ps ks' f'/\(∀y∈ks,y∈ks')/\(∀y∈l,y∈ks')/\forL (putN 4) TU (l.map cD) (Qn Ps ks f (fz (.int (i:Int))) x3 none)=ae (.nx (Qn Ps ks' f' (fz (.int (i:Int))) x3 none))
 |[],ks,f,_,h=>⟨ks,f,h,λy hy=>hy,(λy hy=>(by cases hy)),rfl⟩
 |x::l,ks,f,hl,h=>by
  have hx:=hl x (WB ..);have M9:ks.length<=64:=by
   have h1:=d8 h.nd λy hy=>az.mpr (h.on y hy);rw[aX] at h1;omega
  have h1:NumOk R W Ps (bW ks x) (λy=>if y=x then i else f y):=by
   refine⟨(jC [x] ks).1 h.nd,λy hy=>?_,λy hy=>?_⟩
   ·rcases b_.mp hy with q | q
    ·exact h.on y q
    ·rw[q];exact kg x hx
   ·by_cases e:y=x
    ·refine⟨P,?_,by rw[e];exact hx⟩;show Ps[if y=x then i else f y]? =_;rw[adF e];exact hP
    ·rcases b_.mp hy with q | q
     ·obtain⟨Q,q1,q2⟩:=h.num y q;refine⟨Q,?_,q2⟩;show Ps[if y=x then i else f y]? =_;rw[adG e];exact q1
     ·exact adK q e
  obtain⟨ks',f',a1,a2,a3,a4⟩:=Kf hm hP kg l (bW ks x) _ (λy hy=>hl y (Wz _ hy)) h1;refine⟨ks',f',a1,λy hy=>a2 y (b_.mpr (.inl hy)),λy hy=>?_,?_⟩
  ·rcases WG.mp hy with rfl | hy
   ·exact a2 _ j7
   ·exact a3 y hy
  ·refine(cj rfl ?_).trans a4;refine(aT ((jh rfl rfl rfl (by rw[cF];omega)).trans rfl)).trans ?_;have ef:dS (λy=>D.int (f y:Int)) x (.int (i:Int))=λy=>D.int ((if y=x then i else f y:Nat):Int):=by
    funext y;unfold dS;by_cases e:y=x
    ·rw[adF e,adF e]
    ·rw[adG e,adG e]
   show ae (Out.nx [fz (.lst (Ps.map cL)),some (.ow (vf (bW ks x) (dS (λy=>D.int (f y:Int)) x (.int (i:Int))))),fz (.int (i:Int)),x3,none])=_;rw[ef];rfl
def KO(q:Nat×List Cell):D:= .tup [.int (q.1:Int),cL q.2]
def FO(hm:R*W<=64){Ps:List (List Cell)}(kg:∀P∈Ps,∀y∈P,On R W y):∀(qs:List (Nat×List Cell)) (ks:List Cell) (f:Cell->Nat),(∀q∈qs,Ps[q.1]? =some q.2)->NumOk R W Ps ks f->
 ∃ks' f',NumOk R W Ps ks' f'/\(∀y∈ks,y∈ks')/\(∀q∈qs,∀y∈q.2,y∈ks')/\forL (jw [2,3]) (b9 [2,3,4] (cN (putN 4) (bX (dV 3)) TU)) (qs.map KO) (Qn Ps ks f none none none)=ae (.nx (Qn Ps ks' f' none none none))
 |[],ks,f,_,h=>⟨ks,f,h,λy hy=>hy,(λq hq=>(by cases hq)),rfl⟩
 |q::qs,ks,f,hq,h=>by
  have hP:=hq q (WB ..);obtain⟨RP,f1,a1,a2,a3,a4⟩:=Kf hm hP (kg q.2 (Xd hP)) q.2 ks f (λy hy=>hy) h;obtain⟨RQ,f2,b1,b2,b3,b4⟩:=FO hm kg qs RP f1 (λq' Og=>hq q' (Wz _ Og)) a1;refine⟨RQ,f2,b1,λy hy=>b2 y (a2 y hy),λq' Og y hy=>?_,?_⟩
  ·rcases WG.mp Og with rfl | Og
   ·exact b2 y (a3 y hy)
   ·exact b3 q' Og y hy
  ·exact(cj rfl ((aT (da (RN rfl) a4)).trans rfl)).trans b4
def km(Ps:List (List Cell)):(Ps.map cL).mapIdx (λi d=>D.tup [.int (i:Int),d])=(Ps.zipIdx.map λq:List Cell×Nat=>(q.2,q.1)).map KO:=by
 apply List.ext_getElem?;intro i;simp only[acT,WT,List.getElem?_zipIdx,Option.map_map,abr];cases Ps[i]? <;>simp[KO]
def qW(hm:R*W<=64)(kg:∀P∈Ps,∀y∈P,On R W y):∃ks f,NumOk R W Ps ks f/\(∀P∈Ps,∀y∈P,y∈ks)/\fY [.lst (Ps.map cL)]=ae (lr ks λy=> .int (f y:Int)):=by
 have hq:∀q∈Ps.zipIdx.map (λq:List Cell×Nat=>(q.2,q.1)),Ps[q.1]? =some q.2:=λq hq=>by
  obtain⟨⟨P,i⟩,h1,rfl⟩:=WM.mp hq;exact Yp.mp h1
 obtain⟨ks,f,a1,a2,a3,a4⟩:=FO hm kg (Ps.zipIdx.map λq:List Cell×Nat=>(q.2,q.1)) [] (λ_=>0) hq ⟨YN,(λy hy=>(by cases hy)),(λy hy=>(by cases hy))⟩;refine⟨ks,f,a1,λP hP y hy=>?_,?_⟩
 ·obtain⟨i,hi,rfl⟩:=Zr hP;refine a3 (i,Ps[i]) (WM.mpr ⟨(Ps[i],i),Yp.mpr (by rw[Wy hi]),rfl⟩) y hy
 ·refine bb (ao rfl (ao (cG (da ?_ a4)) rfl));show ae ((Ps.map cL).mapIdx λi d=>D.tup [.int (i:Int),d])=_;rw[km]
section
open Classical
variable{bd:List Str}{W w:Nat}
noncomputable def aD(bd:List Str)(W w:Nat):List (List Cell):=(cp bd W w (aw bd.length W)).map (bM bd W w)
def gP:jS bd W w= .lst ((aD bd W w).map cL):=by
 unfold jS aD;rw[Xo];rfl
def gN(h:m∈cp bd W w (aw bd.length W)):On bd.length W m:=by
 unfold cp at h;exact az.mp (W7.mp h).1
def kz(hw:Ways w):∀P∈aD bd W w,∀y∈P,On bd.length W y:=λP hP y hy=>by
 unfold aD at hP;obtain⟨m,hm,rfl⟩:=WM.mp hP;exact(((eD hw (gN hm)).mem y).mp hy).on hw (gN hm)
def rD(hg:Brd bd W)(hw:Ways w)(hx:On bd.length W x):∃P∈aD bd W w,x∈P:=by
 obtain⟨L,hL⟩:=ub hw;have hm:=hL x hx;have Tp:=hm.on hw hx;refine⟨bM bd W w (L x),WM.mpr ⟨L x,?_,rfl⟩,((eD hw Tp).mem x).mpr (hm.1.symm hw hx)⟩;unfold cp;rw[W7,adH];exact⟨az.mpr Tp,hm.self hw hx⟩
def gM:(aD bd W w).length<=bd.length*W:=by
 unfold aD cp;rw[Ww,<-aX bd.length W];exact XO ..
end
end K1
namespace K1
open PySem L2 L3 HT
end K1
namespace K1
open PySem PySem.Spec L2 L3
open PyProof.Rows hiding St
section
open Classical
variable{bd:List Str}{W w:Nat}
def Iy:(cp bd W w (aw bd.length W)).Nodup:=by
 unfold cp;exact(RiseC.nodup (cX _ _)).filter _
def FG:m∈cp bd W w l↔m∈l/\Least bd W w m m:=by
 unfold cp;rw[W7,adH]
def yn(hw:Ways w){m x:Cell}(hm:m∈cp bd W w (aw bd.length W))(hx:x∈bM bd W w m):Least bd W w x m:=
 (FG.mp hm).2.move hw (gN hm) (((eD hw (gN hm)).mem x).mp hx)
def ux{i:Nat}(h:(aD bd W w)[i]? =some P):∃m,(cp bd W w (aw bd.length W))[i]? =some m/\P=bM bd W w m:=by
 unfold aD at h;rw[WT] at h;cases q:(cp bd W w (aw bd.length W))[i]? with
 |none=>rw[q] at h;cases h
 |some m=>rw[q] at h;cases h;exact⟨m,rfl,rfl⟩
def FH{i j:Nat}(h:(cp bd W w (aw bd.length W))[i]? =some m)(h2:(cp bd W w (aw bd.length W))[j]? =some m):i=j:=
 (List.getElem?_inj (WQ.mp h).1 Iy).mp (h.trans h2.symm)
def FF{l:List α}{i:Nat}(h:l[i]? =some x):x∈l:=Xd h
def Ia(hw:Ways w){i j:Nat}(hi:(aD bd W w)[i]? =some P)(hj:(aD bd W w)[j]? =some Q)(hx:x∈P)(hy:x∈Q):i=j:=by
 obtain⟨m,e1,rfl⟩:=ux hi;obtain⟨n,e2,rfl⟩:=ux hj;have hm:=FF e1;have hn:=FF e2;have kg:On bd.length W x:=(((eD hw (gN hm)).mem x).mp hx).on hw (gN hm);have:=(yn hw hm hx).one hw kg (yn hw hn hy);subst this;exact FH e1 e2
def Dz(hw:Ways w)(i j:Nat):gx w (i,j) (i,j+1)=true:=by
 rcases hw with rfl | rfl
 ·simp[gx,gV]
 ·simp[gx,gV]
def FU(hw:Ways w)(i j:Nat):gx w (i,j) (i+1,j)=true:=by
 rcases hw with rfl | rfl
 ·simp[gx,gV]
 ·simp[gx,gV]
end
end K1
namespace K1
open PySem L2 L3
section
open Classical
variable{bd:List Str}{W w:Nat}
abbrev Ho(bd:List Str)(S:D)(nk:List Cell)(f:Cell->Nat)(ks:List Cell)(g:Cell->Int)(x4 x5 x6:Option Sl):cQ:=[fz (brd bd),fz S,fz (lr nk λy=> .int (f y:Int)),some (.ow (vf ks λk=> .int (g k))),x4,x5,x6]
structure SOk (bd:List Str) (W n:Nat) (f:Cell->Nat) (ks:List Cell):Prop where
 nd:ks.Nodup
 is:∀k∈ks,∃x y,On bd.length W x/\On bd.length W y/\gx 4 x y=true/\f x<f y/\k=(f x,f y)
noncomputable def zH(ks:List Cell)(g:Cell->Int)(k:Cell):Int:=if k∈ks then g k else 0
def su(f:Cell->Nat)(k x y:Cell):Bool:=decide (f x<f y/\(f x,f y)=k)
def JC(hn:∀z,On bd.length W z->z∈nk/\f z<64)(hx:On bd.length W x)(hy:On bd.length W y)(Ow:gx 4 x y=true)(h:SOk bd W 64 f ks):
 ∃ks' g',SOk bd W 64 f ks'/\(∀k∈ks,k∈ks')/\(f x<f y->(f x,f y)∈ks')/\(∀k,zH ks' g' k=zH ks g k+(if su f k x y then 1 else 0))/\Qu (Ho bd S nk f ks g (fz (cD x)) (fz (cD y)) none)=ae (.nx (Ho bd S nk f ks' g' (fz (cD x)) none none)):=by
 have i4:∀{o x6:Option Sl},d2 cy (dV 2) (dV 4) [fz (brd bd),fz S,fz (lr nk λy=> .int (f y:Int)),o,fz (cD x),fz (cD y),x6]=ae (.int (f x:Int)):=(aM rfl rfl).trans (iY (hn x hx).1);have i5:∀{o x6:Option Sl},d2 cy (dV 2) (dV 5) [fz (brd bd),fz S,fz (lr nk λy=> .int (f y:Int)),o,fz (cD x),fz (cD y),x6]=ae (.int (f y:Int)):=(aM rfl rfl).trans (iY (hn y hy).1);have JK:cW (d2 P5 (d2 cy (dV 2) (dV 4)) (d2 cy (dV 2) (dV 5))) (Ho bd S nk f ks g (fz (cD x)) (fz (cD y)) none)=ae (decide (f x<f y)):=by
  refine fS ((aM i4 i5).trans ?_);show ae (D.bl (decide ((f x:Int)<(f y:Int))))=_;congr 2;exact adN.mpr (by omega)
 have M9:ks.length<lim:=by
  have:ks.length<=(aw 63 64).length:=d8 h.nd λk hk=>by
   obtain⟨a,b,ha,hb,_,NS,rfl⟩:=h.is k hk;have:=(hn b hb).2;exact az.mpr ⟨by show f a<63;omega,this⟩
  rw[aX] at this;rw[cF];omega
 by_cases fM:f x<f y
 ·rw[adJ fM] at JK;refine⟨bW ks (f x,f y),λk=>if k=(f x,f y) then(if (f x,f y)∈ks then g (f x,f y) else 0)+1 else g k,⟨(jC [(f x,f y)] ks).1 h.nd,λk hk=>?_⟩,λk hk=>b_.mpr (.inl hk),λ_=>j7,λk=>?_,?_⟩
  ·rcases b_.mp hk with q | q
   ·exact h.is k q
   ·exact⟨x,y,hx,hy,Ow,fM,q⟩
  ·unfold zH su;by_cases e:k=(f x,f y)
   ·subst e;rw[adF (b_.mpr (.inr rfl)),adJ ⟨fM,rfl⟩];simp only[if_true]
   ·rw[adI λq=>e q.2.symm];have:k∈bW ks (f x,f y)↔k∈ks:=b_.trans ⟨λq=>q.resolve_right e, .inl⟩;simp only[this,adG e];simp
  ·have hv:Hd (d2 cV (ju (dV 3) (dV 6) (dC (.int 0))) (dC (.int 1))) (Ho bd S nk f ks g (fz (cD x)) (fz (cD y)) (fz (cD (f x,f y))))=ae (.int ((if (f x,f y)∈ks then g (f x,f y) else 0)+1)):=by
    refine Bm ?_ rfl;have e:ju (dV 3) (dV 6) (dC (.int 0)) (og (Ho bd S nk f ks g (fz (cD x)) (fz (cD y)) (fz (cD (f x,f y)))))=ae (.int (if (f x,f y)∈ks then g (f x,f y) else 0)):=by
     show getM (lr ks λk=> .int (g k)) (cD (f x,f y)) (.int 0)=_;by_cases q:(f x,f y)∈ks
     ·rw[vj q,adF q]
     ·rw[qj q,adG q]
    exact(aM e rfl).trans rfl
   refine(aT (ρ':=Ho bd S nk f (bW ks (f x,f y)) (λk=>if k=(f x,f y) then(if (f x,f y)∈ks then g (f x,f y) else 0)+1 else g k) (fz (cD x)) (fz (cD y)) (fz (cD (f x,f y)))) (fK JK (ao ((aO ((bo (aH i4 (aH i5 rfl))).trans rfl)).trans rfl) ?_))).trans rfl;refine(jh rfl hv rfl M9).trans ?_;have ef:dS (λk=>D.int (g k)) (f x,f y) (.int ((if (f x,f y)∈ks then g (f x,f y) else 0)+1))=λk=>D.int (if k=(f x,f y) then(if (f x,f y)∈ks then g (f x,f y) else 0)+1 else g k):=by
    funext k;unfold dS;by_cases e:k=(f x,f y)
    ·rw[adF e,adF e]
    ·rw[adG e,adG e]
   rw[ef];rfl
 ·rw[adI fM] at JK;exact⟨ks,g,h,λk hk=>hk,λq=>adK q fM,λk=>by unfold su;rw[adI λq=>fM q.1];simp,(aT (eE JK rfl)).trans rfl⟩
def Km(hn:∀z,On bd.length W z->z∈nk/\f z<64)(hx:On bd.length W x):∀(l:List Cell) (ks:List Cell) (g:Cell->Int),(∀y∈l,On bd.length W y/\gx 4 x y=true)->SOk bd W 64 f ks->
 ∃ks' g',SOk bd W 64 f ks'/\(∀k∈ks,k∈ks')/\(∀y∈l,f x<f y->(f x,f y)∈ks')/\(∀k,zH ks' g' k=zH ks g k+((l.filter (su f k x)).length:Int))/\forL (putN 5) Qu (l.map cD) (Ho bd S nk f ks g (fz (cD x)) none none)=ae (.nx (Ho bd S nk f ks' g' (fz (cD x)) none none))
 |[],ks,g,_,h=>⟨ks,g,h,λk hk=>hk,(λy hy=>(by cases hy)),λk=>by simp,rfl⟩
 |y::l,ks,g,hl,h=>by
  obtain⟨y1,y2⟩:=hl y (WB ..);obtain⟨k1,g1,a1,a2,a3,a5,a4⟩:=JC hn hx y1 y2 h;obtain⟨k2,g2,b1,b2,b3,b5,b4⟩:=Km hn hx l k1 g1 (λz hz=>hl z (Wz _ hz)) a1;refine⟨k2,g2,b1,λk hk=>b2 k (a2 k hk),λz hz q=>?_,λk=>?_,(cj rfl a4).trans b4⟩
  ·rcases WG.mp hz with e | hz
   ·subst e;exact b2 _ (a3 q)
   ·exact b3 z hz q
  ·rw[b5 k,a5 k,XR];cases su f k x y
   ·simp
   ·simp;omega
def G0(hg:Brd bd W)(hn:∀z,On bd.length W z->z∈nk/\f z<64):∀(l:List Cell) (ks:List Cell) (g:Cell->Int),(∀x∈l,On bd.length W x)->SOk bd W 64 f ks->
 ∃ks' g',SOk bd W 64 f ks'/\(∀k∈ks,k∈ks')/\(∀x∈l,∀y,On bd.length W y->gx 4 x y=true->f x<f y->(f x,f y)∈ks')/\(∀k,zH ks' g' k=zH ks g k+(((l.map λx=>((eS bd.length W 4 x).filter (su f k x)).length).sum:Nat):Int))/\
  forL (putN 4) (b9 [4,5,6] (cN (putN 5) (bX (ay 3 a6 (aC (dV 0) (aC (dV 4) (aC (dC (.int 4)) aN))))) Qu)) (l.map cD) (Ho bd S nk f ks g none none none)=ae (.nx (Ho bd S nk f ks' g' none none none))
 |[],ks,g,_,h=>⟨ks,g,h,λk hk=>hk,(λy hy=>(by cases hy)),λk=>by simp,rfl⟩
 |x::l,ks,g,hl,h=>by
  have hx:=hl x (WB ..);have RD:Ways 4:= .inl rfl;obtain⟨k1,g1,a1,a2,a3,a5,a4⟩:=Km hn hx (eS bd.length W 4 x) ks g (λy hy=>(gw RD).mp hy) h;obtain⟨k2,g2,b1,b2,b3,b5,b4⟩:=G0 hg hn l k1 g1 (λz hz=>hl z (Wz _ hz)) a1;refine⟨k2,g2,b1,λk hk=>b2 k (a2 k hk),λz hz y hy q1 q2=>?_,λk=>by rw[b5 k,a5 k,WD,X1,Int.natCast_add,Int.add_assoc],(cj rfl ((aT (da ?_ a4)).trans rfl)).trans b4⟩
  ·rcases WG.mp hz with e | hz
   ·subst e;exact b2 _ (a3 y ((gw RD).mpr ⟨hy,q1⟩) q2)
   ·exact b3 z hz y hy q1 q2
  ·show (ay 3 a6 (aC (dV 0) (aC (dV 4) (aC (dC (.int 4)) aN))) _>>=lstM)=_;rw[(aq (ds:=[brd bd,cD x, .int ((4:Nat):Int)]) rfl rfl:ay 3 a6 (aC (dV 0) (aC (dV 4) (aC (dC (.int 4)) aN))) _=_),gO hg RD hx];rfl
def AV(hg:Brd bd W)(hs:bd.length*W<64)(hw:Ways w):∃(f:Cell->Nat) (ks:List Cell) (g:Cell->Int),(∀x,On bd.length W x->∃P,(aD bd W w)[f x]? =some P/\x∈P)/\SOk bd W 64 f ks/\(∀x y,On bd.length W x->On bd.length W y->gx 4 x y=true->f x<f y->(f x,f y)∈ks)/\(∀k∈ks,g k=((((aw bd.length W).map λx=>((eS bd.length W 4 x).filter (su f k x)).length).sum:Nat):Int))/\
 cT [brd bd, .lst ((aD bd W w).map cL)]=ae (lr ks λk=> .int (g k)):=by
 obtain⟨nk,f,h1,h2,h3⟩:=qW (Yc hs) (kz hw);have hf:∀x,On bd.length W x->x∈nk/\∃P,(aD bd W w)[f x]? =some P/\x∈P:=λx hx=>by
  obtain⟨P,p1,p2⟩:=rD hg hw hx;have:=h2 P p1 x p2;exact⟨this,h1.num x this⟩
 have hl:=gM (bd:=bd) (W:=W) (w:=w);obtain⟨ks,g,a1,a2,a3,a5,a4⟩:=G0 hg (f:=f) (λz hz=>⟨(hf z hz).1,by
  obtain⟨P,e,_⟩:=(hf z hz).2;have:=(WQ.mp e).1;omega⟩) (aw bd.length W) [] (λ_=>0) (λx hx=>az.mp hx) ⟨YN,(λk hk=>(by cases hk))⟩
 refine⟨f,ks,g,λx hx=>(hf x hx).2,a1,λx y hx hy=>a3 x (az.mpr hx) y hy,λk hk=>by have:=a5 k;unfold zH at this;rw[adF hk] at this;simpa using this,?_⟩;refine bb (ao ((aO ((aq rfl rfl).trans h3)).trans rfl) (ao rfl (ao (cG (da ?_ a4)) rfl)));show (ay 1 cY (aC (dV 0) aN) _>>=lstM)=_;rw[(aq rfl rfl:ay 1 cY (aC (dV 0) aN) _=_),kN hg];rfl
end
def sh(P Q:List Cell):Nat:=(P.map λx=>(Q.filter λy=>gx 4 x y).length).sum
def mP(f g:α->Nat):∀l:List α,(l.map λx=>f x+g x).sum=(l.map f).sum+(l.map g).sum
 |[]=>rfl
 |a::l=>by
  simp only[WD,X1,mP f g l];omega
def Cf(p:α->Bool):∀l:List α,(l.map λx=>if p x then 1 else 0).sum=(l.filter p).length
 |[]=>rfl
 |a::l=>by
  rw[WD,X1,Cf p l,XR];cases p a
  ·simp
  ·simp;omega
def zo(r:α->β->Bool):∀(P:List α) (Q:List β),(P.map λx=>(Q.filter (r x)).length).sum=(Q.map λy=>(P.filter λx=>r x y).length).sum
 |[],Q=>by
  have:∀Q:List β,(Q.map λy=>(([]:List α).filter λx=>r x y).length).sum=0:=λQ=>by
   induction Q with
   |nil=>rfl
   |cons a l ih=>rw[WD,X1,ih];rfl
  rw[this];rfl
 |a::P,Q=>by
  rw[WD,X1,zo r P Q,<-Cf,<-mP];congr 1;refine X2 λy _=>?_;rw[XR];cases r a y
  ·simp
  ·simp;omega
def oA(R W w:Nat)(c:Cell):RiseC (eS R W w c):=by
 unfold eS RiseC;refine acD.mpr ⟨λr _=>abv _ (Yr.mpr ?_),?_⟩
 ·refine Yz (λ{a b} h=>?_) (acf ..);show (if r=r then decide (a<b) else _)=true;rw[adF rfl,adJ h]
 ·refine Yz (λ{a b} h x hx y hy=>?_) (acf ..);obtain⟨_,_,rfl⟩:=WM.mp (W7.mp hx).1;obtain⟨_,_,rfl⟩:=WM.mp (W7.mp hy).1;show (if a=b then _ else decide (a<b))=true;rw[adG (W4 h),adJ h]
section
open Classical
variable{bd:List Str}{W w:Nat}
def rE(hw:Ways w)(hP:P∈aD bd W w):RiseC P:=by
 unfold aD at hP;obtain⟨m,_,rfl⟩:=WM.mp hP;exact(cX _ _).filter _
end
section
open Classical
variable{bd:List Str}{W:Nat}
def PB:DS:=(b9 [5] (fV 2 (dV 5) (dV 3)))
def toN(bd:List Str)(Ps:List (List Cell))(ks:List Cell)(f:Cell->Nat)(x3 x4 x5:Option Sl):cQ:=[fz (brd bd),fz (.lst (Ps.map cL)),some (.ow (vf ks λy=> .int (f y:Int))),x3,x4,x5,none,none,none]
def G9(hm:R*W<=64){i:Nat}(hP:Ps[i]? =some P)(kg:∀y∈P,On R W y):∀(l ks:List Cell) (f:Cell->Nat),(∀y∈l,y∈P)->NumOk R W Ps ks f->
 ∃ks' f',NumOk R W Ps ks' f'/\(∀y∈ks,y∈ks')/\(∀y∈l,y∈ks')/\forL (putN 5) PB (l.map cD) (toN bd Ps ks f (fz (.int (i:Int))) x4 none)=ae (.nx (toN bd Ps ks' f' (fz (.int (i:Int))) x4 none))
 |[],ks,f,_,h=>⟨ks,f,h,λy hy=>hy,(λy hy=>(by cases hy)),rfl⟩
 |x::l,ks,f,hl,h=>by
  have hx:=hl x (WB ..);have M9:ks.length<=64:=by
   have h1:=d8 h.nd λy hy=>az.mpr (h.on y hy);rw[aX] at h1;omega
  have h1:NumOk R W Ps (bW ks x) (λy=>if y=x then i else f y):=by
   refine⟨(jC [x] ks).1 h.nd,λy hy=>?_,λy hy=>?_⟩
   ·rcases b_.mp hy with q | q
    ·exact h.on y q
    ·rw[q];exact kg x hx
   ·by_cases e:y=x
    ·exact⟨P,by rw[adF e];exact hP,by rw[e];exact hx⟩
    ·rcases b_.mp hy with q | q
     ·obtain⟨Q,q1,q2⟩:=h.num y q;exact⟨Q,by rw[adG e];exact q1,q2⟩
     ·exact adK q e
  obtain⟨ks',f',a1,a2,a3,a4⟩:=G9 hm hP kg l (bW ks x) _ (λy hy=>hl y (Wz _ hy)) h1;refine⟨ks',f',a1,λy hy=>a2 y (b_.mpr (.inl hy)),λy hy=>?_,?_⟩
  ·rcases WG.mp hy with rfl | hy
   ·exact a2 _ j7
   ·exact a3 y hy
  ·refine(cj rfl ?_).trans a4;refine(aT ((jh rfl rfl rfl (by rw[cF];omega)).trans rfl)).trans ?_;have ef:dS (λy=>D.int (f y:Int)) x (.int (i:Int))=λy=>D.int ((if y=x then i else f y:Nat):Int):=by
    funext y;unfold dS;by_cases e:y=x
    ·rw[adF e,adF e]
    ·rw[adG e,adG e]
   show ae (Out.nx [fz (brd bd),fz (.lst (Ps.map cL)),some (.ow (vf (bW ks x) (dS (λy=>D.int (f y:Int)) x (.int (i:Int))))),fz (.int (i:Int)),x4,none,none,none,none])=_;rw[ef];rfl
def Ck(hm:R*W<=64){Ps:List (List Cell)}(kg:∀P∈Ps,∀y∈P,On R W y):∀(qs:List (Nat×List Cell)) (ks:List Cell) (f:Cell->Nat),(∀q∈qs,Ps[q.1]? =some q.2)->NumOk R W Ps ks f->
 ∃ks' f',NumOk R W Ps ks' f'/\(∀y∈ks,y∈ks')/\(∀q∈qs,∀y∈q.2,y∈ks')/\forL (jw [3,4]) (b9 [3,4,5] (cN (putN 5) (bX (dV 4)) PB)) (qs.map KO) (toN bd Ps ks f none none none)=ae (.nx (toN bd Ps ks' f' none none none))
 |[],ks,f,_,h=>⟨ks,f,h,λy hy=>hy,(λq hq=>(by cases hq)),rfl⟩
 |q::qs,ks,f,hq,h=>by
  have hP:=hq q (WB ..);obtain⟨k1,f1,a1,a2,a3,a4⟩:=G9 hm hP (kg q.2 (Xd hP)) q.2 ks f (λy hy=>hy) h;obtain⟨k2,f2,b1,b2,b3,b4⟩:=Ck hm kg qs k1 f1 (λr hr=>hq r (Wz _ hr)) a1;refine⟨k2,f2,b1,λy hy=>b2 y (a2 y hy),λr hr y hy=>?_,(cj rfl ((aT (da rfl a4)).trans rfl)).trans b4⟩;rcases WG.mp hr with rfl | hr
  ·exact b2 y (a3 y hy)
  ·exact b3 r hr y hy
def pf(x:Cell):List Cell:=[(x.1+1,x.2),(x.1,x.2+1)]
def zK(f:Cell->Nat)(k x y:Cell):Bool:=su f k x y||su f k y x
def BU(R W:Nat)(y:Cell):Bool:=decide (y.1<R)&&decide (y.2<W)
def ku:BU R W y=true↔On R W y:=by
 unfold BU On;rw[WR,adH,adH]
abbrev Ci(bd:List Str)(S:D)(nk:List Cell)(f:Cell->Nat)(ks:List Cell)(g:Cell->Int)(x5 x7 x8:Option Sl):cQ:=[fz (brd bd),fz S,fz (lr nk λy=> .int (f y:Int)),none,none,x5,some (.ow (vf ks λk=> .int (g k))),x7,x8]
structure TOk (R W:Nat) (f:Cell->Nat) (ks:List Cell):Prop where
 nd:ks.Nodup
 is:∀k∈ks,∃x y,On R W x/\On R W y/\gx 4 x y=true/\f x<f y/\k=(f x,f y)
def EI(h:y∈pf x):gx 4 x y=true:=by
 unfold pf at h;simp only[WG,XH,or_false] at h;rcases h with rfl | rfl
 ·exact FU (.inl rfl) _ _
 ·exact Dz (.inl rfl) _ _
def mJ:zK f k x y=true↔f x≠f y/\(min (f x) (f y),max (f x) (f y))=k:=by
 unfold zK su;rw[ZC,adH,adH];constructor
 ·rintro(⟨h1,h2⟩ | ⟨h1,h2⟩)
  ·exact⟨by omega,by rw[<-h2,Z6 (by omega),ZW (by omega)]⟩
  ·exact⟨by omega,by rw[<-h2,ZV (by omega),Z7 (by omega)]⟩
 ·rintro⟨h1,h2⟩;rcases adx h1 with h | h
  ·exact .inl ⟨h,by rw[<-h2,Z6 (by omega),ZW (by omega)]⟩
  ·exact .inr ⟨h,by rw[<-h2,ZV (by omega),Z7 (by omega)]⟩
def JI(hn:∀z,z∈nk↔On bd.length W z)(zI:∀z,On bd.length W z->f z<64)(hx:On bd.length W x)(hy:y∈pf x)(h:TOk bd.length W f ks):
 ∃ks' g',TOk bd.length W f ks'/\(∀k∈ks,k∈ks')/\(∀k,BU bd.length W y=true->zK f k x y=true->k∈ks')/\(∀k,zH ks' g' k=zH ks g k+(if BU bd.length W y&&zK f k x y then 1 else 0))/\Qw (Ci bd S nk f ks g (fz (cD x)) (fz (cD y)) none)=ae (.nx (Ci bd S nk f ks' g' (fz (cD x)) none none)):=by
 have M9:ks.length<lim:=by
  have:ks.length<=(aw 63 64).length:=d8 h.nd λk hk=>by
   obtain⟨a,b,ha,hb,_,NS,rfl⟩:=h.is k hk;have:=zI b hb;exact az.mpr ⟨by show f a<63;omega,this⟩
  rw[aX] at this;rw[cF];omega
 have i5:∀{c6 x7 x8:Option Sl},d2 cy (dV 2) (dV 5) (og [fz (brd bd),fz S,fz (lr nk λy=> .int (f y:Int)),none,none,fz (cD x),c6,x7,x8])=ae (.int (f x:Int)):=(aM rfl rfl).trans (iY ((hn x).mpr hx));have h1:cW (d2 (jE false) (dV 7) (dV 2)) (og (Ci bd S nk f ks g (fz (cD x)) (fz (cD y)) none))=ae (BU bd.length W y):=fS ((aM rfl rfl).trans ((pN (by simp)).trans (by
  rw[adG (by decide)];congr 2;rw[aaH,adH,ku];exact hn y)))
 by_cases ho:BU bd.length W y=true
 ·have Ox:=ku.mp ho;have i7:∀{c6 x8:Option Sl},d2 cy (dV 2) (dV 7) (og [fz (brd bd),fz S,fz (lr nk λy=> .int (f y:Int)),none,none,fz (cD x),c6,fz (cD y),x8])=ae (.int (f y:Int)):=(aM rfl rfl).trans (iY ((hn y).mpr Ox));have JK:Hq (lq (cW (d2 (jE false) (dV 7) (dV 2))) (cW (d2 qi (d2 cy (dV 2) (dV 7)) (d2 cy (dV 2) (dV 5))))) (Ci bd S nk f ks g (fz (cD x)) (fz (cD y)) none)=ae (!decide (f y=f x)):=by
   refine zp ((ve h1 (fS ((aM i7 i5).trans (ON _ _)))).trans ?_);rw[ho,aa_];congr 1
  by_cases g6:f y=f x
  ·rw[adJ g6] at JK;refine⟨ks,g,h,λk hk=>hk,λk _ q=>adK g6.symm (mJ.mp q).1,λk=>?_,(aT (eE JK rfl)).trans rfl⟩;rw[show zK f k x y=false from Zf.mpr λq=>(mJ.mp q).1 g6.symm,aaR];simp
  ·rw[adI g6] at JK;have Vl:∃p:Cell,p=(min (f x) (f y),max (f x) (f y)):=⟨_,rfl⟩
   obtain⟨p,hp⟩:=Vl;have Rw:Hd (dA aS (aC (dA yt (aC (d2 cy (dV 2) (dV 5)) (aC (d2 cy (dV 2) (dV 7)) aN))) (aC (dA vH (aC (d2 cy (dV 2) (dV 5)) (aC (d2 cy (dV 2) (dV 7)) aN))) aN))) (Ci bd S nk f ks g (fz (cD x)) (fz (cD y)) none)=ae (cD p):=by
    refine Bm ((bo (aH ((bo (aH i5 (aH i7 rfl))).trans ?_) (aH ((bo (aH i5 (aH i7 rfl))).trans ?_) rfl))).trans rfl) rfl
    ·show ae (D.int (if (f y:Int)<(f x:Int) then(f y:Int) else(f x:Int)))=_;rw[hp];congr 2
     dsimp only
     split<;>omega
    ·show ae (D.int (if (f x:Int)<(f y:Int) then(f y:Int) else(f x:Int)))=_;rw[hp];congr 2
     dsimp only
     split<;>omega
   have Rq:∀k,zK f k x y=true↔k=p:=λk=>by
    rw[mJ,hp];exact⟨λq=>q.2.symm,λq=>⟨λz=>g6 z.symm,q.symm⟩⟩
   refine⟨bW ks p,λk=>if k=p then(if p∈ks then g p else 0)+1 else g k,⟨(jC [p] ks).1 h.nd,λk hk=>?_⟩,λk hk=>b_.mpr (.inl hk),λk _ q=>by rw[(Rq k).mp q];exact j7,λk=>?_,?_⟩
   ·rcases b_.mp hk with q | q
    ·exact h.is k q
    ·rw[q,hp];rcases adx g6 with z | z
     ·exact⟨y,x,Ox,hx,by rw[qY];exact EI hy,z,by rw[ZV (by omega),Z7 (by omega)]⟩
     ·exact⟨x,y,hx,Ox,EI hy,z,by rw[Z6 (by omega),ZW (by omega)]⟩
   ·rw[ho,aa_];unfold zH;by_cases e:k=p
    ·subst e;rw[adF (b_.mpr (.inr rfl)),(Rq k).mpr rfl];simp only[if_true]
    ·rw[show zK f k x y=false from Zf.mpr λq=>e ((Rq k).mp q)];have:k∈bW ks p↔k∈ks:=b_.trans ⟨λq=>q.resolve_right e, .inl⟩;simp only[this,adG e];simp
   ·have hv:Hd (d2 cV (ju (dV 6) (dV 8) (dC (.int 0))) (dC (.int 1))) (Ci bd S nk f ks g (fz (cD x)) (fz (cD y)) (fz (cD p)))=ae (.int ((if p∈ks then g p else 0)+1)):=by
     refine Bm ?_ rfl;have e:ju (dV 6) (dV 8) (dC (.int 0)) (og (Ci bd S nk f ks g (fz (cD x)) (fz (cD y)) (fz (cD p))))=ae (.int (if p∈ks then g p else 0)):=by
      show getM (lr ks λk=> .int (g k)) (cD p) (.int 0)=_;by_cases q:p∈ks
      ·rw[vj q,adF q]
      ·rw[qj q,adG q]
     exact(aM e rfl).trans rfl
    refine(aT (ρ':=Ci bd S nk f (bW ks p) (λk=>if k=p then(if p∈ks then g p else 0)+1 else g k) (fz (cD x)) (fz (cD y)) (fz (cD p))) (fK JK (ao ((aO Rw).trans rfl) ?_))).trans rfl;refine(jh rfl hv rfl M9).trans ?_;have ef:dS (λk=>D.int (g k)) p (.int ((if p∈ks then g p else 0)+1))=λk=>D.int (if k=p then(if p∈ks then g p else 0)+1 else g k):=by
     funext k;unfold dS;by_cases e:k=p
     ·rw[adF e,adF e]
     ·rw[adG e,adG e]
    rw[ef];rfl
 ·have ho:=Zf.mpr ho;rw[ho] at h1;exact⟨ks,g,h,λk hk=>hk,λk q=>(by rw[ho] at q;cases q),λk=>by rw[ho];simp,(aT (eE (zp (KI h1)) rfl)).trans rfl⟩
def Kq(hn:∀z,z∈nk↔On bd.length W z)(zI:∀z,On bd.length W z->f z<64)(hx:On bd.length W x):∀(l:List Cell) (ks:List Cell) (g:Cell->Int),(∀y∈l,y∈pf x)->TOk bd.length W f ks->
 ∃ks' g',TOk bd.length W f ks'/\(∀k∈ks,k∈ks')/\(∀y∈l,∀k,BU bd.length W y=true->zK f k x y=true->k∈ks')/\(∀k,zH ks' g' k=zH ks g k+((l.filter λy=>BU bd.length W y&&zK f k x y).length:Int))/\forL (putN 7) Qw (l.map cD) (Ci bd S nk f ks g (fz (cD x)) none none)=ae (.nx (Ci bd S nk f ks' g' (fz (cD x)) none none))
 |[],ks,g,_,h=>⟨ks,g,h,λk hk=>hk,(λy hy=>(by cases hy)),λk=>by simp,rfl⟩
 |y::l,ks,g,hl,h=>by
  obtain⟨k1,g1,a1,a2,a3,a5,a4⟩:=JI hn zI hx (hl y (WB ..)) h;obtain⟨k2,g2,b1,b2,b3,b5,b4⟩:=Kq hn zI hx l k1 g1 (λz hz=>hl z (Wz _ hz)) a1;refine⟨k2,g2,b1,λk hk=>b2 k (a2 k hk),λz hz k q1 q2=>?_,λk=>?_,(cj rfl a4).trans b4⟩
  ·rcases WG.mp hz with e | hz
   ·subst e;exact b2 _ (a3 k q1 q2)
   ·exact b3 z hz k q1 q2
  ·rw[b5 k,a5 k,XR];cases BU bd.length W y&&zK f k x y
   ·simp
   ·simp;omega
def G8(hn:∀z,z∈nk↔On bd.length W z)(zI:∀z,On bd.length W z->f z<64):∀(l:List Cell) (ks:List Cell) (g:Cell->Int),(∀x∈l,On bd.length W x)->TOk bd.length W f ks->
 ∃ks' g',TOk bd.length W f ks'/\(∀k∈ks,k∈ks')/\(∀x∈l,∀y∈pf x,∀k,BU bd.length W y=true->zK f k x y=true->k∈ks')/\(∀k,zH ks' g' k=zH ks g k+(((l.map λx=>((pf x).filter λy=>BU bd.length W y&&zK f k x y).length).sum:Nat):Int))/\
  forL (putN 5) (b9 [5,7,8] (cN (putN 7) (bX (dA bS (aC (dA aS (aC (d2 cV (d2 ba (dV 5) (dC (.int 0))) (dC (.int 1))) (aC (d2 ba (dV 5) (dC (.int 1))) aN))) (aC (dA aS (aC (d2 ba (dV 5) (dC (.int 0))) (aC (d2 cV (d2 ba (dV 5) (dC (.int 1))) (dC (.int 1))) aN))) aN)))) Qw)) (l.map cD) (Ci bd S nk f ks g none none none)=ae (.nx (Ci bd S nk f ks' g' none none none))
 |[],ks,g,_,h=>⟨ks,g,h,λk hk=>hk,(λy hy=>(by cases hy)),λk=>by simp,rfl⟩
 |x::l,ks,g,hl,h=>by
  have hx:=hl x (WB ..);obtain⟨k1,g1,a1,a2,a3,a5,a4⟩:=Kq hn zI hx (pf x) ks g (λy hy=>hy) h;obtain⟨k2,g2,b1,b2,b3,b5,b4⟩:=G8 hn zI l k1 g1 (λz hz=>hl z (Wz _ hz)) a1;refine⟨k2,g2,b1,λk hk=>b2 k (a2 k hk),λz hz y hy k q1 q2=>?_,λk=>by rw[b5 k,a5 k,WD,X1,Int.natCast_add,Int.add_assoc],(cj rfl ((aT (da rfl a4)).trans rfl)).trans b4⟩;rcases WG.mp hz with e | hz
  ·subst e;exact b2 _ (a3 y hy k q1 q2)
  ·exact b3 z hz y hy k q1 q2
end
section
open Classical
variable{bd:List Str}{W w:Nat}
def vD:∀{l:List α},(∀a∈l,p a=true->q a=false)->(l.filter λa=>p a||q a).length=(l.filter p).length+(l.filter q).length
 |[],_=>rfl
 |a::l,h=>by
  have ih:=vD λb hb=>h b (Wz _ hb);rw[XR,XR,XR];cases hp:p a with
  |true=>
   rw[h a (WB ..) hp];simp only[aba,if_true,W9,if_false,WE,ih];omega
  |false=>
   cases hq:q a<;>simp only[aba,Bool.or_true,if_true,W9,if_false,WE,ih]
   omega
def len_same{α:Type}[DecidableEq α]{a b:List α}(ha:a.Nodup)(hb:b.Nodup)(h:∀x,x∈a↔x∈b):a.length=b.length:=aaM (nz ha λx hx=>(h x).mp hx) (nz hb λx hx=>(h x).mpr hx)
def jJ{x y:Cell}:y∈pf x↔(y.1=x.1+1/\y.2=x.2)\/(y.1=x.1/\y.2=x.2+1):=by
 unfold pf;obtain⟨y1,y2⟩:=y;simp
def qX{x y:Cell}:gx 4 x y=true↔y∈pf x\/x∈pf y:=by
 rw[jJ,jJ];unfold gx gV;rw[adF rfl,adH];omega
def HF{x y:Cell}(h:y∈pf x):x∉pf y:=by
 rw[jJ] at h;rw[jJ];omega
def NH(x:Cell):(pf x).Nodup:=by unfold pf;simp
def Gr{k x y:Cell}(h:su f k x y=true):su f k y x=false:=by
 unfold su at h⊢;rw[adH] at h;exact adI λq=>by have:=h.1;have:=q.1;omega
def GS(R W:Nat)(f:Cell->Nat)(k:Cell):((aw R W).map λx=>((eS R W 4 x).filter (su f k x)).length).sum=((aw R W).map λx=>((pf x).filter λy=>BU R W y&&zK f k x y).length).sum:=by
 have hC:=RiseC.nodup (cX R W);have e1:∀x∈aw R W,((eS R W 4 x).filter (su f k x)).length=((aw R W).filter λy=>decide (y∈pf x)&&su f k x y).length+((aw R W).filter λy=>decide (x∈pf y)&&su f k x y).length:=λx _=>by
  rw[<-vD (λy _ h=>by
   rw[WR,adH] at h;rw[adI (HF h.1)];rfl)]
  refine len_same ((RiseC.nodup (oA ..)).filter _) (hC.filter _) λy=>?_;rw[W7,W7,gw (.inl rfl),az,qX,ZC,WR,WR,adH,adH];constructor
  ·rintro⟨⟨h1,h2 | h2⟩,h3⟩
   ·exact⟨h1, .inl ⟨h2,h3⟩⟩
   ·exact⟨h1, .inr ⟨h2,h3⟩⟩
  ·rintro⟨h1,⟨h2,h3⟩ | ⟨h2,h3⟩⟩
   ·exact⟨⟨h1, .inl h2⟩,h3⟩
   ·exact⟨⟨h1, .inr h2⟩,h3⟩
 have e2:∀x∈aw R W,((pf x).filter λy=>BU R W y&&zK f k x y).length=((aw R W).filter λy=>decide (y∈pf x)&&su f k x y).length+((aw R W).filter λy=>decide (y∈pf x)&&su f k y x).length:=λx _=>by
  rw[<-vD (λy _ h=>by
   rw[WR] at h;rw[Gr h.2,aaR])]
  refine len_same ((NH x).filter _) (hC.filter _) λy=>?_;unfold zK;rw[W7,W7,az,WR,ku,ZC,ZC,WR,WR,adH];constructor
  ·rintro⟨h1,h2,h3 | h3⟩
   ·exact⟨h2, .inl ⟨h1,h3⟩⟩
   ·exact⟨h2, .inr ⟨h1,h3⟩⟩
  ·rintro⟨h1,⟨h2,h3⟩ | ⟨h2,h3⟩⟩
   ·exact⟨h2,h1, .inl h3⟩
   ·exact⟨h2,h1, .inr h3⟩
 rw[X2 e1,X2 e2,mP,mP,zo (λx y=>decide (x∈pf y)&&su f k x y)]
def pI(ks:List Cell)(g:Cell->Int):D:= .lst (ks.map λk=> .tup [cD k, .int (g k)])
def vJ{g:α->Int}:∀ks:List α,nums (ks.map λk=> .int (g k))=some (ks.map g)
 |[]=>rfl
 |k::ks=>by
  show (nums (ks.map λk=> .int (g k))).map _=_;rw[vJ ks];rfl
def Cm(g:Cell->Int):∀ks:List Cell,lL (ks.map ic) (ks.map g)=ks.map λk=>ic k++[g k]
 |[]=>rfl
 |k::ks=>by
  show (ic k++[g k])::lL (ks.map ic) (ks.map g)=_;rw[Cm g ks];rfl
def JJ{g:Cell->Int}{a b:Cell}(h:ic a++[g a]=ic b++[g b]):a=b:=qt (List.append_inj_left h rfl)
def D3{g:Cell->Int}(hn:ks.Nodup)(hl:ks.length<64):nV (lr ks λk=> .int (g k))=ae (pI (iQ ks) g):=by
 show (match fg (ks.map keyOf),nums (ks.map λk=> .int (g k)) with
  |some kk,some ns=>if kk.length=ns.length/\kk.all (λk=>decide (k.length=2))=true/\fQ (lL kk ns)=true then ae (D.lst ((sortI (lL kk ns)).map BZ)) else ag
  |_,_=>ag)=_
 rw[kj,vJ]
 dsimp only
 rw[Cm];have Fb:(ks.map λk=>ic k++[g k]).Nodup:=by
  rw[Xr,Yr];exact Yz (λh z=>h (JJ z)) hn
 rw[adF ⟨by rw[Ww,Ww],Xe.mpr λk hk=>by obtain⟨c,_,rfl⟩:=WM.mp hk;rfl,by
  unfold fQ;rw[WR,WR];refine⟨⟨adJ Fb,adJ (by rw[Ww];exact hl)⟩,Xe.mpr λk hk=>?_⟩;obtain⟨c,_,rfl⟩:=WM.mp hk;rfl⟩]
 have e:sortI (ks.map λk=>ic k++[g k])=(iQ ks).map λk=>ic k++[g k]:=by
  refine mM (jt Fb) ?_ λx=>?_
  ·unfold xo;rw[Yr];refine Yz (λ{a b} h=>?_) (Yr.mp (pU.mpr (fm hn)));rw[nu _ _ (show (ic a).length=(ic b).length from rfl),adG λz=>by rw[z] at h;have:=iL _ _ h;rw[h] at this;cases this];exact h
  ·rw[gz,WM,WM];constructor
   ·rintro⟨c,hc,e⟩;exact⟨c,dD.mpr hc,e⟩
   ·rintro⟨c,hc,e⟩;exact⟨c,dD.mp hc,e⟩
 rw[e,Xo];rfl
def PX(R W:Nat)(f:Cell->Nat)(k:Cell):Prop:=∃x y,On R W x/\On R W y/\gx 4 x y=true/\f x<f y/\k=(f x,f y)
def Cg{ks:List Cell}(hn:ks.Nodup)(h:∀k∈ks,PX R W f k):ks.length<=2*(R*W):=by
 have:ks.length<=((aw R W).flatMap λx=>(pf x).map λy=>((min (f x) (f y),max (f x) (f y)):Cell)).length:=d8 hn λk hk=>by
  obtain⟨x,y,hx,hy,h1,h2,rfl⟩:=h k hk;rcases qX.mp h1 with q | q
  ·exact Zo.mpr ⟨x,az.mpr hx,WM.mpr ⟨y,q,by rw[Z6 (by omega),ZW (by omega)]⟩⟩
  ·exact Zo.mpr ⟨y,az.mpr hy,WM.mpr ⟨x,q,by rw[ZV (by omega),Z7 (by omega)]⟩⟩
 have l2:=l9 (n:=2) (λx=>(pf x).map λy=>((min (f x) (f y),max (f x) (f y)):Cell)) (λx=>by unfold pf;simp) (aw R W);rw[aX] at l2;omega
noncomputable def DZ(R W:Nat)(f:Cell->Nat)(k:Cell):Nat:=((aw R W).map λx=>((eS R W 4 x).filter (su f k x)).length).sum
def wY(hg:Brd bd W)(h2:2*(bd.length*W)<64)(hw:Ways w):∃(f:Cell->Nat) (ks:List Cell),(∀x,On bd.length W x->∃P,(aD bd W w)[f x]? =some P/\x∈P)/\RiseC ks/\(∀k,k∈ks↔PX bd.length W f k)/\fe [brd bd,iW w]=ae (pI ks λk=>(DZ bd.length W f k:Int)):=by
 have hs:bd.length*W<64:=by omega
 obtain⟨f,ks,g,hf,hS,x_,U2,e⟩:=AV hg hs hw;have hl:=Cg hS.nd hS.is;refine⟨f,iQ ks,hf,fm hS.nd,λk=>dD.trans ⟨hS.is k,λ⟨x,y,a,b,c,d,e⟩=>by rw[e];exact x_ x y a b c d⟩,?_⟩;refine bb (ao (cU ((aq rfl rfl).trans hg.nb)) (ao (cU ((aq rfl rfl).trans hw.nw)) (bc ?_)));show (ay 2 cT (aC (dV 0) (aC (ay 2 a8 (aC (dV 0) (aC (dV 1) aN))) aN)) _>>=nV)=_;rw[show ay 2 cT (aC (dV 0) (aC (ay 2 a8 (aC (dV 0) (aC (dV 1) aN))) aN)) _=ae (lr ks λk=> .int (g k)) from(aq (ds:=[brd bd, .lst ((aD bd W w).map cL)]) (aH rfl (aH ((aq rfl rfl).trans ((eh hg hs hw).trans (by rw[gP]))) rfl)) rfl).trans e,ax,D3 hS.nd (by omega)];refine adM (λl=>ae (D.lst l)) (X2 λk hk=>?_);rw[U2 k (dD.mp hk)];rfl
def sG(hg:Brd bd W)(h2:2*(bd.length*W)<64)(hw:Ways w)(hf:∀x,On bd.length W x->∃P,(aD bd W w)[f x]? =some P/\x∈P)(hr:RiseC ks)(hk:∀k,k∈ks↔PX bd.length W f k):
 cS [brd bd, .lst ((aD bd W w).map cL)]=ae (pI ks λk=>(DZ bd.length W f k:Int)):=by
 have hs:bd.length*W<64:=by omega
 obtain⟨nk,f',a1,a2,a3,a4⟩:=Ck (Yc hs) (kz hw) ((aD bd W w).zipIdx.map λq:List Cell×Nat=>(q.2,q.1)) [] (λ_=>0) (λq hq=>by
  obtain⟨p,hp,rfl⟩:=WM.mp hq;exact Yp.mp hp) ⟨YN,(λy hy=>by cases hy),λy hy=>by cases hy⟩
 have hn:∀z,z∈nk↔On bd.length W z:=λz=>⟨a1.on z,λhz=>by
  obtain⟨P,h1,h2⟩:=hf z hz;exact a3 (f z,P) (WM.mpr ⟨(P,f z),Yp.mpr h1,rfl⟩) z h2⟩
 have ef:∀z,On bd.length W z->f' z=f z:=λz hz=>by
  obtain⟨P,p1,p2⟩:=a1.num z ((hn z).mpr hz);obtain⟨Q,q1,q2⟩:=hf z hz;exact Ia hw p1 q1 p2 q2
 have zI:∀z,On bd.length W z->f' z<64:=λz hz=>by
  obtain⟨P,p1,_⟩:=a1.num z ((hn z).mpr hz);have:=(WQ.mp p1).1;have:=gM (bd:=bd) (W:=W) (w:=w);omega
 obtain⟨k2,g2,b1,b2,b3,b5,b4⟩:=G8 hn zI nk [] (λ_=>0) (λx hx=>(hn x).mp hx) ⟨YN,λk hk=>by cases hk⟩;have Qa:∀k,k∈k2↔PX bd.length W f k:=λk=>by
  constructor
  ·intro h;obtain⟨x,y,hx,hy,c,d,e⟩:=b1.is k h;exact⟨x,y,hx,hy,c,by rw[<-ef x hx,<-ef y hy];exact d,by rw[<-ef x hx,<-ef y hy];exact e⟩
  ·rintro⟨x,y,hx,hy,c,d,rfl⟩;rcases qX.mp c with q | q
   ·exact b3 x ((hn x).mpr hx) y q _ (ku.mpr hy) (mJ.mpr ⟨by rw[ef x hx,ef y hy];omega,by rw[ef x hx,ef y hy,Z6 (by omega),ZW (by omega)]⟩)
   ·exact b3 y ((hn y).mpr hy) x q _ (ku.mpr hx) (mJ.mpr ⟨by rw[ef x hx,ef y hy];omega,by rw[ef x hx,ef y hy,ZV (by omega),Z7 (by omega)]⟩)
 have QM:iQ k2=ks:=nQ (fm b1.nd) hr λk=>dD.trans ((Qa k).trans (hk k).symm);have hl:=Cg (f:=f) b1.nd λk h=>(Qa k).mp h;have Fd:nk.Perm (aw bd.length W):=(List.perm_ext_iff_of_nodup a1.nd (RiseC.nodup (cX _ _))).mpr λz=>(hn z).trans az.symm;have Uc:∀k∈k2,g2 k=(DZ bd.length W f k:Int):=λk h=>by
  have:=b5 k;unfold zH at this;rw[adF h,adG (by simp)] at this;rw[this,Int.zero_add];congr 1;unfold DZ;rw[GS,(Fd.map _).sum_nat];congr 1;refine X2 λx hx=>?_;congr 1;refine adD λy hy=>?_;have hx:=az.mp hx;cases ho:BU bd.length W y with
  |false=>rfl
  |true=>
   have Ox:=ku.mp ho;unfold zK su;rw[ef x hx,ef y Ox]
 refine bb (ao (ρ':=toN bd (aD bd W w) [] (λ_=>0) none none none) rfl (ao (cG (da (adM ae (km _)) a4)) (ao (ρ':=[fz (brd bd),fz (.lst ((aD bd W w).map cL)),some (.ow (vf nk λy=> .int (f' y:Int))),none,none,none,some (.ow (vf [] λk=> .int 0)),none,none]) rfl (ao (ρ':=Ci bd (.lst ((aD bd W w).map cL)) nk f' k2 g2 none none none) ?_ ?_))))
 ·show noex (cN (putN 5) (λρ=>(dV 2) ρ>>=jH) _ (Ci bd (.lst ((aD bd W w).map cL)) nk f' [] (λ_=>0) none none none))=_;exact cG (da (Dm (ks:=nk) (ds:=nk.map λy=> .int (f' y:Int))) b4)
 ·show bO (a7 0 (bX (dA oS (aC (dV 6) aN))) bI (dA aS (aC (dV 0) (aC (d2 cy (dV 7) (dV 0)) aN)))) [fz (brd bd),fz (.lst ((aD bd W w).map cL)),fz (lr nk λy=> .int (f' y:Int)),none,none,none,fz (lr k2 λk=> .int (g2 k)),none,none]=_;refine bc (bq (ds:=ks.map cD) (yg ((bo (xs:=[lr k2 λk=> .int (g2 k)]) rfl).trans ((rV b1.nd (by omega)).trans (by rw[QM])))) (cJ cD (λk=> .tup [cD k, .int (DZ bd.length W f k:Int)]) ks λk Hj=>?_) ?_)
  ·have N5:k∈k2:=dD.mp (by rw[QM];exact Hj);rw[fP,show dA aS (aC (dV 0) (aC (d2 cy (dV 7) (dV 0)) aN)) _=ae (.tup [cD k, .int (DZ bd.length W f k:Int)]) from(bo (aH rfl (aH ((aM (x:=lr k2 λk=> .int (g2 k)) (y:=cD k) rfl rfl).trans ((iY (f:=λk=> .int (g2 k)) N5).trans (by rw[Uc k N5]))) rfl))).trans rfl];rfl
  ·rw[Ww,<-QM,cF];have:(iQ k2).length=k2.length:=len_same (RiseC.nodup (fm b1.nd)) b1.nd λx=>dD;omega
end
end K1
namespace K1
open PySem PySem.Spec L2 L3
open PyProof.Rows hiding St
def vp(R W:Nat)(x:Cell):Bool:=(decide (0<x.1)&&decide (x.1+1<R))&&(decide (0<x.2)&&decide (x.2+1<W))
def OE(i a b:Int):sD false (.int i) (.tup [.int a, .int b])=ae (.bl (decide (i=a)||decide (i=b))):=by
 show ae (D.bl ([a,b].contains i))=_;congr 2;simp[ado]
def RO(h:δ ρ=ae (.lst ds)):bX δ ρ=ae ds:=by
 unfold bX;rw[h];rfl
section
open Classical
variable{bd:List Str}{W:Nat}
def yf(hg:Brd bd W)(hc:On bd.length W c):dU [brd bd,cD c]=ae (.bl (!vp bd.length W c)):=by
 have r1:=hg.r1;have w1:=hg.w1;have c1:=hc.1;have c2:=hc.2;refine bb (bc ?_);have e1:d2 (sD false) (d2 ba (dV 1) (dC (.int 0))) (dA aS (aC (dC (.int 0)) (aC (d2 gJ (dA bx (aC (dV 0) aN)) (dC (.int 1))) aN))) [fz (brd bd),fz (cD c)]=ae (.bl (decide ((c.1:Int)=0)||decide ((c.1:Int)=(bd.length:Int) - 1))):=
  (aM rfl ((bo (aH rfl (aH ((aM (Dp rfl) rfl).trans rfl) rfl))).trans rfl)).trans (OE _ _ _)
 have e2:d2 (sD false) (d2 ba (dV 1) (dC (.int 1))) (dA aS (aC (dC (.int 0)) (aC (d2 gJ (dA bx (aC (d2 ba (dV 0) (dC (.int 0))) aN)) (dC (.int 1))) aN))) [fz (brd bd),fz (cD c)]=ae (.bl (decide ((c.2:Int)=0)||decide ((c.2:Int)=(W:Int) - 1))):=
  (aM rfl ((bo (aH rfl (aH ((aM (hg.len0 rfl) rfl).trans rfl) rfl))).trans rfl)).trans (OE _ _ _)
 refine(KJ e1 e2).trans ?_;congr 2;rw[aaH];unfold vp;simp only[ZC,adH,abl,aaI,decide_eq_false_iff_not];omega
def Cu{l:List Bool}(h:ds=l.map D.bl):anyM [.lst ds]=ae (.bl (l.any id)):=by
 show (match bools ds with | some bs=>ae (D.bl (bs.any id)) | none=>ag)=_;rw[h,tI]
def CJ(hg:Brd bd W)(hl:∀c∈l,On bd.length W c)(hn:l.length<=64):b7 [brd bd,cL l]=ae (.bl (l.any λc=>!vp bd.length W c)):=by
 refine bb (bc ?_);have cm:a7 0 (bX (dV 1)) bI (ay 2 dU (aC (dV 1) (aC (dV 0) aN))) [fz (brd bd),fz (cL l)]=ae (.lst ((l.map λc=>!vp bd.length W c).map D.bl)):=by
  refine bq rfl ?_ (by rw[Ww,Ww,cF];omega);rw[Xo];refine cJ cD (λc=> .bl (!vp bd.length W c)) l λc hc=>?_;rw[fP,show ay 2 dU _ _=ae (.bl (!vp bd.length W c)) from(aq rfl rfl).trans (yf hg (hl c hc))];rfl
 refine(bo (aH cm rfl)).trans ((Cu rfl).trans ?_);rw[acG];rfl
end
def gi(h:δ ρ=br n):kM δ ρ=br n:=by
 unfold kM;rw[h];rfl
def eW(h:a ρ=br n):aF a b ρ=br n:=by
 unfold aF;rw[h];rfl
def Cb(h:δ ρ=br n):bu i δ ρ=br n:=by
 unfold bu;rw[h];rfl
def jx(n:Nat):D:= .tup [.str "refused", .int (n:Int)]
def MT(m:M D):M D:=match m with
 |some (.ex n)=>noex (Eh n)
 |r=>r
def vw{i:Nat}(h:l[i]? =some d):pj (.lst l) (.int (i:Int))=ae d:=by
 show (match L2.atI l (i:Int) with | some x=>ae x | none=>ag)=_;rw[iz h]
section
open Classical
variable{bd:List Str}{W w:Nat}
def B6(hg:Brd bd W)(hs:bd.length*W<64)(hw:Ways w)(ho:aF (kM (ay 2 dB (aC (dA bx (aC (dV 3) aN)) (aC (dV 2) aN)))) (bO (d2 pj (dV 3) (dV 2))) [fz (brd bd),fz (iW w),fz d,fz (.lst ((aD bd W w).map cL))]=o):
 ij [fz (brd bd),fz (iW w),fz d,none]=o:=
 ao (cU ((aq rfl rfl).trans hg.nb)) (ao (cU ((aq rfl rfl).trans hw.nw)) (ao ((aO ((aq rfl rfl).trans ((eh hg hs hw).trans (by rw[gP])))).trans rfl) ho))
def vE(h:ρ[3]? =some (fz (.lst ((aD bd W w).map cL)))):dA bx (aC (dV 3) aN) ρ=ae (.int ((aD bd W w).length:Int)):=by
 refine(bo (aH (gD h) rfl)).trans ?_;show ae (D.int (((aD bd W w).map cL).length:Int))=_;rw[Ww]
def nG(hg:Brd bd W)(hs:bd.length*W<64)(hw:Ways w){i:Nat}(hi:(aD bd W w)[i]? =some P):aQ [brd bd,iW w, .int (i:Int)]=ae (cL P):=by
 have fM:=(WQ.mp hi).1;have nn:dB [.int ((aD bd W w).length:Int), .int (i:Int)]=ae .non:=by
  refine B_ (eE (xG (ng (il ((aq rfl rfl).trans ((uR (d:= .int (i:Int)) trivial).trans rfl)))) (ng (b:=true) (fS ?_))) rfl);show (if decide ((0:Int)<=(i:Int))=true then ae (D.bl (decide ((i:Int)<((aD bd W w).length:Int)))) else ae (D.bl false))=_;rw[adF (by rw[adH];omega),adJ (by omega)]
 refine bb (B6 hg hs hw (ao (cU ((aq (aH (vE rfl) rfl) rfl).trans nn)) (bc ((aM rfl rfl).trans (vw (by rw[WT,hi];rfl))))))
def DD(n:Nat):List D:=[.int (-1), .int (n:Int), .non, .bl false, .str "0"]
def ID(hg:Brd bd W)(hs:bd.length*W<64)(hw:Ways w)(h:d∈DD (aD bd W w).length):aQ [brd bd,iW w,d]=br 4:=by
 have nn:dB [.int ((aD bd W w).length:Int),d]=br 4:=by
  unfold DD at h;simp only[WG,XH,or_false] at h;rcases h with rfl | rfl | rfl | rfl | rfl
  ·rfl
  ·refine dH (fK (xG (ng (il ((aq rfl rfl).trans ((uR (d:= .int ((aD bd W w).length:Int)) trivial).trans rfl)))) (ng (b:=false) (fS ?_))) rfl);show (if decide ((0:Int)<=((aD bd W w).length:Int))=true then ae (D.bl (decide (((aD bd W w).length:Int)<((aD bd W w).length:Int)))) else ae (D.bl false))=_;rw[adF (by rw[adH];omega),adI (by omega)]
  ·rfl
  ·rfl
  ·rfl
 exact dH (B6 hg hs hw (eW (gi ((aq (aH (vE rfl) rfl) rfl).trans nn))))
def kW(h:Plain2 d)(hb:m8 d=false):bK [d]=br 0:=by
 refine dH (fK (ng (il ((aq rfl rfl).trans ((lZ h).trans (by rw[hb]))))) rfl)
def FA{d w:D}:aQ [.lst (bd.map D.str),w,d]=br 0:=
 dH (eW (gi ((aq rfl rfl).trans (kW (d:= .lst (bd.map D.str)) YE rfl))))
end
abbrev IC:=Int×Int
def iD(p:IC):D:= .tup [.int p.1, .int p.2]
def kI(p:IC):List Key:=[.inl p.1, .inl p.2]
def LD(a b:IC)(h:kI a=kI b):a=b:=by
 obtain⟨a1,a2⟩:=a;obtain⟨b1,b2⟩:=b;unfold kI at h;injection h with h1 h2
 injection h2 with h2 _
 cases h1;cases h2;rfl
def sv(c:Cell):IC:=((c.1:Int),(c.2:Int))
def JH(h:sv a=sv b):a=b:=by
 obtain⟨a1,a2⟩:=a;obtain⟨b1,b2⟩:=b;unfold sv at h;simp only[ZQ] at h⊢;omega
def yi:∀l:List IC,l6 (l.map iD)=some (l.map kI)
 |[]=>rfl
 |a::l=>by
  show (match eF (iD a),l6 (l.map iD) with | some k,some ks=>some (k::ks) | _,_=>none)=_;rw[yi l];rfl
def Nu(l:List Cell):cL l= .lst ((l.map sv).map iD):=by
 unfold cL;rw[Xo];rfl
section
variable{P:List Cell}
def Lq:xV true (iD x) (cL P)=ae (.bl (!decide (x∈P.map sv))):=by
 rw[Nu];show (match eF (iD x),l6 ((P.map sv).map iD) with | some k,some ks=>ae (D.bl (if true then !qL k ks else qL k ks)) | _,_=>ag)=_;rw[yi];show ae (D.bl (!qL (kI x) ((P.map sv).map kI)))=_;congr 3;generalize P.map sv=l;induction l with
 |nil=>rfl
 |cons y l ih=>
  show (decide (kI y=kI x)||qL (kI x) (l.map kI))=_;rw[ih];by_cases e:x=y
  ·subst e;simp
  ·rw[adI (λz=>e (LD _ _ z).symm)];simp[e]
end
section
open Classical
variable{bd:List Str}{W w:Nat}{P:List Cell}
def HE(P:List Cell)(x:Cell):Nat:=(P.filter λy=>gx 4 x y).length
def AO(P l:List Cell)(a:Int):Int:=l.foldl (λs x=>s+(4 - (HE P x:Int))) a
def yA(hP:P.Nodup)(kg:∀c∈P,On bd.length W c)(x:Cell):((eS bd.length W 4 x).filter λy=>decide (y∈P)).length=HE P x:=by
 refine len_same ((RiseC.nodup (oA ..)).filter _) (hP.filter _) λy=>?_;rw[W7,W7,gw (.inl rfl),adH];exact⟨λh=>⟨h.2,h.1.2⟩,λh=>⟨⟨kg y h.1,h.2⟩,h.1⟩⟩
def Ju(hg:Brd bd W)(hs:bd.length*W<64)(hw:Ways w){i:Nat}(hi:(aD bd W w)[i]? =some P):qf [brd bd,iW w, .int (i:Int)]=ae (.int (AO P P 0)):=by
 have S6:P∈aD bd W w:=Xd hi;have hP:=kz hw P S6;have M7:P.Nodup:=RiseC.nodup (rE hw S6);have K5:P.length<64:=by
  have:=d8 M7 λx hx=>az.mpr (hP x hx);rw[aX] at this;omega
 have e:=(gq (put:=putN 6) (body:=b9 [6] (GL 5 (d2 gJ (dC (.int 4)) (dA bx (aC (a7 0 (bX (ay 3 a6 (aC (dV 0) (aC (dV 6) (aC (dC (.int 4)) aN))))) (cW (d2 (jE false) (dV 0) (dV 5))) (dV 0)) aN))))) cD (λs:Int=>[fz (brd bd),fz (iW w),fz (.int (i:Int)),fz (cL P),fz (jG P),fz (.int s),none]) (λs x=>s+(4 - (HE P x:Int))) (λ_=>True) P 0 trivial λs _ x hx=>⟨trivial,_,rfl,by
  have hc:a7 0 (bX (ay 3 a6 (aC (dV 0) (aC (dV 6) (aC (dC (.int 4)) aN))))) (cW (d2 (jE false) (dV 0) (dV 5))) (dV 0) [fz (brd bd),fz (iW w),fz (.int (i:Int)),fz (cL P),fz (jG P),fz (.int s),fz (cD x)]=ae (cL ((eS bd.length W 4 x).filter λy=>decide (y∈P))):=by
   refine bq (yg ((aq rfl rfl).trans (gO hg (.inl rfl) (hP x hx)))) (j9 cD (λy=>decide (y∈P)) _ λy _=>?_) ?_
   ·rw[z0,show cW (d2 (jE false) (dV 0) (dV 5)) _=ae (decide (y∈P)) from fS ((aM rfl rfl).trans ((pN (by simp[a_])).trans (by rw[adG (by decide)];congr 2;rw[adN];exact gr)))];cases decide (y∈P)<;>rfl
   ·rw[Ww,yA M7 hP x,cF];exact Xf (XO ..) (by omega)
  refine(aT (ρ':=[fz (brd bd),fz (iW w),fz (.int (i:Int)),fz (cL P),fz (jG P),fz (.int (s+(4 - (HE P x:Int)))),fz (cD x)]) ?_).trans rfl;show (d2 gJ (dC (.int 4)) (dA bx (aC (a7 0 (bX (ay 3 a6 (aC (dV 0) (aC (dV 6) (aC (dC (.int 4)) aN))))) (cW (d2 (jE false) (dV 0) (dV 5))) (dV 0)) aN)) [fz (brd bd),fz (iW w),fz (.int (i:Int)),fz (cL P),fz (jG P),fz (.int s),fz (cD x)]>>=λd=>match d with | .int b=>ae (Out.nx [fz (brd bd),fz (iW w),fz (.int (i:Int)),fz (cL P),fz (jG P),fz (.int (s+b)),fz (cD x)]) | _=>ag)=_;rw[aM rfl ((bo (aH hc rfl)).trans (vC _)),yA M7 hP x];rfl⟩).2
 exact bb (ao ((aO ((aq rfl rfl).trans (nG hg hs hw hi))).trans rfl) (ao ((aO ((aq rfl rfl).trans (t_ (by omega)))).trans rfl) (ao rfl (ao (cG (da rfl e)) rfl))))
def Eo(x:Cell):List IC:=[((x.1:Int)+1,(x.2:Int)),((x.1:Int) - 1,(x.2:Int)),((x.1:Int),(x.2:Int)+1),((x.1:Int),(x.2:Int) - 1)]
def Kx(hP:P.Nodup)(x:Cell):(((Eo x).filter λp=>!decide (p∈P.map sv)).length:Int)=4 - (HE P x:Int):=by
 have h1:((Eo x).filter λp=>decide (p∈P.map sv)).length=HE P x:=by
  unfold HE;rw[<-Ww (as:=P.filter λy=>gx 4 x y)];refine len_same (abv _ (show (Eo x).Nodup by unfold Eo;simp;omega)) ((hP.filter _).map (f:=sv) λa b h z=>h (JH z)) λp=>?_;rw[W7,adH,WM,WM];constructor
  ·rintro⟨h,y,hy,rfl⟩;refine⟨y,W7.mpr ⟨hy,?_⟩,rfl⟩;rw[qX,jJ,jJ];unfold Eo sv at h;simp only[WG,XH,or_false,ZQ] at h;omega
  ·rintro⟨y,hy,rfl⟩;obtain⟨VJ,VL⟩:=W7.mp hy;refine⟨?_,y,VJ,rfl⟩;rw[qX,jJ,jJ] at VL;unfold Eo sv;simp only[WG,XH,or_false,ZQ];omega
 have h2:=vD (p:=λp=>decide (p∈P.map sv)) (q:=λp=>!decide (p∈P.map sv)) (l:=Eo x) λa _ h=>by rw[h];rfl
 rw[show (λp=>decide (p∈P.map sv)|| !decide (p∈P.map sv))=λ_=>true from funext λp=>Bool.or_not_self _,List.filter_eq_self.mpr λ_ _=>rfl,h1] at h2;have h3:(Eo x).length=4:=rfl;omega
def yl(hP:P.Nodup)(hl:P.length<64):iE [cL P]=ae (.int (AO P P 0)):=by
 have e:=(gq (put:=jw [2,3]) (body:=(b9 [2,3,4] (aF (bu 4 (dA bS (aC (dA aS (aC (d2 cV (dV 2) (dC (.int 1))) (aC (dV 3) aN))) (aC (dA aS (aC (d2 gJ (dV 2) (dC (.int 1))) (aC (dV 3) aN))) (aC (dA aS (aC (dV 2) (aC (d2 cV (dV 3) (dC (.int 1))) aN))) (aC (dA aS (aC (dV 2) (aC (d2 gJ (dV 3) (dC (.int 1))) aN))) aN)))))) (bu 1 (d2 cV (dV 1) (dA bx (aC (a7 0 (bX (dV 4)) (cW (d2 (xV true) (dV 0) (dV 1))) (dV 0)) aN))))))) cD (λs:Int=>[fz (cL P),fz (.int s),none,none,none]) (λs x=>s+(4 - (HE P x:Int))) (λ_=>True) P 0 trivial λs _ x hx=>⟨trivial,[fz (cL P),fz (.int s),fz (.int (x.1:Int)),fz (.int (x.2:Int)),none],rfl,by
  have hc:a7 0 (bX (dV 4)) (cW (d2 (xV true) (dV 0) (dV 1))) (dV 0) [fz (cL P),fz (.int s),fz (.int (x.1:Int)),fz (.int (x.2:Int)),fz (.lst ((Eo x).map iD))]=ae (.lst (((Eo x).filter λp=>!decide (p∈P.map sv)).map iD)):=by
   refine bq rfl (j9 iD (λp=>!decide (p∈P.map sv)) _ λp _=>?_) ?_
   ·rw[z0,show cW (d2 (xV true) (dV 0) (dV 1)) _=ae (!decide (p∈P.map sv)) from fS ((aM rfl rfl).trans Lq)];cases decide (p∈P.map sv)<;>rfl
   ·rw[Ww];exact Xf (XO ..) (show 4<=lim by decide)
  refine(aT (ao rfl ((aO ((aM (y:= .int (4 - (HE P x:Int))) rfl ((bo (aH hc rfl)).trans ?_)).trans rfl)).trans rfl))).trans rfl;show ae (D.int ((((Eo x).filter λp=>!decide (p∈P.map sv)).map iD).length:Int))=_;rw[Ww,Kx hP x]⟩).2
 exact bb (ao rfl (ao (cG (da rfl e)) rfl))
def GV(hg:Brd bd W)(hs:bd.length*W<64)(hw:Ways w){i:Nat}(hi:(aD bd W w)[i]? =some P):lx [brd bd,iW w, .int (i:Int)]=ae (.int (P.length:Int)):=
 bb (bc ((bo (aH ((aq rfl rfl).trans (nG hg hs hw hi)) rfl)).trans (vC _)))
def wz(P:List Cell):List Int:=P.map λc=>(c.1:Int)
def vc(P:List Cell):List Int:=P.map λc=>(c.2:Int)
def Hv(P:List Cell):D:= .tup [.int (i_ (wz P)), .int (i_ (vc P)), .int (gW (wz P)), .int (gW (vc P))]
def zc(h:ρ[i]? =some (fz (cL P)))(hl:P.length<64):a7 0 (bX (dV i)) bI (d2 ba (dV 0) (dC (.int 0))) ρ=ae (.lst ((wz P).map D.int)):=by
 unfold wz;rw[Xo];exact bq (RN h) (cJ cD (λc=> .int (c.1:Int)) P λc _=>rfl) (by rw[Ww,cF];omega)
def xC(h:ρ[i]? =some (fz (cL P)))(hl:P.length<64):a7 0 (bX (dV i)) bI (d2 ba (dV 0) (dC (.int 1))) ρ=ae (.lst ((vc P).map D.int)):=by
 unfold vc;rw[Xo];exact bq (RN h) (cJ cD (λc=> .int (c.2:Int)) P λc _=>rfl) (by rw[Ww,cF];omega)
def mv(l:List Int):nums (l.map D.int)=some l:=by
 have:=vJ (g:=id) l;simpa using this
def OK(h:0<l.length):me [.lst (l.map D.int)]=ae (.int (i_ l)):=by
 show (match nums (l.map D.int) with | some ns=>if 0<ns.length then ae (D.int (i_ ns)) else ag | none=>ag)=_;rw[mv];exact adF h
def LP(h:0<l.length):g8 [.lst (l.map D.int)]=ae (.int (gW l)):=by
 show (match nums (l.map D.int) with | some ns=>if 0<ns.length then ae (D.int (gW ns)) else ag | none=>ag)=_;rw[mv];exact adF h
def Es(hP:0<P.length)(h1:ρ[i]? =some (fz (.lst ((wz P).map D.int))))(h2:ρ[j]? =some (fz (.lst ((vc P).map D.int)))):
 dA aS (aC (dA me (aC (dV i) aN)) (aC (dA me (aC (dV j) aN)) (aC (dA g8 (aC (dV i) aN)) (aC (dA g8 (aC (dV j) aN)) aN)))) ρ=ae (Hv P):=by
 have l1:0<(wz P).length:=by unfold wz;rw[Ww];exact hP
 have l2:0<(vc P).length:=by unfold vc;rw[Ww];exact hP
 exact(bo (aH ((bo (aH (gD h1) rfl)).trans (OK l1)) (aH ((bo (aH (gD h2) rfl)).trans (OK l2)) (aH ((bo (aH (gD h1) rfl)).trans (LP l1)) (aH ((bo (aH (gD h2) rfl)).trans (LP l2)) rfl))))).trans rfl
def Ht(hg:Brd bd W)(hs:bd.length*W<64)(hw:Ways w){i:Nat}(hi:(aD bd W w)[i]? =some P)(hP:0<P.length)(hl:P.length<64):qe [brd bd,iW w, .int (i:Int)]=ae (Hv P):=
 bb (ao ((aO ((aq rfl rfl).trans (nG hg hs hw hi))).trans rfl) (ao ((aO (zc rfl hl)).trans rfl) (ao ((aO (xC rfl hl)).trans rfl) (bc (Es hP rfl rfl)))))
end
noncomputable def pT(bd:List Str)(W w:Nat):List (Nat×List Cell):=(aD bd W w).zipIdx.map λq:List Cell×Nat=>(q.2,q.1)
section
open Classical
variable{bd:List Str}{W w:Nat}
def GD(h:q∈pT bd W w):(aD bd W w)[q.1]? =some q.2:=by
 obtain⟨p,hp,rfl⟩:=WM.mp h;exact Yp.mp hp
def yS(hs:bd.length*W<64)(hw:Ways w)(h:P∈aD bd W w):(∀c∈P,On bd.length W c)/\P.Nodup/\0<P.length/\P.length<64:=by
 have hP:=kz hw P h;have M7:P.Nodup:=RiseC.nodup (rE hw h);refine⟨hP,M7,?_,?_⟩
 ·unfold aD at h;obtain⟨m,hm,rfl⟩:=WM.mp h;exact ZH (((eD hw (gN hm)).mem m).mpr Cn.refl)
 ·have:=d8 M7 λx hx=>az.mpr (hP x hx);rw[aX] at this;omega
def Bq(R W:Nat)(q:Nat×List Cell):Bool:=q.2.any λc=>!vp R W c
noncomputable def tR(bd:List Str)(W:Nat)(l:List (Nat×List Cell)):List D:=l.flatMap λq=>if Bq bd.length W q then [D.int (q.1:Int)] else []
def tL(enc g:α->D)(p:α->Bool):∀xs:List α,(∀x∈xs,f (enc x)=ae (if p x then some (g x) else none))->d6 f (xs.map enc)=ae (xs.flatMap λx=>if p x then [g x] else [])
 |[],_=>rfl
 |x::xs,h=>by
  rw[WD,df,h x (WB ..),tL enc g p xs λy hy=>h y (Wz _ hy),Ys];cases p x<;>rfl
def Br(l:List (Nat×List Cell)):(tR bd W l).length<=l.length:=by
 have:=l9 (n:=1) (λq:Nat×List Cell=>if Bq bd.length W q then [D.int (q.1:Int)] else []) (λq=>by split<;>simp) l;unfold tR;omega
def BI:(pT bd W w).length=(aD bd W w).length:=by simp[pT]
def xq(hg:Brd bd W)(hs:bd.length*W<64)(hw:Ways w):gp [brd bd,iW w]=ae (.lst (tR bd W (pT bd W w))):=by
 have hl:=gM (bd:=bd) (W:=W) (w:=w);refine bb (ao (cU ((aq rfl rfl).trans hg.nb)) (ao (cU ((aq rfl rfl).trans hw.nw)) (bc (bq ?_ (tL KO (λq=> .int (q.1:Int)) (Bq bd.length W) (pT bd W w) λq hq=>?_) ?_))))
 ·show ((ay 2 a8 (aC (dV 0) (aC (dV 1) aN)) _>>=λx=>ae [x])>>=n9)=_;rw[show ay 2 a8 (aC (dV 0) (aC (dV 1) aN)) _=ae (.lst ((aD bd W w).map cL)) from(aq rfl rfl).trans ((eh hg hs hw).trans (by rw[gP]))];exact adM ae (km _)
 ·obtain⟨h1,_,_,h4⟩:=yS hs hw (Xd (GD hq));have e:iB 2 (du (ay 2 b7 (aC (dV 2) (aC (dV 1) aN)))) (dV 0) [fz (brd bd),fz (iW w)] (KO q)=(du (ay 2 b7 (aC (dV 2) (aC (dV 1) aN))) [fz (.int (q.1:Int)),fz (cL q.2),fz (brd bd),fz (iW w)]>>=λb=>if b then ae (some (D.int (q.1:Int))) else ae none):=rfl;refine e.trans ?_;rw[show du (ay 2 b7 (aC (dV 2) (aC (dV 1) aN))) _=ae (Bq bd.length W q) from il ((aq rfl rfl).trans (CJ hg h1 (by omega)))];cases Bq bd.length W q<;>rfl
 ·have:=Br (bd:=bd) (W:=W) (pT bd W w);rw[BI] at this;rw[cF];show (tR bd W (pT bd W w)).length<=4096;omega
noncomputable def yq(bd:List Str)(W w:Nat):List Int:=(aD bd W w).map λP=>(P.length:Int)
def yo(hs:bd.length*W<64)(h:δ ρ=ae (.lst ((aD bd W w).map cL))):a7 0 (bX δ) bI (dA bx (aC (dV 0) aN)) ρ=ae (.lst ((yq bd W w).map D.int)):=by
 have hl:=gM (bd:=bd) (W:=W) (w:=w);unfold yq;rw[Xo];exact bq (RO h) (cJ cL (λP=> .int (P.length:Int)) _ λP _=>by
  rw[fP,show dA bx (aC (dV 0) aN) _=ae (.int (P.length:Int)) from(bo rfl).trans (vC _)];rfl) (by rw[Ww,cF];omega)
noncomputable def HP(bd:List Str)(W w:Nat):D:= .int ((yq bd W w).idxOf (gW (yq bd W w)):Int)
def xX(hg:Brd bd W)(hw:Ways w)(h:ρ[i]? =some (fz (.lst ((yq bd W w).map D.int)))):dM gL qu (dV i) (aC (dA g8 (aC (dV i) aN)) aN) ρ=ae (HP bd W w):=by
 have hl:0<(yq bd W w).length:=by
  obtain⟨P,hP,_⟩:=rD hg hw (x:=(0,0)) ⟨hg.r1,hg.w1⟩;unfold yq;rw[Ww];exact ZH hP
 show (dV i ρ>>=λd=>if gL d then(aC (dA g8 (aC (dV i) aN)) aN ρ>>=λds=>qu d ds) else ag)=_;rw[gD h,ax,adF (show gL (.lst ((yq bd W w).map D.int))=true from rfl),aH ((bo (aH (gD h) rfl)).trans (LP hl)) rfl,ax];show (match nums ((yq bd W w).map D.int) with | some ns=>if ns.contains (gW (yq bd W w)) then ae (D.int (ns.idxOf (gW (yq bd W w)))) else ag | none=>ag)=_;rw[mv];exact adF (by simpa using (ny hl).1)
def vk(hg:Brd bd W)(hs:bd.length*W<64)(hw:Ways w):fb [brd bd,iW w]=ae (HP bd W w):=
 bb (ao (cU ((aq rfl rfl).trans hg.nb)) (ao (cU ((aq rfl rfl).trans hw.nw)) (ao ((aO (yo hs ((aq rfl rfl).trans ((eh hg hs hw).trans (by rw[gP]))))).trans rfl) (bc (xX hg hw rfl)))))
def tF(k:Nat)(b w n:D):M D:=match k with
 |0=>lx [b,w,n]
 |1=>qf [b,w,n]
 |2=>qe [b,w,n]
 |3=>fe [b,w]
 |4=>fb [b,w]
 |_=>gp [b,w]
def Cj{k:Nat}(hk:k<6){b w n:D}:aJ [.int (k:Int),b,w,n]=MT (tF k b w n):=by
 have go:∀(m:M D),((match (m>>=λd=>ae (Out.rt d)) with | some (.ex n)=>noex (Eh n)>>=λd=>ae (Out.rt d) | r=>r)>>=λo=>match o with | .nx _=>ae D.non | .rt d=>ae d)=MT m:=λm=>match m with
  |none=>rfl
  |some (.ok a)=>rfl
  |some (.ex n)=>rfl
 have Wh:∀(m:M D),((match ((m>>=λd=>ae (Out.rt d))>>=λo=>match o with | .nx ρ'=>(ag:M Out) | .rt d=>ae (Out.rt d)) with | some (.ex n)=>noex (Eh n)>>=λd=>ae (Out.rt d) | r=>r)>>=λo=>match o with | .nx _=>ae D.non | .rt d=>ae d)=MT m:=λm=>match m with
  |none=>rfl
  |some (.ok a)=>rfl
  |some (.ex n)=>rfl
 match k,hk with
 |0,_=>
  show ((match ((lx [b,w,n]>>=λd=>ae (Out.rt d))>>=(λo=>match o with | .nx ρ'=>_ | .rt d=>ae (Out.rt d))) with | some (.ex n)=>noex (Eh n)>>=λd=>ae (Out.rt d) | r=>r)>>=λo=>match o with | .nx _=>ae D.non | .rt d=>ae d)=_
  match h:lx [b,w,n] with
  |none=>rw[show tF 0 b w n=none from h];rfl
  |some (.ok a)=>rw[show tF 0 b w n=some (.ok a) from h];rfl
  |some (.ex n)=>rw[show tF 0 b w _=some (.ex n) from h];rfl
 |1,_=>
  show ((match ((qf [b,w,n]>>=λd=>ae (Out.rt d))>>=(λo=>match o with | .nx ρ'=>_ | .rt d=>ae (Out.rt d))) with | some (.ex n)=>noex (Eh n)>>=λd=>ae (Out.rt d) | r=>r)>>=λo=>match o with | .nx _=>ae D.non | .rt d=>ae d)=_
  match h:qf [b,w,n] with
  |none=>rw[show tF 1 b w n=none from h];rfl
  |some (.ok a)=>rw[show tF 1 b w n=some (.ok a) from h];rfl
  |some (.ex n)=>rw[show tF 1 b w _=some (.ex n) from h];rfl
 |2,_=>
  show ((match ((qe [b,w,n]>>=λd=>ae (Out.rt d))>>=(λo=>match o with | .nx ρ'=>_ | .rt d=>ae (Out.rt d))) with | some (.ex n)=>noex (Eh n)>>=λd=>ae (Out.rt d) | r=>r)>>=λo=>match o with | .nx _=>ae D.non | .rt d=>ae d)=_
  match h:qe [b,w,n] with
  |none=>rw[show tF 2 b w n=none from h];rfl
  |some (.ok a)=>rw[show tF 2 b w n=some (.ok a) from h];rfl
  |some (.ex n)=>rw[show tF 2 b w _=some (.ex n) from h];rfl
 |3,_=>exact go (fe [b,w])
 |4,_=>exact go (fb [b,w])
 |5,_=>exact go (gp [b,w])
def kG{k:Nat}(hk:k<6){b w n d:D}(h:tF k b w n=ae d):aJ [.int (k:Int),b,w,n]=ae d:=(Cj hk).trans (by rw[h];rfl)
def wX{k:Nat}(hk:k<6){b w n:D}(h:tF k b w n=br e):aJ [.int (k:Int),b,w,n]=noex (Eh e):=(Cj hk).trans (by rw[h];rfl)
def Ar{b w n:D}(h:aQ [b,w,n]=br e)(k:Nat)(hk:k<3):tF k b w n=br e:=by
 have c:=(aq (m:=3) (δs:=aC (dV 0) (aC (dV 1) (aC (dV 2) aN))) (ρ:=[fz b,fz w,fz n]) rfl rfl).trans h
 match k,hk with
 |0,_=>
  refine dH ?_;show (((ay 3 aQ (aC (dV 0) (aC (dV 1) (aC (dV 2) aN))) [fz b,fz w,fz n]>>=λx=>ae [x])>>=bx)>>=λd=>ae (Out.rt d))=_;rw[c];rfl
 |1,_=>exact dH (eW (Cb ((aq rfl rfl).trans h)))
 |2,_=>exact dH (eW (Cb ((aq rfl rfl).trans h)))
def uk:List D:=[.int 5, .non, .int 0]
def vI(h:d∈uk):bY [d]=br 1:=by
 unfold uk at h;simp only[WG,XH,or_false] at h;rcases h with rfl | rfl | rfl<;>rfl
def JM(hg:Brd bd W){d n:D}(h:d∈uk)(k:Nat)(hk:k<6):tF k (brd bd) d n=br 1:=by
 have h1:=vI h;have hn:aQ [brd bd,d,n]=br 1:=dH (ao (cU ((aq rfl rfl).trans hg.nb)) (eW (gi ((aq rfl rfl).trans h1))));by_cases h3:k<3
 ·exact Ar hn k h3
 ·match k,hk with
  |3,_=>exact dH (ao (cU ((aq rfl rfl).trans hg.nb)) (eW (gi ((aq rfl rfl).trans h1))))
  |4,_=>exact dH (ao (cU ((aq rfl rfl).trans hg.nb)) (eW (gi ((aq rfl rfl).trans h1))))
  |5,_=>exact dH (ao (cU ((aq rfl rfl).trans hg.nb)) (eW (gi ((aq rfl rfl).trans h1))))
def Iu(k:Nat)(hk:k<6):tF k (.lst (bd.map D.str)) d n=br 0:=by
 have h1:=kW (d:= .lst (bd.map D.str)) YE rfl;by_cases h3:k<3
 ·exact Ar FA k h3
 ·match k,hk with
  |3,_=>exact dH (eW (gi ((aq rfl rfl).trans h1)))
  |4,_=>exact dH (eW (gi ((aq rfl rfl).trans h1)))
  |5,_=>exact dH (eW (gi ((aq rfl rfl).trans h1)))
def many(m:Nat)(hm:m<=64)(h:∀k:Nat,k<m->δ (fz (.int (k:Int))::ρ)=ae (g k)):a7 0 (λρ=>(aC (dC (.int (m:Int))) aN) ρ>>=fJ) bI δ ρ=ae (.lst ((W8 m).map g)):=by
 refine bq (GI rfl (by omega)) (cJ (λ(k:Nat)=>D.int (k:Int)) g (W8 m) λk hk=>?_) (by rw[Ww,aah,cF];omega);rw[fP,h k (Yq.mp hk)];rfl
end
section
open Classical
variable{bd:List Str}{W w:Nat}
def yz(ha:fW 5 a a=some true)(hb:fW 5 b b=some true)(hc:fW 5 c c=some true):qi (.lst [a,b,c]) (.lst [a,b,c])=ae (.bl false):=by
 have e:fW 6 (.lst [a,b,c]) (.lst [a,b,c])=some true:=by
  show (match fW 5 a a,(match fW 5 b b,(match fW 5 c c,some true with | some x,some y=>some (x&&y) | _,_=>none) with | some x,some y=>some (x&&y) | _,_=>none) with | some x,some y=>some (x&&y) | _,_=>none)=_;rw[ha,hb,hc];rfl
 unfold qi;rw[e];rfl
def rR(i:Int):fW 5 (.int i) (.int i)=some true:=(j_ 5 i i).trans (by simp)
def GQ(P:List Cell):fW 5 (Hv P) (Hv P)=some true:=(kc 4 [i_ (wz P),i_ (vc P),gW (wz P),gW (vc P)] [i_ (wz P),i_ (vc P),gW (wz P),gW (vc P)]).trans (by simp)
def D0(l:List Int):fW 5 (.lst (l.map D.int)) (.lst (l.map D.int))=some true:=(kc 4 l l).trans (by simp)
def HH(g:Cell->Int):tq 2 (λk:Cell=>D.tup [cD k, .int (g k)]):=λk x y=>by
 rw[show 2+k=(1+k)+1 by omega];show (match fW (1+k) (cD x) (cD y),(match fW (1+k) (.int (g x)) (.int (g y)),some true with | some b,some r=>some (b&&r) | _,_=>none) with | some b,some r=>some (b&&r) | _,_=>none)=_;rw[EK k x y,j_];show some (decide (x=y)&&((g x==g y)&&true))=_;congr 1;by_cases h:x=y
 ·subst h;simp
 ·simp[h]
def GR(ks:List Cell)(g:Cell->Int):fW 5 (pI ks g) (pI ks g)=some true:=((HG (HH g)) 2 ks ks).trans (by simp)
def xN:∀l:List (Nat×List Cell),tR bd W l=((l.filter (Bq bd.length W)).map λq=>(q.1:Int)).map D.int
 |[]=>rfl
 |q::l=>by
  show (if Bq bd.length W q then [D.int (q.1:Int)] else [])++tR bd W l=_;rw[xN l,XR];cases Bq bd.length W q<;>rfl
def qw(i:Int)(l:List Int):kP false (.int i) (.lst (l.map D.int))=ae (.bl (l.contains i)):=by
 show (match nums (l.map D.int) with | some ns=>ae (D.bl (if false=true then !ns.contains i else ns.contains i)) | none=>ag)=_;rw[mv];rfl
abbrev zL(s:D)(bd:List Str)(w:Nat)(c3 c4 c5 c6 c7 c8 c9 c10 c11 c12:Option Sl):cQ:=[fz s,fz (brd bd),fz (iW w),c3,c4,c5,c6,c7,c8,c9,c10,c11,c12]
def CQ(hg:Brd bd W)(kg:∀c∈q.2,On bd.length W c)(hl:q.2.length<64):
 pe (cW (d2 (kP false) (dC (.int 0)) (d2 gG (dV 7) (dV 8)))) (pe (cW (d2 (kP false) (d2 gJ (dA bx (aC (dV 1) aN)) (dC (.int 1))) (dV 7))) (cW (d2 (kP false) (d2 gJ (dA bx (aC (d2 ba (dV 1) (dC (.int 0))) aN)) (dC (.int 1))) (dV 8)))) (zL s bd w c3 c4 c5 c6 (fz (.lst ((wz q.2).map D.int))) (fz (.lst ((vc q.2).map D.int))) c9 c10 c11 c12)=ae (Bq bd.length W q):=by
 have r1:=hg.r1;have w1:=hg.w1;have hc:d2 gG (dV 7) (dV 8) (zL s bd w c3 c4 c5 c6 (fz (.lst ((wz q.2).map D.int))) (fz (.lst ((vc q.2).map D.int))) c9 c10 c11 c12)=ae (.lst ((wz q.2++vc q.2).map D.int)):=by
  refine(aM rfl rfl).trans ?_;rw[X_];exact adF (by unfold wz vc;simp only[Ww,cF];omega)
 refine(xG (fS ((aM rfl hc).trans (qw _ _))) (xG (fS ((aM ((aM (Dp rfl) rfl).trans rfl) rfl).trans (qw _ _))) (fS ((aM ((aM (hg.len0 rfl) rfl).trans rfl) rfl).trans (qw _ _))))).trans ?_;congr 1;rw[aaH];unfold Bq wz vc;simp only[ZC,List.contains_iff_mem,XI,WM,List.any_eq_true];constructor
 ·rintro((⟨c,hc,e⟩ | ⟨c,hc,e⟩) | ⟨c,hc,e⟩ | ⟨c,hc,e⟩)
  all_goals
   refine⟨c,hc,?_⟩;unfold vp;simp only[abl,aaI,decide_eq_false_iff_not];omega
 ·rintro⟨c,hc,e⟩;have ho:=kg c hc;unfold vp at e;simp only[abl,aaI,decide_eq_false_iff_not] at e;have h1:=ho.1;have h2:=ho.2;by_cases a1:c.1=0
  ·exact .inl (.inl ⟨c,hc,by omega⟩)
  ·by_cases a2:c.2=0
   ·exact .inl (.inr ⟨c,hc,by omega⟩)
   ·by_cases a3:c.1+1=bd.length
    ·exact .inr (.inl ⟨c,hc,by omega⟩)
    ·exact .inr (.inr ⟨c,hc,by omega⟩)
def Fx(hg:Brd bd W)(hs:bd.length*W<64)(hw:Ways w)(hq:q∈pT bd W w)(s:D)(ha:u8.length<64):
 LO (zL s bd w c3 (some (.ow (.lst u8))) (fz (.int (q.1:Int))) (fz (cL q.2)) none none none none none none)=ae (.nx (zL s bd w c3 (some (.ow (.lst (u8++if Bq bd.length W q then [D.int (q.1:Int)] else [])))) none none none none none none none none)):=by
 have hi:=GD hq;obtain⟨p1,p2,p3,p4⟩:=yS hs hw (Xd hi);refine(aT (ρ':=zL s bd w c3 (some (.ow (.lst (u8++if Bq bd.length W q then [D.int (q.1:Int)] else [])))) (fz (.int (q.1:Int))) (fz (cL q.2)) (fz (.lst ((wz q.2).map D.int))) (fz (.lst ((vc q.2).map D.int))) (fz (.lst [.int (q.2.length:Int), .int (AO q.2 q.2 0),Hv q.2])) none none none) ?_).trans rfl;refine ao ((aO (zc rfl p4)).trans rfl) ?_;refine ao ((aO (xC rfl p4)).trans rfl) ?_;refine ao ((aO ((bo (aH ((bo rfl).trans (vC _)) (aH ((aq rfl rfl).trans (yl p2 p4)) (aH (Es p3 rfl rfl) rfl)))).trans rfl)).trans rfl) ?_;have g3:=many (δ:=ay 4 aJ (aC (dV 0) (aC (dV 2) (aC (dV 3) (aC (dV 6) aN))))) (ρ:=zL s bd w c3 (some (.ow (.lst u8))) (fz (.int (q.1:Int))) (fz (cL q.2)) (fz (.lst ((wz q.2).map D.int))) (fz (.lst ((vc q.2).map D.int))) (fz (.lst [.int (q.2.length:Int), .int (AO q.2 q.2 0),Hv q.2])) none none none) 3 (by decide) (g:=λk=>match k with | 0=> .int (q.2.length:Int) | 1=> .int (AO q.2 q.2 0) | _=>Hv q.2) λk hk=>(aq (ds:=[.int (k:Int),brd bd,iW w, .int (q.1:Int)]) rfl rfl).trans (by
  match k,hk with
  |0,_=>exact kG (by decide) (GV hg hs hw hi)
  |1,_=>exact kG (by decide) (Ju hg hs hw hi)
  |2,_=>exact kG (by decide) (Ht hg hs hw hi p3 p4))
 refine ao (eE (fS ((aM g3 rfl).trans (yz (rR _) (rR _) (GQ _)))) rfl) ?_;have et:=CQ (w:=w) hg p1 p4 (s:=s) (c3:=c3) (c4:=some (.ow (.lst u8))) (c5:=fz (.int (q.1:Int))) (c6:=fz (cL q.2)) (c9:=fz (.lst [.int (q.2.length:Int), .int (AO q.2 q.2 0),Hv q.2])) (c10:=none) (c11:=none) (c12:=none);cases hb:Bq bd.length W q with
 |true=>
  refine fK (et.trans (by rw[hb])) ?_;show (if u8.length<lim then ae (Out.nx (zL s bd w c3 (some (.ow (.lst (u8++[D.int (q.1:Int)])))) (fz (.int (q.1:Int))) (fz (cL q.2)) (fz (.lst ((wz q.2).map D.int))) (fz (.lst ((vc q.2).map D.int))) (fz (.lst [.int (q.2.length:Int), .int (AO q.2 q.2 0),Hv q.2])) none none none)) else ag)=_;rw[adF (by rw[cF];omega)];rfl
 |false=>exact eE (et.trans (by rw[hb])) (by simp;rfl)
end
def Fw(ns:List Int)(hl:ns.length<=63):kf [.scr ns]=ae (.bl true):=by
 obtain⟨bd,W,hG,h4,w4,eb⟩:=zR ns hl 0 4 (by decide) (by decide);have hg:=hG.brd;have Wi:bd.length*W<=16:=YQ h4 w4;have hs:bd.length*W<64:=by omega
 refine bb ?_;refine ao ((aO ((aq rfl rfl).trans eb)).trans rfl) ?_;obtain⟨v,hv,ev⟩:=e_ ns hl 50 2 (by decide);obtain⟨w,hw,ew⟩:∃w,Ways w/\pj (.lst [.int 4, .int 8]) (.int (v:Int))=ae (iW w):=by
  match v,hv with
  |0,_=>exact⟨4, .inl rfl,rfl⟩
  |1,_=>exact⟨8, .inr rfl,rfl⟩
 refine ao ((aO ((aM rfl ((aq rfl rfl).trans ev)).trans ew)).trans rfl) ?_;have Vg:cK [brd bd,iW w]=ae (.lst ((aD bd W w).map cL)):=(pq hg hs hw).trans (by rw[gP]);refine ao ((aO ((aq rfl rfl).trans Vg)).trans rfl) ?_;refine ao rfl ?_;have kL:=gM (bd:=bd) (W:=W) (w:=w);have Wr:=BI (bd:=bd) (W:=W) (w:=w);have US:=Br (bd:=bd) (W:=W) (pT bd W w);have e4:=d7 (put:=jw [5,6]) (body:=LO) KO (λu8=>zL (.scr ns) bd w (fz (.lst ((aD bd W w).map cL))) (some (.ow (.lst u8))) none none none none none none none none) (λq=>if Bq bd.length W q then [D.int (q.1:Int)] else []) (B:=63) (pT bd W w) [] (by rw[Xa];exact Xf US (by omega)) λq hq u8 hB=>⟨_,rfl,Fx hg hs hw hq (.scr ns) (by rw[WL] at hB;omega)⟩
 refine ao (ρ':=zL (.scr ns) bd w (fz (.lst ((aD bd W w).map cL))) (some (.ow (.lst (tR bd W (pT bd W w))))) none none none none none none none none) (cG (da (adM ae (km _)) e4)) ?_;refine ao (ρ':=zL (.scr ns) bd w (fz (.lst ((aD bd W w).map cL))) (some (.ow (.lst (tR bd W (pT bd W w))))) none none none none none (fz (.lst ((yq bd W w).map D.int))) none none) ((aO (yo hs rfl)).trans rfl) ?_;obtain⟨f,ks,hf,hr,hk,et⟩:=wY hg (by omega) hw;have elt:=sG hg (by omega) hw hf hr hk;refine ao (ρ':=zL (.scr ns) bd w (fz (.lst ((aD bd W w).map cL))) (fz (.lst (tR bd W (pT bd W w)))) none none none none (fz (.lst [pI ks λk=>(DZ bd.length W f k:Int),HP bd W w, .lst (tR bd W (pT bd W w))])) (fz (.lst ((yq bd W w).map D.int))) none none) ?_ ?_
 ·show bu 9 (dA bS (aC (ay 2 cS (aC (dV 1) (aC (dV 3) aN))) (aC (dM gL qu (dV 10) (aC (dA g8 (aC (dV 10) aN)) aN)) (aC (dV 4) aN)))) (zL (.scr ns) bd w (fz (.lst ((aD bd W w).map cL))) (fz (.lst (tR bd W (pT bd W w)))) none none none none none (fz (.lst ((yq bd W w).map D.int))) none none)=_;exact(aO ((bo (aH ((aq (ds:=[brd bd, .lst ((aD bd W w).map cL)]) rfl rfl).trans elt) (aH (xX hg hw rfl) (aH rfl rfl)))).trans rfl)).trans rfl
 have g3:a7 0 (pd (dA aS (aC (dC (.int 3)) (aC (dC (.int 4)) (aC (dC (.int 5)) aN))))) bI (ay 4 aJ (aC (dV 0) (aC (dV 2) (aC (dV 3) (aC (dC .non) aN))))) (zL (.scr ns) bd w (fz (.lst ((aD bd W w).map cL))) (fz (.lst (tR bd W (pT bd W w)))) none none none none (fz (.lst [pI ks λk=>(DZ bd.length W f k:Int),HP bd W w, .lst (tR bd W (pT bd W w))])) (fz (.lst ((yq bd W w).map D.int))) none none)=ae (.lst [pI ks λk=>(DZ bd.length W f k:Int),HP bd W w, .lst (tR bd W (pT bd W w))]):=by
  refine bq (ds:=[.int 3, .int 4, .int 5]) rfl ?_ (show 3<=lim by decide);rw[df,fP,show ay 4 aJ _ _=ae (pI ks λk=>(DZ bd.length W f k:Int)) from(aq (ds:=[.int 3,brd bd,iW w, .non]) rfl rfl).trans (kG (k:=3) (by decide) et),df,fP,show ay 4 aJ _ (fz (.int 4)::_)=ae (HP bd W w) from(aq (ds:=[.int 4,brd bd,iW w, .non]) rfl rfl).trans (kG (k:=4) (by decide) (vk hg hs hw)),df,fP,show ay 4 aJ _ (fz (.int 5)::_)=ae (.lst (tR bd W (pT bd W w))) from(aq (ds:=[.int 5,brd bd,iW w, .non]) rfl rfl).trans (kG (k:=5) (by decide) (xq hg hs hw))];rfl
 refine ao (eE (fS ((aM g3 (y:= .lst [pI ks λk=>(DZ bd.length W f k:Int),HP bd W w, .lst (tR bd W (pT bd W w))]) rfl).trans (yz (GR _ _) (rR _) (by rw[xN];exact D0 _)))) rfl) ?_;obtain⟨u,hu,eu⟩:=e_ ns hl 51 5 (by decide);obtain⟨o,ho⟩:∃o,(DD (aD bd W w).length)[u]? =some o:=⟨_,Wy (show u<5 from hu)⟩
 have Vs:o∈DD (aD bd W w).length:=Xd ho;obtain⟨z,hz,ez⟩:=e_ ns hl 52 3 (by decide);obtain⟨x,hx⟩:∃x,uk[z]? =some x:=⟨_,Wy (show z<3 from hz)⟩
 have VI:x∈uk:=Xd hx;have Tn:∀{c4 c9 c10:Option Sl},dA bx (aC (dV 3) aN) (zL (.scr ns) bd w (fz (.lst ((aD bd W w).map cL))) c4 none none none none c9 c10 none none)=ae (.int ((aD bd W w).length:Int)):=vE rfl;refine ao (ρ':=zL (.scr ns) bd w (fz (.lst ((aD bd W w).map cL))) (fz (.lst (tR bd W (pT bd W w)))) none none none none (fz (.lst [pI ks λk=>(DZ bd.length W f k:Int),HP bd W w, .lst (tR bd W (pT bd W w))])) (fz (.lst ((yq bd W w).map D.int))) (fz o) none) ((aO ((aM (x:= .lst (DD (aD bd W w).length)) ((bo (xs:=DD (aD bd W w).length) (aH rfl (aH Tn rfl))).trans rfl) ((aq (ds:=[.scr ns, .int 51, .int 5]) rfl rfl).trans eu)).trans (vw ho))).trans rfl) ?_;refine ao (eE (fS ((aM (many 3 (by decide) (g:=λ_=>jx 4) λk hk=>(aq (ds:=[.int (k:Int),brd bd,iW w,o]) rfl rfl).trans (wX (by omega) (Ar (ID hg hs hw Vs) k hk))) (y:= .lst [jx 4,jx 4,jx 4]) rfl).trans rfl)) rfl) ?_;refine ao (ρ':=zL (.scr ns) bd w (fz (.lst ((aD bd W w).map cL))) (fz (.lst (tR bd W (pT bd W w)))) none none none none (fz (.lst [pI ks λk=>(DZ bd.length W f k:Int),HP bd W w, .lst (tR bd W (pT bd W w))])) (fz (.lst ((yq bd W w).map D.int))) (fz o) (fz x)) ((aO ((aM (x:= .lst uk) rfl ((aq (ds:=[.scr ns, .int 52, .int 3]) rfl rfl).trans ez)).trans (vw hx))).trans rfl) ?_;refine ao (eE (fS ((aM (many 6 (by decide) (g:=λ_=>jx 1) λk hk=>(aq (ds:=[.int (k:Int),brd bd,x,o]) rfl rfl).trans (wX hk (JM hg VI k hk))) (y:= .lst [jx 1,jx 1,jx 1,jx 1,jx 1,jx 1]) rfl).trans rfl)) rfl) ?_;exact bc ((aM (many 6 (by decide) (g:=λ_=>jx 0) λk hk=>(aq (ds:=[.int (k:Int), .lst (bd.map D.str), .int 5,o]) rfl rfl).trans (wX hk (Iu k hk))) (y:= .lst [jx 0,jx 0,jx 0,jx 0,jx 0,jx 0]) rfl).trans rfl)
def OL(c0 c1 c2 c3 c4 c5 c6:Addr):Nat->Addr
 |0=>c0
 |1=>c1
 |2=>c2
 |3=>c3
 |4=>c4
 |5=>c5
 |_=>c6
def DF(K:WI)(x:Str)(s:Stmt):Prop:=∃(f:Addr) (oc:Value) (od an:Option Addr) (sl:Array (Option Value)) (kV dc pm cd ct:Value),W6 K W0 x=some (some (.ref f))/\K.lookup f=some ⟨oc,od, .func (X8 x x (eM s) (bf s) (ai s) .none kV dc pm an cd ct),sl⟩/\Zg K cd x=true/\Yg K (.ref f)=true
def DF.mk{K:WI}{x:Str}{s:Stmt}{f:Addr}{oc:Value}{od an:Option Addr}{sl:Array (Option Value)}{kV dc pm cd ct:Value}(a:W6 K W0 x=some (some (.ref f)))(l:K.lookup f=some ⟨oc,od, .func (X8 x x (eM s) (bf s) (ai s) .none kV dc pm an cd ct),sl⟩)(c:Zg K cd x=true)(k:Yg K (.ref f)=true):DF K x s:=⟨f,oc,od,an,sl,kV,dc,pm,cd,ct,a,l,c,k⟩
def DF.at{K:WI}{x:Str}{s:Stmt}{h:Heap}{mg:Str->Option Value}(X:K.In h)(G:h.Ns W0 mg)(d:DF K x s):∃f,bG K mg x s f:=by
 obtain⟨f,oc,od,an,sl,kV,dc,pm,cd,ct,a,l,c,k⟩:=d;exact⟨f,XZ X G a,_,ES (st:=s) l c k⟩
def all_mk{P:Xc}{w:World}{K:WI}{h:Heap}{mg:Str->Option Value}{fa:Addr}(X:K.In h)(G:h.Ns W0 mg)(UT:mg "law"=some (.ref fa))
 {lu:Addr}{Az pW:Option Addr}{AW:Array (Option Value)}{Ay qE qa rL lh p_:Value}
 {D4:Tok}
 {zq:Tok}
 {r_:Tok}
 {C0 C1 C2 C3 C4 C5 C6 Cp:Addr}{r0:ClassData}{r1:ClassData}{r4:ClassData}
 (d_is_whole:DF K "is_whole" lI)
 (d_is_letter:DF K "is_letter" jZ)
 (d_cells_of_row:DF K "cells_of_row" eX)
 (d_letter_of:DF K "letter_of" j1)
 (d_are_next:DF K "are_next" lH)
 (d_keyed:DF K "keyed" wB)
 (d_numbers_of:DF K "numbers_of" jo)
 (d_is_at_edge:DF K "is_at_edge" jj)
 (d_law_cell:DF K "_law_cell" lJ)
 (d_law_cells:DF K "_law_cells" ig)
 (d_law_beside:DF K "_law_beside" jk)
 (d_law_refused:DF K "_law_refused" iu)
 (d_law_touching:DF K "_law_touching" eY)
 (d_law_rim:DF K "_law_rim" kF)
 (d_is_row:DF K "is_row" mO)
 (d_need_ways:DF K "need_ways" j2)
 (d_all_cells:DF K "all_cells" jY)
 (d_next_cells:DF K "next_cells" jm)
 (d_need_number:DF K "need_number" ix)
 (d_comes_to_edge:DF K "comes_to_edge" el)
 (d_law_drawn:DF K "_law_drawn" j0)
 (d_law_labels:DF K "_law_labels" gj)
 (d_is_board:DF K "is_board" gR)
 (d_like_cells:DF K "like_cells" gm)
 (d_shared_sides:DF K "shared_sides" gS)
 (d_law_board:DF K "_law_board" ib)
 (d_law_patches:DF K "_law_patches" fB)
 (d_need_board:DF K "need_board" jl)
 (d_steps_back:DF K "steps_back" jq)
 (d_all_patches:DF K "all_patches" ir)
 (d_patch_of_number:DF K "patch_of_number" eZ)
 (d_touching:DF K "touching" lK)
 (d_greatest:DF K "greatest" ji)
 (d_at_edge:DF K "at_edge" kE)
 (d_size:DF K "size" AR)
 (d_rim:DF K "rim" Cc)
 (d_box:DF K "box" zd)
 (d_law_told_v5:DF K "_law_told" iw)
 (a_law_k30:W6 K W0 "law"=some (some (.ref lu)))(l_law_k30:K.lookup lu=some ⟨Ay,Az, .func (X8 "law" "law" (eM av) (bf av) (ai av) .none qE qa rL pW lh p_),AW⟩)(c_law_k30:Zg K lh "law"=true)(k_law_k30:Yg K (.ref lu)=true)
 (z_len:W6 K W0 "len"=some none)
 (z_isinstance:W6 K W0 "isinstance"=some none)
 (z_all:W6 K W0 "all"=some none)
 (z_any:W6 K W0 "any"=some none)
 (z_abs:W6 K W0 "abs"=some none)
 (z_max:W6 K W0 "max"=some none)
 (z_min:W6 K W0 "min"=some none)
 (z_range:W6 K W0 "range"=some none)
 (z_str:W6 K W0 "str"=some none)
 (z_int:W6 K W0 "int"=some none)
 (z_bool:W6 K W0 "bool"=some none)
 (z_tuple:W6 K W0 "tuple"=some none)
 (z_list:W6 K W0 "list"=some none)
 (z_dict:W6 K W0 "dict"=some none)
 (z_sorted:W6 K W0 "sorted"=some none)
 (z_enumerate:W6 K W0 "enumerate"=some none)
 (z_ValueError:W6 K W0 "ValueError"=some none)
 (y_LETTERS:W6 K W0 "LETTERS"=some (some (.str "abcdef" D4)))
 (y_MOST_ROWS:W6 K W0 "MOST_ROWS"=some (some (.int 8 zq)))
 (y_MOST_COLUMNS:W6 K W0 "MOST_COLUMNS"=some (some (.int 8 r_)))
 (e0:W6 K W0 "NoBoard"=some (some (.ref C0)))
 (e1:W6 K W0 "NoWays"=some (some (.ref C1)))
 (e2:W6 K W0 "NoCell"=some (some (.ref C2)))
 (e3:W6 K W0 "NoLetter"=some (some (.ref C3)))
 (e4:W6 K W0 "NoNumber"=some (some (.ref C4)))
 (e5:W6 K W0 "NoFit"=some (some (.ref C5)))
 (e6:W6 K W0 "Nothing"=some (some (.ref C6)))
 (ep:W6 K W0 "PatchError"=some (some (.ref Cp)))
 (sp:PySem.W.subIn K (.ref Cp) (.type "BaseException")=some true)
 (q0:aaf K C0 [.type "ValueError", .type "Exception", .type "BaseException", .type "object"] "ValueError.__new__"=true)
 (ga0:Yh K (.ref C0) "__getattribute__"=some (some (.builtin "BaseException.__getattribute__")))(gt0:Yh K (.ref C0) "__getattr__"=some none)(ca0:Yh K (.ref C0) "__class__"=some (some (.builtin "object.__class__")))(mo0:Zs K C0 (.type "object")=some true)(mb0:Zs K C0 (.type "BaseException")=some true)(cl0:ZP K C0=some r0)
 (kp0:WV K (.ref C0) (.ref Cp)=some true)(kv0:WV K (.ref C0) (.type "ValueError")=some true)(np0:((WY C0)==(WY Cp))=false)
 (k00:WV K (.ref C0) (.ref C0)=some true)
 (k01:WV K (.ref C0) (.ref C1)=some false)
 (k02:WV K (.ref C0) (.ref C2)=some false)
 (k03:WV K (.ref C0) (.ref C3)=some false)
 (k04:WV K (.ref C0) (.ref C4)=some false)
 (k05:WV K (.ref C0) (.ref C5)=some false)
 (k06:WV K (.ref C0) (.ref C6)=some false)
 (q1:aaf K C1 [.type "ValueError", .type "Exception", .type "BaseException", .type "object"] "ValueError.__new__"=true)
 (ga1:Yh K (.ref C1) "__getattribute__"=some (some (.builtin "BaseException.__getattribute__")))(gt1:Yh K (.ref C1) "__getattr__"=some none)(ca1:Yh K (.ref C1) "__class__"=some (some (.builtin "object.__class__")))(mo1:Zs K C1 (.type "object")=some true)(mb1:Zs K C1 (.type "BaseException")=some true)(cl1:ZP K C1=some r1)
 (kp1:WV K (.ref C1) (.ref Cp)=some true)(kv1:WV K (.ref C1) (.type "ValueError")=some true)(np1:((WY C1)==(WY Cp))=false)
 (k10:WV K (.ref C1) (.ref C0)=some false)
 (k11:WV K (.ref C1) (.ref C1)=some true)
 (k12:WV K (.ref C1) (.ref C2)=some false)
 (k13:WV K (.ref C1) (.ref C3)=some false)
 (k14:WV K (.ref C1) (.ref C4)=some false)
 (k15:WV K (.ref C1) (.ref C5)=some false)
 (k16:WV K (.ref C1) (.ref C6)=some false)
 (q4:aaf K C4 [.type "ValueError", .type "Exception", .type "BaseException", .type "object"] "ValueError.__new__"=true)
 (ga4:Yh K (.ref C4) "__getattribute__"=some (some (.builtin "BaseException.__getattribute__")))(gt4:Yh K (.ref C4) "__getattr__"=some none)(ca4:Yh K (.ref C4) "__class__"=some (some (.builtin "object.__class__")))(mo4:Zs K C4 (.type "object")=some true)(mb4:Zs K C4 (.type "BaseException")=some true)(cl4:ZP K C4=some r4)
 (kp4:WV K (.ref C4) (.ref Cp)=some true)(kv4:WV K (.ref C4) (.type "ValueError")=some true)(np4:((WY C4)==(WY Cp))=false)
 (k40:WV K (.ref C4) (.ref C0)=some false)
 (k41:WV K (.ref C4) (.ref C1)=some false)
 (k42:WV K (.ref C4) (.ref C2)=some false)
 (k43:WV K (.ref C4) (.ref C3)=some false)
 (k44:WV K (.ref C4) (.ref C4)=some true)
 (k45:WV K (.ref C4) (.ref C5)=some false)
 (k46:WV K (.ref C4) (.ref C6)=some false):
 ∃(cv:Nat->Value) (fd:Ze),(∀(s:WC) (u:Value),acx s fd ⟨[u],[]⟩ [("_law_script",u)])/\∀base:Heap,K.In base->base.Ns W0 mg->FnOk P w K mg base (dq P w cv) 9 fa fd ["_law_script"] (El K cv 1 kf):=by
 have ea:=UT.symm.trans (XZ X G a_law_k30);cases ea;refine⟨λn=> .ref (cB (OL C0 C1 C2 C3 C4 C5 C6) n),X8 "law" "law" (eM av) (bf av) (ai av) .none qE qa rL pW lh p_,λs v=> .of_eq rfl,λbase KB GB=>?_⟩;have B:Bl K mg base (λn=> .ref (cB (OL C0 C1 C2 C3 C4 C5 C6) n)) (OL C0 C1 C2 C3 C4 C5 C6) Cp:=by
  refine⟨Xb X G z_len,Xb X G z_isinstance,Xb X G z_all,Xb X G z_any,Xb X G z_abs,Xb X G z_max,Xb X G z_min,Xb X G z_range,Xb X G z_str,Xb X G z_int,Xb X G z_bool,Xb X G z_tuple,Xb X G z_list,Xb X G z_dict,Xb X G z_sorted,Xb X G z_enumerate,Xb X G z_ValueError,⟨_,XZ X G y_LETTERS⟩,⟨_,XZ X G y_MOST_ROWS⟩,⟨_,XZ X G y_MOST_COLUMNS⟩,?cls,AG KB GB e0 q0,AG KB GB e1 q1,AG KB GB e4 q4,λ_=>rfl,XZ X G ep,?exm,?exs,?kit,?kitV⟩
  case cls=>
   intro n x e
   match n,e with
   |0,e=>cases e;exact XZ X G e0
   |1,e=>cases e;exact XZ X G e1
   |2,e=>cases e;exact XZ X G e2
   |3,e=>cases e;exact XZ X G e3
   |4,e=>cases e;exact XZ X G e4
   |5,e=>cases e;exact XZ X G e5
   |6,e=>cases e;exact XZ X G e6
   |n+7,e=>cases e
  case exm=>
   intro n;have h:∀m,m∈[0,1,4]->Z5 K (.ref ((OL C0 C1 C2 C3 C4 C5 C6) m)) (.ref Cp)=some true:=by
    intro m hm;simp only[WG,XH,or_false] at hm;rcases hm with rfl | rfl | rfl
    ·exact z9 sp kp0 np0
    ·exact z9 sp kp1 np1
    ·exact z9 sp kp4 np4
   exact h (Ni n) (Ca n)
  case exs=>
   intro C hC;simp only[uY,OL,WG,XH,or_false] at hC;rcases hC with e | e | e<;>subst e
   ·exact⟨ga0,gt0,ca0,mo0,mb0,by rw[cl0];rfl⟩
   ·exact⟨ga1,gt1,ca1,mo1,mb1,by rw[cl1];rfl⟩
   ·exact⟨ga4,gt4,ca4,mo4,mb4,by rw[cl4];rfl⟩
  case kit=>
   intro n m hn hm;simp only[WG,XH,or_false] at hn;rcases hn with rfl | rfl | rfl
   ·match m,hm with
    |0,_=>exact k00
    |1,_=>exact k01
    |2,_=>exact k02
    |3,_=>exact k03
    |4,_=>exact k04
    |5,_=>exact k05
    |6,_=>exact k06
    |m+7,hm=>exact adK hm (by omega)
   ·match m,hm with
    |0,_=>exact k10
    |1,_=>exact k11
    |2,_=>exact k12
    |3,_=>exact k13
    |4,_=>exact k14
    |5,_=>exact k15
    |6,_=>exact k16
    |m+7,hm=>exact adK hm (by omega)
   ·match m,hm with
    |0,_=>exact k40
    |1,_=>exact k41
    |2,_=>exact k42
    |3,_=>exact k43
    |4,_=>exact k44
    |5,_=>exact k45
    |6,_=>exact k46
    |m+7,hm=>exact adK hm (by omega)
  case kitV=>
   intro n hn;simp only[WG,XH,or_false] at hn;rcases hn with rfl | rfl | rfl
   ·exact kv0
   ·exact kv1
   ·exact kv4
 have q_:=(DF.at X G d_is_whole).elim λ_ t=>yN (P:=P) (w:=w) B t;have yG:=(DF.at X G d_is_letter).elim λ_ t=>vR (P:=P) (w:=w) B t;have qZ:=(DF.at X G d_cells_of_row).elim λ_ t=>pA (P:=P) (w:=w) B t;have yI:=(DF.at X G d_letter_of).elim λ_ t=>vV (P:=P) (w:=w) B t;have As:=(DF.at X G d_are_next).elim λ_ t=>yK (P:=P) (w:=w) B t;have BS:=(DF.at X G d_keyed).elim λ_ t=>FY (P:=P) (w:=w) B t;have vO:=(DF.at X G d_numbers_of).elim λ_ t=>sT (P:=P) (w:=w) B t;have vK:=(DF.at X G d_is_at_edge).elim λ_ t=>sN (P:=P) (w:=w) B t;have Aw:=(DF.at X G d_law_cell).elim λ_ t=>yO (P:=P) (w:=w) B t;have oC:=(DF.at X G d_law_cells).elim λ_ t=>vT (P:=P) (w:=w) B t;have vL:=(DF.at X G d_law_beside).elim λ_ t=>sO (P:=P) (w:=w) B t;have sJ:=(DF.at X G d_law_refused).elim λ_ t=>ri (P:=P) (w:=w) B t;have ra:=(DF.at X G d_law_touching).elim λ_ t=>pB (P:=P) (w:=w) B t;have DC:=(DF.at X G d_law_rim).elim λ_ t=>AB (P:=P) (w:=w) B t;have FV:=(DF.at X G d_is_row).elim λ_ t=>DH (P:=P) (w:=w) B yG t;have hZ:=(DF.at X G d_need_ways).elim λ_ t=>vW (P:=P) (w:=w) B q_ t;have oB:=(DF.at X G d_all_cells).elim λ_ t=>vQ (P:=P) (w:=w) B qZ t;have jc:=(DF.at X G d_next_cells).elim λ_ t=>sS (P:=P) (w:=w) B As t;have sM:=(DF.at X G d_need_number).elim λ_ t=>rk (P:=P) (w:=w) B q_ t;have pz:=(DF.at X G d_comes_to_edge).elim λ_ t=>nA (P:=P) (w:=w) B vK t;have oD:=(DF.at X G d_law_drawn).elim λ_ t=>vU (P:=P) (w:=w) B Aw t;have vM:=(DF.at X G d_law_labels).elim λ_ t=>sP (P:=P) (w:=w) B oC vL t;have Av:=(DF.at X G d_is_board).elim λ_ t=>yM (P:=P) (w:=w) B FV t;have vN:=(DF.at X G d_like_cells).elim λ_ t=>sQ (P:=P) (w:=w) B yI jc t;have rb:=(DF.at X G d_shared_sides).elim λ_ t=>pC (P:=P) (w:=w) B vO oB jc t;have yH:=(DF.at X G d_law_board).elim λ_ t=>vS (P:=P) (w:=w) B oD t;have sI:=(DF.at X G d_law_patches).elim λ_ t=>rh (P:=P) (w:=w) B vM oC t;have gb:=(DF.at X G d_need_board).elim λ_ t=>sR (P:=P) (w:=w) B Av t;have vP:=(DF.at X G d_steps_back).elim λ_ t=>sU (P:=P) (w:=w) B vN t;have ft:=(DF.at X G d_all_patches).elim λ_ t=>rf (P:=P) (w:=w) B oB vP BS t;have eT:=(DF.at X G d_patch_of_number).elim λ_ t=>lF (P:=P) (w:=w) B gb hZ ft sM t;have Ax:=(DF.at X G d_touching).elim λ_ t=>yP (P:=P) (w:=w) B gb hZ rb ft t;have Au:=(DF.at X G d_greatest).elim λ_ t=>yL (P:=P) (w:=w) B gb hZ ft t;have DB:=(DF.at X G d_at_edge).elim λ_ t=>AA (P:=P) (w:=w) B gb hZ pz ft t;have LU:=(DF.at X G d_size).elim λ_ t=>IF (P:=P) (w:=w) B eT t;have OT:=(DF.at X G d_rim).elim λ_ t=>LW (P:=P) (w:=w) B eT BS jc t;have OS:=(DF.at X G d_box).elim λ_ t=>LV (P:=P) (w:=w) B eT t;have sL:=(DF.at X G d_law_told_v5).elim λ_ t=>rj (P:=P) (w:=w) B sJ Ax Au DB LU OT OS t;exact yJ B yH sI oD ra DC sL (ES (st:=av) l_law_k30 c_law_k30 k_law_k30)
end K1
open PySem PySem.W PyProof.Rows
theorem PySem.Challenge.cw_cellpatches_k30_measures_holds : PySem.Challenge.rw_cellpatches_k30_measures.Holds := by
 w_on;refine holds_law (by kernel_rfl) λV5=>?_
 refine holds_open (q:=K1.zt) (loose:=[]) (Xt:=λs=>xlAt K1.zt [] s&&recOk (RowW.records (OpenRow.toRowW _)) s) (XP:=XL K1.zt []) (Yf:=Hook.obs (kHook K1.ql K1.qk (λ_=>by kernel_rfl))) (Ya:=Hook.val (kHook K1.ql K1.qk (λ_=>by kernel_rfl))) (YP:=Hook.says (kHook K1.ql K1.qk (λ_=>by kernel_rfl))) (N:=5912) ?hl (Hook.of (kHook K1.ql K1.qk (λ_=>by kernel_rfl))) (Hook.keeps (kHook K1.ql K1.qk (λ_=>by kernel_rfl))) (λs e=>xl_of s (acV.mp e).1) XL.keeps (by rfl) (by rfl) (by rfl) (λs e=>recFacts_of (acV.mp e).2) (by rfl) (by first | assumption | decide+kernel) (by decide+kernel) ⟨rfl,rfl,rfl,rfl,rfl,by decide+kernel⟩ ?hw ?hc
 case hl=>exact K1.N7
 (case hw=>w_witness2)
 k_fill
 refine L3.PK (l:=PySem.Challenge.rw_cellpatches_k30_measures) (k:=9) (n:=63) (x:="_law_script") (g:=K1.kf) rfl (by decide) rfl ⟨rfl,by decide,by decide⟩ (λw h Y=>PySem.W.kIn_of Y) K1.Fw ?F
 case F=>
  intro w mg fa h KX G Ld;refine' K1.all_mk KX G Ld ?d_is_whole ?d_is_letter ?d_cells_of_row ?d_letter_of ?d_are_next ?d_keyed ?d_numbers_of ?d_is_at_edge ?d_law_cell ?d_law_cells ?d_law_beside ?d_law_refused ?d_law_touching ?d_law_rim ?d_is_row ?d_need_ways ?d_all_cells ?d_next_cells ?d_need_number ?d_comes_to_edge ?d_law_drawn ?d_law_labels ?d_is_board ?d_like_cells ?d_shared_sides ?d_law_board ?d_law_patches ?d_need_board ?d_steps_back ?d_all_patches ?d_patch_of_number ?d_touching ?d_greatest ?d_at_edge ?d_size ?d_rim ?d_box ?d_law_told_v5 ?a_law_k30 ?l_law_k30 ?c_law_k30 ?k_law_k30 ?z_len ?z_isinstance ?z_all ?z_any ?z_abs ?z_max ?z_min ?z_range ?z_str ?z_int ?z_bool ?z_tuple ?z_list ?z_dict ?z_sorted ?z_enumerate ?z_ValueError ?y_LETTERS ?y_MOST_ROWS ?y_MOST_COLUMNS ?e0 ?e1 ?e2 ?e3 ?e4 ?e5 ?e6 ?ep ?sp ?q0 ?ga0 ?gt0 ?ca0 ?mo0 ?mb0 ?cl0 ?kp0 ?kv0 ?np0 ?k00 ?k01 ?k02 ?k03 ?k04 ?k05 ?k06 ?q1 ?ga1 ?gt1 ?ca1 ?mo1 ?mb1 ?cl1 ?kp1 ?kv1 ?np1 ?k10 ?k11 ?k12 ?k13 ?k14 ?k15 ?k16 ?q4 ?ga4 ?gt4 ?ca4 ?mo4 ?mb4 ?cl4 ?kp4 ?kv4 ?np4 ?k40 ?k41 ?k42 ?k43 ?k44 ?k45 ?k46
  (case d_is_whole=>(refine' K1.DF.mk ?a ?l ?c ?k;(case a=>k_is);(case l=>k_is);(case c=>k_is);(case k=>k_is)))
  (case d_is_letter=>(refine' K1.DF.mk ?a ?l ?c ?k;(case a=>k_is);(case l=>k_is);(case c=>k_is);(case k=>k_is)))
  (case d_cells_of_row=>(refine' K1.DF.mk ?a ?l ?c ?k;(case a=>k_is);(case l=>k_is);(case c=>k_is);(case k=>k_is)))
  (case d_letter_of=>(refine' K1.DF.mk ?a ?l ?c ?k;(case a=>k_is);(case l=>k_is);(case c=>k_is);(case k=>k_is)))
  (case d_are_next=>(refine' K1.DF.mk ?a ?l ?c ?k;(case a=>k_is);(case l=>k_is);(case c=>k_is);(case k=>k_is)))
  (case d_keyed=>(refine' K1.DF.mk ?a ?l ?c ?k;(case a=>k_is);(case l=>k_is);(case c=>k_is);(case k=>k_is)))
  (case d_numbers_of=>(refine' K1.DF.mk ?a ?l ?c ?k;(case a=>k_is);(case l=>k_is);(case c=>k_is);(case k=>k_is)))
  (case d_is_at_edge=>(refine' K1.DF.mk ?a ?l ?c ?k;(case a=>k_is);(case l=>k_is);(case c=>k_is);(case k=>k_is)))
  (case d_law_cell=>(refine' K1.DF.mk ?a ?l ?c ?k;(case a=>k_is);(case l=>k_is);(case c=>k_is);(case k=>k_is)))
  (case d_law_cells=>(refine' K1.DF.mk ?a ?l ?c ?k;(case a=>k_is);(case l=>k_is);(case c=>k_is);(case k=>k_is)))
  (case d_law_beside=>(refine' K1.DF.mk ?a ?l ?c ?k;(case a=>k_is);(case l=>k_is);(case c=>k_is);(case k=>k_is)))
  (case d_law_refused=>(refine' K1.DF.mk ?a ?l ?c ?k;(case a=>k_is);(case l=>k_is);(case c=>k_is);(case k=>k_is)))
  (case d_law_touching=>(refine' K1.DF.mk ?a ?l ?c ?k;(case a=>k_is);(case l=>k_is);(case c=>k_is);(case k=>k_is)))
  (case d_law_rim=>(refine' K1.DF.mk ?a ?l ?c ?k;(case a=>k_is);(case l=>k_is);(case c=>k_is);(case k=>k_is)))
  (case d_is_row=>(refine' K1.DF.mk ?a ?l ?c ?k;(case a=>k_is);(case l=>k_is);(case c=>k_is);(case k=>k_is)))
  (case d_need_ways=>(refine' K1.DF.mk ?a ?l ?c ?k;(case a=>k_is);(case l=>k_is);(case c=>k_is);(case k=>k_is)))
  (case d_all_cells=>(refine' K1.DF.mk ?a ?l ?c ?k;(case a=>k_is);(case l=>k_is);(case c=>k_is);(case k=>k_is)))
  (case d_next_cells=>(refine' K1.DF.mk ?a ?l ?c ?k;(case a=>k_is);(case l=>k_is);(case c=>k_is);(case k=>k_is)))
  (case d_need_number=>(refine' K1.DF.mk ?a ?l ?c ?k;(case a=>k_is);(case l=>k_is);(case c=>k_is);(case k=>k_is)))
  (case d_comes_to_edge=>(refine' K1.DF.mk ?a ?l ?c ?k;(case a=>k_is);(case l=>k_is);(case c=>k_is);(case k=>k_is)))
  (case d_law_drawn=>(refine' K1.DF.mk ?a ?l ?c ?k;(case a=>k_is);(case l=>k_is);(case c=>k_is);(case k=>k_is)))
  (case d_law_labels=>(refine' K1.DF.mk ?a ?l ?c ?k;(case a=>k_is);(case l=>k_is);(case c=>k_is);(case k=>k_is)))
  (case d_is_board=>(refine' K1.DF.mk ?a ?l ?c ?k;(case a=>k_is);(case l=>k_is);(case c=>k_is);(case k=>k_is)))
  (case d_like_cells=>(refine' K1.DF.mk ?a ?l ?c ?k;(case a=>k_is);(case l=>k_is);(case c=>k_is);(case k=>k_is)))
  (case d_shared_sides=>(refine' K1.DF.mk ?a ?l ?c ?k;(case a=>k_is);(case l=>k_is);(case c=>k_is);(case k=>k_is)))
  (case d_law_board=>(refine' K1.DF.mk ?a ?l ?c ?k;(case a=>k_is);(case l=>k_is);(case c=>k_is);(case k=>k_is)))
  (case d_law_patches=>(refine' K1.DF.mk ?a ?l ?c ?k;(case a=>k_is);(case l=>k_is);(case c=>k_is);(case k=>k_is)))
  (case d_need_board=>(refine' K1.DF.mk ?a ?l ?c ?k;(case a=>k_is);(case l=>k_is);(case c=>k_is);(case k=>k_is)))
  (case d_steps_back=>(refine' K1.DF.mk ?a ?l ?c ?k;(case a=>k_is);(case l=>k_is);(case c=>k_is);(case k=>k_is)))
  (case d_all_patches=>(refine' K1.DF.mk ?a ?l ?c ?k;(case a=>k_is);(case l=>k_is);(case c=>k_is);(case k=>k_is)))
  (case d_patch_of_number=>(refine' K1.DF.mk ?a ?l ?c ?k;(case a=>k_is);(case l=>k_is);(case c=>k_is);(case k=>k_is)))
  (case d_touching=>(refine' K1.DF.mk ?a ?l ?c ?k;(case a=>k_is);(case l=>k_is);(case c=>k_is);(case k=>k_is)))
  (case d_greatest=>(refine' K1.DF.mk ?a ?l ?c ?k;(case a=>k_is);(case l=>k_is);(case c=>k_is);(case k=>k_is)))
  (case d_at_edge=>(refine' K1.DF.mk ?a ?l ?c ?k;(case a=>k_is);(case l=>k_is);(case c=>k_is);(case k=>k_is)))
  (case d_size=>(refine' K1.DF.mk ?a ?l ?c ?k;(case a=>k_is);(case l=>k_is);(case c=>k_is);(case k=>k_is)))
  (case d_rim=>(refine' K1.DF.mk ?a ?l ?c ?k;(case a=>k_is);(case l=>k_is);(case c=>k_is);(case k=>k_is)))
  (case d_box=>(refine' K1.DF.mk ?a ?l ?c ?k;(case a=>k_is);(case l=>k_is);(case c=>k_is);(case k=>k_is)))
  (case d_law_told_v5=>(refine' K1.DF.mk ?a ?l ?c ?k;(case a=>k_is);(case l=>k_is);(case c=>k_is);(case k=>k_is)))
  (case a_law_k30=>k_is)
  (case l_law_k30=>k_is)
  (case c_law_k30=>k_is)
  (case k_law_k30=>k_is)
  (case z_len=>k_is)
  (case z_isinstance=>k_is)
  (case z_all=>k_is)
  (case z_any=>k_is)
  (case z_abs=>k_is)
  (case z_max=>k_is)
  (case z_min=>k_is)
  (case z_range=>k_is)
  (case z_str=>k_is)
  (case z_int=>k_is)
  (case z_bool=>k_is)
  (case z_tuple=>k_is)
  (case z_list=>k_is)
  (case z_dict=>k_is)
  (case z_sorted=>k_is)
  (case z_enumerate=>k_is)
  (case z_ValueError=>k_is)
  (case y_LETTERS=>k_is)
  (case y_MOST_ROWS=>k_is)
  (case y_MOST_COLUMNS=>k_is)
  (case e0=>k_is)
  (case e1=>k_is)
  (case e2=>k_is)
  (case e3=>k_is)
  (case e4=>k_is)
  (case e5=>k_is)
  (case e6=>k_is)
  (case ep=>k_is)
  (case sp=>k_is)
  (case q0=>k_exc)
  (case ga0=>k_is)
  (case gt0=>k_is)
  (case ca0=>k_is)
  (case mo0=>k_is)
  (case mb0=>k_is)
  (case cl0=>k_is)
  (case kp0=>kit_is)
  (case kv0=>kit_is)
  (case np0=>rfl)
  (case k00=>kit_is)
  (case k01=>kit_is)
  (case k02=>kit_is)
  (case k03=>kit_is)
  (case k04=>kit_is)
  (case k05=>kit_is)
  (case k06=>kit_is)
  (case q1=>k_exc)
  (case ga1=>k_is)
  (case gt1=>k_is)
  (case ca1=>k_is)
  (case mo1=>k_is)
  (case mb1=>k_is)
  (case cl1=>k_is)
  (case kp1=>kit_is)
  (case kv1=>kit_is)
  (case np1=>rfl)
  (case k10=>kit_is)
  (case k11=>kit_is)
  (case k12=>kit_is)
  (case k13=>kit_is)
  (case k14=>kit_is)
  (case k15=>kit_is)
  (case k16=>kit_is)
  (case q4=>k_exc)
  (case ga4=>k_is)
  (case gt4=>k_is)
  (case ca4=>k_is)
  (case mo4=>k_is)
  (case mb4=>k_is)
  (case cl4=>k_is)
  (case kp4=>kit_is)
  (case kv4=>kit_is)
  (case np4=>rfl)
  (case k40=>kit_is)
  (case k41=>kit_is)
  (case k42=>kit_is)
  (case k43=>kit_is)
  (case k44=>kit_is)
  (case k45=>kit_is)
  (case k46=>kit_is)
