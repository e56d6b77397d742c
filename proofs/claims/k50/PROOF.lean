import PyProof.Rows.All
import KE.KDictOf
import KE.KDictSum
import KE.KSortTup
import KE.KTryMore
import KE.RegKIsAll
import Lean
import PySem.Challenge.RW_cellpatches_k50_melting
open PySem renaming wpAny_bind->Xg,Shared->Xl,wpAny_pure->Xn,starEach->Xz,sizeLine->XH,mainGlobals->XJ,Program->XR,Around->X6,compareOp->X9,bootBuiltins->Yd,behindInMarks->Yt,wpAny_mono->YA,wpAny_newObj_type->YD,wpAny_dictEntries->YE,wpAny_truthy_bool->YK,DictEntry->YL,sysModules->YS,wpAny_call_entry->YY,wpAny_holding->Y1,backTo->Y9,mem_of_lookup->Y_,attributeBase->Ze,tupleKind->Zh,codeAny_builtin->Zi,argBest->Zn,plainId_quiet->Zp,wpAny_tryCatch->Zv,sizeLine_eq->Zw,FuncData->ZC,wpAny_dictEpoch->ZE,wpAny_typeNameOfWhole_itemiter->ZH,keywordEach->ZJ,wpAny_typeNameOfWhole_keyiter->ZO,assignEach->ZP,Keyword->ZR,tupleKind_room_in1->ZT,wpAny_passesOwn->Z0,wpAny_typeNameOf_itemiter->Z9,wpAny_seqItems->Z_,wpAny_letGo->aag,wpAny_typeNameOf_keyiter->aah,wpAny_updateSeq->aak,wpAny_setField_rec->aal,wpAny_callSpecial?_slot->aam,pyNext->aaq,richCompare->aas,foldedSetIterable->aat,IsItemIter->aaw,binaryOp->aay,wpAny_notOrdered_dict->aaD,storedH->aaJ,codeAny->aaK,Builtin->aaM,backToKw->aaP,call_meets->aaR,wpAny_execs_nil->aaS,sliceBounds->aaT,wpAny_Call_Name_kw->aa4,NameKind->aa5,wpAny_pyIter_list->abe,swapsWith->abf,rawInt->abg,wpAny_forIn_list->abq,wpAny_isOneOf_itemiter->abt,letOwnedTupleGo->aby,typeLookup->abF,wpAny_fieldsOf->abQ,recursionLimit->abR,firstArgMember->abS,Paired->abT,wpAny_attempt->ab1,seqItems?->ab2,dictSetHashed->ab3,wpAny_pyIter_slot->acg,wpAny_loadPart_at->ach,wpAny_assign_Name->aci,wpAny_Call_method->acj,entryOfKey->ack,callerA->acm,codeAny_mono->acz,call_meetsIn->acA,wpAny_isInstance->acH,noFill_tuple_add->acI,wpAny_specialOf->acQ,wpAny_of_eq->acR,wpAny_field->acS,valueAt->acT,size_of_entries->acU,cellsFrom->acV,BindsTo->ac3,wpAny_newFunctionEnv_cells->ac5,wpAny_setField->adb,wpAny_comprehension_free->adm,Result->adn,IsTupleKey->adt,swapsWithSole->adx,seq_tuple_add->ady,notedBy->adz,getItem->adA,call->adD,IsItemIterOut->adK,richCompare_meets_room->adO
open List renaming length_map->Xh,getElem?_eq_getElem->Xi,mem_cons_of_mem->Xj,mem_cons_self->Xk,length_cons->Xo,map_cons->Xp,length_append->Xq,mem_cons->Xs,size_toArray->Xu,getElem?_map->Xv,getElem?_eq_some_iff->Xy,replicate->XC,mem_map->XE,getElem?_set_ne->XF,getD_eq_getElem?_getD->XG,getElem?_set_self->XN,range->XQ,nil_append->XW,mem_filter->XY,append_nil->X0,mem_append->X4,length_nil->X5,getElem?_cons_zero->X7,getElem?_cons_succ->X8,mem_append_right->X_,getElem?_append_left->Yb,mem_singleton->Yc,mem_of_getElem?->Ye,getElem?_append_right->Yg,all_eq_true->Yl,map_map->Yn,sum_cons->Yq,range'->Yu,map_append->Yv,length_filter_le->Yw,not_mem_nil->Yz,mem_append_left->YC,Nodup->YF,filter_cons->YG,zip_cons_cons->YO,pairwise_cons->YQ,getElem?_replicate->YR,flatMap_cons->YZ,map_nil->Y0,toArray->Y2,mem_range->Y3,append_assoc->Y7,replicate_succ->Za,nodup_cons->Zb,getElem_of_mem->Zc,lookup_cons->Zj,cons_append->Zk,pairwise_iff_getElem->Zm,pairwise_append->Zr,pairwise_map->Zt,map_congr_left->ZA,set_cons_zero->ZK,set_cons_succ->ZL,mem_zipIdx_iff_getElem?->ZM,nodup_append->ZU,flatten_cons->ZV,getElem_mem->Z3,find?_cons->aad,any_cons->aae,nodup_nil->aan,all_map->aao,map_flatMap->aar,mem_iff_getElem->aav,countP_eq_length_filter->aaB,all_cons->aaC,length_zip->aaG,getElem?_range->aaH,foldl_cons->aaI,length_range->aaZ,idxOf_lt_length_iff->aa0,pairwise_lt_range'->aa6,length_eq_zero_iff->aa7,filter_cons_of_pos->aa8,filter_cons_of_neg->aa9,range'_succ->aa_,mem_flatMap->aba,length_take->abb,length_pos_of_mem->abc,filter_eq_nil_iff->abd,of_mem_zip->abj,length_replicate->abk,getElem?_eq_none->abl,filter_nil->abm,length_pos_iff->abw,filterMap_cons->abx,mem_filterMap->abI,length_range'->abJ,getElem_idxOf->abK,take_length->ab0,forIn_cons->ab_,getElem?_zip_eq_some->acC,drop_eq_getElem_cons->acD,length_erase_of_mem->acN,range_succ_eq_map->ac0,not_of_lt_findIdx->ac1,pairwise_flatMap->ac_,getElem?_toArray->ada,range_eq_range'->adi,getElem?_mapIdx->adj,length_flatMap->adp,length->adq,zip_nil_right->adI,filter_append->adJ,zip_nil_left->adT,foldl_append->adU,foldl->adV,filter_congr->adW
open PySem.Heap renaming get?_push_of_some->Xm,get?_push_size->XA,lt_size->XB,get?_update_self->Yx,SameBut->YI,get?_update_other->YT,size_push->Y4,get?_none_of_le->adk,ExtBut->adu
open PySem.W renaming Frag->Xr,kitOne->XD,nsIn->XU,mg_none_of->X3,kia_one->Ys,mg_of->Yy,fnOf->YN,keepIn->YV,findIn->YW,codeIn->ZW,mroIn->Z5,clsIn->aap,hideAll->aau,exmOne->aaL,excIn->aaU,cellsFrom_some->aa1,looks_findIn->abh,callWith_K->abu,methodObj->abz,instObj->abX,lookIn->ab4,looks_mroIn->acY,hideAll_get->acZ,of_hideAll->ac7,codeRec_of->ac8,kitx_list->ade,kitx_dict->adf,plainGet->ado,OpenLaw->adE
open Nat renaming le_refl->Xx,ne_of_lt->XS,lt_of_lt_of_le->X1,le_trans->X2,zero_le->Yo,lt_irrefl->Yr,ne_of_gt->YJ,le_of_lt->Y6,mul_le_mul->Zo,lt_succ_of_lt->Zy,lt_succ_self->ZF,lt_of_succ_lt->ZX,lt_trans->Z7,mul_le_mul_right->aaA,zero_add->abo,lt_of_le_of_lt->abM,le_succ->acs,le_antisymm->acu,div_div_eq_div_mul->ac9,succ_pos->adg,mul_comm->adh,one_mul->adG,add_mul->adH,add_right_comm->adR
open PySem.PassesOwn renaming never->XI
open Bool renaming false_ne_true->XM,and_eq_true->XO,false_eq_true->Yi,eq_iff_iff->Zd,eq_false_iff->abV,not_false->acG,and_true->acO,and_eq_true_iff->adl
open Option.some renaming inj->XT
open PySem.Value renaming ref->XX,none->Yk,bool->Zq,builtin->aaa,type->abL,str->acW,int->acX,notImplemented->ac6
open Array renaming length_toList->XZ,getElem?_toList->Zl,getElem?_eq_getElem->Z2,append_assoc->abD,getElem?_eq_some_iff->acf,getElem?_eq_none->acP,isEmpty_iff->adM
open PySem.Heap.SameBut renaming update->Yh,refl->acE
open Option renaming isSome_iff_exists->Yj,isSome_map->abH,getD_some->abU,getD_none->adF
open PySem.F renaming plain_min_loop->Ym,slot_dict_get->Zf,plainAttrs_list->Zx,slot_dict_itemiterator_next->ZN,slot_dict_keyiterator_next->ZQ,plainAttrs_dict->Z6,entry_min_loop->Z8,entry_dict_get->aac,excBase_ValueError->aaE,args_tuple_add_2->aaQ,entry_tuple_add->aaV,slot_tuple_add->aa2,args_dict_itemiterator_next_1->ab5,slot_dict_update->ab8,entry_dict_itemiterator_next->aca,args_dict_keyiterator_next_1->acb,type_list_index->aco,slot_list_index->acp,args_dict_get_3->acq,args_dict_get_2->acr,slot_dict_itemiterator_iter->acx,entry_dict_keyiterator_next->acy,type_dict_get->acM,slot_dict_items_iter->adv,typeOf_object_class->adL
open Ne renaming symm->Yp
open ForInStep renaming yield->YB
open PyProof.Rows renaming IntsAre->YH,envOfC->Y8,callWith_type1->Zz,seqObj->aai,kindOf->abr,AllBare->abE,lt_int->ab9,subscriptTail_builtinR->adN
open PySem.Around renaming under_plainId->YM,frames_deeper->ac4
open PySem.Builtin.Dict_items renaming ownsTuple->YU,ownedTupleIsFree->aaN,ownedTupleFields->aaO,pairFromOwner->aaY
open False renaming elim->YX
open PySem.Str renaming ofString->Y5
open PySem.Paired renaming length->Zg
open True renaming intro->Zs
open PySem.Builtin.Builtins renaming bindParams->Zu
open PySem.Builtin.Dict renaming showsAll->ZD,updateFrom->ZZ,entriesForEmpty->abv,selfAndRest->abO,addKeywords->abP,pairItems->abY,mergeDict->abZ
open PySem.Calls renaming callWith_builtin->ZG,evalArgs_plain->ZY,spliced_cons->aab,spliced_nil->aaX,Name_function_global->ace
open PySem.Obj renaming mapSeq->ZI,data_mapDictKeys->aaz,isFreed_of_dict->abA,data_mapFields->adQ
open PySem.Builtin.List renaming listTooLong->ZS
open PySem.Builtin.Str renaming occurrences->Z1
open List.Pairwise renaming imp->Z4,nil->acv
open PySem.Data renaming dict->aaf,fields->adw
open PUnit renaming unit->aaj
open ToString renaming toString->aax
open Classical renaming byContradiction->aaF,propDecidable->ab6,not_forall->acF,not_imp->ac2
open Prod.mk renaming injEq->aaW
open Int renaming toNat_natCast->aa3,toNat_of_nonneg->abB,emod_lt_of_pos->abN,emod_nonneg->acw
open PySem.Builtin.Tuple renaming tupleCompareSizes->abi,tupleHashOf->abC
open MonadExcept renaming tryCatch->abn
open Int.ofNat renaming inj->abp
open Prod renaming ext->abG
open Sum renaming inl->abW,inr->acn
open PySem.AutoSeq1 renaming sub_tuple_tuple->ab7
open PySem.Expr renaming Name->acd
open PySem.Walks renaming list->acB
open PySem.SeqAt.EqAt renaming str_int->acJ,int_str->acK,int_int->acL
open List.Perm renaming refl->ads
open PySem.Value.ref renaming inj->adB
open PySem.SeqAt renaming EqAt->adC,in_tupleAt->adP
open PySem.NameKind renaming free->adS
open Function renaming comp->adX
set_option maxHeartbeats 0
set_option Elab.async false
set_option linter.all false
set_option maxRecDepth 100000
abbrev adY:=@if_pos
abbrev adZ:=@decide_eq_true_eq
abbrev ad0:=@if_neg
abbrev ad1:=@decide_eq_true
abbrev ad2:=@decide_eq_false
abbrev ad3:=@absurd
abbrev ad4:=@of_decide_eq_true
abbrev ad5:=@decide_eq_decide
abbrev ad6:=@beq_eq_false_iff_ne
abbrev ad7:=@congrArg
namespace L2
open PySem
def eV(s:Stmt):Arguments:=match s with
 | .FunctionDef _ a _ _ _ _ _ _ _ _=>a
 |_=>{posonlyargs:=[],args:=[],vararg:=none,kwonlyargs:=[],kw_defaults:=[],kwarg:=none,defaults:=[]}
def aZ(s:Stmt):List Stmt:=match s with
 | .FunctionDef _ _ b _ _ _ _ _ _ _=>b
 |_=>[]
def ai(s:Stmt):Scope:=match s with
 | .FunctionDef _ _ _ _ _ _ sc _ _ _=>sc
 |_=>{kind:= .function,names:=[],isGenerator:=false,isCoroutine:=false}
end L2
namespace K1
open PySem PySem.Spec
def top(i:Nat):Stmt:=PySem.Challenge.pw_cellpatches_k50_melting.main.body.getD i (.Pass ⟨0,0,0,0⟩)
abbrev hS(s:String)(t:Tok):Value:= .str (Y5 s) t
abbrev hE(P:Params)(s:String)(t:Tok)(v:Value):YL:={hash:=PyData.keyHash P (Y5 s),key:=hS s t,val:=v}
abbrev hT(xs:Array Value):Obj:={cls:= .type "tuple",data:=Data.seq xs}
abbrev hF(s:String)(t:Stmt)(m:Value)(c:Addr):Obj:={cls:= .type "function",data:=Data.func {name:=Y5 s,qualname:=Y5 s,params:=L2.eV t,body:=FuncBody.stmts (L2.aZ t),scope:=L2.ai t,globals:=3,closure:=[],defaults:= .none,kwdefaults:= .none,pyModule:=m,code:= .ref c} }
abbrev jA(s:String)(t1 t2 t3:Tok)(l n f:Int)(a:Addr)(v:Int)(b:Addr)(x y:Value)(d:Addr)(p:Int)(t4:Tok):Obj:={cls:= .type "code",data:=adw #[hS s t1,hS s t2,hS "/claim/cut.py" t3, .int l 0, .int n 0, .int 0 0, .int 0 0, .int f 0, .ref a, .bool true, .int v 0, .ref b, .none,x,y, .ref d, .int p 0, .int l 0,hS "/claim/cut.py" t4]}
abbrev Dr:Value:=hS "law_cellpatches_k50_melting" 558
abbrev Ds:Value:=hS "cellpatches.boards" 319
abbrev KJ:Value:=hS "cellpatches.errors" 187
abbrev LL:Value:=hS "cellpatches.melting" 488
abbrev Qx:Value:=hS "cellpatches.patches" 428
abbrev LK(n:String)(b a ns r:Addr)(t1 t2:Tok):Obj:={cls:= .type "type",data:=Data.cls {name:=Y5 n,bases:=[.ref b],mro:=[.ref a, .ref b, .type "ValueError", .type "Exception", .type "BaseException", .type "object"],ns:=ns,qualname:=Y5 n},slots:= #[some (.ref r),none,some (hS n t1),some (hS n t2),some (.builtin "ValueError.__new__"),some (.bool true)]}
def qu:Params->Xr:=λP=>(nat_lit 2,{cls:= .none,data:=aaf #[]})::
 (nat_lit 3,{cls:= .type "dict",data:=aaf #[hE P "__name__" 165 Dr,hE P "__doc__" 166 .none,hE P "__package__" 167 .none,hE P "__loader__" 168 (.builtin "__main__.__loader__#opaque"),hE P "__spec__" 169 .none,hE P "__annotations__" 170 (.ref 6),hE P "__builtins__" 171 (.ref 4),hE P "__file__" 173 (hS "/claim/cut.py" 172),hE P "__cached__" 174 .none,hE P "PatchError" 206 (.ref 24),hE P "NoBoard" 222 (.ref 37),hE P "NoWays" 238 (.ref 49),hE P "NoCell" 254 (.ref 61),hE P "NoLetter" 270 (.ref 73),hE P "NoNumber" 286 (.ref 85),hE P "NoFit" 302 (.ref 97),hE P "Nothing" 318 (.ref 109),hE P "LETTERS" 322 (hS "abcdef" 321),hE P "MOST_ROWS" 324 (.int 8 323),hE P "MOST_COLUMNS" 326 (.int 8 325),hE P "is_whole" 333 (.ref 118),hE P "is_letter" 340 (.ref 125),hE P "is_row" 346 (.ref 130),hE P "is_board" 352 (.ref 135),hE P "need_board" 359 (.ref 142),hE P "need_ways" 366 (.ref 149),hE P "cells_of_row" 372 (.ref 154),hE P "all_cells" 381 (.ref 161),hE P "letter_of" 389 (.ref 168),hE P "are_next" 400 (.ref 175),hE P "next_cells" 412 (.ref 182),hE P "keyed" 421 (.ref 189),hE P "with_letters" 427 (.ref 194),hE P "like_cells" 435 (.ref 199),hE P "steps_back" 449 (.ref 206),hE P "all_patches" 461 (.ref 213),hE P "numbers_of" 472 (.ref 220),hE P "shared_sides" 487 (.ref 227),hE P "GREATEST_LEAST" 491 (.int 64 490),hE P "need_melting" 500 (.ref 234),hE P "melts_into" 513 (.ref 241),hE P "after_one" 519 (.ref 246),hE P "all_steps" 530 (.ref 253),hE P "melted_once" 539 (.ref 260),hE P "melted" 548 (.ref 267),hE P "steps_of" 557 (.ref 274),hE P "_law_cell" 567 (.ref 281),hE P "_law_drawn" 577 (.ref 288),hE P "_law_board" 583 (.ref 293),hE P "_law_cells" 589 (.ref 298),hE P "_law_beside" 604 (.ref 305),hE P "_law_labels" 610 (.ref 310),hE P "_law_patches" 616 (.ref 315),hE P "_law_refused" 624 (.ref 322),hE P "_law_told" 635 (.ref 329),hE P "_law_shared" 641 (.ref 334),hE P "_law_once" 647 (.ref 339),hE P "law" 653 (.ref 344)] 58})::
 (nat_lit 15,hT #[.type "ValueError"])::
 (nat_lit 22,hT #[])::
 (nat_lit 23,{cls:= .type "dict",data:=aaf #[hE P "__module__" 196 KJ,hE P "__firstlineno__" 200 (.int 2 199),hE P "__static_attributes__" 201 (.ref 22),hE P "__weakref__" 203 (.ref 25),hE P "__doc__" 204 .none] 3})::
 (nat_lit 24,{cls:= .type "type",data:=Data.cls {name:=Y5 "PatchError",bases:=[.type "ValueError"],mro:=[.ref 24, .type "ValueError", .type "Exception", .type "BaseException", .type "object"],ns:=23,qualname:=Y5 "PatchError",subclasses:=[.ref 37, .ref 49, .ref 61, .ref 73, .ref 85, .ref 97, .ref 109]},slots:= #[some (.ref 15),none,some (hS "PatchError" 189),some (hS "PatchError" 197),some (.builtin "ValueError.__new__"),some (.bool true)]})::
 (nat_lit 25,{cls:= .type "getset_descriptor",data:=adw #[hS "__weakref__" 202, .ref 24, .builtin "ExceptionGroup.__weakref__", .none]})::
 (nat_lit 28,hT #[.ref 24])::
 (nat_lit 35,hT #[])::
 (nat_lit 36,{cls:= .type "dict",data:=aaf #[hE P "__module__" 214 KJ,hE P "__firstlineno__" 218 (.int 4 217),hE P "__static_attributes__" 219 (.ref 35),hE P "__doc__" 220 .none] 2})::
 (nat_lit 37,LK "NoBoard" 24 37 36 28 207 215)::
 (nat_lit 40,hT #[.ref 24])::
 (nat_lit 47,hT #[])::
 (nat_lit 48,{cls:= .type "dict",data:=aaf #[hE P "__module__" 230 KJ,hE P "__firstlineno__" 234 (.int 6 233),hE P "__static_attributes__" 235 (.ref 47),hE P "__doc__" 236 .none] 2})::
 (nat_lit 49,LK "NoWays" 24 49 48 40 223 231)::
 (nat_lit 52,hT #[.ref 24])::
 (nat_lit 59,hT #[])::
 (nat_lit 60,{cls:= .type "dict",data:=aaf #[hE P "__module__" 246 KJ,hE P "__firstlineno__" 250 (.int 8 249),hE P "__static_attributes__" 251 (.ref 59),hE P "__doc__" 252 .none] 2})::
 (nat_lit 61,LK "NoCell" 24 61 60 52 239 247)::
 (nat_lit 64,hT #[.ref 24])::
 (nat_lit 71,hT #[])::
 (nat_lit 72,{cls:= .type "dict",data:=aaf #[hE P "__module__" 262 KJ,hE P "__firstlineno__" 266 (.int 10 265),hE P "__static_attributes__" 267 (.ref 71),hE P "__doc__" 268 .none] 2})::
 (nat_lit 73,LK "NoLetter" 24 73 72 64 255 263)::
 (nat_lit 76,hT #[.ref 24])::
 (nat_lit 83,hT #[])::
 (nat_lit 84,{cls:= .type "dict",data:=aaf #[hE P "__module__" 278 KJ,hE P "__firstlineno__" 282 (.int 12 281),hE P "__static_attributes__" 283 (.ref 83),hE P "__doc__" 284 .none] 2})::
 (nat_lit 85,LK "NoNumber" 24 85 84 76 271 279)::
 (nat_lit 88,hT #[.ref 24])::
 (nat_lit 95,hT #[])::
 (nat_lit 96,{cls:= .type "dict",data:=aaf #[hE P "__module__" 294 KJ,hE P "__firstlineno__" 298 (.int 14 297),hE P "__static_attributes__" 299 (.ref 95),hE P "__doc__" 300 .none] 2})::
 (nat_lit 97,LK "NoFit" 24 97 96 88 287 295)::
 (nat_lit 100,hT #[.ref 24])::
 (nat_lit 107,hT #[])::
 (nat_lit 108,{cls:= .type "dict",data:=aaf #[hE P "__module__" 310 KJ,hE P "__firstlineno__" 314 (.int 16 313),hE P "__static_attributes__" 315 (.ref 107),hE P "__doc__" 316 .none] 2})::
 (nat_lit 109,LK "Nothing" 24 109 108 100 303 311)::
 (nat_lit 112,hT #[])::
 (nat_lit 114,hT #[hS "thing" 330])::
 (nat_lit 115,hT #[])::
 (nat_lit 117,jA "is_whole" 327 328 329 22 1 3 112 181 113 (.ref 114) (.ref 115) 116 331 332)::
 (nat_lit 118,hF "is_whole" (top 13) Ds 117)::
 (nat_lit 119,hT #[])::
 (nat_lit 121,hT #[hS "thing" 337])::
 (nat_lit 122,hT #[])::
 (nat_lit 124,jA "is_letter" 334 335 336 24 1 3 119 181 120 (.ref 121) (.ref 122) 123 338 339)::
 (nat_lit 125,hF "is_letter" (top 14) Ds 124)::
 (nat_lit 126,hT #[])::
 (nat_lit 129,jA "is_row" 341 342 343 26 1 3 126 181 127 .none .none 128 344 345)::
 (nat_lit 130,hF "is_row" (top 15) Ds 129)::
 (nat_lit 131,hT #[])::
 (nat_lit 134,jA "is_board" 347 348 349 30 1 3 131 181 132 .none .none 133 350 351)::
 (nat_lit 135,hF "is_board" (top 16) Ds 134)::
 (nat_lit 136,hT #[])::
 (nat_lit 138,hT #[hS "thing" 356])::
 (nat_lit 139,hT #[])::
 (nat_lit 141,jA "need_board" 353 354 355 36 1 3 136 181 137 (.ref 138) (.ref 139) 140 357 358)::
 (nat_lit 142,hF "need_board" (top 17) Ds 141)::
 (nat_lit 143,hT #[])::
 (nat_lit 145,hT #[hS "thing" 363])::
 (nat_lit 146,hT #[])::
 (nat_lit 148,jA "need_ways" 360 361 362 39 1 3 143 181 144 (.ref 145) (.ref 146) 147 364 365)::
 (nat_lit 149,hF "need_ways" (top 18) Ds 148)::
 (nat_lit 150,hT #[])::
 (nat_lit 153,jA "cells_of_row" 367 368 369 42 2 3 150 181 151 .none .none 152 370 371)::
 (nat_lit 154,hF "cells_of_row" (top 19) Ds 153)::
 (nat_lit 155,hT #[])::
 (nat_lit 157,hT #[hS "board" 376,hS "found" 377,hS "row" 378])::
 (nat_lit 158,hT #[])::
 (nat_lit 160,jA "all_cells" 373 374 375 44 1 3 155 181 156 (.ref 157) (.ref 158) 159 379 380)::
 (nat_lit 161,hF "all_cells" (top 20) Ds 160)::
 (nat_lit 162,hT #[])::
 (nat_lit 164,hT #[hS "board" 385,hS "cell" 386])::
 (nat_lit 165,hT #[])::
 (nat_lit 167,jA "letter_of" 382 383 384 49 2 3 162 181 163 (.ref 164) (.ref 165) 166 387 388)::
 (nat_lit 168,hF "letter_of" (top 21) Ds 167)::
 (nat_lit 169,hT #[])::
 (nat_lit 171,hT #[hS "one" 393,hS "other" 394,hS "ways" 395,hS "down" 396,hS "along" 397])::
 (nat_lit 172,hT #[])::
 (nat_lit 174,jA "are_next" 390 391 392 51 3 3 169 181 170 (.ref 171) (.ref 172) 173 398 399)::
 (nat_lit 175,hF "are_next" (top 22) Ds 174)::
 (nat_lit 176,hT #[])::
 (nat_lit 178,hT #[hS "board" 404,hS "cell" 405,hS "ways" 406,hS "found" 407,hS "row" 408,hS "column" 409])::
 (nat_lit 179,hT #[])::
 (nat_lit 181,jA "next_cells" 401 402 403 57 3 3 176 181 177 (.ref 178) (.ref 179) 180 410 411)::
 (nat_lit 182,hF "next_cells" (top 23) Ds 181)::
 (nat_lit 183,hT #[])::
 (nat_lit 185,hT #[hS "things" 416,hS "found" 417,hS "thing" 418])::
 (nat_lit 186,hT #[])::
 (nat_lit 188,jA "keyed" 413 414 415 64 1 3 183 181 184 (.ref 185) (.ref 186) 187 419 420)::
 (nat_lit 189,hF "keyed" (top 24) Ds 188)::
 (nat_lit 190,hT #[])::
 (nat_lit 193,jA "with_letters" 422 423 424 69 3 3 190 181 191 .none .none 192 425 426)::
 (nat_lit 194,hF "with_letters" (top 25) Ds 193)::
 (nat_lit 195,hT #[])::
 (nat_lit 198,jA "like_cells" 430 431 432 77 3 3 195 181 196 .none .none 197 433 434)::
 (nat_lit 199,hF "like_cells" (top 27) Qx 198)::
 (nat_lit 200,hT #[])::
 (nat_lit 202,hT #[hS "board" 439,hS "start" 440,hS "ways" 441,hS "back" 442,hS "ring" 443,hS "further" 444,hS "cell" 445,hS "near" 446])::
 (nat_lit 203,hT #[])::
 (nat_lit 205,jA "steps_back" 436 437 438 80 3 3 200 181 201 (.ref 202) (.ref 203) 204 447 448)::
 (nat_lit 206,hF "steps_back" (top 28) Qx 205)::
 (nat_lit 207,hT #[])::
 (nat_lit 209,hT #[hS "board" 453,hS "ways" 454,hS "found" 455,hS "seen" 456,hS "cell" 457,hS "patch" 458])::
 (nat_lit 210,hT #[])::
 (nat_lit 212,jA "all_patches" 450 451 452 92 2 3 207 181 208 (.ref 209) (.ref 210) 211 459 460)::
 (nat_lit 213,hF "all_patches" (top 29) Qx 212)::
 (nat_lit 214,hT #[])::
 (nat_lit 216,hT #[hS "found" 465,hS "numbers" 466,hS "number" 467,hS "patch" 468,hS "cell" 469])::
 (nat_lit 217,hT #[])::
 (nat_lit 219,jA "numbers_of" 462 463 464 101 1 3 214 181 215 (.ref 216) (.ref 217) 218 470 471)::
 (nat_lit 220,hF "numbers_of" (top 30) Qx 219)::
 (nat_lit 221,hT #[])::
 (nat_lit 223,hT #[hS "board" 478,hS "found" 479,hS "numbers" 480,hS "shared" 481,hS "cell" 482,hS "near" 483,hS "pair" 484])::
 (nat_lit 224,hT #[])::
 (nat_lit 226,jA "shared_sides" 475 476 477 108 2 3 221 181 222 (.ref 223) (.ref 224) 225 485 486)::
 (nat_lit 227,hF "shared_sides" (top 32) (hS "cellpatches.measures" 473) 226)::
 (nat_lit 228,hT #[])::
 (nat_lit 230,hT #[hS "board" 495,hS "ways" 496,hS "least" 497])::
 (nat_lit 231,hT #[])::
 (nat_lit 233,jA "need_melting" 492 493 494 119 3 3 228 181 229 (.ref 230) (.ref 231) 232 498 499)::
 (nat_lit 234,hF "need_melting" (top 35) LL 233)::
 (nat_lit 235,hT #[])::
 (nat_lit 237,hT #[hS "board" 504,hS "found" 505,hS "number" 506,hS "choices" 507,hS "pair" 508,hS "sides" 509,hS "other" 510])::
 (nat_lit 238,hT #[])::
 (nat_lit 240,jA "melts_into" 501 502 503 124 3 3 235 181 236 (.ref 237) (.ref 238) 239 511 512)::
 (nat_lit 241,hF "melts_into" (top 36) LL 240)::
 (nat_lit 242,hT #[])::
 (nat_lit 245,jA "after_one" 514 515 516 131 3 3 242 181 243 .none .none 244 517 518)::
 (nat_lit 246,hF "after_one" (top 37) LL 245)::
 (nat_lit 247,hT #[])::
 (nat_lit 249,hT #[hS "board" 523,hS "ways" 524,hS "least" 525,hS "told" 526,hS "now" 527])::
 (nat_lit 250,hT #[])::
 (nat_lit 252,jA "all_steps" 520 521 522 139 3 3 247 181 248 (.ref 249) (.ref 250) 251 528 529)::
 (nat_lit 253,hF "all_steps" (top 38) LL 252)::
 (nat_lit 254,hT #[])::
 (nat_lit 256,hT #[hS "board" 534,hS "ways" 535,hS "least" 536])::
 (nat_lit 257,hT #[])::
 (nat_lit 259,jA "melted_once" 531 532 533 146 3 3 254 181 255 (.ref 256) (.ref 257) 258 537 538)::
 (nat_lit 260,hF "melted_once" (top 39) LL 259)::
 (nat_lit 261,hT #[])::
 (nat_lit 263,hT #[hS "board" 543,hS "ways" 544,hS "least" 545])::
 (nat_lit 264,hT #[])::
 (nat_lit 266,jA "melted" 540 541 542 149 3 3 261 181 262 (.ref 263) (.ref 264) 265 546 547)::
 (nat_lit 267,hF "melted" (top 40) LL 266)::
 (nat_lit 268,hT #[])::
 (nat_lit 270,hT #[hS "board" 552,hS "ways" 553,hS "least" 554])::
 (nat_lit 271,hT #[])::
 (nat_lit 273,jA "steps_of" 549 550 551 152 3 3 268 181 269 (.ref 270) (.ref 271) 272 555 556)::
 (nat_lit 274,hF "steps_of" (top 41) LL 273)::
 (nat_lit 275,hT #[])::
 (nat_lit 277,hT #[hS "_law_script" 563,hS "_law_k" 564])::
 (nat_lit 278,hT #[])::
 (nat_lit 280,jA "_law_cell" 560 561 562 156 2 3 275 181 276 (.ref 277) (.ref 278) 279 565 566)::
 (nat_lit 281,hF "_law_cell" (top 43) Dr 280)::
 (nat_lit 282,hT #[])::
 (nat_lit 284,hT #[hS "_law_script" 571,hS "_law_k" 572,hS "_law_many" 573,hS "_law_cell_here" 574])::
 (nat_lit 285,hT #[])::
 (nat_lit 287,jA "_law_drawn" 568 569 570 160 3 3 282 181 283 (.ref 284) (.ref 285) 286 575 576)::
 (nat_lit 288,hF "_law_drawn" (top 44) Dr 287)::
 (nat_lit 289,hT #[])::
 (nat_lit 292,jA "_law_board" 578 579 580 164 3 3 289 181 290 .none .none 291 581 582)::
 (nat_lit 293,hF "_law_board" (top 45) Dr 292)::
 (nat_lit 294,hT #[])::
 (nat_lit 297,jA "_law_cells" 584 585 586 173 1 3 294 181 295 .none .none 296 587 588)::
 (nat_lit 298,hF "_law_cells" (top 46) Dr 297)::
 (nat_lit 299,hT #[])::
 (nat_lit 301,hT #[hS "_law_board_here" 593,hS "_law_cell_here" 594,hS "_law_ways" 595,hS "_law_found" 596,hS "_law_down" 597,hS "_law_right" 598,hS "_law_row" 599,hS "_law_column" 600,hS "_law_inside" 601])::
 (nat_lit 302,hT #[])::
 (nat_lit 304,jA "_law_beside" 590 591 592 178 3 3 299 181 300 (.ref 301) (.ref 302) 303 602 603)::
 (nat_lit 305,hF "_law_beside" (top 47) Dr 304)::
 (nat_lit 306,hT #[])::
 (nat_lit 309,jA "_law_labels" 605 606 607 188 2 3 306 181 307 .none .none 308 608 609)::
 (nat_lit 310,hF "_law_labels" (top 48) Dr 309)::
 (nat_lit 311,hT #[])::
 (nat_lit 314,jA "_law_patches" 611 612 613 206 2 3 311 181 312 .none .none 313 614 615)::
 (nat_lit 315,hF "_law_patches" (top 49) Dr 314)::
 (nat_lit 316,hT #[])::
 (nat_lit 318,hT #[hS "_law_e" 620,hS "_law_flags" 621])::
 (nat_lit 319,hT #[])::
 (nat_lit 321,jA "_law_refused" 617 618 619 212 1 3 316 181 317 (.ref 318) (.ref 319) 320 622 623)::
 (nat_lit 322,hF "_law_refused" (top 50) Dr 321)::
 (nat_lit 323,hT #[])::
 (nat_lit 325,hT #[hS "_law_which" 628,hS "_law_board_here" 629,hS "_law_ways" 630,hS "_law_least" 631,hS "_law_e" 632])::
 (nat_lit 326,hT #[])::
 (nat_lit 328,jA "_law_told" 625 626 627 219 4 3 323 181 324 (.ref 325) (.ref 326) 327 633 634)::
 (nat_lit 329,hF "_law_told" (top 51) Dr 328)::
 (nat_lit 330,hT #[])::
 (nat_lit 333,jA "_law_shared" 636 637 638 224 2 3 330 181 331 .none .none 332 639 640)::
 (nat_lit 334,hF "_law_shared" (top 52) Dr 333)::
 (nat_lit 335,hT #[])::
 (nat_lit 338,jA "_law_once" 642 643 644 229 3 3 335 181 336 .none .none 337 645 646)::
 (nat_lit 339,hF "_law_once" (top 53) Dr 338)::
 (nat_lit 340,hT #[])::
 (nat_lit 343,jA "law" 648 649 650 250 1 3 340 181 341 .none .none 342 651 652)::
 (nat_lit 344,hF "law" (top 54) Dr 343)::[]
def qt:List Nat:=[2,3,15,22,23,24,25,28,35,36,37,40,47,48,49,52,59,60,61,64,71,72,73,76,83,84,85,88,95,96,97,100,107,108,109,112,114,115,117,118,119,121,122,124,125,126,129,130,131,134,135,136,138,139,141,142,143,145,146,148,149,150,153,154,155,157,158,160,161,162,164,165,167,168,169,171,172,174,175,176,178,179,181,182,183,185,186,188,189,190,193,194,195,198,199,200,202,203,205,206,207,209,210,212,213,214,216,217,219,220,221,223,224,226,227,228,230,231,233,234,235,237,238,240,241,242,245,246,247,249,250,252,253,254,256,257,259,260,261,263,264,266,267,268,270,271,273,274,275,277,278,280,281,282,284,285,287,288,289,292,293,294,297,298,299,301,302,304,305,306,309,310,311,314,315,316,318,319,321,322,323,325,326,328,329,330,333,334,335,338,339,340,343,344]
def zI:XR:={PySem.Challenge.pw_cellpatches_k50_melting with main:={PySem.Challenge.pw_cellpatches_k50_melting.main with body:=[top 1,top 2,top 3,top 4,top 5,top 6,top 7,top 8,top 10,top 11,top 12,top 13,top 14,top 15,top 16,top 17,top 18,top 19,top 20,top 21,top 22,top 23,top 24,top 25,top 27,top 28,top 29,top 30,top 32,top 34,top 35,top 36,top 37,top 38,top 39,top 40,top 41,top 43,top 44,top 45,top 46,top 47,top 48,top 49,top 50,top 51,top 52,top 53,top 54]} }
open PySem.W PyProof.Rows in
theorem OI:LeftO PySem.Challenge.rw_cellpatches_k50_melting.row.prog zI [] (λs=>xlAt zI [] s&&recOk PySem.Challenge.rw_cellpatches_k50_melting.row.records s) (kHook qu qt (λ_=>by kernel_rfl)).obs (kHook qu qt (λ_=>by kernel_rfl)).val 5870:=λw=>by kernel_rfl
end K1
namespace L2
open PySem PySem.Spec PyProof.Rows
abbrev Key:=Sum Int Str
def qH:Key->Value->Bool
 | .inl k,v=>Value.isInt k v
 | .inr x,v=>Value.isStrOf x v
def O8(w:World):Key->Int
 | .inl k=>hashInt k
 | .inr x=>hashStr w x
theorem cq:∀{k:Key}{v:Value},qH k v=true->(∃i t,k=abW i/\v=acX i t)\/(∃x t,k=acn x/\v=acW x t)
 | .inl i,v,h=>by
   obtain⟨t,e⟩:=Value.isInt_shape (k:=i) (v:=v) h;exact .inl ⟨i,t,rfl,e⟩
 | .inr x,v,h=>by
   obtain⟨t,e⟩:=Value.isStrOf_shape (x:=x) (v:=v) h;exact .inr ⟨x,t,rfl,e⟩
theorem DL(i:Int)(t:Tok):qH (.inl i) (.int i t)=true:=by simp[qH,Value.isInt]
theorem DM(x:Str)(t:Tok):qH (.inr x) (.str x t)=true:=by simp[qH,Value.isStrOf]
theorem Ml(a b:Int):decide ((abW a:Key)=abW b)=(a==b):=by
 by_cases e:a=b
 ·subst e;simp
 ·have h:¬(abW a:Key)=abW b:=λq=>e (Sum.inl.inj q);rw[ad2 h];exact(ad6.mpr e).symm
theorem Mo(a b:Str):decide ((acn a:Key)=acn b)=decide (a=b):=by
 by_cases e:a=b
 ·subst e;simp
 ·have h:¬(acn a:Key)=acn b:=λq=>e (Sum.inr.inj q);rw[ad2 h,ad2 e]
theorem Mm(a:Int)(b:Str):decide ((abW a:Key)=acn b)=false:=ad2 (λq=>nomatch q)
theorem Mn(a:Str)(b:Int):decide ((acn a:Key)=abW b)=false:=ad2 (λq=>nomatch q)
def a6(prog:XR)(w:World):PySem.KeyKind prog w Key where
 is:=qH
 hash:=O8 w
 inj:=λv a b ha hb=>by
  rcases cq ha with⟨i,t,rfl,rfl⟩ | ⟨x,t,rfl,rfl⟩
  ·rcases cq hb with⟨j,u,rfl,e⟩ | ⟨y,u,rfl,e⟩
   ·injection e with e1 _;rw[e1]
   ·exact nomatch e
  ·rcases cq hb with⟨j,u,rfl,e⟩ | ⟨y,u,rfl,e⟩
   ·exact nomatch e
   ·injection e with e1 _;rw[e1]
 byValue:=λk v h=>by
  rcases cq h with⟨i,t,rfl,rfl⟩ | ⟨x,t,rfl,rfl⟩<;>rfl
 pyHash:=λhv h=>by
  rcases cq hv with⟨i,t,rfl,rfl⟩ | ⟨x,t,rfl,rfl⟩
  ·exact wpAny_pyHash_int h
  ·exact wpAny_pyHash_str h
 eqBool:=λhu hv h=>by
  rcases cq hu with⟨i,t,rfl,rfl⟩ | ⟨x,t,rfl,rfl⟩
  ·rcases cq hv with⟨j,u,rfl,rfl⟩ | ⟨y,u,rfl,rfl⟩
   ·rw[Ml] at h;exact wpAny_eqBool_int h
   ·rw[Mm] at h;exact acK i t y u _ _ _ _ h
  ·rcases cq hv with⟨j,u,rfl,rfl⟩ | ⟨y,u,rfl,rfl⟩
   ·rw[Mn] at h;exact acJ x t j u _ _ _ _ h
   ·rw[Mo] at h;exact wpAny_eqBool_str h
 «strs» :=λk x t v h=>by
  rcases cq h with⟨i,u,rfl,e⟩ | ⟨y,u,rfl,e⟩
  ·exact nomatch e
  ·injection e with e1 _
   subst e1;cases v<;>rfl
theorem yM(prog:XR)(w:World)(i:Int)(t:Tok):(a6 prog w).is (.inl i) (.int i t)=true:=DL i t
theorem yN(prog:XR)(w:World)(x:Str)(t:Tok):(a6 prog w).is (.inr x) (.str x t)=true:=DM x t
inductive V where
 |non | bl (b:Bool) | int (i:Int) | str (x:Str) | byt (b:Array UInt8) | flt (b:UInt64) | ref (a:Addr) | ty (n:String)
 deriving DecidableEq
def RelV:V->Value->Prop
 | .non,u=>u=Yk
 | .bl b,u=>u=Zq b
 | .int i,u=>∃t,u=acX i t
 | .str x,u=>∃t,u=acW x t
 | .byt b,u=>∃t,u=Value.bytes b t
 | .flt b,u=>∃t,u=Value.float b t
 | .ref a,u=>u=XX a
 | .ty n,u=>u=abL n
abbrev Vals:List V->List Value->Prop:=abT RelV
theorem Vals.length{xs:List V}{us:List Value}(r:Vals xs us):xs.length=us.length:=Zg r
theorem Vals.get:∀{xs:List V}{us:List Value}{i:Nat}{x:V},Vals xs us->xs[i]? =some x->∃u,us[i]? =some u/\RelV x u
 |_,_,_,_, .nil,e=>by simp at e
 |_,_,0,_, .cons r _,e=>by simp at e;subst e;exact⟨_,rfl,r⟩
 |_,_,i+1,x, .cons _ t,e=>by
  obtain⟨u,h1,h2⟩:=Vals.get (i:=i) (x:=x) t (by simpa using e);exact⟨u,by simpa using h1,h2⟩
theorem Vals.append:∀{xs ys:List V}{us ws:List Value},Vals xs us->Vals ys ws->Vals (xs++ys) (us++ws)
 |_,_,_,_, .nil,s=>s
 |_,_,_,_, .cons r t,s=> .cons r (Vals.append t s)
theorem Vals.take:∀{xs:List V}{us:List Value}(n:Nat),Vals xs us->Vals (xs.take n) (us.take n)
 |_,_,0,_=> .nil
 |_,_,_+1, .nil=> .nil
 |_,_,n+1, .cons r t=> .cons r (Vals.take n t)
theorem Vals.drop:∀{xs:List V}{us:List Value}(n:Nat),Vals xs us->Vals (xs.drop n) (us.drop n)
 |_,_,0,r=>r
 |_,_,_+1, .nil=> .nil
 |_,_,n+1, .cons _ t=>Vals.drop n t
def RelO:Option V->Option Value->Prop
 |some v,some u=>RelV v u
 |none,none=>True
 |_,_=>False
def KV{κ:Type}:List (κ×V)->List (κ×Value)->Prop:=abT λ(p:κ×V) (q:κ×Value)=>p.1=q.1/\RelV p.2 q.2
def kV:Key->V
 | .inl i=> .int i
 | .inr x=> .str x
inductive HO where
 |lst (xs:List V)
 |tup (xs:List V)
 |dK (aE:List (Key×V)) | dT (aE:List (List Key×V))
 |set (S:Int->Bool) (n:Nat)
 |ins (C dx:Addr) (fs:List (Str×V))
 |own (x:Addr)
 |xd (fs:List (Str×V))
 |met (f x:Addr)
 |rng (lo hi:Int)
 |frz (o:Obj) (u:HO)
 |tbl (ps:Array Value)
 |ext (φ:Heap->Prop)
abbrev Hp:=Addr->Option HO
def upd(H:Hp)(a:Addr)(o:HO):Hp:=λb=>if b=a then some o else H b
theorem aM{H:Hp}{a:Addr}{o:HO}:upd H a o a=some o:=by unfold upd;rw[adY rfl]
theorem aA{H:Hp}{a b:Addr}{o:HO}(h:b≠a):upd H a o b=H b:=by unfold upd;rw[ad0 h]
theorem Gk{H:Hp}{a b:Addr}{o u:HO}(h:H a=some o)(h':H b=some u)(d:o≠u):a≠b:=by
 intro e;subst e;rw[h] at h';exact d (XT h')
theorem bu{H:Hp}{a b:Addr}{o:HO}(h:H a=some o)(h':H b=none):a≠b:=by
 intro e;subst e;rw[h] at h';cases h'
section
variable(P:XR)(w:World)
def ObjOk(H:Hp)(h:Heap)(a:Addr):HO->Prop
 | .lst xs=>xs.length<=XH/\∃(aL:List Value) (n:Nat),Vals xs aL/\h.get? a=some {cls:= .type "list",data:= .seq aL.toArray n}
 | .tup xs=>xs.length<=XH/\∃aL:List Value,Vals xs aL/\IsTup h a aL.toArray
 | .dK aE=>aE.length<=XH/\(a==YS)=false/\∃vs,KV aE vs/\h.DictOf (a6 P w) a vs
 | .dT aE=>aE.length<=XH/\(a==YS)=false/\∃xs:List (List Key×Addr×Value),
    abT (λ(p:List Key×V) (q:List Key×Addr×Value)=>p.1=q.1/\H q.2.1=some (.tup (p.1.map kV))/\RelV p.2 q.2.2) aE xs/\
    ∃o es ep,h.get? a=some o/\o.ExactDict/\o.data= .dict es ep/\es.toList=xs.map (ack (Zh (a6 P w)))/\(xs.map (·.1)).Nodup
 | .set S n=>h.SetOf (intKind P w) a S n
 | .ins C dx fs=>H dx=some (.own a)/\fs.length<=1000/\dx≠a/\h.get? a=some (abX C dx)/\
    ∃mA,h.Ns1 dx mA/\(∀f,RelO (fs.lookup f) (mA f))/\PySem.Within mA (fs.map (·.1))
 | .own _=>∃o,h.get? a=some o
 | .xd fs=>∃mA,h.Ns1 a mA/\∀f,RelO (fs.lookup f) (mA f)
 | .rng lo hi=>∃t u v,h.get? a=some {cls:= .type "range",data:= .fields #[.int lo t, .int hi u, .int 1 v]}
 | .frz o u=>h.get? a=some o/\ObjOk H h a u
 | .tbl ps=>h.get? a=some {cls:= .none,data:= .fields ps}
 | .met f x=>h.get? a=some (abz (.ref f) (.ref x))
 | .ext φ=>φ h/\(∃o,h.get? a=some o)/\∀h1 h2:Heap,φ h1->(∀o,h1.get? a=some o->h2.get? a=some o)->φ h2
def HOk(H:Hp)(h:Heap):Prop:=∀a o,H a=some o->ObjOk P w H h a o
end
section
variable{P:XR}{w:World}{H H':Hp}{h h':Heap}{a:Addr}{o:HO}
theorem ObjOk.lt(x:ObjOk P w H h a o):a<h.objs.size:=by
 cases o with
 |lst xs=>obtain⟨_,_,_,_,e⟩:=x;exact XB e
 |tup xs=>obtain⟨_,_,_,p⟩:=x;exact p.lt
 |dK aE=>obtain⟨_,_,_,_,o,_,_,e,_⟩:=x;exact XB e
 |dT aE=>obtain⟨_,_,_,_,o,_,_,e,_⟩:=x;exact XB e
 |set S n=>obtain⟨o,_,_,_,e,_⟩:=x;exact XB e
 |ins C dx fs=>obtain⟨_,_,_,e,_⟩:=x;exact XB e
 |own y=>obtain⟨_,e⟩:=x;exact XB e
 |xd fs=>obtain⟨_,⟨_,_,_,e,_⟩,_⟩:=x;exact XB e
 |rng lo hi=>obtain⟨_,_,_,e⟩:=x;exact XB e
 |frz ob u=>obtain⟨e,_⟩:=x;exact XB e
 |tbl ps=>exact XB (show h.get? a=some _ from x)
 |met f y=>exact XB (show h.get? a=some _ from x)
 |ext φ=>obtain⟨_,⟨_,e⟩,_⟩:=x;exact XB e
theorem Paired.mapP{α β:Type}{F G:α->β->Prop}:∀{l₁:List α}{l₂:List β},abT F l₁ l₂->(∀a b,F a b->G a b)->abT G l₁ l₂
 |_,_, .nil,_=> .nil
 |_,_, .cons r t,f=> .cons (f _ _ r) (Paired.mapP t f)
theorem ObjOk.stay(x:ObjOk P w H h a o)(k:∀b u,(b=a\/H b=some (.own a))->h.get? b=some u->h'.get? b=some u)
 (ho:∀b,H b=some (.own a)->H' b=some (.own a))(ht:∀b xs,H b=some (.tup xs)->H' b=some (.tup xs)):ObjOk P w H' h' a o:=by
 induction o with
 |lst xs=>obtain⟨z,aL,n,r,e⟩:=x;exact⟨z,aL,n,r,k _ _ (.inl rfl) e⟩
 |tup xs=>obtain⟨z,aL,r,ob,e,c⟩:=x;exact⟨z,aL,r,ob,k _ _ (.inl rfl) e,c⟩
 |dK aE=>obtain⟨z,y,vs,r,ob,es,ep,e,c⟩:=x;exact⟨z,y,vs,r,ob,es,ep,k _ _ (.inl rfl) e,c⟩
 |dT aE=>
  obtain⟨z,y,xs,r,ob,es,ep,e,c⟩:=x;exact⟨z,y,xs,Paired.mapP r λp q z=>⟨z.1,ht _ _ z.2.1,z.2.2⟩,ob,es,ep,k _ _ (.inl rfl) e,c⟩
 |set S n=>obtain⟨ob,es,ep,t,e,c⟩:=x;exact⟨ob,es,ep,t,k _ _ (.inl rfl) e,c⟩
 |ins C dx fs=>
  obtain⟨d,z,ne,e,mA,⟨od,es,ep,e2,c⟩,r⟩:=x;exact⟨ho _ d,z,ne,k _ _ (.inl rfl) e,mA,⟨od,es,ep,k _ _ (.inr d) e2,c⟩,r⟩
 |own y=>obtain⟨ob,e⟩:=x;exact⟨ob,k _ _ (.inl rfl) e⟩
 |xd fs=>obtain⟨mA,⟨od,es,ep,e,c⟩,r⟩:=x;exact⟨mA,⟨od,es,ep,k _ _ (.inl rfl) e,c⟩,r⟩
 |rng lo hi=>obtain⟨t,u,v,e⟩:=x;exact⟨t,u,v,k _ _ (.inl rfl) e⟩
 |frz ob u ih=>obtain⟨e,q⟩:=x;exact⟨k _ _ (.inl rfl) e,ih q⟩
 |tbl ps=>
  have e:h.get? a=some {cls:= .none,data:= .fields ps}:=x;show h'.get? a=some {cls:= .none,data:= .fields ps};exact k a _ (.inl rfl) e
 |met f y=>
  have e:h.get? a=some (abz (.ref f) (.ref y)):=x;show h'.get? a=some (abz (.ref f) (.ref y));exact k a _ (.inl rfl) e
 |ext φ=>obtain⟨p,⟨o,e⟩,st⟩:=x;exact⟨st _ _ p λo q=>k _ _ (.inl rfl) q,⟨o,k _ _ (.inl rfl) e⟩,st⟩
theorem HOk.lt(x:HOk P w H h)(e:H a=some o):a<h.objs.size:=(x a o e).lt
theorem HOk.fresh(x:HOk P w H h)(e:h.objs.size<=a):H a=none:=by
 cases q:H a with
 |none=>rfl
 |some u=>exact ad3 (X1 (x.lt q) e) (Yr _)
theorem HOk.kept(x:HOk P w H h)(k:∀b u,h.get? b=some u->h'.get? b=some u):HOk P w H h':=λa o e=>
 (x a o e).stay (λb u _ q=>k b u q) (λ_ q=>q) λ_ _ q=>q
theorem HOk.laid(x:HOk P w H h)(k:∀b u,h.get? b=some u->h'.get? b=some u)(hp:h.objs.size<=a)(new:ObjOk P w (upd H a o) h' a o):HOk P w (upd H a o) h':=λb u e=>by
 have hn:=x.fresh hp;by_cases hb:b=a
 ·subst hb;rw[aM] at e;cases e;exact new
 ·rw[aA hb] at e;exact(x b u e).stay (λc v _ q=>k c v q) (λc q=>by rw[aA (bu q hn)];exact q) λc xs q=>by rw[aA (bu q hn)];exact q
end
def Rd(H:Hp)(a:Addr)(u:HO):Prop:=H a=some u\/∃o,H a=some (.frz o u)
theorem Rd.ok{P:XR}{w:World}{H:Hp}{h:Heap}{a:Addr}{u:HO}(r:Rd H a u)(x:HOk P w H h):ObjOk P w H h a u:=by
 rcases r with r | ⟨o,r⟩
 ·exact x a u r
 ·obtain⟨_,q⟩:=x a _ r;exact q
def N2:Option HO->Prop
 |some (.lst _)=>True
 |some (.dK _)=>True
 |some (.dT _)=>True
 |some (.set _ _)=>True
 |some (.ins _ _ _)=>True
 |some (.ext _)=>True
 |_=>False
section
variable{P:XR}{w:World}{H:Hp}{h h':Heap}{x e:Addr}{o':HO}
theorem HOk.write(ok:HOk P w H h)(mu:N2 (H x))(he:e=x\/H e=some (.own x))(k:∀b u,b≠e->h.get? b=some u->h'.get? b=some u)(EA:∃u,h'.get? e=some u)
 (new:ObjOk P w (upd H x o') h' x o'):HOk P w (upd H x o') h':=λb u q=>by
 have Pg:∀c y,H c=some (.own y)->c≠x:=λc y r z=>by subst z;rw[r] at mu;exact mu
 have SD:∀c xs,H c=some (.tup xs)->c≠x:=λc xs r z=>by subst z;rw[r] at mu;exact mu
 by_cases hb:b=x
 ·subst hb;rw[aM] at q;cases q;exact new
 ·rw[aA hb] at q;by_cases HR:b=e
  ·have q':H b=some (.own x):=by
    rcases he with z | z
    ·exact ad3 (HR.trans z) hb
    ·rw[HR];exact z
   rw[q] at q';cases q';obtain⟨v,hv⟩:=EA;exact⟨v,by rw[HR];exact hv⟩
  ·refine(ok b u q).stay (λc v hc r=>k c v ?_ r) (λc r=>by rw[aA (Pg c b r)];exact r) λc xs r=>by rw[aA (SD c xs r)];exact r
   rcases hc with rfl | hc
   ·exact HR
   ·rintro rfl;rcases he with z | z
    ·exact Pg c b hc z
    ·rw[hc] at z;cases z;exact hb rfl
end
structure Un (fs ex:List Addr) (H H':Hp) (h h':Heap):Prop where
 keep:∀b o,h.get? b=some o->H b=none->b∉fs->b∉ex->h'.get? b=some o
 slot:∀b o,h.get? b=some o->H b=none->b∈fs->b∉ex->∃sl,h'.get? b=some {o with slots:=sl}
 free:∀b o,h.get? b=some o->H b=none->b∉ex->H' b=none
 there:∀b o,h.get? b=some o->b∉ex->∃o',h'.get? b=some o'
 tups:∀b xs,H b=some (.tup xs)->H' b=some (.tup xs)
 frzs:∀b o u,H b=some (.frz o u)->H' b=some (.frz o u)
 tbls:∀b ps,H b=some (.tbl ps)->∃more,H' b=some (.tbl (ps++more))
section
variable{fs TF ex Ai:List Addr}{H H1 H2:Hp}{h h1 h2 h':Heap}{a x e:Addr}{o:HO}
theorem Un.any(u:Un fs ex H H1 h h1){b:Addr}{ob:Obj}(q:h.get? b=some ob)(n:H b=none)(hx:b∉ex):∃sl,h1.get? b=some {ob with slots:=sl}:=by
 by_cases hb:b∈fs
 ·exact u.slot b ob q n hb hx
 ·exact⟨ob.slots,u.keep b ob q n hb hx⟩
theorem Un.trans(a:Un fs ex H H1 h h1)(b:Un fs ex H1 H2 h1 h2):Un fs ex H H2 h h2 where
 keep:=λc ob q n hc hx=>b.keep c ob (a.keep c ob q n hc hx) (a.free c ob q n hx) hc hx
 slot:=λc ob q n hc hx=>by
  obtain⟨sl,e1⟩:=a.slot c ob q n hc hx;obtain⟨Kd,e2⟩:=b.slot c _ e1 (a.free c ob q n hx) hc hx;exact⟨Kd,e2⟩
 free:=λc ob q n hx=>by
  obtain⟨o',e1⟩:=a.there c ob q hx;exact b.free c o' e1 (a.free c ob q n hx) hx
 there:=λc ob q hx=>by
  obtain⟨o',e1⟩:=a.there c ob q hx;exact b.there c o' e1 hx
 tups:=λc xs q=>b.tups c xs (a.tups c xs q)
 frzs:=λc ob xs q=>b.frzs c ob xs (a.frzs c ob xs q)
 tbls:=λc ps q=>by
  obtain⟨m1,e1⟩:=a.tbls c ps q;obtain⟨m2,e2⟩:=b.tbls c _ e1;exact⟨m1++m2,by rw[e2,abD]⟩
theorem Un.kept(k:∀b u,h.get? b=some u->h'.get? b=some u):Un fs ex H H h h':=
 ⟨λb ob q _ _ _=>k b ob q,λb ob q _ _ _=>⟨ob.slots,k b ob q⟩,λ_ _ _ n _=>n,λb ob q _=>⟨ob,k b ob q⟩,λ_ _ q=>q,λ_ _ _ q=>q,λ_ ps q=>⟨#[],by rw[q];simp⟩⟩
theorem Un.refl:Un fs ex H H h h:=Un.kept λ_ _ q=>q
theorem Un.laid(k:∀b u,h.get? b=some u->h'.get? b=some u)(hp:h.objs.size<=a)(hn:H a=none):Un fs ex H (upd H a o) h h' where
 keep:=λb u q _ _ _=>k b u q
 slot:=λb u q _ _ _=>⟨u.slots,k b u q⟩
 free:=λb u q n _=>by rw[aA (XS (X1 (XB q) hp))];exact n
 there:=λb u q _=>⟨u,k b u q⟩
 tups:=λb xs q=>by rw[aA (bu q hn)];exact q
 frzs:=λb u xs q=>by rw[aA (bu q hn)];exact q
 tbls:=λb ps q=>⟨#[],by rw[aA (bu q hn),q];simp⟩
theorem Un.write(mu:N2 (H x))(he:e=x\/H e=some (.own x))(k:∀b u,b≠e->h.get? b=some u->h'.get? b=some u)(EA:∃u,h'.get? e=some u):Un fs ex H (upd H x o) h h':=by
 have hx:∀b,H b=none->b≠x:=λb n z=>by subst z;rw[n] at mu;exact mu
 have hb:∀b,H b=none->b≠e:=λb n z=>by
  subst z;rcases he with r | r
  ·exact hx b n r
  ·rw[n] at r;cases r
 have hm:∀b u,H b=some u->¬N2 (some u)->b≠x:=λb u q nm z=>by subst z;rw[q] at mu;exact nm mu
 refine⟨λb u q n _ _=>k b u (hb b n) q,λb u q n _ _=>⟨u.slots,k b u (hb b n) q⟩,λb u q n _=>by rw[aA (hx b n)];exact n,λb u q _=>?_,
  λb xs q=>by rw[aA (hm b _ q λz=>z)];exact q,λb u xs q=>by rw[aA (hm b _ q λz=>z)];exact q,λb ps q=>⟨#[],by rw[aA (hm b _ q λz=>z),q];simp⟩⟩
 by_cases HR:b=e
 ·subst HR;exact EA
 ·exact⟨u,k b u HR q⟩
theorem Un.mono(u:Un fs ex H H1 h h1)(hs:∀b∈fs,b∈TF)(hx:∀b∈ex,b∈Ai):Un TF Ai H H1 h h1:=
 ⟨λb ob q n hb he=>u.keep b ob q n (λz=>hb (hs b z)) λz=>he (hx b z),λ_ _ q n _ he=>u.any q n λz=>he (hx _ z),λb ob q n he=>u.free b ob q n λz=>he (hx b z),λb ob q he=>u.there b ob q λz=>he (hx b z),u.tups,u.frzs,u.tbls⟩
end
def QZ(h:Heap)(H:Hp):List Addr:=(XQ h.objs.size).filter λa=>(H a).isSome
def vL(h:Heap)(H:Hp):Heap:=aau h (QZ h H)
theorem Dv(h:Heap)(H:Hp):(vL h H).objs.size=h.objs.size:=PySem.W.hideAll_size _ _
theorem FD{h:Heap}{H:Hp}{b:Addr}{o:Obj}(e:h.get? b=some o)(n:H b=none):(vL h H).get? b=some o:=
 acZ _ e λhm=>by
  have q:(H b).isSome=true:=(XY.mp hm).2;rw[n] at q;simp at q
theorem Jo{h:Heap}{H:Hp}{b:Addr}{o:Obj}(e:(vL h H).get? b=some o):h.get? b=some o/\H b=none:=by
 have e':h.get? b=some o:=ac7 (QZ h H) e;refine⟨e',?_⟩;cases q:H b with
 |none=>rfl
 |some x=>
  have hm:b∈QZ h H:=XY.mpr ⟨Y3.mpr (XB e'),by simp[q]⟩;have z:(vL h H).get? b=none:=PySem.W.hideAll_none (QZ h H) hm;rw[z] at e;cases e
def HY(g h:Heap)(L:Addr):List (Addr×Obj):=(XQ h.objs.size).filterMap λa=>if a=L\/(g.get? a).isSome=true then none else(h.get? a).map λo=>(a,o)
def W1(g h:Heap)(L d:Addr):List (Addr×Obj):=(HY g h L).filter λp=>decide (p.1≠d)
structure Mod (K:Xr) (mg:Str->Option Value) (base:Heap):Prop where
 kin:K.In base
 glob:base.Ns XJ mg
 blt:∃mb,base.Ns builtinsNs mb/\∀x:Str,x≠"__name__"->mb x=Yd x
 nolimit:base.NoLimit
structure Cx where
 prog:XR
 w:World
 K:Xr
 mg:Str->Option Value
 base:Heap
 A:X6
 N:List Str
 ad9:Xl
 ad8:Hp
 env:Env
 outer:List Env
 stack:List Env
 ex:List Addr
 fn:Str->Bool
 calm:Bool
 pn:List (Addr×Obj)
 xe:Value->Xl->Prop
def fM(l:List Env):List Addr:=l.filterMap (·.frame)
abbrev Cx.fs(X:Cx):List Addr:=fM X.outer
def Q9(sc:Scope)(x:Str):Prop:=sc.names.lookup x=some .local\/sc.names.lookup x=some .cell\/sc.names.lookup x=some .free
def Loc(sc:Scope)(x:Str):Prop:=sc.names.lookup x=some .local\/sc.names.lookup x=some .cell
def Look(env:Env)(h:Heap)(m:Str->Option Value)(x:Str)(u:Value):Prop:=
 (env.kindOf x=some .local/\m x=some u)\/((env.kindOf x=some .cell\/env.kindOf x=some .free)/\∃c,env.cells.lookup x=some c/\h.IsCell c (some u))
structure Cx.Ok (X:Cx):Prop where
 mod:Mod X.K X.mg X.base
 kind:X.env.scope.kind= .function
 glob:X.env.globals=XJ
 blt:X.env.builtins=builtinsNs
 above:X.ad9.heap.objs.size<=X.env.locals
 inj:∀x y c,X.env.cells.lookup x=some c->X.env.cells.lookup y=some c->x=y
 has:∀x,(X.env.kindOf x=some .cell\/X.env.kindOf x=some .free)->∃c,X.env.cells.lookup x=some c
 cab:∀x c,X.fn x=true->X.env.cells.lookup x=some c->X.ad9.heap.objs.size<=c
 hd:X.calm=true->X.A.handled=none
 frames:X.A.frames=some X.stack
 stk:X.stack=X.outer\/(X.stack=X.env::X.outer/\X.env.frame=some X.env.locals)
 exf:∀b∈X.ex,b≠X.env.locals/\∀x c,X.env.cells.lookup x=some c->c≠b
 bs:∀b o,X.base.get? b=some o->X.ad9.heap.get? b=some o/\X.ad8 b=none
 bsz:X.base.objs.size<=X.ad9.heap.objs.size
 noex:∀b o,X.base.get? b=some o->b∉X.ex
 exfs:∀b∈X.ex,b∉X.fs
 funs:X.ad9.heap.FunFrames X.base X.outer
 frf:∀b∈X.fs,X.ad8 b=none
structure Inv (X:Cx) (f8:List (Addr×Obj)) (σ:List (Option V)) (H:Hp) (s:Xl):Prop where
 ok:X.Ok
 os:s.os=X.ad9.os
 bare:abE s.gens
 base:Un X.fs X.ex X.ad8 H X.ad9.heap s.heap
 loc:∃m,s.heap.Ns X.env.locals m/\∀(i:Nat) (x:Str) (v:V),X.N[i]? =some x->σ[i]? =some (some v)->Q9 X.env.scope x->∃u,RelV v u/\Look X.env s.heap m x u
 cell:∀x c,X.env.cells.lookup x=some c->∃v,s.heap.IsCell c v
 free:H X.env.locals=none
 freeC:∀x c,X.env.cells.lookup x=some c->H c=none
 pin:∀p∈X.pn++f8,s.heap.get? p.1=some p.2/\H p.1=none/\p.1≠X.env.locals/\p.1∉X.fs/\∀v,p.2.data≠ .cell v
 hok:HOk X.prog X.w H s.heap
 len:σ.length=X.N.length
section
variable{X:Cx}{f8:List (Addr×Obj)}{σ:List (Option V)}{H H':Hp}{s:Xl}{h':Heap}
theorem Cx.Ok.nofr(ok:X.Ok){b:Addr}{o:Obj}(e:X.base.get? b=some o):b∉X.fs:=λhb=>by
 have:=(ok.funs.mem hb).1;rw[e] at this;cases this
theorem Inv.bs(I:Inv X f8 σ H s):∀b o,X.base.get? b=some o->s.heap.get? b=some o/\H b=none:=λb o e=>
 ⟨I.base.keep b o (I.ok.bs b o e).1 (I.ok.bs b o e).2 (I.ok.nofr e) (I.ok.noex b o e),I.base.free b o (I.ok.bs b o e).1 (I.ok.bs b o e).2 (I.ok.noex b o e)⟩
theorem Inv.bk(I:Inv X f8 σ H s):∀b o,X.base.get? b=some o->s.heap.get? b=some o:=λb o e=>(I.bs b o e).1
theorem Inv.mod(I:Inv X f8 σ H s):Mod X.K X.mg X.base:=I.ok.mod
theorem Inv.kIn(I:Inv X f8 σ H s):X.K.In s.heap:=I.ok.mod.kin.keeps I.bk
theorem Inv.nolimit(I:Inv X f8 σ H s):s.heap.NoLimit:=I.ok.mod.nolimit.keeps I.bk
theorem Inv.lt(I:Inv X f8 σ H s):X.env.locals<s.heap.objs.size:=let ⟨_,hn,_⟩:=I.loc;hn.lt
theorem Inv.sz(I:Inv X f8 σ H s):X.ad9.heap.objs.size<=s.heap.objs.size:=X2 I.ok.above (Y6 I.lt)
theorem Inv.nofs(I:Inv X f8 σ H s){a:Addr}(h:s.heap.objs.size<=a):a∉X.fs:=λhb=>by
 obtain⟨_,o,ho,_⟩:=I.ok.funs.mem hb;exact ad3 (X1 (XB ho) (X2 I.sz h)) (Yr _)
theorem Inv.cne(I:Inv X f8 σ H s):∀x c,X.env.cells.lookup x=some c->c≠X.env.locals:=λx c e z=>by
 obtain⟨v,o,ho,hd⟩:=I.cell x c e;obtain⟨m,⟨o',es,ep,l6,m_,_⟩,_⟩:=I.loc;rw[z,l6] at ho;cases ho;rw[m_] at hd;cases hd
theorem Inv.funs(I:Inv X f8 σ H s):s.heap.FunFrames X.base X.outer:=by
 have all:∀(l:List Env),(∀b∈fM l,b∈X.fs)->X.ad9.heap.FunFrames X.base l->s.heap.FunFrames X.base l:=by
  intro l;induction l with
  |nil=>intro _ _;trivial
  |cons env r ih=>
   intro hs hl;obtain⟨hk,⟨L,o,hf,hn,ho,hd⟩,hr⟩:=hl;have hL:L∈X.fs:=hs L (by unfold fM;rw[abx,hf];exact Xk);obtain⟨sl,e⟩:=I.base.slot L o ho (I.ok.frf L hL) hL λz=>I.ok.exfs L z hL;exact⟨hk,⟨L,_,hf,hn,e,hd⟩,ih (λb hb=>hs b (by unfold fM;rw[abx,hf];exact Xj _ hb)) hr⟩
 exact all X.outer (λ_ hb=>hb) I.ok.funs
theorem Inv.stack(I:Inv X f8 σ H s):s.heap.FunFrames X.base X.stack:=by
 rcases I.ok.stk with e | ⟨e,hf⟩
 ·rw[e];exact I.funs
 ·rw[e];obtain⟨m,hn,_⟩:=I.loc;refine .cons (by rw[I.ok.kind];decide) hf hn ?_ I.funs;exact adk (X2 I.ok.bsz I.ok.above)
theorem Inv.stkSub(I:Inv X f8 σ H s):∀b∈fM X.stack,b∈X.env.locals::X.fs:=λb hb=>by
 rcases I.ok.stk with e | ⟨e,hf⟩
 ·rw[e] at hb;exact Xj _ hb
 ·rw[e] at hb;unfold fM at hb;rw[abx,hf] at hb;exact hb
theorem Inv.stkFree(I:Inv X f8 σ H s):∀b∈fM X.stack,H b=none:=λb hb=>by
 rcases Xs.mp (I.stkSub b hb) with e | hb
 ·rw[e];exact I.free
 ·obtain⟨_,o,ho,_⟩:=I.ok.funs.mem hb;exact I.base.free b o ho (I.ok.frf b hb) λz=>I.ok.exfs b z hb
theorem Inv.step{g':Array GenState}{t':Nat}{d':Drawn}{ch:List Addr}(I:Inv X f8 σ H s)
 (HS:∀b∈ch,(b∈X.ex\/X.ad9.heap.objs.size<=b)/\b≠X.env.locals/\(∀x c,X.env.cells.lookup x=some c->c≠b)/\∀p∈X.pn++f8,p.1≠b)
 (keep:∀b o,b≠X.env.locals->b∉X.fs->b∉ch->s.heap.get? b=some o->H b=none->h'.get? b=some o)
 (slot:∀b o,b≠X.env.locals->b∈X.fs->b∉ch->s.heap.get? b=some o->H b=none->∃sl,h'.get? b=some {o with slots:=sl})(free:∀b o,b∉ch->s.heap.get? b=some o->H b=none->H' b=none)
 (there:∀b o,b∉ch->s.heap.get? b=some o->∃o',h'.get? b=some o')
 (tups:∀b xs,H b=some (.tup xs)->H' b=some (.tup xs))(frzs:∀b o u,H b=some (.frz o u)->H' b=some (.frz o u))(tbls:∀b ps,H b=some (.tbl ps)->∃more,H' b=some (.tbl (ps++more)))
 (ns:∀m,s.heap.Ns X.env.locals m->h'.Ns X.env.locals m)(hok:HOk X.prog X.w H' h')(hg:abE g'):
 Inv X f8 σ H' {s with heap:=h',gens:=g',drawn:=d',toks:=t'}:=by
 have NU:∀b o,X.ad9.heap.get? b=some o->b≠X.env.locals:=λb o e=>XS (X1 (XB e) I.ok.above);have QR:∀b o,X.ad9.heap.get? b=some o->b∉X.ex->b∉ch:=λb o e hx hb=>by
  rcases(HS b hb).1 with z | z
  ·exact hx z
  ·exact ad3 (X1 (XB e) z) (Yr _)
 have cellK:∀x c,X.env.cells.lookup x=some c->∀v,s.heap.IsCell c v->h'.IsCell c v:=λx c e v ⟨o,ho,hd⟩=>by
  have Pd:c∉ch:=λz=>(HS c z).2.2.1 x c e rfl;by_cases hc:c∈X.fs
  ·obtain⟨sl,q⟩:=slot c o (I.cne x c e) hc Pd ho (I.freeC x c e);exact⟨_,q,hd⟩
  ·exact⟨o,keep c o (I.cne x c e) hc Pd ho (I.freeC x c e),hd⟩
 refine⟨I.ok,I.os,hg,⟨λb o e n hb hx=>?_,λb o e n hb hx=>?_,λb o e n hx=>?_,λb o e hx=>?_,λb xs e=>tups b xs (I.base.tups b xs e),λb o xs e=>frzs b o xs (I.base.frzs b o xs e),λb ps e=>?_⟩,?_,λx c e=>?_,?_,λx c e=>?_,λp hp=>?_,hok,I.len⟩
 ·exact keep b o (NU b o e) hb (QR b o e hx) (I.base.keep b o e n hb hx) (I.base.free b o e n hx)
 ·obtain⟨sl,e1⟩:=I.base.slot b o e n hb hx;obtain⟨Kd,e2⟩:=slot b _ (NU b o e) hb (QR b o e hx) e1 (I.base.free b o e n hx);exact⟨Kd,e2⟩
 ·obtain⟨o',e1⟩:=I.base.there b o e hx;exact free b o' (QR b o e hx) e1 (I.base.free b o e n hx)
 ·obtain⟨o',e1⟩:=I.base.there b o e hx;exact there b o' (QR b o e hx) e1
 ·obtain⟨m1,e1⟩:=I.base.tbls b ps e;obtain⟨m2,e2⟩:=tbls b _ e1;exact⟨m1++m2,by rw[e2,abD]⟩
 ·obtain⟨m,hn,hl⟩:=I.loc;refine⟨m,ns m hn,λi x v e1 e2 e3=>?_⟩;obtain⟨u,r,l⟩:=hl i x v e1 e2 e3;refine⟨u,r,?_⟩;rcases l with l | ⟨k,c,e,z⟩
  ·exact .inl l
  ·exact .inr ⟨k,c,e,cellK x c e _ z⟩
 ·obtain⟨v,z⟩:=I.cell x c e;exact⟨v,cellK x c e v z⟩
 ·obtain⟨m,⟨o,_,_,ho,_⟩,_⟩:=I.loc;exact free _ o (λz=>(HS _ z).2.1 rfl) ho I.free
 ·obtain⟨v,o,ho,hd⟩:=I.cell x c e;exact free c o (λz=>(HS c z).2.2.1 x c e rfl) ho (I.freeC x c e)
 ·obtain⟨e,n,ne,nf,d⟩:=I.pin p hp;have Pd:p.1∉ch:=λz=>(HS p.1 z).2.2.2 p hp rfl;exact⟨keep p.1 p.2 ne nf Pd e n,free p.1 p.2 Pd e n,ne,nf,d⟩
theorem Inv.un{t':Nat}(I:Inv X f8 σ H s)(u:Un X.fs [] H H' s.heap h')(hok:HOk X.prog X.w H' h'):Inv X f8 σ H' {s with heap:=h',toks:=t'}:=by
 obtain⟨m,⟨o,es,ep,ho,r⟩,_⟩:=id I.loc;obtain⟨sl,hL⟩:=u.any ho I.free (by simp);exact I.step (g':=s.gens) (d':=s.drawn) (ch:=[]) (λ_ z=>nomatch z) (λb o _ hb _ e n=>u.keep b o e n hb (by simp)) (λb o _ hb _ e n=>u.slot b o e n hb (by simp)) (λb o _ e n=>u.free b o e n (by simp)) (λb o _ e=>u.there b o e (by simp)) u.tups u.frzs u.tbls (λm' hm=>by
  obtain⟨o',Fi,Ff,l6,r'⟩:=hm;rw[ho] at l6;cases l6;exact⟨_,Fi,Ff,hL,r'⟩) hok I.bare
theorem Inv.call{g':Array GenState}{t':Nat}{d':Drawn}{ch:List Addr}(I:Inv X f8 σ H s)(u:Un (fM X.stack) ch H H' s.heap h')(hok:HOk X.prog X.w H' h')(hg:abE g')
 (HS:∀b∈ch,(b∈X.ex\/X.ad9.heap.objs.size<=b)/\b≠X.env.locals/\(∀x c,X.env.cells.lookup x=some c->c≠b)/\∀p∈X.pn++f8,p.1≠b):
 Inv X f8 σ H' {s with heap:=h',gens:=g',drawn:=d',toks:=t'}:=by
 obtain⟨m,⟨o,es,ep,ho,r⟩,_⟩:=id I.loc;obtain⟨sl,hL⟩:=u.any ho I.free λz=>(HS _ z).2.1 rfl;exact I.step (ch:=ch) HS (λb o hL hb hc e n=>u.keep b o e n (λz=>(Xs.mp (I.stkSub b z)).elim hL hb) hc) (λb o _ _ hc e n=>u.any e n hc) (λb o hc e n=>u.free b o e n hc) (λb o hc e=>u.there b o e hc) u.tups u.frzs u.tbls (λm' hm=>by
  obtain⟨o',Fi,Ff,l6,r'⟩:=hm;rw[ho] at l6;cases l6;exact⟨_,Fi,Ff,hL,r'⟩) hok hg
theorem Inv.turned{t':Nat}{it:Addr}(I:Inv X f8 σ H s)(k:∀b o,b≠it->s.heap.get? b=some o->h'.get? b=some o)(hn:H it=none)(hL:it≠X.env.locals)
 (h1:it∈X.ex\/X.ad9.heap.objs.size<=it)(h2:∀x c,X.env.cells.lookup x=some c->c≠it)(h3:∀p∈X.pn++f8,p.1≠it):Inv X f8 σ H {s with heap:=h',toks:=t'}:=by
 have K5:∀b u,H b=some u->b≠it:=λb u e z=>by rw[z,hn] at e;cases e
 refine I.step (g':=s.gens) (d':=s.drawn) (ch:=[it]) (λb hb=>?_) (λb o _ _ hc e _=>k b o (λz=>hc (by simp[z])) e) (λb o _ _ hc e _=>⟨o.slots,k b o (λz=>hc (by simp[z])) e⟩) (λ_ _ _ _ n=>n)
  (λb o hc e=>⟨o,k b o (λz=>hc (by simp[z])) e⟩) (λ_ _ e=>e) (λ_ _ _ e=>e) (λb ps e=>⟨#[],by rw[e];simp⟩) (λm hm=>?_) (λb u e=>?_) I.bare
 ·have e:b=it:=by simpa using hb
  subst e;exact⟨h1,hL,h2,h3⟩
 ·obtain⟨o,es,ep,ho,r⟩:=hm;exact⟨o,es,ep,k _ o (Yp hL) ho,r⟩
 ·refine(I.hok b u e).stay (λc v hc q=>k c v ?_ q) (λ_ q=>q) λ_ _ q=>q;rcases hc with z | z
  ·rw[z];exact K5 b u e
  ·exact K5 c _ z
theorem Inv.tok(I:Inv X f8 σ H s)(t:Nat):Inv X f8 σ H {s with toks:=t}:=I.un (h':=s.heap) (t':=t) Un.refl I.hok
theorem Inv.kept{t':Nat}(I:Inv X f8 σ H s)(k:∀b u,s.heap.get? b=some u->h'.get? b=some u):Inv X f8 σ H {s with heap:=h',toks:=t'}:=I.un (Un.kept k) (I.hok.kept k)
theorem Inv.laid{a:Addr}{o:HO}{t':Nat}(I:Inv X f8 σ H s)(k:∀b u,s.heap.get? b=some u->h'.get? b=some u)(hp:s.heap.objs.size<=a)(new:ObjOk X.prog X.w (upd H a o) h' a o):
 Inv X f8 σ (upd H a o) {s with heap:=h',toks:=t'}:=I.un (Un.laid k hp (I.hok.fresh hp)) (I.hok.laid k hp new)
theorem Inv.write{x e:Addr}{o:HO}{t':Nat}(I:Inv X f8 σ H s)(mu:N2 (H x))(he:e=x\/H e=some (.own x))(k:∀b u,b≠e->s.heap.get? b=some u->h'.get? b=some u)(EA:∃u,h'.get? e=some u)
 (new:ObjOk X.prog X.w (upd H x o) h' x o):Inv X f8 σ (upd H x o) {s with heap:=h',toks:=t'}:=I.un (Un.write mu he k EA) (I.hok.write mu he k EA new)
theorem Inv.pins_of{zf:List (Addr×Obj)}(I:Inv X f8 σ H s)(h:∀p∈zf,s.heap.get? p.1=some p.2/\H p.1=none/\p.1≠X.env.locals/\p.1∉X.fs/\∀v,p.2.data≠ .cell v):Inv X zf σ H s:=
 ⟨I.ok,I.os,I.bare,I.base,I.loc,I.cell,I.free,I.freeC,λp hp=>(X4.mp hp).elim (λz=>I.pin p (YC _ z)) (h p),I.hok,I.len⟩
theorem yS{N:List Str}(hN:N.Nodup){i j:Nat}{x:Str}(a:N[i]? =some x)(b:N[j]? =some x):i=j:=by
 obtain⟨h1,e1⟩:=Xy.mp a;obtain⟨h2,e2⟩:=Xy.mp b;exact(List.getElem_inj hN).mp (e1.trans e2.symm)
theorem oj{M:Model}{A:X6}{E:Value->Xl->Prop}{i:Nat}{x:Str}{v:V}{u:Value}{Q:Unit->Xl->Prop}(I:Inv X f8 σ H s)(hN:X.N.Nodup)(hi:X.N[i]? =some x)(hx:Loc X.env.scope x)(r:RelV v u)
 (h:∀s',Inv X f8 (σ.set i (some v)) H s'->(∃a,YI a s.heap s'.heap/\(a=X.env.locals\/X.env.cells.lookup x=some a))->Q () s')(hf:X.fn x=true\/X.env.scope.names.lookup x=some .local:=by first | exact .inl rfl | exact .inr rfl | assumption):wpAny M A (storeName X.env x u) Q E s:=by
 obtain⟨m,hn,hl⟩:=id I.loc;have Ry:(X.env.scope.kind== .class||(X.env.scope.kind== .module&&X.env.locals !=X.env.globals))=false:=by rw[I.ok.kind];rfl
 have T5:i<σ.length:=by rw[I.len];exact(Xy.mp hi).1
 have cne:=I.cne;have tracked:∀{a:Addr}{h':Heap},(∃o,s.heap.get? a=some o/\H a=none)->YI a s.heap h'->HOk X.prog X.w H h':=λ{a h'} ha hs b ob e=>by
  obtain⟨_,_,KQ⟩:=ha;refine(I.hok b ob e).stay (λc w' hc q=>(hs.2 c ?_).trans q) (λ_ q=>q) λ_ _ q=>q;rintro rfl;rcases hc with rfl | hc
  ·rw[KQ] at e;cases e
  ·rw[KQ] at hc;cases hc
 rcases hx with hk | hk
 ·refine wpAny_storeName_local hk hn (λh' RU hs=>?_) Ry;obtain⟨oL,_,_,QJ,_⟩:=id hn;refine h _ ⟨I.ok,I.os,I.bare,⟨λb o e n hb hx=>?_,λb o e n hb hx=>?_,I.base.free,λb o e hx=>?_,I.base.tups,I.base.frzs,I.base.tbls⟩,⟨_,RU,λj y v' e1 e2 e3=>?_⟩,λy c e=>?_,I.free,I.freeC,λp hp=>?_,tracked ⟨oL,QJ,I.free⟩ hs,by simpa using I.len⟩ ⟨_,hs, .inl rfl⟩
  ·exact(hs.2 b (XS (X1 (XB e) I.ok.above))).trans (I.base.keep b o e n hb hx)
  ·obtain⟨sl,e1⟩:=I.base.slot b o e n hb hx;exact⟨sl,(hs.2 b (XS (X1 (XB e) I.ok.above))).trans e1⟩
  ·obtain⟨o',e1⟩:=I.base.there b o e hx;exact⟨o',(hs.2 b (XS (X1 (XB e) I.ok.above))).trans e1⟩
  ·by_cases hj:j=i
   ·subst hj;rw[hi] at e1;cases e1;rw[XN T5] at e2;cases e2;exact⟨u,r, .inl ⟨hk,by simp⟩⟩
   ·rw[XF (Yp hj)] at e2;obtain⟨u',r',q⟩:=hl j y v' e1 e2 e3;refine⟨u',r',?_⟩;rcases q with⟨k,e⟩ | ⟨k,c,e,z⟩
    ·refine .inl ⟨k,?_⟩;have:y≠x:=λe=>hj (yS hN e1 (e▸hi));simp[this,e]
    ·exact .inr ⟨k,c,e,z.sameBut hs (cne y c e)⟩
  ·obtain⟨w',z⟩:=I.cell y c e;exact⟨w',z.sameBut hs (cne y c e)⟩
  ·obtain⟨e,n,ne,nf,d⟩:=I.pin p hp;exact⟨(hs.2 p.1 ne).trans e,n,ne,nf,d⟩
 ·have RJ:X.fn x=true:=by
   rcases hf with z | z
   ·exact z
   ·rw[z] at hk;cases hk
  obtain⟨c,hc⟩:=I.ok.has x (.inl hk);obtain⟨w',z⟩:=I.cell x c hc;refine wpAny_storeName_cell I.ok.kind hk hc z (λh' KL hs=>?_);obtain⟨oc,QK,RX⟩:=id z;refine h {s with heap:=h'} ⟨I.ok,I.os,I.bare,⟨λb o e n hb hx=>?_,λb o e n hb hx=>?_,I.base.free,λb o e hx=>?_,I.base.tups,I.base.frzs,I.base.tbls⟩,⟨m,hn.sameBut hs (Yp (cne x c hc)),λj y v' e1 e2 e3=>?_⟩,λy c' e=>?_,I.free,I.freeC,λp hp=>?_,tracked ⟨oc,QK,I.freeC x c hc⟩ hs,by simpa using I.len⟩ ⟨c,hs, .inr hc⟩
  ·exact(hs.2 b (XS (X1 (XB e) (I.ok.cab x c RJ hc)))).trans (I.base.keep b o e n hb hx)
  ·obtain⟨sl,e1⟩:=I.base.slot b o e n hb hx;exact⟨sl,(hs.2 b (XS (X1 (XB e) (I.ok.cab x c RJ hc)))).trans e1⟩
  ·obtain⟨o',e1⟩:=I.base.there b o e hx;exact⟨o',(hs.2 b (XS (X1 (XB e) (I.ok.cab x c RJ hc)))).trans e1⟩
  ·by_cases hj:j=i
   ·subst hj;rw[hi] at e1;cases e1;rw[XN T5] at e2;cases e2;exact⟨u,r, .inr ⟨.inl hk,c,hc,KL⟩⟩
   ·rw[XF (Yp hj)] at e2;obtain⟨u',r',q⟩:=hl j y v' e1 e2 e3;refine⟨u',r',?_⟩;rcases q with q | ⟨k,c',e,z'⟩
    ·exact .inl q
    ·refine .inr ⟨k,c',e,z'.sameBut hs ?_⟩;rintro rfl;exact hj (yS hN e1 (I.ok.inj _ _ _ e hc▸hi))
  ·by_cases QD:c'=c
   ·subst QD;exact⟨_,KL⟩
   ·obtain⟨w2,z2⟩:=I.cell y c' e;exact⟨w2,z2.sameBut hs QD⟩
  ·obtain⟨e,n,ne,nf,d⟩:=I.pin p hp;refine⟨(hs.2 p.1 ?_).trans e,n,ne,nf,d⟩;intro q;rw[q,QK] at e;have q':oc=p.2:=XT e;exact d w' (by rw[<-q'];exact RX)
theorem zC{M:Model}{A:X6}{E:Value->Xl->Prop}{i:Nat}{x:Str}{v:V}{u:Value}{Q:Unit->Xl->Prop}(I:Inv X f8 σ H s)(hN:X.N.Nodup)(hi:X.N[i]? =some x)(hx:Loc X.env.scope x)(r:RelV v u)
 (h:∀s',Inv X f8 (σ.set i (some v)) H s'->Q () s')(hf:X.fn x=true\/X.env.scope.names.lookup x=some .local:=by first | exact .inl rfl | exact .inr rfl | assumption):wpAny M A (storeName X.env x u) Q E s:=
 oj I hN hi hx r (λs' I' _=>h s' I') hf
theorem Inv.call'{s':Xl}{ch:List Addr}(I:Inv X f8 σ H s)(ho:s'.os=s.os)(u:Un (fM X.stack) ch H H' s.heap s'.heap)(hok:HOk X.prog X.w H' s'.heap)(hg:abE s'.gens)
 (HS:∀b∈ch,(b∈X.ex\/X.ad9.heap.objs.size<=b)/\b≠X.env.locals/\(∀x c,X.env.cells.lookup x=some c->c≠b)/\∀p∈X.pn++f8,p.1≠b):Inv X f8 σ H' s':=by
 obtain⟨h',g',d',t',o'⟩:=s';have e:o'=s.os:=ho;subst e;exact I.call (g':=g') (t':=t') (d':=d') u hok hg HS
end
abbrev XK:=Value->Option Addr->Hp->Prop
abbrev St:=List (Option V)
abbrev VK:=V->Hp->Prop
abbrev TE:=St->Hp->VK->Prop
abbrev TT:=St->Hp->(Bool->Hp->Prop)->Prop
abbrev TA:=St->Hp->(List V->Hp->Prop)->Prop
structure Ends where
 nx:St->Hp->Prop
 rt:VK
 bk:St->Hp->Prop:=λ_ _=>False
 ct:St->Hp->Prop:=λ_ _=>False
abbrev TS:=Ends->St->Hp->Prop
def EP(X:Cx)(f8:List (Addr×Obj))(σ:St)(Q:VK)(u:Value)(s':Xl):Prop:=∃v H',Inv X f8 σ H' s'/\RelV v u/\Q v H'
def TP(X:Cx)(f8:List (Addr×Obj))(σ:St)(Q:Bool->Hp->Prop)(b:Bool)(s':Xl):Prop:=∃H',Inv X f8 σ H' s'/\Q b H'
def AP(X:Cx)(f8:List (Addr×Obj))(σ:St)(Q:List V->Hp->Prop)(us:List Value)(s':Xl):Prop:=∃vs H',Inv X f8 σ H' s'/\Vals vs us/\Q vs H'
def SP(X:Cx)(f8:List (Addr×Obj))(D:Ends)(f:Flow)(s':Xl):Prop:=
 match f with
 | .next=>∃σ' H',Inv X f8 σ' H' s'/\D.nx σ' H'
 | .brk=>∃σ' H',Inv X f8 σ' H' s'/\D.bk σ' H'
 | .cont=>∃σ' H',Inv X f8 σ' H' s'/\D.ct σ' H'
 | .ret u=>∃v σ' H',Inv X f8 σ' H' s'/\RelV v u/\D.rt v H'
def PE(X:Cx)(e:Expr)(t:TE):Prop:=
 ∀(f8:List (Addr×Obj)) (s:Xl) (σ:St) (H:Hp) (Q:VK),Inv X f8 σ H s->t σ H Q->wpAny (model X.prog X.w) X.A (eval e X.env) (EP X f8 σ Q) X.xe s
def PT(X:Cx)(e:Expr)(t:TT):Prop:=
 ∀(f8:List (Addr×Obj)) (s:Xl) (σ:St) (H:Hp) (Q:Bool->Hp->Prop),Inv X f8 σ H s->t σ H Q->wpAny (model X.prog X.w) X.A (isTrue e X.env (eval e X.env)) (TP X f8 σ Q) X.xe s
def PW(X:Cx)(e:Expr)(t:TT):Prop:=
 ∀(whole:Sem Value) (f8:List (Addr×Obj)) (s:Xl) (σ:St) (H:Hp) (Q:Bool->Hp->Prop),Inv X f8 σ H s->t σ H Q->wpAny (model X.prog X.w) X.A (isTrue e X.env whole) (TP X f8 σ Q) X.xe s
theorem PW.pt{X:Cx}{e:Expr}{t:TT}(h:PW X e t):PT X e t:=h _
def PA(X:Cx)(es:List Expr)(t:TA):Prop:=
 ∀(pos:Pos) (f8:List (Addr×Obj)) (s:Xl) (σ:St) (H:Hp) (Q:List V->Hp->Prop),Inv X f8 σ H s->t σ H Q->wpAny (model X.prog X.w) X.A (spliced (Y9 pos (Xz es X.env))) (AP X f8 σ Q) X.xe s
def PS(X:Cx)(st:Stmt)(t:TS):Prop:=
 ∀(f8:List (Addr×Obj)) (s:Xl) (σ:St) (H:Hp) (D:Ends),Inv X f8 σ H s->t D σ H->wpAny (model X.prog X.w) X.A (exec st X.env) (SP X f8 D) X.xe s
def PSs(X:Cx)(st:List Stmt)(t:TS):Prop:=
 ∀(f8:List (Addr×Obj)) (s:Xl) (σ:St) (H:Hp) (D:Ends),Inv X f8 σ H s->t D σ H->wpAny (model X.prog X.w) X.A (execs st X.env) (SP X f8 D) X.xe s
theorem cC{α:Type}{t:Sem α}{Q Q':α->Xl->Prop}{M:Model}{A:X6}{E:Value->Xl->Prop}{s:Xl}(h:wpAny M A t Q E s)(hQ:∀a s,Q a s->Q' a s):wpAny M A t Q' E s:=YA h hQ λ_ _ x=>x
section
variable{X:Cx}
theorem bin{a b:Expr}{ta tb:TE}(ha:PE X a ta)(hb:PE X b tb){f8:List (Addr×Obj)}{s:Xl}{σ:St}{H:Hp}{R:V->V->Hp->Prop}(I:Inv X f8 σ H s)(h:ta σ H λx H1=>tb σ H1 λy H2=>R x y H2)
 {α:Type}{Q:α->Xl->Prop}{f:Value->Value->Sem α}
 (hf:∀v u s2 x y H2,Inv X f8 σ H2 s2->RelV x v->RelV y u->R x y H2->wpAny (model X.prog X.w) X.A (f v u) Q X.xe s2):
 wpAny (model X.prog X.w) X.A (eval a X.env) (λv v4=>wpAny (model X.prog X.w) X.A (eval b X.env) (λu u8=>wpAny (model X.prog X.w) X.A (f v u) Q X.xe u8) X.xe v4) X.xe s:=by
 refine cC (ha f8 s σ H _ I h) λv s1 ⟨x,H1,I1,r1,q1⟩=>?_;refine cC (hb f8 s1 σ H1 _ I1 q1) λu s2 ⟨y,H2,I2,r2,q2⟩=>?_;exact hf v u s2 x y H2 I2 r1 r2 q2
def sk(i:Nat):TE:=λσ H Q=>∃v,σ[i]? =some (some v)/\Q v H
def tC(v:V):TE:=λ_ H Q=>Q v H
theorem M3{i:Nat}{x:Str}{pos:Pos}(hN:X.N[i]? =some x)(hv:Q9 X.env.scope x)(hd:(x==("__debug__":Str))=false:=by decide)(uf:(x==("__classdict__":Str))=false:=by decide):PE X (.Name x pos) (sk i):=by
 intro f8 s σ H Q I h;obtain⟨v,e,h⟩:=h;obtain⟨m,hn,hl⟩:=I.loc;obtain⟨u,r,l⟩:=hl i x v hN e hv;have fin:EP X f8 σ Q u s:=⟨v,H,I,r,h⟩
 rcases l with⟨hk,hm⟩ | ⟨hk,c,hc,KO⟩
 ·exact wpAny_Name (wpAny_loadName_local I.ok.kind hk hn hm fin) hd
 ·rcases hk with hk | hk
  ·exact wpAny_Name (wpAny_loadName_cell I.ok.kind hk hc KO fin) hd
  ·exact wpAny_Name (wpAny_loadName_free I.ok.kind hk hc KO fin uf) hd
theorem MU{i j pos}:PE X (.Constant (.int i) j pos) (tC (.int i)):=λ_ _ _ H _ I h=>wpAny_Constant_int ⟨.int i,H,I.tok _,⟨_,rfl⟩,h⟩
theorem Pu{b j pos}:PE X (.Constant (.bool b) j pos) (tC (.bl b)):=λ_ _ _ H _ I h=>Constant_bool ⟨.bl b,H,I,rfl,h⟩
theorem MV{j pos}:PE X (.Constant .none j pos) (tC .non):=λ_ _ _ H _ I h=>Constant_none ⟨.non,H,I,rfl,h⟩
theorem MY{x j pos}:PE X (.Constant (.str x) j pos) (tC (.str x)):=λ_ _ _ H _ I h=>Calls.Constant_str ⟨.str x,H,I.tok _,⟨_,rfl⟩,h⟩
def Gl(X:Cx)(x:Str):Prop:=X.env.kindOf x=some .globalImplicit
theorem l_{E:Value->Xl->Prop}{f8:List (Addr×Obj)}{s:Xl}{σ:St}{H:Hp}{x:Str}{u:Value}{pos:Pos}{Q:Value->Xl->Prop}(I:Inv X f8 σ H s)(hg:Gl X x)(hm:X.mg x=some u)(h:Q u s)
 (hd:(x==("__debug__":Str))=false:=by decide):wpAny (model X.prog X.w) X.A (eval (.Name x pos) X.env) Q E s:=
 ace I.ok.kind hg (Calls.loadGlobal_global (by rw[I.ok.glob];exact I.mod.glob.keeps I.bk) hm h) hd
theorem nK{E:Value->Xl->Prop}{f8:List (Addr×Obj)}{s:Xl}{σ:St}{H:Hp}{x:Str}{u:Value}{pos:Pos}{Q:Value->Xl->Prop}(I:Inv X f8 σ H s)(hg:Gl X x)(hm:X.mg x=none)(hv:Yd x=some u)(h:Q u s)
 (hn:x≠"__name__":=by decide)(hd:(x==("__debug__":Str))=false:=by decide):wpAny (model X.prog X.w) X.A (eval (.Name x pos) X.env) Q E s:=by
 obtain⟨mb,h1,h2⟩:=I.mod.blt;exact ace I.ok.kind hg (Calls.loadGlobal_builtin (by rw[I.ok.glob];exact I.mod.glob.keeps I.bk) hm (by rw[I.ok.blt];exact h1.keeps I.bk) ((h2 x hn).trans hv) h) hd
theorem p7{x:Str}{v:V}{u:Value}{pos:Pos}(hg:Gl X x)(hm:X.mg x=some u)(r:RelV v u)(hd:(x==("__debug__":Str))=false:=by decide):PE X (.Name x pos) (tC v):=
 λ_ _ _ H _ I h=>l_ I hg hm ⟨v,H,I,r,h⟩ hd
theorem JJ{x:Str}{v:V}{u:Value}{pos:Pos}(hg:Gl X x)(hm:X.mg x=none)(hv:Yd x=some u)(r:RelV v u)(hn:x≠"__name__":=by decide)(hd:(x==("__debug__":Str))=false:=by decide):PE X (.Name x pos) (tC v):=
 λ_ _ _ H _ I h=>nK I hg hm hv ⟨v,H,I,r,h⟩ hn hd
variable{a b:Expr}{ta tb:TE}{pos:Pos}
def PC(X:Cx)(op:CmpOp)(a b:Expr)(t:TE):Prop:=
 ∀(f8:List (Addr×Obj)) (s:Xl) (σ:St) (H:Hp) (Q:VK),Inv X f8 σ H s->t σ H Q->
  wpAny (model X.prog X.w) X.A (eval a X.env) (λv v4=>wpAny (model X.prog X.w) X.A (eval b X.env) (λu u8=>wpAny (model X.prog X.w) X.A (X9 op v u) (EP X f8 σ Q) X.xe u8) X.xe v4) X.xe s
theorem Gp(b:Expr){op:CmpOp}(h:op≠ .In)(h2:op≠ .NotIn):Yt op b=false:=by
 have e1:(op==CmpOp.In)=false:=by cases op<;>first | rfl | exact ad3 rfl h
 have e2:(op==CmpOp.NotIn)=false:=by cases op<;>first | rfl | exact ad3 rfl h2
 cases b<;>simp[Yt,e1,e2]
theorem MT{op:CmpOp}{t:TE}(h:PC X op a b t)(h1:Yt op b=false:=by first | exact Gp _ (by decide) (by decide) | rfl):PE X (.Compare a [op] [b] pos) t:=λf8 s σ H Q I hw=>wpAny_Compare1 (h f8 s σ H Q I hw) h1
variable{tA bU:TT}{W1:List Expr}
def S0(t u:TT):TT:=λσ H Q=>t σ H λc H1=>if c=true then u σ H1 Q else Q false H1
def WR(t u:TT):TT:=λσ H Q=>t σ H λc H1=>if c=true then Q true H1 else u σ H1 Q
def Td(t:TT):TT:=λσ H Q=>t σ H λc H1=>Q (!c) H1
theorem J0(ha:PT X a tA):PW X (.BoolOp .And [a] pos) tA:=by
 intro wh f8 s σ H Q I h;refine isTrue_and (cC (ha f8 s σ H Q I h) λc s1 e=>?_);cases c with
 |true=>exact isTrue_and_nil e
 |false=>exact e
theorem Nk(ha:PT X a tA):PW X (.BoolOp .Or [a] pos) tA:=by
 intro wh f8 s σ H Q I h;refine isTrue_or (cC (ha f8 s σ H Q I h) λc s1 e=>?_);cases c with
 |false=>exact isTrue_or_nil e
 |true=>exact e
theorem Nj(ha:PT X a tA)(hb:PW X (.BoolOp .And (b::W1) pos) bU):PW X (.BoolOp .And (a::b::W1) pos) (S0 tA bU):=by
 intro wh f8 s σ H Q I h;refine isTrue_and (cC (ha f8 s σ H _ I h) λc s1 ⟨H1,I1,q1⟩=>?_);cases c with
 |true=>exact hb wh f8 s1 σ H1 Q I1 q1
 |false=>exact⟨H1,I1,q1⟩
theorem PH(ha:PT X a tA)(hb:PW X (.BoolOp .Or (b::W1) pos) bU):PW X (.BoolOp .Or (a::b::W1) pos) (WR tA bU):=by
 intro wh f8 s σ H Q I h;refine isTrue_or (cC (ha f8 s σ H _ I h) λc s1 ⟨H1,I1,q1⟩=>?_);cases c with
 |true=>exact⟨H1,I1,q1⟩
 |false=>exact hb wh f8 s1 σ H1 Q I1 q1
theorem Nh(ha:PT X a tA):PT X (.UnaryOp .Not a pos) (Td tA):=by
 intro f8 s σ H Q I h;exact isTrue_not (ha f8 s σ H (λc H1=>Q (!c) H1) I h)
def P_(ta tb:TE):TE:=λσ H Q=>ta σ H λx H1=>∃c,x= .bl c/\if c=true then tb σ H1 Q else Q (.bl false) H1
def Qd(ta:TE):TE:=λσ H Q=>ta σ H λx H1=>∃c,x= .bl c/\Q (.bl (!c)) H1
theorem MX{op}{t:TE}(h:PE X a t):PE X (.BoolOp op [a] pos) t:=λf8 s σ H Q I hw=>BoolOp_one (h f8 s σ H Q I hw)
theorem MS(ha:PE X a ta)(hb:PE X (.BoolOp .And (b::W1) pos) tb):PE X (.BoolOp .And (a::b::W1) pos) (P_ ta tb):=by
 intro f8 s σ H Q I h;refine BoolOp_and (cC (ha f8 s σ H _ I h) λv s1 ⟨x,H1,I1,r1,q1⟩=>?_);obtain⟨c,rfl,q1⟩:=q1;cases r1;refine YK ?_;cases c with
 |true=>exact hb f8 s1 σ H1 Q I1 q1
 |false=>exact⟨.bl false,H1,I1,rfl,q1⟩
theorem MW(ha:PE X a ta):PE X (.UnaryOp .Not a pos) (Qd ta):=by
 intro f8 s σ H Q I h;refine UnaryOp_ (cC (ha f8 s σ H _ I h) λv s1 ⟨x,H1,I1,r1,q1⟩=>?_);obtain⟨c,rfl,q1⟩:=q1;cases r1;exact not_of (YK ⟨.bl (!c),H1,I1,rfl,q1⟩)
def WQ(t:TT)(ta tb:TE):TE:=λσ H Q=>t σ H λc H1=>if c=true then ta σ H1 Q else tb σ H1 Q
theorem GZ{c:Expr}(hc:PT X c tA)(ha:PE X a ta)(hb:PE X b tb):PE X (.IfExp c a b pos) (WQ tA ta tb):=by
 intro f8 s σ H Q I h;refine wpAny_IfExp (cC (hc f8 s σ H _ I h) λd s1 ⟨H1,I1,q1⟩=>?_);cases d with
 |true=>exact ha f8 s1 σ H1 Q I1 q1
 |false=>exact hb f8 s1 σ H1 Q I1 q1
end
def SqL(K:Xr)(H:Hp)(a:Addr)(xs:List V):Prop:=
 Rd H a (.lst xs)\/
  ∃(o:Obj) (aL:Array Value) (n:Nat),K.lookup a=some o/\o.cls= .type "list"/\o.dict=none/\o.data= .seq aL n/\aL.size<=XH/\Vals xs aL.toList
def SqT(K:Xr)(H:Hp)(a:Addr)(xs:List V):Prop:=
 Rd H a (.tup xs)\/
  ∃(o:Obj) (aL:Array Value) (n:Nat),K.lookup a=some o/\o.cls= .type "tuple"/\o.data= .seq aL n/\aL.size<=XH/\Vals xs aL.toList
def Q_:Value->Option V
 | .none=>some .non
 | .bool b=>some (.bl b)
 | .int i _=>some (.int i)
 | .str x _=>some (.str x)
 | .bytes b _=>some (.byt b)
 | .float b _=>some (.flt b)
 | .ref a=>some (.ref a)
 | .type n=>some (.ty n)
 |_=>none
theorem RelV.abs{x:V}{u:Value}(r:RelV x u):Q_ u=some x:=by
 cases x with
 |non=>cases r;rfl
 |bl _=>cases r;rfl
 |int _=>obtain⟨t,rfl⟩:=r;rfl
 |str _=>obtain⟨t,rfl⟩:=r;rfl
 |byt _=>obtain⟨t,rfl⟩:=r;rfl
 |flt _=>obtain⟨t,rfl⟩:=r;rfl
 |ref _=>cases r;rfl
 |ty _=>cases r;rfl
theorem RelV.inj{x y:V}{u:Value}(r:RelV x u)(q:RelV y u):x=y:=XT (r.abs.symm.trans q.abs)
theorem Vals.inj:∀{xs ys:List V}{us:List Value},Vals xs us->Vals ys us->xs=ys
 |_,_,_, .nil, .nil=>rfl
 |_,_,_, .cons r t, .cons r' t'=>by rw[r.inj r',Vals.inj t t']
section
variable{X:Cx}{f8:List (Addr×Obj)}{σ:St}{H:Hp}{s:Xl}{a:Addr}{xs ys:List V}
theorem SqL.of{K:Xr}(h:H a=some (.lst xs)):SqL K H a xs:= .inl (.inl h)
theorem SqT.of{K:Xr}(h:H a=some (.tup xs)):SqT K H a xs:= .inl (.inl h)
theorem Inv.list(I:Inv X f8 σ H s)(h:SqL X.K H a xs):∃aL:List Value,Vals xs aL/\PlainL s.heap a aL.toArray/\xs.length<=XH:=by
 rcases h with h | ⟨o,aL,n,hk,hc,hd,hs,hz,r⟩
 ·obtain⟨z,aL,n,r,e⟩:=h.ok I.hok;exact⟨aL,r,⟨_,n,e,rfl,rfl,rfl⟩,z⟩
 ·refine⟨aL.toList,r,⟨o,n,I.kIn a o hk,hc,hd,by simpa using hs⟩,?_⟩;have e:=r.length;simp only[XZ] at e;omega
theorem Inv.tuple(I:Inv X f8 σ H s)(h:SqT X.K H a xs):∃aL:List Value,Vals xs aL/\IsTup s.heap a aL.toArray/\xs.length<=XH:=by
 rcases h with h | ⟨o,aL,n,hk,hc,hs,hz,r⟩
 ·obtain⟨z,aL,r,p⟩:=h.ok I.hok;exact⟨aL,r,p,z⟩
 ·refine⟨aL.toList,r,⟨o,I.kIn a o hk,hc,n,by simpa using hs⟩,?_⟩;have e:=r.length;simp only[XZ] at e;omega
theorem Inv.list_inj(I:Inv X f8 σ H s)(h:SqL X.K H a xs)(h':SqL X.K H a ys):xs=ys:=by
 obtain⟨aL,r,⟨o,n,e,_,_,d⟩,_⟩:=I.list h;obtain⟨its',r',⟨o',n',e',_,_,d'⟩,_⟩:=I.list h';rw[e] at e';cases e';rw[d] at d';injection d' with d1 _
 have:aL=its':=by simpa using ad7 Array.toList d1
 subst this;exact r.inj r'
theorem Inv.tuple_inj(I:Inv X f8 σ H s)(h:SqT X.K H a xs)(h':SqT X.K H a ys):xs=ys:=by
 obtain⟨aL,r,⟨o,e,_,n,d⟩,_⟩:=I.tuple h;obtain⟨its',r',⟨o',e',_,n',d'⟩,_⟩:=I.tuple h';rw[e] at e';cases e';rw[d] at d';injection d' with d1 _
 have:aL=its':=by simpa using ad7 Array.toList d1
 subst this;exact r.inj r'
end
abbrev Cx.wish(X:Cx)(E:Value->Xl->Prop):Cx:={X with xe:=E}
abbrev Cx.nox(X:Cx):Cx:=X.wish λ_ _=>False
theorem Cx.Ok.wish{X:Cx}(ok:X.Ok)(E:Value->Xl->Prop):(X.wish E).Ok:=
 ⟨ok.mod,ok.kind,ok.glob,ok.blt,ok.above,ok.inj,ok.has,ok.cab,ok.hd,ok.frames,ok.stk,ok.exf,ok.bs,ok.bsz,ok.noex,ok.exfs,ok.funs,ok.frf⟩
theorem Cx.Ok.unwish{X:Cx}{E:Value->Xl->Prop}(ok:(X.wish E).Ok):X.Ok:=
 ⟨ok.mod,ok.kind,ok.glob,ok.blt,ok.above,ok.inj,ok.has,ok.cab,ok.hd,ok.frames,ok.stk,ok.exf,ok.bs,ok.bsz,ok.noex,ok.exfs,ok.funs,ok.frf⟩
section
variable{X:Cx}{f8:List (Addr×Obj)}{σ:St}{H:Hp}{s:Xl}{E:Value->Xl->Prop}
theorem Inv.wish(I:Inv X f8 σ H s)(E:Value->Xl->Prop):Inv (X.wish E) f8 σ H s:=⟨I.ok.wish E,I.os,I.bare,I.base,I.loc,I.cell,I.free,I.freeC,I.pin,I.hok,I.len⟩
theorem Inv.unwish(I:Inv (X.wish E) f8 σ H s):Inv X f8 σ H s:=⟨I.ok.unwish,I.os,I.bare,I.base,I.loc,I.cell,I.free,I.freeC,I.pin,I.hok,I.len⟩
theorem SP.unwish{D:Ends}{f:Flow}{s':Xl}(h:SP (X.wish E) f8 D f s'):SP X f8 D f s':=by
 cases f with
 |next=>obtain⟨σ',H',I,q⟩:=h;exact⟨σ',H',I.unwish,q⟩
 |brk=>obtain⟨σ',H',I,q⟩:=h;exact⟨σ',H',I.unwish,q⟩
 |cont=>obtain⟨σ',H',I,q⟩:=h;exact⟨σ',H',I.unwish,q⟩
 |ret u=>obtain⟨v,σ',H',I,r,q⟩:=h;exact⟨v,σ',H',I.unwish,r,q⟩
theorem PE.nox{e:Expr}{t:TE}(h:PE X.nox e t):PE X e t:=λf8 s σ H Q I hw=>
 YA (h f8 s σ H Q (I.wish _) hw) (λ_ _ ⟨v,H',I',r,q⟩=>⟨v,H',I'.unwish,r,q⟩) λ_ _ z=>YX z
theorem PT.nox{e:Expr}{t:TT}(h:PT X.nox e t):PT X e t:=λf8 s σ H Q I hw=>
 YA (h f8 s σ H Q (I.wish _) hw) (λ_ _ ⟨H',I',q⟩=>⟨H',I'.unwish,q⟩) λ_ _ z=>YX z
theorem PSs.nox{st:List Stmt}{t:TS}(h:PSs X.nox st t):PSs X st t:=λf8 s σ H D I hw=>
 YA (h f8 s σ H D (I.wish _) hw) (λ_ _ q=>q.unwish) λ_ _ z=>YX z
end
section
variable{X:Cx}{st:Stmt}{W1:List Stmt}{t u:TS}{e:Expr}{te:TE}{pos:Pos}
def Qc:TS:=λD σ H=>D.nx σ H
def Tf(t u:TS):TS:=λD σ H=>t {D with nx:=u D} σ H
theorem JV:PSs X [] Qc:=λ_ _ σ H _ I h=>aaS ⟨σ,H,I,h⟩
theorem G2(h1:PS X st t)(h2:PSs X W1 u):PSs X (st::W1) (Tf t u):=by
 intro f8 s σ H D I h;refine wpAny_execs_cons (cC (h1 f8 s σ H {D with nx:=u D} I h) λf s1 q=>?_);cases f with
 |next=>
  obtain⟨σ',H',I',q⟩:=q;exact h2 f8 s1 σ' H' D I' q
 |ret v=>exact q
 |brk=>exact q
 |cont=>exact q
theorem JW(h1:PS X st t):PSs X [st] t:=by
 intro f8 s σ H D I h;refine wpAny_execs_cons (cC (h1 f8 s σ H D I h) λf s1 q=>?_);cases f with
 |next=>exact aaS q
 |ret v=>exact q
 |brk=>exact q
 |cont=>exact q
theorem Inv.quiet{f8:List (Addr×Obj)}{σ:St}{H:Hp}{s:Xl}(I:Inv X f8 σ H s):interactive X.env=false:=by simp[interactive,I.ok.kind]
def Hz(te:TE):TS:=λD σ H=>te σ H λ_ H1=>D.nx σ H1
theorem p8(he:PE X e te)(hs:abf e none pos.line X.env=pure false:=by rfl):PS X (.Expr e pos) (Hz te):=by
 intro f8 s σ H D I h;exact wpAny_Expr_any (cC (he f8 s σ H _ I h) λv s1 ⟨x,H1,I1,r1,q1⟩=>⟨σ,H1,I1,q1⟩) I.quiet hs
def Te(te:TE):TS:=λD σ H=>te σ H D.rt
theorem M_(he:PE X e te):PS X (.Return (some e) pos) (Te te):=by
 intro f8 s σ H D I h;exact wpAny_Return_some (cC (he f8 s σ H _ I h) λv s1 ⟨x,H1,I1,r1,q1⟩=>⟨x,σ,H1,I1,r1,q1⟩)
def Tb(c:TT)(t u:TS):TS:=λD σ H=>c σ H λb H1=>if b=true then t D σ H1 else u D σ H1
theorem Pz{c:Expr}{a b:List Stmt}{tc:TT}(hc:PT X c tc)(ha:PSs X a t)(hb:PSs X b u):PS X (.If c a b pos) (Tb tc t u):=by
 intro f8 s σ H D I h;refine wpAny_If (cC (hc f8 s σ H _ I h) λd s1 ⟨H1,I1,q1⟩=>?_);cases d with
 |true=>exact ha f8 s1 σ H1 D I1 q1
 |false=>exact hb f8 s1 σ H1 D I1 q1
end
abbrev TG:=V->St->Hp->(St->Hp->Prop)->Prop
abbrev Kq:=List V->St->Hp->(St->Hp->Prop)->Prop
def PG(X:Cx)(target:Expr)(t:TG):Prop:=
 ∀(f8:List (Addr×Obj)) (s:Xl) (σ:St) (H:Hp) (v:V) (u:Value) (Q:St->Hp->Prop),Inv X f8 σ H s->RelV v u->t v σ H Q->
  wpAny (model X.prog X.w) X.A (assign target X.env u) (λ_ s'=>∃σ' H',Inv X f8 σ' H' s'/\Q σ' H') X.xe s
def Qm(X:Cx)(ts:List Expr)(t:Kq):Prop:=
 ∀(f8:List (Addr×Obj)) (s:Xl) (σ:St) (H:Hp) (vs:List V) (us:List Value) (Q:St->Hp->Prop),Inv X f8 σ H s->Vals vs us->t vs σ H Q->
  wpAny (model X.prog X.w) X.A (assignInOrder ((ZP ts X.env).map (·.2)) us) (λ_ s'=>∃σ' H',Inv X f8 σ' H' s'/\Q σ' H') X.xe s
abbrev Q6:=V->V->V->Hp->(Hp->Prop)->Prop
section
variable{X:Cx}{pos:Pos}
def Fq(i:Nat):TG:=λv σ H Q=>Q (σ.set i (some v)) H
theorem aS{i:Nat}{x:Str}(hN:X.N.Nodup)(hi:X.N[i]? =some x)(hx:Loc X.env.scope x)(hf:X.fn x=true\/X.env.scope.names.lookup x=some .local:=by first | exact .inl rfl | exact .inr rfl | assumption):PG X (.Name x pos) (Fq i):=by
 intro f8 s σ H v u Q I r h;exact aci (zC I hN hi hx r (λs' I'=>⟨_,H,I',h⟩) hf)
def Ol:Kq:=λvs σ H Q=>vs=[]/\Q σ H
def KI(t:TG)(u:Kq):Kq:=λvs σ H Q=>∃v r,vs=v::r/\t v σ H λσ' H'=>u r σ' H' Q
theorem kD:Qm X [] Ol:=by
 intro f8 s σ H vs us Q I r h;obtain⟨e,h⟩:=h;subst e;cases r;exact assignInOrder_nil ⟨σ,H,I,h⟩
theorem df{e:Expr}{es:List Expr}{t:TG}{u:Kq}(h1:PG X e t)(h2:Qm X es u)
 (hs:(ZP (e::es) X.env).map (·.2)=assign e X.env::(ZP es X.env).map (·.2):=by rfl):Qm X (e::es) (KI t u):=by
 intro f8 s σ H vs us Q I r h;obtain⟨v,vr,e1,h⟩:=h;subst e1;cases r with
 |cons r rr=>
  rw[hs];refine assignInOrder_cons (cC (h1 f8 s σ H _ _ _ I r h) λ_ s1 ⟨σ1,H1,I1,q1⟩=>?_);exact h2 f8 s1 σ1 H1 _ _ Q I1 rr q1
def LJ(K:Xr)(n:Nat)(t:Kq):TG:=λv σ H Q=>∃a xs,v= .ref a/\SqT K H a xs/\xs.length=n/\t xs σ H Q
theorem nW{es:List Expr}{k:Nat}{t:Kq}{n:Nat}(hc:X.calm=true)(h:Qm X es t)
 (hn:(ZP es X.env).length=n:=by rfl)(sH:(ZP es X.env).findIdx? (·.1)=none:=by rfl):PG X (.Tuple es k pos) (LJ X.K n t):=by
 intro f8 s σ H v u Q I r hw;obtain⟨a,xs,e1,hq,hl,hw⟩:=hw;subst e1;cases r;obtain⟨aL,rv,ht,hz⟩:=I.tuple hq;refine assign_Tuple_tuple (I.ok.hd hc) ht (by simp[hn,<-hl,rv.length]) sH λh' hx=>?_;have I1:Inv X f8 σ H {s with heap:=h'}:=I.kept (t':=s.toks) λb o e=>hx b o (XS (XB e)) e;exact h f8 _ σ H xs _ Q I1 (by simpa using rv) hw
def jz(to ti:TE)(t:Q6):TG:=λv σ H Q=>to σ H λo H1=>ti σ H1 λi H2=>t o i v H2 λH3=>Q σ H3
def S5(te:TE)(g:TG):TS:=λD σ H=>te σ H λx H1=>g x σ H1 D.nx
theorem wU{tg e:Expr}{te:TE}{g:TG}(he:PE X e te)(hg:PG X tg g)(hs:adx [tg] e pos.line X.env=pure false:=by rfl)(hw:swappedStores [tg] e X.env=pure none:=by rfl)
 (h1:(ZP [tg] X.env).map (·.2)=[assign tg X.env]:=by rfl):PS X (.Assign [tg] e pos) (S5 te g):=by
 intro f8 s σ H D I h;refine wpAny_Assign_stores (cC (he f8 s σ H _ I h) λv s1 ⟨x,H1,I1,r1,q1⟩=>?_) hs hw;rw[h1];exact cC (hg f8 s1 σ H1 x v _ I1 r1 q1) λ_ s2 q=>q
end
section
variable{X:Cx}{pos:Pos}
def NB(c:TT)(tb:TS):TS:=λD σ H=>∃W:Nat->St->Hp->Prop,(∃m,W m σ H)/\∀m σ H,W m σ H->
 c σ H λb H1=>if b=true then∃N:St->Hp->Prop,(∀σ' H',N σ' H'->∃m',m'<m/\W m' σ' H')/\tb {D with nx:=N,ct:=N,bk:=D.nx} σ H1 else D.nx σ H1
theorem G1{c:Expr}{body:List Stmt}{tc:TT}{tb:TS}(hp:PassesOwn (model X.prog X.w) X.A X.env X.xe)(hc:PT X c tc)(hb:PSs X body tb):PS X (.While c body [] pos) (NB tc tb):=by
 intro f8 s σ H D I h;obtain⟨W,⟨m0,w0⟩,turn⟩:=h;refine wpAny_While (codeAny_whileLoop (λn s'=>∃σ' H',Inv X f8 σ' H' s'/\W n σ' H') ?_ m0 ⟨σ,H,I,w0⟩);rintro n s1 ⟨σ1,H1,I1,w1⟩;refine Z0 hp (cC (hc f8 s1 σ1 H1 _ I1 (turn n σ1 H1 w1)) λb s2 ⟨H2,I2,q2⟩=>?_);cases b with
 |true=>
  obtain⟨N,hN,q2⟩:=q2;rw[adY rfl];refine Z0 hp (cC (hb f8 s2 σ1 H2 _ I2 q2) λf s3 q3=>?_);cases f with
  |next=>
   obtain⟨σ3,H3,I3,n3⟩:=q3;obtain⟨m',hm,w3⟩:=hN σ3 H3 n3;exact⟨m',hm,σ3,H3,I3,w3⟩
  |cont=>
   obtain⟨σ3,H3,I3,n3⟩:=q3;obtain⟨m',hm,w3⟩:=hN σ3 H3 n3;exact⟨m',hm,σ3,H3,I3,w3⟩
  |brk=>exact q3
  |ret v=>exact q3
 |false=>
  rw[ad0 XM];exact aaS ⟨σ1,H2,I2,q2⟩
end
structure It where
 go:Nat->Hp->Prop
 yld:Nat->Hp->V->Hp->Prop
 stop:Nat->Hp->Prop
def sI(X:Cx)(f8:List (Addr×Obj))(H:Hp)(b:Addr):Prop:=
 H b=none/\b≠X.env.locals/\b∉X.fs/\(b∈X.ex\/X.ad9.heap.objs.size<=b)/\(∀x c,X.env.cells.lookup x=some c->c≠b)/\∀p∈X.pn++f8,p.1≠b
theorem Inv.fpOk{X:Cx}{f8:List (Addr×Obj)}{σ:St}{H H':Hp}{s:Xl}{b:Addr}(I:Inv X f8 σ H s)(hb:s.heap.objs.size<=b)(hn:H' b=none):sI X f8 H' b:=by
 refine⟨hn,YJ (X1 I.lt hb),I.nofs hb, .inr (X2 I.sz hb),λx c e z=>?_,λp hp z=>?_⟩
 ·obtain⟨v,q⟩:=I.cell x c e;exact ad3 (X1 q.lt (by rw[z];exact hb)) (Yr _)
 ·exact ad3 (X1 (XB (I.pin p hp).1) (by rw[z];exact hb)) (Yr _)
structure Turn (P:XR) (w:World) (K:Xr) (tg:Expr) (J:It) (fp:List Addr) (it:Addr) (tn:Nat->Heap->Prop):Prop where
 mem:it∈fp
 obj:∀i h,tn i h->∀b∈fp,∃o,h.get? b=some o/\∀v,o.data≠ .cell v
 keep:∀i h h',tn i h->(∀b∈fp,∀o,h.get? b=some o->h'.get? b=some o)->tn i h'
 item:∀(X:Cx),X.prog=P->X.w=w->X.K=K->X.calm=true->∀(i:Nat) (f8:List (Addr×Obj)) (s:Xl) (σ:St) (H:Hp) (E:Value->Xl->Prop),Inv X f8 σ H s->(∀b∈fp,sI X f8 H b)->tn i s.heap->J.go i H->
  wpAny (model P w) X.A (aaq (.ref it)) (λr s1=>∃u,r=some u/\
   wpAny (model P w) X.A (aby tg (.ref it) u) (λ_ s2=>∃x H',Inv X f8 σ H' s2/\RelV x u/\J.yld i H x H'/\tn (i+1) s2.heap/\∀b∈fp,H' b=none) E s1) E s
 done:∀(X:Cx),X.prog=P->X.w=w->X.K=K->X.calm=true->∀(i:Nat) (f8:List (Addr×Obj)) (s:Xl) (σ:St) (H:Hp) (E:Value->Xl->Prop),Inv X f8 σ H s->(∀b∈fp,sI X f8 H b)->tn i s.heap->J.stop i H->
  wpAny (model P w) X.A (aaq (.ref it)) (λr s1=>r=none/\Inv X f8 σ H s1) E s
 self:∀(A:X6) (i:Nat) (s:Xl) (Q:Value->Xl->Prop) (E:Value->Xl->Prop),tn i s.heap->Q (.ref it) s->wpAny (model P w) A (pyIter (.ref it)) Q E s
abbrev TI:=St->Hp->(It->Hp->Prop)->Prop
def Ts(X:Cx)(f8:List (Addr×Obj))(σ:St)(tg:Expr)(R:It->Hp->Prop)(Up:Value)(s2:Xl):Prop:=
 ∃(it:Addr) (fp:List Addr) (tn:Nat->Heap->Prop) (J:It) (H':Hp),Up= .ref it/\Inv X f8 σ H' s2/\Turn X.prog X.w X.K tg J fp it tn/\tn 0 s2.heap/\(∀b∈fp,sI X f8 H' b)/\R J H'
def PI(X:Cx)(tg iter:Expr)(wi:TI):Prop:=
 ∀(f8:List (Addr×Obj)) (s:Xl) (σ:St) (H:Hp) (R:It->Hp->Prop),Inv X f8 σ H s->wi σ H R->
  wpAny (model X.prog X.w) X.A (eval iter X.env) (λv s1=>wpAny (model X.prog X.w) X.A (pyIter v) (Ts X f8 σ tg R) X.xe s1) X.xe s
theorem ue{M:Model}{A:X6}{E:Value->Xl->Prop}{s:Xl}{tg:Expr}{it:Addr}{u:Value}{o:Obj}{n:String}{vs:Array Value}{Q:Unit->Xl->Prop}(ho:s.heap.get? it=some o)(hc:o.cls= .type n)(hd:o.data= .fields vs)
 (hn:["enumerate","zip","dict_itemiterator","dict_reverseitemiterator","odict_iterator","itertools.zip_longest","itertools.pairwise"].contains n=false)(hQ:Q () s):wpAny M A (aby tg (.ref it) u) Q E s:=by
 unfold aby;cases tg<;>first
  |exact Xn hQ
  |(cases u<;>first
    |exact Xn hQ
    |(refine Xg (wpAny_load ho ?_)
      rw[hc,hd];show wpAny M A (if (["enumerate","zip","dict_itemiterator","dict_reverseitemiterator","odict_iterator","itertools.zip_longest","itertools.pairwise"].contains n&&vs[0]? ==some (abg _))=true then _ else _) Q E s;rw[ad0 (by intro h;rw[hn,Bool.false_and] at h;cases h)];exact Xn hQ))
def Q2(K:Xr)(a:Addr):It:=
 ⟨λi H=>∃xs x,SqL K H a xs/\xs[i]? =some x,λi H x H'=>H'=H/\∀xs,SqL K H a xs->xs[i]? =some x,λi H=>∃xs,SqL K H a xs/\xs.length<=i⟩
def Q3(K:Xr)(a:Addr):It:=
 ⟨λi H=>∃xs x,SqT K H a xs/\xs[i]? =some x,λi H x H'=>H'=H/\∀xs,SqT K H a xs->xs[i]? =some x,λi H=>∃xs,SqT K H a xs/\xs.length<=i⟩
def N0(lo:Int)(n:Nat):It:=⟨λi _=>i<n,λi H x H'=>H'=H/\x= .int (lo+i),λi _=>n<=i⟩
theorem Er{P:XR}{w:World}{K:Xr}{tg:Expr}(a it:Addr):Turn P w K tg (Q2 K a) [it] it (λi h=>h.IsListIter it a i) where
 mem:=by simp
 obj:=λi h st b hb=>by
  have e:b=it:=by simpa using hb
  subst e;obtain⟨o,e,c,d⟩:=st;exact⟨o,e,λv z=>by rw[d] at z;cases z⟩
 keep:=λi h h' st k=>st.at λo e=>k it (by simp) o e
 item:=by
  intro X hP hw hK hc i f8 s σ H E I hf st hg;subst hP hw hK;obtain⟨xs,x,hq,hx⟩:=hg;obtain⟨aL,rv,p,hz⟩:=I.list hq;obtain⟨u,hu,ru⟩:=rv.get hx;obtain⟨f0,f1,f2,f3,f4,f5⟩:=hf it (by simp);refine wpAny_pyNext_list_item st p.isList (x:=u) (by simpa using hu) λh' sf sb=>?_;have I1:Inv X f8 σ H {s with heap:=h'}:=I.turned (t':=s.toks) (λb o hb e=>(sb.2 b hb).trans e) f0 f1 f3 f4 f5;obtain⟨o,e,c,d⟩:=id sf;exact⟨u,rfl,ue (s:={s with heap:=h'}) e c d (by decide) ⟨x,H,I1,ru,⟨rfl,λys hy=>by rw[I.list_inj hy hq];exact hx⟩,sf,λb hb=>(hf b hb).1⟩⟩
 done:=by
  intro X hP hw hK hc i f8 s σ H E I hf st hg;subst hP hw hK;obtain⟨xs,hq,hx⟩:=hg;obtain⟨aL,rv,p,hz⟩:=I.list hq;obtain⟨f0,f1,f2,f3,f4,f5⟩:=hf it (by simp);have hl:=rv.length;exact wpAny_pyNext_list_end (I.ok.hd hc) st p.isList (by simp;omega) λh' eb=>⟨rfl,I.turned (t':=s.toks) (λb o hb e=>eb b o hb e) f0 f1 f3 f4 f5⟩
 self:=λ_ _ _ _ _ st h=>wpAny_pyIter_listiter st h
theorem Bv{P:XR}{w:World}{K:Xr}{tg:Expr}(a it:Addr):Turn P w K tg (Q3 K a) [it] it (λi h=>h.IsTupleIter it a i) where
 mem:=by simp
 obj:=λi h st b hb=>by
  have e:b=it:=by simpa using hb
  subst e;obtain⟨o,e,c,d⟩:=st;exact⟨o,e,λv z=>by rw[d] at z;cases z⟩
 keep:=λi h h' st k=>st.at λo e=>k it (by simp) o e
 item:=by
  intro X hP hw hK hc i f8 s σ H E I hf st hg;subst hP hw hK;obtain⟨xs,x,hq,hx⟩:=hg;obtain⟨aL,rv,p,hz⟩:=I.tuple hq;obtain⟨u,hu,ru⟩:=rv.get hx;obtain⟨f0,f1,f2,f3,f4,f5⟩:=hf it (by simp);refine wpAny_pyNext_tuple_item st (show s.heap.IsTuple a aL.toArray from p) (x:=u) (by simpa using hu) λh' sf sb=>?_;have I1:Inv X f8 σ H {s with heap:=h'}:=I.turned (t':=s.toks) (λb o hb e=>(sb.2 b hb).trans e) f0 f1 f3 f4 f5;obtain⟨o,e,c,d⟩:=id sf;exact⟨u,rfl,ue (s:={s with heap:=h'}) e c d (by decide) ⟨x,H,I1,ru,⟨rfl,λys hy=>by rw[I.tuple_inj hy hq];exact hx⟩,sf,λb hb=>(hf b hb).1⟩⟩
 done:=by
  intro X hP hw hK hc i f8 s σ H E I hf st hg;subst hP hw hK;obtain⟨xs,hq,hx⟩:=hg;obtain⟨aL,rv,p,hz⟩:=I.tuple hq;obtain⟨f0,f1,f2,f3,f4,f5⟩:=hf it (by simp);have hl:=rv.length;exact wpAny_pyNext_tuple_end (I.ok.hd hc) st (show s.heap.IsTuple a aL.toArray from p) (by simp;omega) λh' eb=>⟨rfl,I.turned (t':=s.toks) (λb o hb e=>eb b o hb e) f0 f1 f3 f4 f5⟩
 self:=λ_ _ _ _ _ st h=>wpAny_pyIter_tupleiter st h
theorem Bu{P:XR}{w:World}{K:Xr}{tg:Expr}(it:Addr)(lo:Int)(n:Nat):Turn P w K tg (N0 lo n) [it] it (λi h=>IsRangeIter h it (lo+(i:Nat)*1) ((n:Int) - (i:Nat)) 1) where
 mem:=by simp
 obj:=λi h st b hb=>by
  have e:b=it:=by simpa using hb
  subst e;exact⟨_,st,λv z=>by
   have z':adw _=Data.cell v:=z;cases z'⟩
 keep:=λi h h' st k=>k it (by simp) _ st
 item:=by
  intro X hP hw hK hc i f8 s σ H E I hf st hg;subst hP hw hK;obtain⟨f0,f1,f2,f3,f4,f5⟩:=hf it (by simp);have W:=Walks.range (prog:=X.prog) (w:=X.w) (I.ok.hd hc) it lo 1 n;refine W.item i s _ _ hg st λv h' tk hv sf kk=>?_;obtain⟨t,rfl⟩:=hv;have I1:Inv X f8 σ H {s with heap:=h',toks:=tk}:=I.turned (λb o hb e=>kk b o (by simpa using hb) e) f0 f1 f3 f4 f5;refine⟨_,rfl,ue (s:={s with heap:=h',toks:=tk}) (n:="range_iterator") sf rfl rfl (by decide) ⟨.int (lo+i),H,I1,⟨t,?_⟩,⟨rfl,rfl⟩,sf,λb hb=>(hf b hb).1⟩⟩;rw[Int.mul_one]
 done:=by
  intro X hP hw hK hc i f8 s σ H E I hf st hg;subst hP hw hK;obtain⟨f0,f1,f2,f3,f4,f5⟩:=hf it (by simp);exact wpAny_pyNext_range_end (I.ok.hd hc) st (by have:n<=i:=hg;omega) λh' eb=>⟨rfl,I.turned (t':=s.toks) (λb o hb e=>eb b o hb e) f0 f1 f3 f4 f5⟩
 self:=λ_ _ _ _ _ st h=>wpAny_pyIter_rangeiter st h
section
variable{X:Cx}{tg:Expr}
def O2(K:Xr)(tl:TE):TI:=λσ H R=>tl σ H λx H1=>∃a,x= .ref a/\(∃xs,SqL K H1 a xs)/\R (Q2 K a) H1
def Sh(K:Xr)(tl:TE):TI:=λσ H R=>tl σ H λx H1=>∃a,x= .ref a/\(∃xs,SqT K H1 a xs)/\R (Q3 K a) H1
theorem JN{l:Expr}{tl:TE}(hl:PE X l tl):PI X tg l (O2 X.K tl):=by
 intro f8 s σ H R I h;refine cC (hl f8 s σ H _ I h) λv s1 ⟨x,H1,I1,r1,q1⟩=>?_;obtain⟨a,e,⟨xs,hq⟩,q⟩:=q1;subst e;cases r1;obtain⟨aL,rv,p,hz⟩:=I1.list hq;refine abe p.isList ?_;refine⟨s1.heap.objs.size,[s1.heap.objs.size],_,_,H1,rfl,I1.kept (t':=s1.toks) λb o e=>Xm _ e,Er a _,⟨_,XA _ rfl,rfl,rfl⟩,λb hb=>?_,q⟩;have e:b=s1.heap.objs.size:=by simpa using hb
 subst e;exact I1.fpOk (Xx _) (I1.hok.fresh (Xx _))
theorem M7{l:Expr}{tl:TE}(hl:PE X l tl):PI X tg l (Sh X.K tl):=by
 intro f8 s σ H R I h;refine cC (hl f8 s σ H _ I h) λv s1 ⟨x,H1,I1,r1,q1⟩=>?_;obtain⟨a,e,⟨xs,hq⟩,q⟩:=q1;subst e;cases r1;obtain⟨aL,rv,p,hz⟩:=I1.tuple hq;refine wpAny_pyIter_tuple (show s1.heap.IsTuple a aL.toArray from p) ?_;refine⟨s1.heap.objs.size,[s1.heap.objs.size],_,_,H1,rfl,I1.kept (t':=s1.toks) λb o e=>Xm _ e,Bv a _,⟨_,XA _ rfl,rfl,rfl⟩,λb hb=>?_,q⟩;have e:b=s1.heap.objs.size:=by simpa using hb
 subst e;exact I1.fpOk (Xx _) (I1.hok.fresh (Xx _))
theorem zj{f8:List (Addr×Obj)}{σ:St}{H:Hp}{s:Xl}{R:It->Hp->Prop}{E:Value->Xl->Prop}{lo hi:Int}{t u v:Tok}{tk:Nat}(I:Inv X f8 σ H s)(h1: -(2 ^ 62)<=lo)(h2:lo<2 ^ 62)(h3: -(2 ^ 62)<=hi)(h4:hi<2 ^ 62)
 (q:R (N0 lo (hi - lo).toNat) H):wpAny (model X.prog X.w) X.A (pyIter (.ref s.heap.objs.size)) (Ts X f8 σ tg R) E {s with heap:=s.heap.push {cls:= .type "range",data:= .fields #[.int lo t, .int hi u, .int 1 v]},toks:=tk}:=by
 refine wpAny_pyIter_range (IsRange.new ..) (small_one h1 h2 h3 h4) ?_;have I1:Inv X f8 σ H {s with heap:=s.heap.push {cls:= .type "range",data:= .fields #[.int lo t, .int hi u, .int 1 v]},toks:=tk}:=I.kept λb o e=>Xm _ e;refine⟨(s.heap.push {cls:= .type "range",data:= .fields #[.int lo t, .int hi u, .int 1 v]}).objs.size,[(s.heap.push {cls:= .type "range",data:= .fields #[.int lo t, .int hi u, .int 1 v]}).objs.size],_,_,H,rfl,
  I1.kept (t':=tk) λb o e=>Xm _ e,Bu _ lo (hi - lo).toNat,?_,λb hb=>?_,q⟩
 ·have e1:lo+((0:Nat):Int)*1=lo:=by simp
  have e2:(((hi - lo).toNat:Nat):Int) - ((0:Nat):Int)=Builtin.Range.rangeSize lo hi 1:=by rw[rangeSize_one];split<;>omega
  show IsRangeIter _ _ (lo+((0:Nat):Int)*1) ((((hi - lo).toNat:Nat):Int) - ((0:Nat):Int)) 1;rw[e1,e2];exact XA _ rfl
 ·have e:b=(s.heap.push {cls:= .type "range",data:= .fields #[.int lo t, .int hi u, .int 1 v]}).objs.size:=by simpa using hb
  subst e;exact I1.fpOk (Xx _) (I1.hok.fresh (Xx _))
def O3(ta:TA):TI:=λσ H R=>ta σ H λvs H1=>∃j:Int,vs=[.int j]/\ -(2 ^ 62)<=j/\j<2 ^ 62/\R (N0 0 j.toNat) H1
def O4(ta:TA):TI:=λσ H R=>ta σ H λvs H1=>∃i j:Int,vs=[.int i, .int j]/\(-(2 ^ 62)<=i/\i<2 ^ 62/\ -(2 ^ 62)<=j/\j<2 ^ 62)/\R (N0 i (j - i).toNat) H1
theorem Ee{a:Expr}{ta:TA}{p pos:Pos}(hg:Gl X "range")(hm:X.mg "range"=none)(ha:PA X [a] ta)(hs:Xz [a] X.env=[(false,eval a X.env)]:=by rfl):PI X tg (.Call (.Name "range" p) [a] [] pos) (O3 ta):=by
 intro f8 s σ H R I h;refine Call_ (nK I hg hm boot_range (Zz (cC (ha pos f8 s σ H _ I h) λus s1 ⟨vs,H1,I1,r1,q1⟩=>?_) hs rfl));obtain⟨j,e,q1,q2,q⟩:=q1;subst e;cases r1 with
 |cons r rr=>
  cases rr;obtain⟨t,rfl⟩:=r;exact call_range_1 (zj I1 (by omega) (by omega) q1 q2 (by simpa using q))
theorem Ef{a b:Expr}{ta:TA}{p pos:Pos}(hg:Gl X "range")(hm:X.mg "range"=none)(ha:PA X [a,b] ta)(hs:Xz [a,b] X.env=[(false,eval a X.env),(false,eval b X.env)]:=by rfl)(IF:Xz [b] X.env=[(false,eval b X.env)]:=by rfl):
 PI X tg (.Call (.Name "range" p) [a,b] [] pos) (O4 ta):=by
 intro f8 s σ H R I h;refine Call_ (nK I hg hm boot_range (Zz (cC (ha pos f8 s σ H _ I h) λus s1 ⟨vs,H1,I1,r1,q1⟩=>?_) (by rw[hs,IF]) (by rw[IF];rfl)));obtain⟨i,j,e,⟨q1,q2,q3,q4⟩,q⟩:=q1;subst e;cases r1 with
 |cons r rr=>
  cases rr with
  |cons r' rr=>
   cases rr;obtain⟨t,rfl⟩:=r;obtain⟨t',rfl⟩:=r';exact call_range_2 (zj I1 q1 q2 q3 q4 q)
def Ta(wi:TI)(g:TG)(tb:TS):TS:=λD σ H=>wi σ H λJ H1=>∃W:Nat->Nat->St->Hp->Prop,(∃m,W 0 m σ H1)/\∀i m σ H,W i m σ H->
 (J.stop i H/\D.nx σ H)\/(J.go i H/\∃N:St->Hp->Prop,(∀σ' H',N σ' H'->∃m',m'<m/\W (i+1) m' σ' H')/\∀x H',J.yld i H x H'->g x σ H' λσ2 H2=>tb {D with nx:=N,ct:=N,bk:=D.nx} σ2 H2)
def rL(fp:List Addr)(h:Heap):List (Addr×Obj):=fp.filterMap λb=>(h.get? b).map λo=>(b,o)
theorem jb{fp:List Addr}{h:Heap}{b:Addr}{o:Obj}(hb:b∈fp)(e:h.get? b=some o):(b,o)∈rL fp h:=abI.mpr ⟨b,hb,by rw[e];rfl⟩
theorem D3{fp:List Addr}{h:Heap}{p:Addr×Obj}(hp:p∈rL fp h):p.1∈fp/\h.get? p.1=some p.2:=by
 obtain⟨b,hb,e⟩:=abI.mp hp;cases q:h.get? b with
 |none=>rw[q] at e;cases e
 |some o=>
  rw[q] at e;have e':(b,o)=p:=XT e;subst e';exact⟨hb,q⟩
theorem Inv.pinned{f8:List (Addr×Obj)}{σ:St}{H:Hp}{s:Xl}{fp:List Addr}(I:Inv X f8 σ H s)(hf:∀b∈fp,sI X f8 H b)(ho:∀b∈fp,∃o,s.heap.get? b=some o/\∀v,o.data≠ .cell v):Inv X (f8++rL fp s.heap) σ H s:=
 I.pins_of λp hp=>(X4.mp hp).elim (λz=>I.pin p (X_ _ z)) λz=>by
  obtain⟨hb,e⟩:=D3 z;obtain⟨f0,f1,f2,_⟩:=hf p.1 hb;obtain⟨o,e',d⟩:=ho p.1 hb;rw[e] at e';cases e';exact⟨e,f0,f1,f2,d⟩
theorem Inv.unpinned{f8 pl:List (Addr×Obj)}{σ:St}{H:Hp}{s:Xl}(I:Inv X (f8++pl) σ H s):Inv X f8 σ H s:=I.pins_of λp hp=>I.pin p (X_ _ (YC _ hp))
theorem M9{iter:Expr}{body:List Stmt}{wi:TI}{g:TG}{tb:TS}{pos:Pos}(hp:PassesOwn (model X.prog X.w) X.A X.env X.xe)(hc:X.calm=true)(hi:PI X tg iter wi)(hg:PG X tg g)(hb:PSs X body tb)
 (hs:∀x,aat iter X.env x=pure x:=by intro _;rfl):PS X (.For tg iter body [] pos) (Ta wi g tb):=by
 intro f8 s σ H D I h;refine wpAny_For (cC (hi f8 s σ H _ I h) λv s1 h1=>cC h1 λUp s2 h2=>?_) hs;obtain⟨it,fp,tn,J,H2,e,I2,T,xM,f2,W,⟨m0,w0⟩,turn⟩:=h2;subst e;have Nw:∀{H':Hp},(∀b∈fp,H' b=none)->∀b∈fp,sI X f8 H' b:=λhn b hb=>⟨hn b hb,(f2 b hb).2⟩
 refine codeAny_forLoop_any (λn s'=>∃i σ' H',Inv X f8 σ' H' s'/\tn i s'.heap/\(∀b∈fp,H' b=none)/\W i n σ' H') ?_ m0 ⟨0,σ,H2,I2,xM,λb hb=>(f2 b hb).1,w0⟩;rintro n s3 ⟨i,σ3,H3,I3,Lc,Qs,w3⟩;rcases turn i n σ3 H3 w3 with⟨stop,qn⟩ | ⟨go,N,hN,step⟩
 ·refine Z0 hp (cC (T.done X rfl rfl rfl hc i f8 s3 σ3 H3 X.xe I3 (Nw Qs) Lc stop) λr s4 ⟨hr,I4⟩=>?_);subst hr;exact aaS ⟨σ3,H3,I4,qn⟩
 ·refine Z0 hp (cC (T.item X rfl rfl rfl hc i f8 s3 σ3 H3 X.xe I3 (Nw Qs) Lc go) λr s4 ⟨u,hr,h4⟩=>?_);subst hr;refine Z0 hp (cC h4 λ_ s5 ⟨x,H5,I5,r5,y5,SY,U5⟩=>?_);have I5':=I5.pinned (Nw U5) (T.obj _ _ SY);refine Z0 hp (cC (hg _ s5 σ3 H5 x u _ I5' r5 (step x H5 y5)) λ_ s6 ⟨σ6,H6,I6,q6⟩=>?_);refine Z0 hp (cC (hb _ s6 σ6 H6 _ I6 q6) λf s7 q7=>?_);have again:∀{σ7:St}{H7:Hp},Inv X (f8++rL fp s5.heap) σ7 H7 s7->N σ7 H7->∃m,m<n/\∃i σ' H',Inv X f8 σ' H' s7/\tn i s7.heap/\(∀b∈fp,H' b=none)/\W i m σ' H':=λ{σ7 H7} I7 n7=>by
   obtain⟨m',hm,w7⟩:=hN σ7 H7 n7;refine⟨m',hm,i+1,σ7,H7,I7.unpinned,T.keep _ _ _ SY λb hb o e=>(I7.pin (b,o) (X_ _ (X_ _ (jb hb e)))).1,λb hb=>?_,w7⟩;obtain⟨o,e,d⟩:=T.obj _ _ SY b hb;exact(I7.pin (b,o) (X_ _ (X_ _ (jb hb e)))).2.1
  cases f with
  |next=>obtain⟨σ7,H7,I7,n7⟩:=q7;exact again I7 n7
  |cont=>obtain⟨σ7,H7,I7,n7⟩:=q7;exact again I7 n7
  |brk=>obtain⟨σ7,H7,I7,q7⟩:=q7;exact⟨σ7,H7,I7.unpinned,q7⟩
  |ret v=>obtain⟨x7,σ7,H7,I7,r7,q7⟩:=q7;exact⟨x7,σ7,H7,I7.unpinned,r7,q7⟩
end
abbrev R2:=V->V->Hp->VK->Prop
def OpR(X:Cx)(f:Value->Value->Sem Value)(r:R2):Prop:=
 ∀(f8:List (Addr×Obj)) (s:Xl) (σ:St) (H:Hp) (x y:V) (v u:Value) (Q:VK),Inv X f8 σ H s->RelV x v->RelV y u->r x y H Q->
  wpAny (model X.prog X.w) X.A (f v u) (EP X f8 σ Q) X.xe s
def Q8(X:Cx)(f:Value->Sem Value)(r:V->Hp->VK->Prop):Prop:=
 ∀(f8:List (Addr×Obj)) (s:Xl) (σ:St) (H:Hp) (x:V) (v:Value) (Q:VK),Inv X f8 σ H s->RelV x v->r x H Q->
  wpAny (model X.prog X.w) X.A (f v) (EP X f8 σ Q) X.xe s
def CallR(X:Cx)(f:Value)(r:List V->Hp->VK->Prop):Prop:=
 ∀(f8:List (Addr×Obj)) (s:Xl) (σ:St) (H:Hp) (xs:List V) (us:List Value) (Q:VK),Inv X f8 σ H s->Vals xs us->r xs H Q->
  wpAny (model X.prog X.w) X.A (call f us) (EP X f8 σ Q) X.xe s
def Q7(X:Cx)(r:V->Hp->(Bool->Hp->Prop)->Prop):Prop:=
 ∀(f8:List (Addr×Obj)) (s:Xl) (σ:St) (H:Hp) (x:V) (v:Value) (Q:Bool->Hp->Prop),Inv X f8 σ H s->RelV x v->r x H Q->
  wpAny (model X.prog X.w) X.A (truthy v) (TP X f8 σ Q) X.xe s
def Qe(r:R2)(ta tb:TE):TE:=λσ H Q=>ta σ H λx H1=>tb σ H1 λy H2=>r x y H2 Q
def WT(r:V->Hp->VK->Prop)(ta:TE):TE:=λσ H Q=>ta σ H λx H1=>r x H1 Q
def rI(C:Int->Int->Prop)(g:Int->Int->V):R2:=λx y H Q=>∃i j,x= .int i/\y= .int j/\C i j/\Q (g i j) H
def Bf(g:Int->Int->V):R2:=λx y H Q=>∃i j,x= .int i/\y= .int j/\Q (g i j) H
def rU(g:Int->V):V->Hp->VK->Prop:=λx H Q=>∃i,x= .int i/\Q (g i) H
section
variable{X:Cx}{a b:Expr}{ta tb:TE}{pos:Pos}
theorem Lk(ha:PE X a ta)(hb:PE X b tb){f8:List (Addr×Obj)}{s:Xl}{σ:St}{H:Hp}{R:V->V->Hp->Prop}(I:Inv X f8 σ H s)
 (h:ta σ H λx H1=>tb σ H1 λy H2=>R x y H2){Q:Value->Xl->Prop}{f:Value->Value->Sem Value}
 (hf:∀v u s2 x y H2,Inv X f8 σ H2 s2->RelV x v->RelV y u->R x y H2->wpAny (model X.prog X.w) X.A (f v u) Q X.xe s2):
 wpAny (model X.prog X.w) X.A (eval a X.env) (λv v4=>wpAny (model X.prog X.w) X.A (eval b X.env) (λu u8=>wpAny (model X.prog X.w) X.A (f v u) Q X.xe u8) X.xe v4) X.xe s:=by
 refine cC (ha f8 s σ H _ I h) λv s1 ⟨x,H1,I1,r1,q1⟩=>?_;refine cC (hb f8 s1 σ H1 _ I1 q1) λu s2 ⟨y,H2,I2,r2,q2⟩=>?_;exact hf v u s2 x y H2 I2 r1 r2 q2
theorem Pw{op:Operator}{r:R2}(ho:OpR X (aay op) r)(ha:PE X a ta)(hb:PE X b tb):PE X (.BinOp a op b pos) (Qe r ta tb):=by
 intro f8 s σ H Q I h;exact wpAny_BinOp (Lk ha hb I h λv u s2 x y H2 I2 rx ry q=>ho f8 s2 σ H2 x y v u Q I2 rx ry q)
theorem Px{op:UnaryOp}{r:V->Hp->VK->Prop}(ho:Q8 X (unaryOp op) r)(ha:PE X a ta):PE X (.UnaryOp op a pos) (WT r ta):=by
 intro f8 s σ H Q I h;exact UnaryOp_ (cC (ha f8 s σ H _ I h) λv s1 ⟨x,H1,I1,r1,q1⟩=>ho f8 s1 σ H1 x v Q I1 r1 q1)
theorem SG{f:Value->Value->Sem Value}{C:Int->Int->Prop}{g:Int->Int->Int}
 (rule:∀(i j:Int) (t u:Tok) (s:Xl) (Q:Value->Xl->Prop) (E:Value->Xl->Prop),C i j->Q (.int (g i j) s.toks) {s with toks:=s.toks+1}->wpAny (model X.prog X.w) X.A (f (.int i t) (.int j u)) Q E s):
 OpR X f (rI C λi j=> .int (g i j)):=by
 intro f8 s σ H x y v u Q I rx ry h;obtain⟨i,j,rfl,rfl,hc,q⟩:=h;obtain⟨t,rfl⟩:=rx;obtain⟨t',rfl⟩:=ry;exact rule i j t t' s _ _ hc ⟨.int (g i j),H,I.tok _,⟨_,rfl⟩,q⟩
theorem Pm{f:Value->Value->Sem Value}{g:Int->Int->Int}
 (rule:∀(i j:Int) (t u:Tok) (s:Xl) (Q:Value->Xl->Prop) (E:Value->Xl->Prop),Q (.int (g i j) s.toks) {s with toks:=s.toks+1}->wpAny (model X.prog X.w) X.A (f (.int i t) (.int j u)) Q E s):
 OpR X f (Bf λi j=> .int (g i j)):=by
 intro f8 s σ H x y v u Q I rx ry h;obtain⟨i,j,rfl,rfl,q⟩:=h;obtain⟨t,rfl⟩:=rx;obtain⟨t',rfl⟩:=ry;exact rule i j t t' s _ _ ⟨.int (g i j),H,I.tok _,⟨_,rfl⟩,q⟩
theorem Jq{f:Value->Value->Sem Value}{g:Int->Int->Bool}
 (rule:∀(i j:Int) (t u:Tok) (s:Xl) (Q:Value->Xl->Prop) (E:Value->Xl->Prop),Q (.bool (g i j)) s->wpAny (model X.prog X.w) X.A (f (.int i t) (.int j u)) Q E s):
 OpR X f (Bf λi j=> .bl (g i j)):=by
 intro f8 s σ H x y v u Q I rx ry h;obtain⟨i,j,rfl,rfl,q⟩:=h;obtain⟨t,rfl⟩:=rx;obtain⟨t',rfl⟩:=ry;exact rule i j t t' s _ _ ⟨.bl (g i j),H,I,rfl,q⟩
def NX(i j:Int):Prop:=0<j/\j<1073741824
def CMul(i j:Int):Prop:=(-(2 ^ 64)<i/\i<2 ^ 64)\/(-(2 ^ 64)<j/\j<2 ^ 64)
theorem CMul.ok{i j:Int}(h:CMul i j):IntMulOk i j:=by
 rcases h with⟨h1,h2⟩ | ⟨h1,h2⟩
 ·exact .of_left (intBits_le_64 h1 h2)
 ·exact .of_right (intBits_le_64 h1 h2)
theorem Mz:OpR X (aay .Add) (Bf λi j=> .int (i+j)):=Pm λ_ _ _ _ _ _ _ q=>add_int q
theorem MK:OpR X (aay .Sub) (Bf λi j=> .int (i - j)):=Pm λ_ _ _ _ _ _ _ q=>sub_int q
theorem MH:OpR X (aay .Mult) (rI CMul λi j=> .int (i*j)):=SG λ_ _ _ _ _ _ _ hc q=>mul_int q hc.ok
theorem Js:OpR X (aay .FloorDiv) (rI NX λi j=> .int (i / j)):=SG λi j _ _ _ _ _ hc q=>by
 have h1:(0:Int)<j:=hc.1;have h2:j<1073741824:=hc.2;exact floordiv_int (by omega) (by rw[Int.fdiv_eq_ediv_of_nonneg i (by omega)];exact q) (.inl (PyProof.noPylong_small (by omega)))
theorem MG:OpR X (aay .Mod) (rI (λ_ j=>0<j) λi j=> .int (i % j)):=SG λi j _ _ _ _ _ hc q=>by
 have h1:(0:Int)<j:=hc;exact mod_int' (by omega) (by rw[Int.fmod_eq_emod_of_nonneg i (by omega)];exact q)
theorem WV{f:Value->Sem Value}{g:Int->Int}
 (rule:∀(i:Int) (t:Tok) (s:Xl) (Q:Value->Xl->Prop) (E:Value->Xl->Prop),Q (.int (g i) s.toks) {s with toks:=s.toks+1}->wpAny (model X.prog X.w) X.A (f (.int i t)) Q E s):
 Q8 X f (rU λi=> .int (g i)):=by
 intro f8 s σ H x v Q I rx h;obtain⟨i,rfl,q⟩:=h;obtain⟨t,rfl⟩:=rx;exact rule i t s _ _ ⟨.int (g i),H,I.tok _,⟨_,rfl⟩,q⟩
theorem NI:Q8 X (unaryOp .USub) (rU λi=> .int (-i)):=WV λ_ _ _ _ _ q=>neg_int q
end
section
variable{X:Cx}{a b c:Expr}{ta tb tc:TE}{pos:Pos}
theorem Ak{f8:List (Addr×Obj)}{σ:St}{H:Hp}{s:Xl}{Q:VK}{k k':Bool}(I:Inv X f8 σ H s)(q:Q (.bl k) H)(e:k=k'):EP X f8 σ Q (.bool k') s:=by
 subst e;exact⟨.bl k,H,I,rfl,q⟩
theorem GD:OpR X (X9 .Lt) (Bf λi j=> .bl (decide (i<j))):=Jq λ_ _ _ _ _ _ _ q=>lt_int q
theorem oW:OpR X (X9 .LtE) (Bf λi j=> .bl (decide (i<=j))):=Jq λ_ _ _ _ _ _ _ q=>le_int q
theorem Po:OpR X (X9 .Gt) (Bf λi j=> .bl (decide (j<i))):=Jq λ_ _ _ _ _ _ _ q=>gt_int q
theorem Pn:OpR X (X9 .GtE) (Bf λi j=> .bl (decide (j<=i))):=Jq λ_ _ _ _ _ _ _ q=>ge_int q
theorem D8:OpR X (X9 .In) (λx y H Q=>∃i j,x= .str i/\y= .str j/\Q (.bl (!(Z1 j i 0 j.length 1).isEmpty)) H):=by
 intro f8 s σ H x y v u Q I rx ry h;obtain⟨i,j,rfl,rfl,q⟩:=h;obtain⟨t,rfl⟩:=rx;obtain⟨t',rfl⟩:=ry;exact in_str (Ak I q rfl)
theorem ME:OpR X (X9 .Is) (λx y H Q=>y= .non/\Q (.bl (decide (x= .non))) H):=by
 intro f8 s σ H x y v u Q I rx ry h;obtain⟨rfl,q⟩:=h;cases ry;refine is_none_gen (Ak I q ?_);cases x<;>first
  |(cases rx;rfl)
  |(obtain ⟨t,rfl⟩:=rx;rfl)
theorem Jt:OpR X (X9 .IsNot) (λx y H Q=>y= .non/\Q (.bl (!decide (x= .non))) H):=by
 intro f8 s σ H x y v u Q I rx ry h;obtain⟨rfl,q⟩:=h;cases ry;refine isnot_none_gen (Ak I q ?_);cases x<;>first
  |(cases rx;rfl)
  |(obtain ⟨t,rfl⟩:=rx;rfl)
theorem OpR.or{f:Value->Value->Sem Value}{r r':R2}(h:OpR X f r)(h':OpR X f r'):OpR X f (λx y H Q=>r x y H Q\/r' x y H Q):=by
 intro f8 s σ H x y v u Q I rx ry q;rcases q with q | q
 ·exact h f8 s σ H x y v u Q I rx ry q
 ·exact h' f8 s σ H x y v u Q I rx ry q
theorem Gs(b:Expr){op:CmpOp}(h:op≠ .In:=by decide)(h2:op≠ .NotIn:=by decide):Yt op b=false:=by
 have e1:(op==CmpOp.In)=false:=by cases op<;>first | rfl | exact ad3 rfl h
 have e2:(op==CmpOp.NotIn)=false:=by cases op<;>first | rfl | exact ad3 rfl h2
 cases b<;>simp[Yt,e1,e2]
theorem JL{op:CmpOp}{r:R2}(ho:OpR X (X9 op) r)(ha:PE X a ta)(hb:PE X b tb)(hm:Yt op b=false):PE X (.Compare a [op] [b] pos) (Qe r ta tb):=by
 intro f8 s σ H Q I h;exact wpAny_Compare1 (Lk ha hb I h λv u s2 x y H2 I2 rx ry q=>ho f8 s2 σ H2 x y v u Q I2 rx ry q) hm
def Ld(t:TE):TT:=λσ H Q=>t σ H λx H'=>∃k,x= .bl k/\Q k H'
theorem JX{op:CmpOp}{r:R2}(ho:OpR X (X9 op) r)(ha:PE X a ta)(hb:PE X b tb)(hm:Yt op b=false):PT X (.Compare a [op] [b] pos) (Ld (Qe r ta tb)):=by
 intro f8 s σ H Q I h;refine wpAny_isTrue_Compare1 (cC (ha f8 s σ H _ I h) λv s1 ⟨x,H1,I1,r1,q1⟩=>cC (hb f8 s1 σ H1 _ I1 q1) λu s2 ⟨y,H2,I2,r2,q2⟩=>
  cC (ho f8 s2 σ H2 x y v u _ I2 r1 r2 q2) λc s3 ⟨z,H3,I3,r3,k,e,q3⟩=>?_) hm
 subst e;cases r3;exact YK ⟨H3,I3,q3⟩
def Bp(r r':R2)(ta tb tc:TE):TE:=λσ H Q=>ta σ H λx H1=>tb σ H1 λy H2=>r x y H2 λz H3=>∃k,z= .bl k/\
 (if k=true then tc σ H3 λw' H4=>r' y w' H4 Q else Q (.bl false) H3)
theorem GV{op A3:CmpOp}{r r':R2}(ho:OpR X (X9 op) r)(l6:OpR X (X9 A3) r')(ha:PE X a ta)(hb:PE X b tb)(hc:PE X c tc)
 (hm:lastMarks [op,A3] [b,c]=false:=by with_unfolding_all rfl):PE X (.Compare a [op,A3] [b,c] pos) (Bp r r' ta tb tc):=by
 intro f8 s σ H Q I h;refine Compare_chain (cC (ha f8 s σ H _ I h) λv s1 ⟨x,H1,I1,r1,q1⟩=>chain_link (cC (hb f8 s1 σ H1 _ I1 q1) λu s2 ⟨y,H2,I2,r2,q2⟩=>
  cC (ho f8 s2 σ H2 x y v u _ I2 r1 r2 q2) λd s3 ⟨z,H3,I3,r3,k,e,q3⟩=>?_)) hm
 subst e;cases r3;refine YK ?_;cases k with
 |false=>exact ite_ff ⟨.bl false,H3,I3,rfl,q3⟩
 |true=>exact ite_tt (chain_last (cC (hc f8 s3 σ H3 _ I3 q3) λw' s4 ⟨z',H4,I4,r4,q4⟩=>l6 f8 s4 σ H4 y z' u w' Q I4 r2 r4 q4))
theorem G3{op A3:CmpOp}{r r':R2}(ho:OpR X (X9 op) r)(l6:OpR X (X9 A3) r')(ha:PE X a ta)(hb:PE X b tb)(hc:PE X c tc)
 (hm:lastMarks [op,A3] [b,c]=false:=by with_unfolding_all rfl):PT X (.Compare a [op,A3] [b,c] pos) (Ld (Bp r r' ta tb tc)):=by
 intro f8 s σ H Q I h;refine isTrue_chain (cC (ha f8 s σ H _ I h) λv s1 ⟨x,H1,I1,r1,q1⟩=>test_link (cC (hb f8 s1 σ H1 _ I1 q1) λu s2 ⟨y,H2,I2,r2,q2⟩=>
  cC (ho f8 s2 σ H2 x y v u _ I2 r1 r2 q2) λd s3 ⟨z,H3,I3,r3,k,e,q3⟩=>?_)) hm
 subst e;cases r3;refine YK ?_;cases k with
 |false=>
  obtain⟨k',e',q'⟩:=q3;cases e';exact ite_ff ⟨H3,I3,q'⟩
 |true=>
  refine ite_tt (test_last (cC (hc f8 s3 σ H3 _ I3 q3) λw' s4 ⟨z',H4,I4,r4,q4⟩=>cC (l6 f8 s4 σ H4 y z' u w' _ I4 r2 r4 q4) λd' s5 ⟨z2,H5,I5,r5,k2,e2,q5⟩=>?_));subst e2;cases r5;exact YK ⟨H5,I5,q5⟩
def N3(K:Xr)(x:V)(H:Hp)(k:Bool):Prop:=
 match x with
 | .non=>k=false
 | .bl b=>k=b
 | .int i=>k=(i !=0)
 | .str y=>y.length<=XH/\k=((y.length:Int) !=0)
 | .byt y=>y.size<=XH/\k=((y.size:Int) !=0)
 | .ref p=>(∃xs,SqL K H p xs/\k=!xs.isEmpty)\/(∃xs,SqT K H p xs/\k=!xs.isEmpty)\/∃aE,H p=some (.dK aE)/\k=!aE.isEmpty
 |_=>False
theorem AD{κ:Type}{aE:List (κ×V)}{vs:List (κ×Value)}(r:KV aE vs):(!vs.isEmpty)=!aE.isEmpty:=by
 cases r<;>rfl
theorem qB{xs:List V}{aL:List Value}(r:Vals xs aL):(!aL.toArray.isEmpty)=!xs.isEmpty:=by
 cases r<;>simp
theorem nM:(XH:Nat)<2 ^ 63:=by rw[Zw];decide
theorem NF:Q7 X (λx H Q=>∃k,N3 X.K x H k/\Q k H):=by
 intro f8 s σ H x v Q I rx h;obtain⟨k,e,q⟩:=h;have hl:=nM;have hs:XH=16777216:=Zw;cases x with
 |non=>
  cases rx;have e':k=false:=e;subst e';exact truthy_none ⟨H,I,q⟩
 |bl b=>
  cases rx;have e':k=b:=e;subst e';exact YK ⟨H,I,q⟩
 |int i=>
  obtain⟨t,rfl⟩:=rx;have e':k=(i !=0):=e;subst e';exact PySem.P.truthy_int ⟨H,I,q⟩
 |str y=>
  obtain⟨t,rfl⟩:=rx;obtain⟨hy,e'⟩:y.length<=XH/\k=((y.length:Int) !=0):=e;subst e';exact PySem.P.truthy_str (by omega) ⟨H,I.tok _,q⟩
 |byt y=>
  obtain⟨t,rfl⟩:=rx;obtain⟨hy,e'⟩:y.size<=XH/\k=((y.size:Int) !=0):=e;subst e';exact PySem.W.truthy_bytes (by omega) ⟨H,I.tok _,q⟩
 |ref p=>
  cases rx;have e':(∃xs,SqL X.K H p xs/\k=!xs.isEmpty)\/(∃xs,SqT X.K H p xs/\k=!xs.isEmpty)\/∃aE,H p=some (.dK aE)/\k=!aE.isEmpty:=e;rcases e' with⟨xs,hx,e'⟩ | ⟨xs,hx,e'⟩ | ⟨aE,hx,e'⟩
  ·subst e';obtain⟨aL,r,pl,hz⟩:=I.list hx;have v6:=r.length;exact wpAny_truthy_list pl.isList (by simp only[Xu];omega) ⟨H,I.tok _,by rw[qB r];exact q⟩
  ·subst e';obtain⟨aL,r,pl,hz⟩:=I.tuple hx;have v6:=r.length;exact truthy_tuple pl (by simp only[Xu];omega) ⟨H,I.tok _,by rw[qB r];exact q⟩
  ·subst e';obtain⟨hz,hS,vs,r,m⟩:aE.length<=XH/\(p==YS)=false/\∃vs,KV aE vs/\s.heap.DictOf (a6 X.prog X.w) p vs:=I.hok p _ hx;have v6:aE.length=vs.length:=Zg r;exact wpAny_truthy_dict hS m (by omega) ⟨H,I.tok _,by rw[AD r];exact q⟩
 |_=>exact(show False from e).elim
theorem G5(ha:PE X a ta)(he:∀whole,isTrue a X.env whole=(do let v<-whole;standAt a.pos;holding [v] (truthy v))):
 PT X a (λσ H Q=>ta σ H λx H'=>∃k,N3 X.K x H' k/\Q k H'):=by
 intro f8 s σ H Q I h;exact isTrue_plain (cC (ha f8 s σ H _ I h) λv s1 ⟨x,H1,I1,r1,q1⟩=>NF f8 s1 σ H1 x v Q I1 r1 q1) (he _)
theorem vals1{x:V}{us:List Value}(r:Vals [x] us):∃u,us=[u]/\RelV x u:=by
 cases r with
 |cons r1 r2=>cases r2;exact⟨_,rfl,r1⟩
theorem vals2{x y:V}{us:List Value}(r:Vals [x,y] us):∃u w',us=[u,w']/\RelV x u/\RelV y w':=by
 cases r with
 |cons r1 r2=>
  cases r2 with
  |cons r3 r4=>cases r4;exact⟨_,_,rfl,r1,r3⟩
theorem EW:CallR X (.builtin "abs") (λxs H Q=>∃i,xs=[.int i]/\Q (.int (if i<0 then -i else i)) H):=by
 intro f8 s σ H xs us Q I r h;obtain⟨i,rfl,q⟩:=h;obtain⟨u,rfl,t,rfl⟩:=vals1 r;exact call_abs_int λu tk=>⟨.int (if i<0 then -i else i),H,I.tok _,⟨_,rfl⟩,q⟩
theorem C9(hc:X.calm=true):CallR X (.builtin "max") (λxs H Q=>∃i j,xs=[.int i, .int j]/\Q (.int (if j>i then j else i)) H):=by
 intro f8 s σ H xs us Q I r h;obtain⟨i,j,rfl,q⟩:=h;obtain⟨u,w',rfl,⟨t,rfl⟩,⟨t',rfl⟩⟩:=vals2 r;refine max_two_ints (I.ok.hd hc) λh' tk k=>⟨_,H,I.kept k,?_,q⟩
 by_cases hj:j>i
 ·rw[adY hj,adY hj];exact⟨_,rfl⟩
 ·rw[ad0 hj,ad0 hj];exact⟨_,rfl⟩
theorem C_(hc:X.calm=true):CallR X (.builtin "min") (λxs H Q=>∃i j,xs=[.int i, .int j]/\Q (.int (if j<i then j else i)) H):=by
 intro f8 s σ H xs us Q I r h;obtain⟨i,j,rfl,q⟩:=h;obtain⟨u,w',rfl,⟨t,rfl⟩,⟨t',rfl⟩⟩:=vals2 r;refine min_two_ints (I.ok.hd hc) λh' tk k=>⟨_,H,I.kept k,?_,q⟩
 by_cases hj:j<i
 ·rw[adY hj,adY hj];exact⟨_,rfl⟩
 ·rw[ad0 hj,ad0 hj];exact⟨_,rfl⟩
end
structure ObjM (h:Heap) (x dx C:Addr) (mA:Str->Option Value):Prop where
 obj:h.get? x=some (abX C dx)
 ns:h.Ns1 dx mA
 ne:dx≠x
theorem DV{h:Heap}{dx:Addr}{mA:Str->Option Value}(n:h.Ns1 dx mA):∃od,h.get? dx=some od/\∀name,ab4 name od=some (mA name):=by
 obtain⟨o,es,ep,ho,hd,hk,_,hm⟩:=n;refine⟨o,ho,λname=>?_⟩;have e:=hm name;unfold nsFind findBy at e;rw[<-Array.find?_toList] at e;unfold ab4;rw[hd]
 dsimp only
 split
 ·rename_i y q;rw[q] at e;exact ad7 some e
 ·rename_i q;rw[q] at e;have a:es.toList.any (·.refKey)=false:=by
   rw[List.any_eq_false];intro y hy;obtain⟨z,t,IC⟩:=hk y (Array.mem_toList_iff.mp hy);simp[DictEntry.refKey,IC]
  have a':¬es.toList.any (·.refKey)=true:=by rw[a];exact XM
  rw[ad0 a'];exact ad7 some e
theorem ObjM.look{h:Heap}{x dx C:Addr}{mA:Str->Option Value}(I:ObjM h x dx C mA):∃od,PySem.W.InstAt h x (abX C dx) C (some od)/\∀name,ab4 name od=some (mA name):=
 let ⟨od,ho,hl⟩:=DV I.ns
 ⟨od,⟨I.obj,rfl,rfl,ho⟩,hl⟩
theorem RelO.some_of{v:V}{o:Option Value}(r:RelO (some v) o):∃u,o=some u/\RelV v u:=by
 cases o with
 |none=>exact(show False from r).elim
 |some u=>exact⟨u,rfl,r⟩
section
variable{P:XR}{w:World}{H:Hp}{h:Heap}{a C dx:Addr}{fs:List (Str×V)}
theorem IL(hok:HOk P w H h)(e:H a=some (.ins C dx fs)):∃mA,ObjM h a dx C mA/\(∀f,RelO (fs.lookup f) (mA f))/\PySem.Within mA (fs.map (·.1))/\fs.length<=1000/\H dx=some (.own a):=by
 obtain⟨d,z,ne,ob,mA,n,r,q⟩:=(show ObjOk P w H h a (.ins C dx fs) from hok a _ e)
 exact⟨mA,⟨ob,n,ne⟩,r,q,z,d⟩
end
structure Cls (K:Xr) (C:Addr):Prop where
 pg:ado K C Str.empty=true
 hd:PySem.W.hasDictIn K C=true
 po:PySem.W.plainOver K C=true
 sa:YW K (.ref C) "__setattr__"=some (some (.builtin "object.__setattr__"))
theorem Cls.get{K:Xr}{C:Addr}(c:Cls K C)(f:Str):ado K C f=true:=c.pg
section
variable{X:Cx}{f8:List (Addr×Obj)}{σ:St}{H:Hp}{s:Xl}{A:X6}{E:Value->Xl->Prop}{Q:Value->Xl->Prop}{c:Value}{b:Bool}
inductive TyOf (K:Xr) (H:Hp):V->Value->Prop where
 |non:TyOf K H .non (.type "NoneType")
 |bl (x:Bool):TyOf K H (.bl x) (.type "bool")
 |int (i:Int):TyOf K H (.int i) (.type "int")
 |str (x:Str):TyOf K H (.str x) (.type "str")
 |flt (x:UInt64):TyOf K H (.flt x) (.type "float")
 |lst {a:Addr}{xs:List V}(e:H a=some (.lst xs)):TyOf K H (.ref a) (.type "list")
 |frz {a:Addr}{o:Obj}{xs:List V}(e:H a=some (.frz o (.lst xs))):TyOf K H (.ref a) (.type "list")
 |tup {a:Addr}{xs:List V}(e:H a=some (.tup xs)):TyOf K H (.ref a) (.type "tuple")
 |dK {a:Addr}{aE:List (Key×V)}(e:H a=some (.dK aE)):TyOf K H (.ref a) (.type "dict")
 |dT {a:Addr}{aE:List (List Key×V)}(e:H a=some (.dT aE)):TyOf K H (.ref a) (.type "dict")
 |ins {a C dx:Addr}{fs:List (Str×V)}(e:H a=some (.ins C dx fs)) (cl:Cls K C) (ha:YW K (.ref C) "__class__"=some (some (.builtin "object.__class__")))
   (hn:PySem.W.specialIn K (.builtin "object.__class__") "__get__"=some (some (.builtin "getset_descriptor.__get__"))) (Ud:PySem.W.takesIn K (.builtin "object.__class__")=some true)
   (hm:Z5 K C (.type "object")=some true):TyOf K H (.ref a) (.ref C)
theorem DG{x:V}{u t:Value}(I:Inv X f8 σ H s)(rx:RelV x u)(ty:TyOf X.K H x t)(e:XD X.K t c=some b)(h:∀tk,Q (.bool b) {s with toks:=tk}):
 wpAny (model X.prog X.w) A (call (.builtin "isinstance") [u,c]) Q E s:=by
 cases ty with
 |non=>cases (show u=Yk from rx);exact Ys PySem.W.kitx_none I.kIn Zs e (λz=>nomatch z) h
 |bl y=>cases (show u=Zq y from rx);exact Ys PySem.W.kitx_bool I.kIn Zs e (λz=>nomatch z) h
 |int i=>obtain⟨t,q⟩:=(show∃t,u=acX i t from rx);cases q;exact Ys PySem.W.kitx_int I.kIn Zs e (λz=>nomatch z) h
 |str y=>obtain⟨t,q⟩:=(show∃t,u=acW y t from rx);cases q;exact Ys PySem.W.kitx_str I.kIn Zs e (λz=>nomatch z) h
 |flt y=>obtain⟨t,q⟩:=(show∃t,u=Value.float y t from rx);cases q;exact Ys PySem.W.kitx_float I.kIn Zs e (λz=>nomatch z) h
 | @lst a xs ea=>
   cases (show u=XX a from rx);obtain⟨_,_,n,_,h1⟩:=(show ObjOk X.prog X.w H s.heap a (.lst xs) from I.hok a _ ea)
   exact Ys ade I.kIn ⟨_,h1,rfl⟩ e (λz=>nomatch z) h
 | @frz a ob xs ea=>
   cases (show u=XX a from rx);obtain⟨_,_,_,n,_,h1⟩:=(show ObjOk X.prog X.w H s.heap a (.frz ob (.lst xs)) from I.hok a _ ea)
   exact Ys ade I.kIn ⟨_,h1,rfl⟩ e (λz=>nomatch z) h
 | @tup a xs ea=>
   cases (show u=XX a from rx);obtain⟨_,_,_,p⟩:=(show ObjOk X.prog X.w H s.heap a (.tup xs) from I.hok a _ ea)
   obtain⟨o,h1,h2,_⟩:=p;exact Ys PySem.W.kitx_tuple I.kIn ⟨o,h1,h2⟩ e (λz=>nomatch z) h
 | @dK a aE ea=>
   cases (show u=XX a from rx);obtain⟨_,_,vs,_,p⟩:=(show ObjOk X.prog X.w H s.heap a (.dK aE) from I.hok a _ ea)
   obtain⟨o,es,ep,h1,h2,_⟩:=p;exact Ys adf I.kIn ⟨o,h1,h2.1⟩ e (λz=>nomatch z) h
 | @dT a aE ea=>
   cases (show u=XX a from rx);obtain⟨_,_,xs,_,o,es,ep,h1,h2,_⟩:=(show ObjOk X.prog X.w H s.heap a (.dT aE) from I.hok a _ ea)
   exact Ys adf I.kIn ⟨o,h1,h2.1⟩ e (λz=>nomatch z) h
 | @ins a C dx fs ea cl ha hn Ud hm=>
   cases (show u=XX a from rx);obtain⟨mA,O,_⟩:=IL I.hok ea;obtain⟨od,J,_⟩:=O.look;exact Ys (PySem.W.kitx_own (cl.get _) cl.hd ha hn Ud hm) I.kIn J e (λz=>nomatch z) h
end
structure Room (k:Nat) (A:X6):Prop where
 hd:A.handled=none
 dp:A.depth+3*k+5<abR
 un:A.units+16*k+200<cLine
theorem Room.mono{j k:Nat}{A:X6}(r:Room k A)(h:j<=k):Room j A:=⟨r.hd,by have:=r.dp;omega,by have:=r.un;omega⟩
theorem Room.deeper{k:Nat}{A:X6}(r:Room (k+1) A)(env:Env):Room k (A.deeper env):=
 ⟨r.hd,by have:=r.dp;show A.depth+1+3*k+5<_;omega,by have:=r.un;show A.units+3+16*k+200<_;omega⟩
theorem Room.depth{k:Nat}{A:X6}(r:Room k A):A.depth<abR:=by have:=r.dp;omega
theorem Room.units{k:Nat}{A:X6}(r:Room k A):A.units+64<cLine:=by have:=r.un;omega
def NA:TA:=λ_ H Q=>Q [] H
def Hy(ta:TE)(tr:TA):TA:=λσ H Q=>ta σ H λx H1=>tr σ H1 λxs H2=>Q (x::xs) H2
section
variable{X:Cx}{e:Expr}{es:List Expr}{te:TE}{t:TA}{pos:Pos}
theorem rD:PA X [] NA:=λ_ _ _ _ H Q I h=>aaX ⟨[],H,I, .nil,h⟩
theorem kA(ha:PE X e te)(hr:PA X es t)(hs:Xz (e::es) X.env=(false,eval e X.env)::Xz es X.env:=by rfl):PA X (e::es) (Hy te t):=by
 intro pos f8 s σ H Q I h;rw[hs];show wpAny _ _ (spliced ((false,eval e X.env)::Y9 pos (Xz es X.env))) _ _ s;refine aab (cC (ha f8 s σ H _ I h) λu s1 ⟨x,H1,I1,r1,q1⟩=>?_);exact cC (hr pos f8 s1 σ H1 _ I1 q1) λus s2 ⟨xs,H2,I2,r2,q2⟩=>⟨x::xs,H2,I2, .cons r1 r2,q2⟩
def Tg(t:TA):TE:=λσ H Q=>t σ H λxs H1=>xs.length<=XH/\∀p,H1 p=none->Q (.ref p) (upd H1 p (.tup xs))
def Tc(t:TA):TE:=λσ H Q=>t σ H λxs H1=>xs.length<=XH/\∀p,H1 p=none->Q (.ref p) (upd H1 p (.lst xs))
theorem MZ{x1}(h:PA X es t):PE X (.Tuple es x1 pos) (Tg t):=by
 intro f8 s σ H Q I hq;refine wpAny_Tuple_spliced (cC (h pos f8 s σ H _ I hq) λus s1 ⟨xs,H1,I1,r,z,q⟩=>⟨by rw[<-r.length];exact z,?_⟩);have hf:H1 s1.heap.objs.size=none:=I1.hok.fresh (Xx _);refine⟨.ref s1.heap.objs.size,upd H1 s1.heap.objs.size (.tup xs),I1.laid (t':=s1.toks) (λb u e=>Xm _ e) (Xx _) ?_,rfl,q _ hf⟩;exact⟨z,us,r,⟨_,XA _ rfl,rfl,_,rfl⟩⟩
theorem wR(h:PA X es t):PE X (.List es pos) (Tc t):=by
 intro f8 s σ H Q I hq;refine wpAny_List_spliced (cC (h pos f8 s σ H _ I hq) λus s1 ⟨xs,H1,I1,r,z,q⟩=>⟨by rw[<-r.length];exact z,?_⟩);have hf:H1 s1.heap.objs.size=none:=I1.hok.fresh (Xx _);refine⟨.ref s1.heap.objs.size,upd H1 s1.heap.objs.size (.lst xs),I1.laid (t':=s1.toks) (λb u e=>Xm _ e) (Xx _) ?_,rfl,q _ hf⟩;exact⟨z,us,0,r,XA _ rfl⟩
end
abbrev Sp:=List V->Hp->VK->XK->Prop
abbrev BC:=List Env->Hp->Xl->XK->Value->Xl->Prop
structure Env0 (P:XR) (w:World) (K:Xr) (mg:Str->Option Value) (base:Heap) (A:X6) (outer:List Env) (s:Xl) (H:Hp):Prop where
 frames:A.frames=some outer
 mod:Mod K mg base
 bs:∀b o,base.get? b=some o->s.heap.get? b=some o/\H b=none
 bsz:base.objs.size<=s.heap.objs.size
 funs:s.heap.FunFrames base outer
 frf:∀b∈fM outer,H b=none
 hok:HOk P w H s.heap
 bare:abE s.gens
def CE(outer:List Env)(P:XR)(w:World)(H:Hp)(s:Xl)(Q:VK)(u:Value)(s':Xl):Prop:=
 ∃v H',s'.os=s.os/\abE s'.gens/\Un (fM outer) [] H H' s.heap s'.heap/\HOk P w H' s'.heap/\RelV v u/\Q v H'
def CR(CX:BC)(outer:List Env)(P:XR)(w:World)(H:Hp)(s:Xl)(Q:VK)(E:XK)(r:adn)(s':Xl):Prop:=
 match r with
 | .ok (.ret u)=>CE outer P w H s Q u s'
 | .ok _=>False
 | .error e=>CX outer H s E e s'
structure FnOk (P:XR) (w:World) (K:Xr) (mg:Str->Option Value) (base:Heap) (CX:BC) (k:Nat) (f:Addr) (fd:ZC) (ps:List Str) (sp:Sp):Prop where
 len:∀vs H Q E,sp vs H Q E->vs.length=ps.length
 run:∀(A:X6) (outer:List Env) (s:Xl) (H:Hp) (args:Args) (us:List Value) (vs:List V) (Q:VK) (E:XK),Room k A->Env0 P w K mg base A outer s H->ac3 s fd args (ps.zip us)->Vals vs us->sp vs H Q E->
  aaK (model P w) A (.call (.ref f) args) (CR CX outer P w H s Q E) s
theorem FnOk.mono{P:XR}{w:World}{K:Xr}{mg:Str->Option Value}{base:Heap}{CX:BC}{j k:Nat}{f:Addr}{fd:ZC}{ps:List Str}{sp:Sp}(F:FnOk P w K mg base CX j f fd ps sp)(h:j<=k):
 FnOk P w K mg base CX k f fd ps sp:=⟨F.len,λA outer s H args us vs Q E hr=>F.run A outer s H args us vs Q E (hr.mono h)⟩
section
variable{X:Cx}{f8:List (Addr×Obj)}{σ:St}{H:Hp}{s s':Xl}
theorem Inv.env0(I:Inv X f8 σ H s):Env0 X.prog X.w X.K X.mg X.base X.A X.stack s H:=
 ⟨I.ok.frames,I.ok.mod,I.bs,X2 I.ok.bsz I.sz,I.stack,I.stkFree,I.hok,I.bare⟩
theorem Inv.after{Q:VK}{u:Value}(I:Inv X f8 σ H s)(h:CE X.stack X.prog X.w H s Q u s'):EP X f8 σ Q u s':=by
 obtain⟨v,H',os,bare,un,hok,r,q⟩:=h;obtain⟨hh,g,d,t,WD⟩:=s';obtain rfl:WD=s.os:=os;exact⟨v,H',I.call (h':=hh) (g':=g) (d':=d) (t':=t) (ch:=[]) un hok bare (λb z=>ad3 z (by simp)),r,q⟩
end
def Qa(sp:Sp)(KA:List V)(E:XK)(t:TA):TE:=λσ H Q=>t σ H λvs H1=>sp (vs++KA) H1 Q E
def Binds(K:Xr)(fd:ZC)(ps:List Str)(ds:List Value):Prop:=
 ∀(s:Xl) (us:List Value),K.In s.heap->(us++ds).length=ps.length->ac3 s fd ⟨us,[]⟩ (ps.zip (us++ds))
theorem Binds.all{K:Xr}{fd:ZC}{ps:List Str}(h:∀us:List Value,us.length=ps.length->bindArgs fd ⟨us,[]⟩=pure (ps.zip us)):Binds K fd ps []:=λs us _ hl=>by
 rw[X0] at hl⊢;exact .of_eq (h us hl)
def Passes(CX:BC)(X:Cx)(E:XK):Prop:=∀(f8:List (Addr×Obj)) (σ:St) (H:Hp) (s:Xl) (e:Value) (s':Xl),Inv X f8 σ H s->CX X.stack H s E e s'->X.xe e s'
section
variable{X:Cx}{CX:BC}{k:Nat}{f:Addr}{fd:ZC}{ps:List Str}{sp:Sp}{KA:List V}{ds:List Value}{E:XK}{x:Str}{p pos:Pos}{e:Expr}{es:List Expr}{t:TA}
theorem Hf{f8:List (Addr×Obj)}{σ:St}{H:Hp}{s:Xl}{Q:VK}{us:List Value}{vs:List V}(F:FnOk X.prog X.w X.K X.mg X.base CX k f fd ps sp)(hr:Room k X.A)(hb:Binds X.K fd ps ds)(hd:Vals KA ds)(hx:Passes CX X E)
 (I:Inv X f8 σ H s)(r:Vals vs us)(h:sp (vs++KA) H Q E):wpAny (model X.prog X.w) X.A (call (.ref f) us) (EP X f8 σ Q) X.xe s:=by
 have r2:Vals (vs++KA) (us++ds):=r.append hd;have hl:(us++ds).length=ps.length:=by rw[<-r2.length];exact F.len _ _ _ _ h
 refine wpAny_call (acz (F.run X.A X.stack s H ⟨us,[]⟩ (us++ds) (vs++KA) Q E hr I.env0 (hb s us I.kIn hl) r2 h) λr s' hq=>?_);cases r with
 |error e=>exact hx f8 σ H s e s' I hq
 |ok fl=>
  cases fl with
  |ret u=>exact I.after hq
  |next=>exact YX hq
  |brk=>exact YX hq
  |cont=>exact YX hq
theorem JK(F:FnOk X.prog X.w X.K X.mg X.base CX k f fd ps sp)(hr:Room k X.A)(hg:Gl X x)(hm:X.mg x=some (.ref f))(hk:YV X.K (.ref f)=true)(hb:Binds X.K fd ps ds)(hd:Vals KA ds)(hx:Passes CX X E)
 (ha:PA X (e::es) t)(l5:(x==("__debug__":Str))=false:=by decide)(he:Xz (e::es) X.env=(false,eval e X.env)::Xz es X.env:=by rfl)(kK:(Y9 pos (Xz es X.env)).any (·.1)=false:=by rfl):
 PE X (.Call (.Name x p) (e::es) [] pos) (Qa sp KA E t):=by
 intro f8 s σ H Q I h;refine aa4 (l_ I hg hm ?_ l5);refine abu (h₀:=X.base) I.ok.mod.kin hk (cC (ha pos f8 s σ H _ I h) λus s1 ⟨vs,H1,I1,r,q⟩=>⟨I1.kIn,?_⟩) he kK;exact Hf F hr hb hd hx I1 r q
end
section
variable{ks:List Str}
end
structure FnScope (N P:List Str) (sc:Scope):Prop where
 kind:sc.kind= .function
 co:sc.isCoroutine=false
 gen:sc.isGenerator=false
 nd:N.Nodup
 pre:N.take P.length=P
 par:∀x∈P,sc.names.lookup x=some .local\/sc.names.lookup x=some .cell
 nofree:∀y∈sc.names,y.2≠ .free
theorem tW{abr:Str->Option aa5}{x:Str}:∀{binds:List (Str×Value)}{m:Str->Option Value},(∀v,(x,v)∉binds)->bindL abr binds m x=m x
 |[],_,_=>rfl
 |(n,v)::r,m,h=>by
  unfold bindL;rw[tW λw hw=>h w (Xj _ hw)];split
  ·have:x≠n:=by rintro rfl;exact h v Xk
   simp[this]
  ·rfl
theorem tU{abr:Str->Option aa5}{x:Str}:∀{binds:List (Str×Value)}{m:Str->Option Value},(∀v,(x,v)∉binds)->bindC abr binds m x=m x
 |[],_,_=>rfl
 |(n,v)::r,m,h=>by
  unfold bindC;rw[tU λw hw=>h w (Xj _ hw)];split
  ·rfl
  ·have:x≠n:=by rintro rfl;exact h v Xk
   simp[this]
theorem tV{abr:Str->Option aa5}{x:Str}{v:Value}:∀{P:List Str}{vs:List Value}{i:Nat}{m:Str->Option Value},P.Nodup->P[i]? =some x->vs[i]? =some v->abr x=some .local->
 bindL abr (P.zip vs) m x=some v
 |[],_,_,_,_,h,_,_=>by simp at h
 |_::_,[],_,_,_,_,h,_=>by simp at h
 |p::P,w::vs,0,m,nd,h1,h2,hk=>by
  simp at h1 h2;subst h1;subst h2;show bindL abr ((p,w)::P.zip vs) m p=_;unfold bindL;rw[tW λv hv=>(Zb.mp nd).1 (abj hv).1,adY hk];simp
 |p::P,w::vs,i+1,m,nd,h1,h2,hk=>by
  show bindL abr ((p,w)::P.zip vs) m x=_;unfold bindL;exact tV (i:=i) (Zb.mp nd).2 (by simpa using h1) (by simpa using h2) hk
theorem tT{abr:Str->Option aa5}{x:Str}{v:Value}:∀{P:List Str}{vs:List Value}{i:Nat}{m:Str->Option Value},P.Nodup->P[i]? =some x->vs[i]? =some v->abr x≠some .local->
 bindC abr (P.zip vs) m x=some v
 |[],_,_,_,_,h,_,_=>by simp at h
 |_::_,[],_,_,_,_,h,_=>by simp at h
 |p::P,w::vs,0,m,nd,h1,h2,hk=>by
  simp at h1 h2;subst h1;subst h2;show bindC abr ((p,w)::P.zip vs) m p=_;unfold bindC;rw[tU λv hv=>(Zb.mp nd).1 (abj hv).1,ad0 hk];simp
 |p::P,w::vs,i+1,m,nd,h1,h2,hk=>by
  show bindC abr ((p,w)::P.zip vs) m x=_;unfold bindC;exact tT (i:=i) (Zb.mp nd).2 (by simpa using h1) (by simpa using h2) hk
def start(N:List Str)(vs:List V):St:=vs.map some++XC (N.length - vs.length) none
def a9(CX:BC)(P:XR)(w:World)(K:Xr)(mg:Str->Option Value)(base:Heap)(N:List Str)(qual:Str)(scope:Scope)(f:Addr)(cd:Value)(A:X6)(outer:List Env)(s:Xl)(H:Hp)(E:XK):Cx where
 prog:=P
 w:=w
 K:=K
 mg:=mg
 base:=base
 A:=A.deeper (Y8 qual scope s.heap.objs.size f cd)
 N:=N
 ad9:=s
 ad8:=H
 env:=Y8 qual scope s.heap.objs.size f cd
 outer:=outer
 stack:=Y8 qual scope s.heap.objs.size f cd::outer
 ex:=[]
 calm:=true
 fn:=λ_=>true
 pn:=[]
 xe:=λe s'=>wpAny (model P w) (A.deeper (Y8 qual scope s.heap.objs.size f cd)) (leaving (Y8 qual scope s.heap.objs.size f cd) e) (λ_ SW=>CX outer H s E e SW) (λe' SW=>CX outer H s E e' SW) s'
theorem xX{sc:Scope}{n:Nat}{x:Str}(h:sc.names.lookup x=some .cell):∃c,(acV n sc.names []).lookup x=some c:=by
 have q:=aa1 sc.names n [] (.inl h);exact Yj.mp q
theorem um{CX:BC}{P:XR}{w:World}{K:Xr}{mg:Str->Option Value}{base:Heap}{N ps:List Str}{qual:Str}{scope:Scope}{f:Addr}{cd:Value}{A:X6}{outer:List Env}{s s1:Xl}{H:Hp}{E:XK}{us:List Value}{vs:List V}
 (S:FnScope N ps scope)(hd:A.handled=none)(e0:Env0 P w K mg base A outer s H)(hl:vs.length=ps.length)(r:Vals vs us)
 (x:InCallC s s.heap.objs.size (bindL (Y8 qual scope s.heap.objs.size f cd).kindOf (ps.zip us) λ_=>none) (acV (s.heap.objs.size+1) scope.names []) (bindC (Y8 qual scope s.heap.objs.size f cd).kindOf (ps.zip us) λ_=>none) s1):
 Inv (a9 CX P w K mg base N qual scope f cd A outer s H E) [] (start N vs) H s1:=by
 have kK:ps.length<=N.length:=by have:=ad7 adq S.pre;rw[abb] at this;omega
 obtain⟨h1,tk,rfl,hk⟩:=x.done;have Pf:∀b:Addr,b∉(a9 CX P w K mg base N qual scope f cd A outer s H E).ex:=λb z=>ad3 (show b∈([]:List Addr) from z) (by simp);refine⟨⟨e0.mod,S.kind,rfl,rfl,Xx _,λy z c h1 h2=>?_,λy hy=>?_,λy c _ h=>?_,λ_=>hd,ac4 e0.frames, .inr ⟨rfl,rfl⟩,λb z=>ad3 z (Pf b),e0.bs,e0.bsz,λb _ _=>Pf b,λb z=>ad3 z (Pf b),e0.funs,e0.frf⟩,
  rfl,e0.bare,Un.kept hk,⟨_,x.toInCall.ns,λi y v h1 h2 h3=>?_⟩,λy c h=>⟨_,x.cell y c h⟩,e0.hok.fresh (Xx _),λy c h=>?_,λp hp=>ad3 (show p∈([]:List (Addr×Obj)) from hp) (by simp),e0.hok.kept hk,?_⟩
 ·exact name_of_addr x.apart (Y_ h1) (Y_ h2)
 ·have hy:scope.names.lookup y=some .cell\/scope.names.lookup y=some .free:=hy;rcases hy with hy | hy
  ·exact xX hy
  ·exact ad3 rfl (S.nofree _ (Y_ hy))
 ·exact Y6 (x.above y c (Y_ h))
 ·have hi:i<vs.length:=by
   unfold start at h2;by_cases hi:i<vs.length
   ·exact hi
   ·rw[Yg (by simpa using hi)] at h2;rw[YR] at h2;split at h2<;>cases h2
  have ha:vs[i]? =some v:=by
   unfold start at h2;rw[Yb (by simpa using hi),Xv] at h2;cases e:vs[i]? with
   |none=>rw[e] at h2;cases h2
   |some a=>rw[e] at h2;cases h2;rfl
  obtain⟨u,hu,rv⟩:=r.get ha;have hp:ps[i]? =some y:=by
   rw[<-S.pre,List.getElem?_take_of_lt (by omega)];exact h1
  have Ux:ps.Nodup:=by rw[<-S.pre];exact S.nd.sublist (List.take_sublist _ _)
  refine⟨u,rv,?_⟩;rcases S.par y (Ye hp) with k | k
  ·exact .inl ⟨k,tV Ux hp hu k⟩
  ·obtain⟨c,e⟩:=xX (n:=s.heap.objs.size+1) k;refine .inr ⟨.inl k,c,e,?_⟩;have q:=x.cell y c e;rw[tT Ux hp hu (by show scope.names.lookup y≠_;rw[k];decide)] at q;exact q
 ·exact e0.hok.fresh (Y6 (x.above y c (Y_ h)))
 ·unfold start;show _=N.length;rw[Xq,Xh,abk];omega
theorem KG{CX:BC}{P:XR}{w:World}{K:Xr}{mg:Str->Option Value}{base:Heap}{k:Nat}{f:Addr}{name qual:Str}{params:Arguments}{body:List Stmt}{scope:Scope}{dV kV doc pm cg ct oc:Value}{an od:Option Addr}
 {EF:Array (Option Value)}{N ps:List Str}{sp:Sp}(lk:K.lookup f=some ⟨oc,od, .func (YN name qual params body scope dV kV doc pm an cg ct),EF⟩)(uf:ZW K cg qual=true)(S:FnScope N ps scope)
 (len:∀vs H Q E,sp vs H Q E->vs.length=ps.length)
 (iB:∀(A:X6) (outer:List Env) (s:Xl) (H:Hp) (vs:List V) (Q:VK) (E:XK),Room k (A.deeper (Y8 qual scope s.heap.objs.size f cg))->sp vs H Q E->
  ∃t,PSs (a9 CX P w K mg base N qual scope f cg A outer s H E) body t/\t {nx:=λ_ H'=>Q .non H',rt:=Q} (start N vs) H):
 FnOk P w K mg base CX (k+1) f (YN name qual params body scope dV kV doc pm an cg ct) ps sp:=by
 refine⟨len,λA outer s H args us vs Q E hr e0 hb r uh=>?_⟩;have hl:=len _ _ _ _ uh;have KX:K.In s.heap:=e0.mod.kin.keeps λb o e=>(e0.bs b o e).1;have lim:s.heap.NoLimit:=e0.mod.nolimit.keeps λb o e=>(e0.bs b o e).1;have FG:∀y∈ps.zip us,scope.names.lookup y.1=some .local\/(scope.names.lookup y.1=some .cell/\((acV (s.heap.objs.size+1) scope.names []).lookup y.1).isSome=true):=λ⟨n,v⟩ hy=>by
  rcases S.par n (abj hy).1 with q | q
  ·exact .inl q
  ·exact .inr ⟨q,aa1 _ _ _ (.inl q)⟩
 refine codeAny_call_function hr.depth (KX _ _ lk) rfl S.co S.gen rfl (ac8 KX uf) (hb _ _ _ _ ?_);refine ac5 S.kind FG λenv he s1 x=>?_;subst he;refine⟨lim.keeps x.toInCall.keep,codeAny_func ?_⟩;obtain⟨t,ht,hq⟩:=iB A outer s H vs Q E (hr.deeper _) uh;have I:Inv (a9 CX P w K mg base N qual scope f cg A outer s H E) [] (start N vs) H s1:=um S hr.hd e0 hl r x;refine YA (ht [] s1 (start N vs) H _ I hq) (λfl s' hs=>?_) λe s' hs=>hs;have fin:∀{σ':St}{H':Hp}{v:V}{u:Value},Inv (a9 CX P w K mg base N qual scope f cg A outer s H E) [] σ' H' s'->RelV v u->Q v H'->CE outer P w H s Q u s':=
  λ{σ' H' v u} J rv q=>⟨v,H',J.os,J.bare,J.base,J.hok,rv,q⟩
 cases fl with
 |ret u=>
  obtain⟨v,σ',H',J,rv,q⟩:=hs;exact fin J rv q
 |next=>
  obtain⟨σ',H',J,q⟩:=hs;exact fin (v:=V.non) (u:=Yk) J rfl q
 |brk=>
  obtain⟨_,_,_,q⟩:=hs;exact YX q
 |cont=>
  obtain⟨_,_,_,q⟩:=hs;exact YX q
section
variable{X:Cx}{x:Str}{p pos:Pos}{e:Expr}{es:List Expr}{t:TA}{id T:String}{r:List V->Hp->VK->Prop}
def S7(r:List V->Hp->VK->Prop)(t:TA):TE:=λσ H Q=>t σ H λvs H1=>r vs H1 Q
theorem GU(hc:CallR X (.builtin id) r)(hg:Gl X x)(hm:X.mg x=none)(hv:Yd x=some (.builtin id))(ha:PA X (e::es) t)(hn:x≠"__name__":=by decide)(l5:(x==("__debug__":Str))=false:=by decide)
 (he:Xz (e::es) X.env=(false,eval e X.env)::Xz es X.env:=by rfl)(kK:(Y9 pos (Xz es X.env)).any (·.1)=false:=by rfl):PE X (.Call (.Name x p) (e::es) [] pos) (S7 r t):=by
 intro f8 s σ H Q I h;refine aa4 (nK I hg hm hv ?_ hn l5);exact PyProof.Rows.callWith_builtin1 (cC (ha pos f8 s σ H _ I h) λus s1 ⟨vs,H1,I1,r1,q1⟩=>hc f8 s1 σ H1 vs us Q I1 r1 q1) he kK
theorem uN(hc:CallR X (.type T) r)(hg:Gl X x)(hm:X.mg x=none)(hv:Yd x=some (.type T))(ha:PA X (e::es) t)(hn:x≠"__name__":=by decide)(l5:(x==("__debug__":Str))=false:=by decide)
 (he:Xz (e::es) X.env=(false,eval e X.env)::Xz es X.env:=by rfl)(kK:(Y9 pos (Xz es X.env)).any (·.1)=false:=by rfl):PE X (.Call (.Name x p) (e::es) [] pos) (S7 r t):=by
 intro f8 s σ H Q I h;refine aa4 (nK I hg hm hv ?_ hn l5);exact Zz (cC (ha pos f8 s σ H _ I h) λus s1 ⟨vs,H1,I1,r1,q1⟩=>hc f8 s1 σ H1 vs us Q I1 r1 q1) he kK
end
end L2
namespace HT
open PySem PyProof.Rows
def lexLt:List Int->List Int->Bool
 |[],[]=>false
 |[],_::_=>true
 |_::_,[]=>false
 |x::xs,y::ys=>if x=y then lexLt xs ys else decide (x<y)
theorem lexLt_cons(x y:Int)(xs ys:List Int):lexLt (x::xs) (y::ys)=if x=y then lexLt xs ys else decide (x<y):=rfl
theorem lexLt_nil_nil:lexLt [] []=false:=rfl
theorem lexLt_nil_cons(y:Int)(ys:List Int):lexLt [] (y::ys)=true:=rfl
theorem lexLt_cons_nil(x:Int)(xs:List Int):lexLt (x::xs) []=false:=rfl
theorem eqAt_int(A:X6)(s:Xl)(a:Int)(t:Tok)(c:Int)(u:Tok):∃e,adC A s (.int a t) (.int c u) e/\(e=true↔a=c):=
 ⟨(a==c),acL a t c u,by simp⟩
theorem rcLt_int(A:X6)(s:Xl)(a:Int)(t:Tok)(c:Int)(u:Tok)(prog:XR)(w:World)(E:Value->Xl->Prop)(Q:Value->Xl->Prop)(h:Q (.bool (decide (a<c))) s):
 wpAny (model prog w) A (aas .Lt (.int a t) (.int c u)) Q E s:=
 (ab9 h:wpAny (model prog w) A (X9 .Lt (.int a t) (.int c u)) Q E s)
section
open PySem.SeqAt
open PySem.AutoSeq1 (wpAny_loadPart')
open PySem.MeetsSeq PySem.MeetsSeq2 PySem.MeetsSeq3
theorem tuple_lt_ints(l b:Addr)(items cM:Array Value)(n n2:Nat)(dd t7:Option Addr)(sl EH:Array (Option Value))(ns ms:List Int)(hi:YH items.toList ns)(hj:YH cM.toList ms):
 Meets (aaM.«tuple.__lt__» ⟨[.ref l, .ref b],[]⟩)
  (λ_ R s=>s.heap.get? l=some {cls:= .type "tuple",dict:=dd,data:= .seq items n,slots:=sl}/\s.heap.get? b=some {cls:= .type "tuple",dict:=t7,data:= .seq cM n2,slots:=EH}/\
   R (.ok (.ret (.bool (lexLt ns ms)))) s):=
 .of_wp λprog w A R s h=>by
  obtain⟨hp,g,d,tk,os⟩:=s;obtain⟨hl,hb,h⟩:=h;have f2:=ab7;have z1:items.size=ns.length:=by rw[<-hi.length];simp
  have z2:cM.size=ms.length:=by rw[<-hj.length];simp
  wp_walk using wpAny_loadPart' hl,wpAny_loadPart' hb,abq _ (λW1 b s'=>b.1=none/\s'=⟨hp,g,d,tk,os⟩/\∃(vs ws:List Value) (D2 DZ:List Int),W1=vs.zip ws/\
   YH vs D2/\YH ws DZ/\D2.length+cM.size=DZ.length+items.size/\R (.ok (.ret (.bool (lexLt D2 DZ)))) ⟨hp,g,d,tk,os⟩) _
  case turn=>
   rintro⟨y,x⟩ W1 b s' ⟨xJ,rfl,vs,ws,D2,DZ,hz,L5,IH,v6,hR⟩;cases L5 with
   |nil=>rw[adT] at hz;cases hz
   |cons a t L6=>
    cases IH with
    |nil=>rw[adI] at hz;cases hz
    |cons c u L7=>
     rw[YO] at hz;injection hz with Sf FN
     injection Sf with hy hx
     subst hy hx;rw[lexLt_cons] at hR;simp only[Xo] at v6;obtain⟨e,he,FE⟩:=eqAt_int A.in1 ⟨hp,g,d,tk,os⟩ a t c u;refine Xg (he prog w _ _ ?_);cases e with
     |true=>
      rw[adY (FE.mp rfl)] at hR
      wp_walk
      exact⟨rfl,rfl,_,_,_,_,FN,L6,L7,by omega,hR⟩
     |false=>
      rw[ad0 (λq=>ad3 (FE.mpr q) XM)] at hR;have R6:=rcLt_int A.in1 ⟨hp,g,d,tk,os⟩ a t c u prog w
      wp_walk using R6
      exact⟨_,rfl,by simpa using hR⟩
  case fin=>
   rintro⟨b1,b2⟩ s' ⟨xJ,rfl,vs,ws,D2,DZ,hz,L5,IH,v6,hR⟩;simp only at xJ;subst xJ;have hv:lexLt D2 DZ=decide (items.size<cM.size):=by
    cases L5 with
    |nil=>
     cases IH with
     |nil=>
      simp only[X5] at v6;rw[lexLt_nil_nil];exact(ad2 (by omega)).symm
     |cons c u hw=>
      simp only[X5,Xo] at v6;rw[lexLt_nil_cons];exact(ad1 (by omega)).symm
    |cons a t hv=>
     cases IH with
     |nil=>
      simp only[X5,Xo] at v6;rw[lexLt_cons_nil];exact(ad2 (by omega)).symm
     |cons c u hw=>
      rw[YO] at hz;cases hz
   rw[hv] at hR
   wp_walk
   exact⟨_,rfl,by simpa[abi] using hR⟩
  case h=>
   exact⟨rfl,rfl,items.toList,cM.toList,ns,ms,rfl,hi,hj,by omega,h⟩
end
section
variable{prog:XR}{w:World}{A:X6}{E:Value->Xl->Prop}{s:Xl}
theorem lt_tupInts{l b:Addr}{items cM:Array Value}{ns ms:List Int}{Q:Value->Xl->Prop}(hl:IsTup s.heap l items)(hb:IsTup s.heap b cM)(hi:YH items.toList ns)(hj:YH cM.toList ms)
 (hu:A.units<cLine)(h:Q (.bool (lexLt ns ms)) s):wpAny (model prog w) A (X9 .Lt (.ref l) (.ref b)) Q E s:=by
 obtain⟨⟨cls,dd,data,sl⟩,ho,hc,n,hd⟩:=id hl;obtain⟨⟨Lr,t7,data2,EH⟩,Dx,BZ,n2,hd2⟩:=id hb;simp only at hc hd BZ hd2;subst hc hd BZ hd2;exact adO (op:= .Lt) ⟨_,ho,rfl⟩ ⟨_,Dx,rfl⟩ PySem.F.slot_tuple_lt PySem.F.entry_tuple_lt (PySem.F.args_tuple_lt_2 _ _) (tuple_lt_ints l b items cM n n2 dd t7 sl EH ns ms hi hj)
  ⟨ho,Dx,show Zq (lexLt ns ms)≠ac6/\Q (.bool (lexLt ns ms)) s from⟨(λx=>nomatch x),h⟩⟩ hu
theorem cat_tup{t b:Addr}{vs ws:List Value}{Q:Value->Xl->Prop}(ht:IsTup s.heap t vs.toArray)(hb:IsTup s.heap b ws.toArray)(hv:vs≠[])
 (h1:ws=[]->Q (.ref t) s)(h2:ws≠[]->Q (.ref s.heap.objs.size) {s with heap:=s.heap.push {cls:= .type "tuple",data:= .seq (vs++ws).toArray} })
 (hsz:vs.length+ws.length<=XH):wpAny (model prog w) A (aay .Add (.ref t) (.ref b)) Q E s:=by
 obtain⟨⟨cls,dd,data,sl⟩,ho,hc,n,hd⟩:=id ht;obtain⟨⟨Lr,t7,data2,EH⟩,Dx,BZ,n2,hd2⟩:=id hb;simp only at hc hd BZ hd2;subst hc hd BZ hd2;have e:vs.toArray++ws.toArray=(vs++ws).toArray:=by simp
 by_cases hw:ws=[]
 ·exact concat_meets ⟨_,ho,rfl⟩ ⟨_,Dx,rfl⟩ acI ady aa2 aaV (aaQ _ _)
   (tuple_addW1 t b vs.toArray ws.toArray n n2 dd t7 sl EH (by simpa using hv) (by simp[hw])) ⟨ho,Dx,h1 hw⟩
 ·refine concat_meets ⟨_,ho,rfl⟩ ⟨_,Dx,rfl⟩ acI ady aa2 aaV (aaQ _ _)
   (tuple_addW2 t b vs.toArray ws.toArray n n2 dd t7 sl EH (by simpa using hv) (by simpa using hw) (by rw[Xu,Xu];exact hsz)) ⟨ho,Dx,?_⟩
  rw[e];exact h2 hw
def sIx(n d:Nat):Option Int->Nat
 |none=>d
 |some v=>if v<0 then(v+(n:Int)).toNat else min v.toNat n
theorem sIx_none(n d:Nat):sIx n d none=d:=rfl
end
end HT
namespace L2
open PySem PySem.Spec PyProof.Rows
abbrev TO:=St->Hp->(Option Int->Hp->Prop)->Prop
theorem intsAre_of{ns:List Int}:∀{us:List Value},Vals (ns.map V.int) us->YH us ns:=by
 induction ns with
 |nil=>intro us r;rw[Y0] at r;cases r;exact .nil
 |cons n ns ih=>
  intro us r;rw[Xp] at r;cases r with
  |cons r1 r2=>
   obtain⟨t,e⟩:=r1;subst e;exact .cons n t (ih r2)
section
variable{X:Cx}{lo hi:Option Expr}{p2:Pos}
def UJ(X:Cx)(r:V->Option Int->Option Int->Hp->VK->Prop):Prop:=
 ∀(f8:List (Addr×Obj)) (s:Xl) (σ:St) (H:Hp) (x:V) (v vl vu:Value) (lo hi:Option Int) (sl:Addr) (Q:VK),Inv X f8 σ H s->RelV x v->s.heap.IsSliceOf sl vl vu .none->IsPart vl lo->IsPart vu hi->r x lo hi H Q->
  ∃T id,abF (.type T) "__getitem__"=pure (some (.builtin id))/\s.TypeIs v T/\wpAny (model X.prog X.w) X.A (adA v (.ref sl)) (EP X f8 σ Q) X.xe s
def Ij(xs:List V)(lo hi:Option Int):List V:=(xs.drop (HT.sIx xs.length 0 lo)).take (HT.sIx xs.length xs.length hi - HT.sIx xs.length 0 lo)
theorem ya(xs:List V)(lo hi:Option Int):(Ij xs lo hi).length<=xs.length:=by
 unfold Ij;rw[abb,List.length_drop];omega
def PY(K:Xr):R2:=λx y H Q=>∃a b ns ms,x= .ref a/\y= .ref b/\SqT K H a (ns.map V.int)/\SqT K H b (ms.map V.int)/\Q (.bl (HT.lexLt ns ms)) H
theorem MF(hu:X.A.units<cLine):OpR X (X9 .Lt) (PY X.K):=by
 intro f8 s σ H x y v u Q I rx ry h;obtain⟨a,b,ns,ms,rfl,rfl,ha,hb,q⟩:=h;cases rx;cases ry;obtain⟨aL,r1,p1,_⟩:=I.tuple ha;obtain⟨e7,r2,p2,_⟩:=I.tuple hb;have i1:YH aL.toArray.toList ns:=intsAre_of r1;have i2:YH e7.toArray.toList ms:=intsAre_of r2;exact HT.lt_tupInts p1 p2 i1 i2 hu ⟨.bl (HT.lexLt ns ms),H,I,rfl,q⟩
def PK(K:Xr):R2:=λx y H Q=>∃a b xs ys,x= .ref a/\y= .ref b/\SqT K H a xs/\SqT K H b ys/\xs≠[]/\xs.length+ys.length<=XH/\
 (ys=[]->Q (.ref a) H)/\(ys≠[]->∀p,H p=none->Q (.ref p) (upd H p (.tup (xs++ys))))
theorem Vals.nil_iff{xs:List V}{us:List Value}(r:Vals xs us):us=[]↔xs=[]:=by
 cases r with
 |nil=>simp
 |cons _ _=>simp
theorem Jr:OpR X (aay .Add) (PK X.K):=by
 intro f8 s σ H x y v u Q I rx ry h;obtain⟨a,b,xs,ys,rfl,rfl,ha,hb,hx,hz,q1,q2⟩:=h;cases rx;cases ry;obtain⟨aL,r1,p1,_⟩:=I.tuple ha;obtain⟨e7,r2,p2,_⟩:=I.tuple hb;refine HT.cat_tup p1 p2 (λz=>hx (r1.nil_iff.mp z)) (λz=>⟨.ref a,H,I,rfl,q1 (r2.nil_iff.mp z)⟩) (λz=>?_) (by rw[<-r1.length,<-r2.length];exact hz);refine⟨.ref s.heap.objs.size,_,I.laid (t':=s.toks) (o:= .tup (xs++ys)) (λb ob q=>Xm _ q) (Xx _) ?_,rfl,q2 (λw=>z (r2.nil_iff.mpr w)) _ (I.hok.fresh (Xx _))⟩;exact⟨by rw[Xq];exact hz,_,r1.append r2,IsTup.new _ _⟩
end
def AG(n:Nat)(i:Int):Option Nat:=if 0<=i then(if i<n then some i.toNat else none) else if -(n:Int)<=i then some (i+n).toNat else none
def atI{α:Type}(xs:List α)(i:Int):Option α:=(AG xs.length i).bind λj=>xs[j]?
theorem IS{n:Nat}{i:Int}{j:Nat}(h:AG n i=some j):seqIndex? i n=some j/\j<n/\ -(n:Int)<=i/\i<n:=by
 unfold AG at h;by_cases h0:0<=i
 ·rw[adY h0] at h;by_cases h1:i<n
  ·rw[adY h1] at h;have e:i.toNat=j:=XT h;exact⟨by rw[seqIndex_of h0 h1,e],by omega,by omega,h1⟩
  ·rw[ad0 h1] at h;cases h
 ·rw[ad0 h0] at h;by_cases h1: -(n:Int)<=i
  ·rw[adY h1] at h;have e:(i+n).toNat=j:=XT h;exact⟨by rw[seqIndex_neg (by omega) h1,e],by omega,h1,by omega⟩
  ·rw[ad0 h1] at h;cases h
theorem vg{α:Type}{xs:List α}{i:Int}{v:α}(h:atI xs i=some v):∃j,seqIndex? i xs.length=some j/\xs[j]? =some v/\j<xs.length/\ -(xs.length:Int)<=i/\i<xs.length:=by
 unfold atI at h;cases e:AG xs.length i with
 |none=>rw[e] at h;cases h
 |some j=>
  rw[e] at h;obtain⟨h1,h2,h3,h4⟩:=IS e;exact⟨j,h1,h,h2,h3,h4⟩
theorem xP{α:Type}(xs:List α)(v:α):atI (xs++[v]) (-1)=some v:=by
 have hl:(xs++[v]).length=xs.length+1:=by simp
 have e:AG (xs++[v]).length (-1)=some xs.length:=by
  unfold AG;rw[hl,ad0 (by decide),adY (by omega)];congr 1;omega
 unfold atI;rw[e];show (xs++[v])[xs.length]? =some v;simp
def iU(b:Expr):Prop:=∀o i,subscripted b false o i=operate [o,i] (adA o i)
def N1(X:Cx)(r:R2):Prop:=
 ∀(value slice:Expr) (f8:List (Addr×Obj)) (s:Xl) (σ:St) (H:Hp) (x y:V) (v u:Value) (Q:VK),Inv X f8 σ H s->RelV x v->RelV y u->r x y H Q->
  subscripted slice false v u=operate [v,u] (adA v u)->wpAny (model X.prog X.w) X.A (subscriptTail value slice v u) (EP X f8 σ Q) X.xe s
def NK(X:Cx)(id:String)(r:V->List V->Hp->VK->Prop):Prop:=
 ∀(f8:List (Addr×Obj)) (s:Xl) (σ:St) (H:Hp) (x:V) (xs:List V) (v:Value) (us:List Value) (Q:VK),Inv X f8 σ H s->RelV x v->Vals xs us->r x xs H Q->
  wpAny (model X.prog X.w) X.A (call (.builtin id) (v::us)) (EP X f8 σ Q) X.xe s
section
variable{X:Cx}{a b:Expr}{ta tb:TE}{pos:Pos}
theorem K_{r:R2}(hr:N1 X r)(ha:PE X a ta)(hb:PE X b tb)(hs:iU b):PE X (.Subscript a b pos) (Qe r ta tb):=by
 intro f8 s σ H Q I h;exact Subscript_ (Lk ha hb I h λv u s2 x y H2 I2 rx ry q=>hr a b f8 s2 σ H2 x y v u Q I2 rx ry q (hs _ _))
def Np(K:Xr):R2:=λx y H Q=>∃p xs i v,x= .ref p/\y= .int i/\SqL K H p xs/\atI xs i=some v/\Q v H
def PX(K:Xr):R2:=λx y H Q=>∃p xs i v,x= .ref p/\y= .int i/\SqT K H p xs/\atI xs i=some v/\Q v H
def PV:R2:=λx y H Q=>∃z i c,x= .str z/\y= .int i/\z.length<=XH/\atI z.cps.toList i=some c/\Q (.str ⟨#[c]⟩) H
theorem vU:N1 X (Np X.K):=by
 intro value slice f8 s σ H x y v u Q I rx ry h hs;obtain⟨p,xs,i,z,rfl,rfl,hq,he,q⟩:=h;cases rx;obtain⟨t,rfl⟩:=ry;obtain⟨aL,r,pl,hz⟩:=I.list hq;obtain⟨j,h1,h2,h3,h4,h5⟩:=vg he;obtain⟨w,ew,zW⟩:=r.get h2;have hl:=r.length;have hn:=nM;have fin:EP X f8 σ Q w s:=⟨z,H,I,zW,q⟩
 by_cases h0:0<=i
 ·have hj:i.toNat=j:=by
   rw[seqIndex_of h0 h5] at h1;exact XT h1
  exact item_listR pl.isList h0 (by omega) (by rw[hj];simpa using ew) fin hs
 ·have hj:(i+(aL.toArray.size:Int)).toNat=j:=by
   rw[seqIndex_neg (by omega) h4] at h1;rw[Xu,<-hl];exact XT h1
  exact adN (x:=w) pl.isList.typeIs slot_list_getitem.lookup
   (wpAny_getItem_list_neg (Q:=λr s'=>r=w/\EP X f8 σ Q r s') pl.isList (by omega) (by rw[Xu]<;>omega) (by omega) (by rw[hj];simpa using ew) ⟨rfl,fin⟩) hs
theorem Mi:N1 X (PX X.K):=by
 intro value slice f8 s σ H x y v u Q I rx ry h hs;obtain⟨p,xs,i,z,rfl,rfl,hq,he,q⟩:=h;cases rx;obtain⟨t,rfl⟩:=ry;obtain⟨aL,r,pl,hz⟩:=I.tuple hq;obtain⟨j,h1,h2,h3,h4,h5⟩:=vg he;obtain⟨w,ew,zW⟩:=r.get h2;have hl:=r.length;have hn:=nM;have fin:EP X f8 σ Q w s:=⟨z,H,I,zW,q⟩
 exact adN (x:=w) pl.typeIs slot_tuple_getitem.lookup
  (getItem_tuple (j:=j) (Q:=λr s'=>r=w/\EP X f8 σ Q r s') pl (by omega) (by omega) (by rw[Xu,<-hl];exact h1) (by simpa using ew) ⟨rfl,fin⟩) hs
theorem Mh:N1 X PV:=by
 intro value slice f8 s σ H x y v u Q I rx ry h hs;obtain⟨z,i,c,rfl,rfl,hz,he,q⟩:=h;obtain⟨t,rfl⟩:=rx;obtain⟨t',rfl⟩:=ry;obtain⟨j,h1,h2,h3,h4,h5⟩:=vg he;have hl:z.cps.toList.length=z.length:=by simp[Str.length]
 rw[hl] at h1 h4 h5;have hn:=nM;exact tail_any (typeIs_str s z t) slot_str_getitem.lookup (getItem_str (c:=c) (by
  have e1:decide (i< -(2 ^ 63:Int))=false:=ad2 (by omega);have e2:decide (i>=2 ^ 63)=false:=ad2 (by omega);rw[e1,e2,Bool.or_false]) (by rw[h1];simpa using h2) ⟨.str ⟨#[c]⟩,H,I.tok _,⟨_,rfl⟩,q⟩) hs
theorem Inv.lst{f8:List (Addr×Obj)}{σ:St}{H:Hp}{s:Xl}{p:Addr}{xs:List V}(I:Inv X f8 σ H s)(h:H p=some (.lst xs)):
 ∃(aL:List Value) (n:Nat),Vals xs aL/\s.heap.get? p=some {cls:= .type "list",data:= .seq aL.toArray n}/\xs.length<=XH:=by
 obtain⟨z,aL,n,r,e⟩:=I.hok p _ h;exact⟨aL,n,r,e,z⟩
theorem xc(lo hi:Option Int)(n:Nat):(aaT lo hi none n).1=((HT.sIx n 0 lo:Nat):Int)/\(aaT lo hi none n).2.1=((HT.sIx n n hi:Nat):Int)/\(aaT lo hi none n).2.2=1:=by
 refine⟨?_,?_,rfl⟩
 ·cases lo with
  |none=>simp[aaT,HT.sIx]
  |some i=>
   simp only[aaT,HT.sIx,adF,show (1:Int)>0 by decide,if_true];by_cases h:i<0
   ·simp only[h,if_true]<;>omega
   ·simp only[h,if_false]<;>omega
 ·cases hi with
  |none=>simp[aaT,HT.sIx]
  |some i=>
   simp only[aaT,HT.sIx,adF,show (1:Int)>0 by decide,if_true];by_cases h:i<0
   ·simp only[h,if_true]<;>omega
   ·simp only[h,if_false]<;>omega
theorem tG(aL:List Value)(lo hi:Option Int):slicePick aL.toArray lo hi none=((aL.drop (HT.sIx aL.length 0 lo)).take (HT.sIx aL.length aL.length hi - HT.sIx aL.length 0 lo)).toArray:=by
 obtain⟨h1,h2,h3⟩:=xc lo hi aL.toArray.size;unfold slicePick;rw[h1,h2,h3];simp only[sliceRange_one,pick_run,Xu]<;>rfl
def SU(K:Xr):V->Option Int->Option Int->Hp->VK->Prop:=λx lo hi H Q=>∃a xs,x= .ref a/\SqL K H a xs/\∀p,H p=none->Q (.ref p) (upd H p (.lst (Ij xs lo hi)))
theorem QW:UJ X (SU X.K):=by
 intro f8 s σ H x v vl vu lo hi sl Q I rx hs pl pu h;obtain⟨a,xs,rfl,hx,q⟩:=h;cases rx;obtain⟨aL,r,ht,hz⟩:=I.list hx;have v6:=r.length;refine⟨"list",_,slot_list_getitem.lookup,ht.isList.typeIs,?_⟩;refine wpAny_getItem_list_slice ht.isList hs pl pu .none (by simp) ?_ (by rw[Xu]<;>omega);rw[tG,<-v6];refine⟨.ref s.heap.objs.size,_,I.laid (t':=s.toks) (o:= .lst (Ij xs lo hi)) (λb ob q=>Xm _ q) (Xx _) ?_,rfl,q _ (I.hok.fresh (Xx _))⟩;exact⟨X2 (ya xs lo hi) hz,_,0,(r.drop (HT.sIx xs.length 0 lo)).take (HT.sIx xs.length xs.length hi - HT.sIx xs.length 0 lo),XA _ rfl⟩
def oD:V->Bool
 | .non=>true
 | .bl _=>true
 | .int _=>true
 | .str _=>true
 |_=>false
def HN:V->V->Bool
 | .non, .non=>true
 | .bl a, .bl b=>a==b
 | .bl a, .int b=>(if a then 1 else 0)==b
 | .int a, .bl b=>a==(if b then 1 else 0)
 | .int a, .int b=>a==b
 | .str a, .str b=>a==b
 |_,_=>false
theorem Lw{A:X6}{s:Xl}{y x:V}{u v:Value}(ry:RelV y u)(rx:RelV x v)(fy:oD y=true)(fx:oD x=true):adC A s u v (HN y x):=by
 cases y with
 |non=>
  cases ry;cases x with
  |non=>cases rx;exact SeqAt.EqAt.same _
  |bl b=>cases rx;exact SeqAt.EqAt.none_bool b
  |int b=>obtain⟨t,rfl⟩:=rx;exact SeqAt.EqAt.none_int b t
  |str b=>obtain⟨t,rfl⟩:=rx;exact SeqAt.EqAt.none_str b t
  |_=>exact ad3 (show false=true from fx) XM
 |bl a=>
  cases ry;cases x with
  |non=>cases rx;exact SeqAt.EqAt.bool_none a
  |bl b=>cases rx;exact SeqAt.EqAt.bool_bool a b
  |int b=>obtain⟨t,rfl⟩:=rx;exact SeqAt.EqAt.bool_int a b t
  |str b=>obtain⟨t,rfl⟩:=rx;exact SeqAt.EqAt.bool_str a b t
  |_=>exact ad3 (show false=true from fx) XM
 |int a=>
  obtain⟨t',rfl⟩:=ry;cases x with
  |non=>cases rx;exact SeqAt.EqAt.int_none a t'
  |bl b=>cases rx;exact SeqAt.EqAt.int_bool a t' b
  |int b=>obtain⟨t,rfl⟩:=rx;exact acL a t' b t
  |str b=>obtain⟨t,rfl⟩:=rx;exact acK a t' b t
  |_=>exact ad3 (show false=true from fx) XM
 |str a=>
  obtain⟨t',rfl⟩:=ry;cases x with
  |non=>cases rx;exact SeqAt.EqAt.str_none a t'
  |bl b=>cases rx;exact SeqAt.EqAt.str_bool a t' b
  |int b=>obtain⟨t,rfl⟩:=rx;exact acJ a t' b t
  |str b=>obtain⟨t,rfl⟩:=rx;exact SeqAt.EqAt.str_str a t' b t
  |_=>exact ad3 (show false=true from fx) XM
 |_=>exact ad3 (show false=true from fy) XM
def Ag(x:V)(u:Value):Bool:=match u with
 | .none=>HN .non x
 | .bool b=>HN (.bl b) x
 | .int i _=>HN (.int i) x
 | .str z _=>HN (.str z) x
 |_=>false
theorem Fh{x y:V}{u:Value}(r:RelV y u)(f:oD y=true):Ag x u=HN y x:=by
 cases y with
 |non=>cases r;rfl
 |bl b=>cases r;rfl
 |int i=>obtain⟨t,rfl⟩:=r;rfl
 |str z=>obtain⟨t,rfl⟩:=r;rfl
 |_=>exact ad3 (show false=true from f) XM
theorem lN{x:V}:∀{xs:List V}{us:List Value},Vals xs us->xs.all oD=true->us.any (Ag x)=xs.any λy=>HN y x
 |_,_, .nil,_=>rfl
 |y::xs,u::us, .cons r t,f=>by
  rw[aaC,XO] at f;rw[aae,aae,Fh r f.1,lN t f.2]
theorem jO{A:X6}{s:Xl}{x:V}{v:Value}(rx:RelV x v)(fx:oD x=true):∀{xs:List V}{us:List Value},Vals xs us->xs.all oD=true->∀u∈us,adC A s u v (Ag x u)
 |_,_, .nil,_=>λu hu=>by cases hu
 |y::xs,u::us, .cons r t,f=>λu' hu=>by
  rw[aaC,XO] at f;rcases Xs.mp hu with rfl | hu
  ·rw[Fh r f.1];exact Lw r rx f.1 fx
  ·exact jO rx fx t f.2 u' hu
def QP(x:V)(xs:List V):Bool:=xs.any λy=>HN y x
def SQ(K:Xr)(neg:Bool):R2:=λx y H Q=>∃p xs,y= .ref p/\(SqL K H p xs\/SqT K H p xs)/\oD x=true/\xs.all oD=true/\Q (.bl (if neg then !QP x xs else QP x xs)) H
theorem D7:OpR X (X9 .In) (SQ X.K false):=by
 intro f8 s σ H x y v u Q I rx ry h;obtain⟨p,xs,rfl,hq,fx,fs,q⟩:=h;cases ry;rcases hq with hq | hq
 ·obtain⟨aL,r,pl,hz⟩:=I.list hq;refine SeqAt.in_listAt (Ag x) pl.isList (λw hw=>jO rx fx r fs w (by simpa using hw)) ⟨.bl _,H,I,rfl,?_⟩;rw[show aL.toArray.any (Ag x)=aL.any (Ag x) by simp,lN r fs];exact q
 ·obtain⟨aL,r,pl,hz⟩:=I.tuple hq;refine adP (Ag x) pl (λw hw=>jO rx fx r fs w (by simpa using hw)) ⟨.bl _,H,I,rfl,?_⟩;rw[show aL.toArray.any (Ag x)=aL.any (Ag x) by simp,lN r fs];exact q
theorem wH:OpR X (X9 .NotIn) (SQ X.K true):=by
 intro f8 s σ H x y v u Q I rx ry h;obtain⟨p,xs,rfl,hq,fx,fs,q⟩:=h;cases ry;rcases hq with hq | hq
 ·obtain⟨aL,r,pl,hz⟩:=I.list hq;refine SeqAt.notIn_listAt (Ag x) pl.isList (λw hw=>jO rx fx r fs w (by simpa using hw)) ⟨.bl _,H,I,rfl,?_⟩;rw[show aL.toArray.any (Ag x)=aL.any (Ag x) by simp,lN r fs];exact q
 ·obtain⟨aL,r,pl,hz⟩:=I.tuple hq;refine SeqAt.notIn_tupleAt (Ag x) pl (λw hw=>jO rx fx r fs w (by simpa using hw)) ⟨.bl _,H,I,rfl,?_⟩;rw[show aL.toArray.any (Ag x)=aL.any (Ag x) by simp,lN r fs];exact q
theorem vw:CallR X (.builtin "len") (λxs H Q=>∃p ys,xs=[.ref p]/\(SqL X.K H p ys\/SqT X.K H p ys)/\Q (.int ys.length) H):=by
 intro f8 s σ H xs us Q I r h;obtain⟨p,ys,rfl,hq,q⟩:=h;obtain⟨u,rfl,rx⟩:=vals1 r;cases rx;have hn:=nM;rcases hq with hq | hq
 ·obtain⟨aL,r',pl,hz⟩:=I.list hq;have v6:=r'.length;exact Calls.call_len_list pl.isList (by simp only[Xu]<;>omega) ⟨.int ys.length,H,I.tok _,⟨s.toks+1,by rw[Xu,v6]⟩,q⟩
 ·obtain⟨aL,r',pl,hz⟩:=I.tuple hq;have v6:=r'.length;exact len_tuple pl (by simp only[Xu]<;>omega) ⟨.int ys.length,H,I.tok _,⟨s.toks+1,by rw[Xu,v6]⟩,q⟩
theorem vx:CallR X (.builtin "len") (λxs H Q=>∃z,xs=[.str z]/\z.length<=XH/\Q (.int z.length) H):=by
 intro f8 s σ H xs us Q I r h;obtain⟨z,rfl,hz,q⟩:=h;obtain⟨u,rfl,t,rfl⟩:=vals1 r;have hn:=nM;exact len_str (by omega) ⟨.int z.length,H,I.tok _,⟨_,rfl⟩,q⟩
theorem CallR.or{f:Value}{r r':List V->Hp->VK->Prop}(h:CallR X f r)(h':CallR X f r'):CallR X f (λxs H Q=>r xs H Q\/r' xs H Q):=by
 intro f8 s σ H xs us Q I rs q;rcases q with q | q
 ·exact h f8 s σ H xs us Q I rs q
 ·exact h' f8 s σ H xs us Q I rs q
theorem vy:CallR X (.type "list") (λxs H Q=>∃p ys,xs=[.ref p]/\(SqL X.K H p ys\/SqT X.K H p ys)/\∀l,H l=none->Q (.ref l) (upd H l (.lst ys))):=by
 intro f8 s σ H xs us Q I r h;obtain⟨p,ys,rfl,hq,q⟩:=h;obtain⟨u,rfl,rx⟩:=vals1 r;cases rx;have fin:∀(aL:List Value),Vals ys aL->ys.length<=XH->∀(h':Heap) (c':Nat),(∀b o',s.heap.get? b=some o'->h'.get? b=some o')->
  h'.get? s.heap.objs.size=some {cls:= .type "list",dict:=none,data:= .seq aL.toArray c',slots:= #[]}->EP X f8 σ Q (.ref s.heap.objs.size) {s with heap:=h'}:=λaL r' hz h' c' kp e=>
  ⟨.ref s.heap.objs.size,_,I.laid (t':=s.toks) kp (Xx _) (show ObjOk X.prog X.w _ h' _ (.lst ys) from⟨hz,aL,c',r',e⟩),rfl,q _ (I.hok.fresh (Xx _))⟩
 rcases hq with hq | hq
 ·obtain⟨aL,r',pl,hz⟩:=I.list hq;have v6:=r'.length;obtain⟨o,ho,hc,n,hd⟩:=pl.isList;exact call_list_seq p (.inl rfl) ho hc hd (λh' c' kp e=>fin aL r' hz h' c' kp e) (by simp only[Xu]<;>omega)
 ·obtain⟨aL,r',pl,hz⟩:=I.tuple hq;have v6:=r'.length;obtain⟨o,ho,hc,n,hd⟩:=pl;exact call_list_seq p (.inr rfl) ho hc hd (λh' c' kp e=>fin aL r' hz h' c' kp e) (by simp only[Xu]<;>omega)
theorem sP:CallR X (.type "tuple") (λxs H Q=>∃p ys,xs=[.ref p]/\((SqL X.K H p ys/\∀l,H l=none->Q (.ref l) (upd H l (.tup ys)))\/(SqT X.K H p ys/\Q (.ref p) H))):=by
 intro f8 s σ H xs us Q I r h;obtain⟨p,ys,rfl,h⟩:=h;obtain⟨u,rfl,rx⟩:=vals1 r;cases rx;rcases h with⟨hq,q⟩ | ⟨hq,q⟩
 ·obtain⟨aL,r',pl,hz⟩:=I.list hq;have v6:=r'.length;refine call_tuple_list pl.isList (λh' kp=>?_) (by simp only[Xu]<;>omega);have I1:Inv X f8 σ H {s with heap:=h'}:=I.kept (t':=s.toks) kp;have I2:Inv X f8 σ (upd H h'.objs.size (.tup ys)) {s with heap:=h'.push {cls:= .type "tuple",data:= .seq aL.toArray} }:=
   I1.laid (t':=s.toks) (λb o e=>Xm _ e) (Xx _) (show ObjOk X.prog X.w _ _ _ (.tup ys) from⟨hz,aL,r',IsTup.new _ _⟩)
  exact⟨.ref h'.objs.size,_,I2,rfl,q _ (I1.hok.fresh (Xx _))⟩
 ·obtain⟨aL,r',pl,hz⟩:=I.tuple hq;exact call_tuple_same pl ⟨.ref p,H,I,rfl,q⟩
def Qf(K:Xr)(T:String)(x:V)(H:Hp):Prop:=match x with
 | .str _=>T="str"
 | .int _=>T="int"
 | .ref p=>(T="list"/\∃xs,SqL K H p xs)\/(T="tuple"/\∃o,K.lookup p=some o/\o.cls= .type "tuple"/\o.dict=none)\/
    (T="dict"/\((∃aE,H p=some (.dK aE))\/∃aE,H p=some (.dT aE)))\/(T="set"/\∃S n,H p=some (.set S n))
 |_=>False
theorem NH{f8:List (Addr×Obj)}{σ:St}{H:Hp}{s:Xl}{T:String}{x:V}{v:Value}(I:Inv X f8 σ H s)(r:RelV x v)(ty:Qf X.K T x H):
 s.TypeIs v T/\∀a,v= .ref a->∃ob,s.heap.get? a=some ob/\ob.dict=none:=by
 cases x with
 |str z=>
  obtain⟨t,rfl⟩:=r;cases (show T="str" from ty);exact⟨typeIs_str s z t,λ_ e=>nomatch e⟩
 |int i=>
  obtain⟨t,rfl⟩:=r;cases (show T="int" from ty);exact⟨typeIs_int s i t,λ_ e=>nomatch e⟩
 |ref p=>
  cases r;rcases ty with⟨rfl,xs,hq⟩ | ⟨rfl,o,hk,hc,hd⟩ | ⟨rfl,hk⟩ | ⟨rfl,S,n,hk⟩
  ·obtain⟨aL,_,pl,_⟩:=I.list hq;refine⟨pl.isList.typeIs,λa e=>?_⟩;cases e;obtain⟨o,n,e,c,hd,_⟩:=pl;exact⟨o,e,hd⟩
  ·refine⟨⟨o,I.kIn p o hk,hc⟩,λa e=>?_⟩;cases e;exact⟨o,I.kIn _ o hk,hd⟩
  ·have z:∃o,s.heap.get? p=some o/\o.ExactDict:=by
    rcases hk with⟨aE,hk⟩ | ⟨aE,hk⟩
    ·obtain⟨_,_,_,_,o,_,_,e,ex,_⟩:=I.hok p _ hk;exact⟨o,e,ex⟩
    ·obtain⟨_,_,_,_,o,_,_,e,ex,_⟩:=I.hok p _ hk;exact⟨o,e,ex⟩
   obtain⟨o,e,ex⟩:=z;refine⟨⟨o,e,ex.1⟩,λa e2=>?_⟩;cases e2;exact⟨o,e,ex.2.1⟩
  ·obtain⟨o,_,_,_,e,ex,_⟩:=I.hok p _ hk;refine⟨⟨o,e,ex.1⟩,λa e2=>?_⟩;cases e2;exact⟨o,e,ex.2.1⟩
 |_=>exact YX ty
def S6(K:Xr)(T:String)(r:V->List V->Hp->VK->Prop)(to:TE)(t:TA):TE:=λσ H Q=>to σ H λx H1=>Qf K T x H1/\t σ H1 λxs H2=>r x xs H2 Q
variable{o e:Expr}{es:List Expr}{to:TE}{t:TA}{name:Str}{P3 a7:Pos}{T id:String}{r:V->List V->Hp->VK->Prop}
theorem GS(pa:PlainAttrs T)(slot:Slot T name id)(R_:typeOf (.builtin id)=pure (.type "method_descriptor"))(hm:NK X id r)(ho:PE X o to)(ha:PA X (e::es) t)
 (fV:Ze o name X.env (eval o X.env)=eval o X.env:=by rfl)
 (ll:((Y9 a7 (Xz (e::es) X.env)).all (λx=>!x.1)&&(aaP a7 (ZJ [] X.env)).all (λx=>x.1.isSome)
  &&decide ((e::es).length+([]:List ZR).length+(if ([]:List ZR).isEmpty then 0 else 1)<30))=true:=by rfl)
 (fW:(P3.endLine==a7.line)=true:=by rfl) (hs:Xz (e::es) X.env=(false,eval e X.env)::Xz es X.env:=by rfl) (Av:(Y9 a7 (Xz es X.env)).any (·.1)=false:=by rfl):
 PE X (.Call (.Attribute o name P3) (e::es) [] a7) (S6 X.K T r to t):=by
 intro f8 s σ H Q I h;refine wpAny_Call_method_late fV ll fW rfl (cC (ho f8 s σ H _ I h) λv s1 ⟨x,H1,I1,r1,ty,q1⟩=>?_);obtain⟨h1,h2⟩:=NH I1 r1 ty;refine⟨T,id,pa,slot,R_,h1,h2,?_⟩;have hA:=ha a7 f8 s1 σ H1 _ I1 q1;rw[hs] at hA⊢;refine ZG (by show (false||(Y9 a7 (Xz es X.env)).any (·.1))=false;rw[Av]<;>rfl) (ZY ?_);exact cC hA λus s2 ⟨vs,H2,I2,r2,q2⟩=>hm f8 s2 σ H2 x vs v us Q I2 r1 r2 q2
end
def Tr(X:Cx)(id:String)(r:V->List V->Hp->VK->Prop):Prop:=
 ∀(f8:List (Addr×Obj)) (s:Xl) (σ:St) (H:Hp) (x:V) (xs:List V) (v:Value) (us:List Value) (Q:VK),Inv X f8 σ H s->RelV x v->Vals xs us->r x xs H Q->
  wpAny (model X.prog X.w) X.A (call (.builtin id) (v::us)) (EP X f8 σ Q) X.xe s
theorem Vals.one:∀{x:V}{us:List Value},Vals [x] us->∃u,us=[u]/\RelV x u
 |_,_, .cons r .nil=>⟨_,rfl,r⟩
theorem Vals.rep{xs:List V}{us:List Value}(h:Vals xs us):∀k:Nat,Vals (XC k xs).flatten (XC k us).flatten
 |0=> .nil
 |k+1=>by
  rw[Za,Za,ZV,ZV];exact Vals.append h (Vals.rep h k)
theorem foldl_rep(aL:List Value):∀(k:Nat) (acc:List Value),
 adV (λx1 x2=>x1++x2) acc.toArray (XC k aL.toArray)=(acc++(XC k aL).flatten).toArray
 |0,acc=>by simp
 |k+1,acc=>by
  have e:acc.toArray++aL.toArray=(acc++aL).toArray:=by simp
  have e2:(acc++aL)++(XC k aL).flatten=acc++(XC (k+1) aL).flatten:=by
   rw[Za,ZV,Y7]
  rw[<-e2,<-foldl_rep aL k (acc++aL),<-e,Za,aaI]
section
variable{X:Cx}{f8:List (Addr×Obj)}{σ:St}{H:Hp}{s:Xl}{l:Addr}{xs ys:List V}
theorem Inv.lset{aL its':List Value}{n:Nat}{f:Array Value->Array Value}{t':Nat}(I:Inv X f8 σ H s)(hH:H l=some (.lst xs))
 (e:s.heap.get? l=some {cls:= .type "list",data:= .seq aL.toArray n})(hf:f aL.toArray=its'.toArray)(hv:Vals ys its')(hz:ys.length<=XH):
 Inv X f8 σ (upd H l (.lst ys)) {s with heap:=s.heap.update l (ZI f),toks:=t'}:=by
 have q:=PySem.IsL.update e f;rw[hf] at q;refine I.write (x:=l) (e:=l) (by rw[hH];exact trivial) (.inl rfl) (λb' u hb hu=>(YT s.heap (ZI f) (Yp hb)).trans hu) ⟨_,q⟩ ?_;exact⟨hz,its',_,hv,q⟩
theorem Inv.lnew{aL:List Value}{t':Nat}(I:Inv X f8 σ H s)(hv:Vals ys aL)(hz:ys.length<=XH):
 Inv X f8 σ (upd H s.heap.objs.size (.lst ys)) {s with heap:=s.heap.push {cls:= .type "list",data:= .seq aL.toArray},toks:=t'}:=
 I.laid (λ_ _ q=>Xm _ q) (Xx _) ⟨hz,aL,0,hv,XA _ rfl⟩
theorem Inv.fresh(I:Inv X f8 σ H s):H s.heap.objs.size=none:=I.hok.fresh (Xx _)
theorem Inv.lstM(I:Inv X f8 σ H s)(hH:H l=some (.lst xs)):xs.length<=XH/\∃(aL:List Value) (n:Nat),Vals xs aL/\xs.length=aL.length/\s.heap.get? l=some {cls:= .type "list",data:= .seq aL.toArray n}:=by
 obtain⟨z,aL,n,r,e⟩:=I.hok l _ hH;exact⟨z,aL,n,r,r.length,e⟩
theorem yT{n:Nat}(h:n<=XH):ZS n=false:=by
 unfold ZS;exact ad2 (by omega)
end
section
variable{X:Cx}
def Cz:V->List V->Hp->VK->Prop:=λx vs H Q=>∃l xs y,x= .ref l/\vs=[y]/\H l=some (.lst xs)/\xs.length<XH/\Q .non (upd H l (.lst (xs++[y])))
theorem uD:Tr X "list.append" Cz:=by
 intro f8 s σ H x vs v us Q I rx rv h;obtain⟨l,xs,y,rfl,rfl,hH,hz,q⟩:=h;cases rx;obtain⟨u,rfl,ru⟩:=rv.one;obtain⟨z,aL,n,r,hl,e⟩:=I.lstM hH;refine aaR F.slot_list_append ⟨_,e,rfl⟩ F.entry_list_append (F.args_list_append_2 _ _) (PySem.list_append l aL.toArray n u (by rw[Xu];omega)) ⟨e,?_⟩;refine⟨.non,_,I.lset (its':=aL++[u]) hH e (by simp) (r.append (.cons ru .nil)) ?_,rfl,q⟩;rw[Xq,List.length_singleton];omega
def CA:V->List V->Hp->VK->Prop:=λx vs H Q=>∃l b xs zs,x= .ref l/\vs=[.ref b]/\H l=some (.lst xs)/\H b=some (.lst zs)/\xs.length+zs.length<=XH/\Q .non (upd H l (.lst (xs++zs)))
theorem D0:Tr X "list.extend" CA:=by
 intro f8 s σ H x vs v us Q I rx rv h;obtain⟨l,b,xs,zs,rfl,rfl,hH,hB,hz,q⟩:=h;cases rx;obtain⟨u,rfl,ru⟩:=rv.one;cases ru;obtain⟨z,aL,n,r,hl,e⟩:=I.lstM hH;obtain⟨z2,e7,n2,r2,LR,e2⟩:=I.lstM hB;have hsz:aL.toArray.size+e7.toArray.size<=XH:=by rw[Xu,Xu];omega
 have FI:¬(!aL.toArray.isEmpty&&ZS (aL.toArray.size+e7.toArray.size))=true:=by
  rw[yT hsz,Bool.and_false];exact XM
 refine aaR F.slot_list_extend ⟨_,e,rfl⟩ F.entry_list_extend (F.args_list_extend_2 _ _)
  (AutoSeq1.list_extend_list_list_0 l aL.toArray n b e7.toArray n2 FI (by rw[Xu];omega) (by omega)) ⟨e,e2,?_⟩
 refine⟨.non,_,I.lset (its':=aL++e7) hH e (by simp) (r.append r2) ?_,rfl,q⟩;rw[Xq];omega
def SM:R2:=λx y H Q=>∃l b xs zs,x= .ref l/\y= .ref b/\H l=some (.lst xs)/\H b=some (.lst zs)/\xs.length+zs.length<=XH/\∀p,H p=none->Q (.ref p) (upd H p (.lst (xs++zs)))
theorem MA:OpR X (aay .Add) SM:=by
 intro f8 s σ H x y v u Q I rx ry h;obtain⟨l,b,xs,zs,rfl,rfl,hH,hB,hz,q⟩:=h;cases rx;cases ry;obtain⟨z,aL,n,r,hl,e⟩:=I.lstM hH;obtain⟨z2,e7,n2,r2,LR,e2⟩:=I.lstM hB;refine PySem.P.add_list e e2 ?_ (by rw[Xu,Xu];omega);have ea:aL.toArray++e7.toArray=(aL++e7).toArray:=by simp
 rw[ea];exact⟨.ref _,_,I.lnew (t':=s.toks) (r.append r2) (by rw[Xq];omega),rfl,q _ I.fresh⟩
def SS:R2:=λx y H Q=>∃l k xs,x= .ref l/\y= .int k/\H l=some (.lst xs)/\ -(2 ^ 63)<=k/\k<2 ^ 63/\xs.length*k.toNat<=XH/\
 ∀p,H p=none->Q (.ref p) (upd H p (.lst (XC k.toNat xs).flatten))
theorem len_rep{α:Type}(xs:List α)(k:Nat):(XC k xs).flatten.length=k*xs.length:=by
 induction k with
 |zero=>simp
 |succ k ih=>rw[Za,ZV,Xq,ih,Nat.succ_mul,Nat.add_comm]
theorem MJ:OpR X (aay .Mult) SS:=by
 intro f8 s σ H x y v u Q I rx ry h;obtain⟨l,k,xs,rfl,rfl,hH,h1,h2,hz,q⟩:=h;cases rx;obtain⟨t,rfl⟩:=ry;obtain⟨z,aL,n,r,hl,e⟩:=I.lstM hH;have v6:aL.toArray.size*k.toNat<=XH:=by rw[Xu,<-hl];exact hz
 have Rx:¬aL.toArray.size*k.toNat>(2 ^ 63 - 1) / 8:=by
  have:(XH:Nat)<=(2 ^ 63 - 1) / 8:=by decide
  omega
 have RI:¬(!Builtin.List.listFitsIndex k)=true:=by
  rw[fitsIndex_both h1 h2];exact XM
 have FI:¬ZS (aL.toArray.size*k.toNat)=true:=by
  rw[yT v6];exact XM
 have vM:adV (λx1 x2=>x1++x2) #[] (XC (if aL.toArray.isEmpty=true then 0 else k.toNat) aL.toArray)=(XC k.toNat aL).flatten.toArray:=by
  have f0:∀m:Nat,adV (λx1 x2=>x1++x2) #[] (XC m aL.toArray)=(XC m aL).flatten.toArray:=λm=>by
   have:=foldl_rep aL m [];rw[XW] at this;exact this
  rw[f0];cases aL with
  |nil=>simp
  |cons a r'=>rw[ad0 (by simp)]
 refine wpAny_binaryOp_repeat_ref (T:="list") (U:="int") (by decide) ⟨_,e,rfl⟩ (λs'=>typeIs_int s' k t) noFill_list_mul F.fills_int_mul F.slot_int_rmul repeat_list F.slot_int_index.lookup
  (aaR F.slot_int_rmul (typeIs_int s k t) F.entry_int_rmul (F.args_int_rmul_2 _ _) (int___rmul___int_list k t l aL.toArray n)
   ⟨e,rfl,⟨_,e,rfl⟩,aaR F.slot_list_mul ⟨_,e,rfl⟩ F.entry_list_mul (F.args_list_mul_2 _ _) (AutoListH.list___mul___list_int_3 l aL.toArray n k t RI Rx FI) ⟨e,?_⟩⟩)
 rw[vM];exact⟨.ref _,_,I.lnew (t':=s.toks) (r.rep k.toNat) (by rw[len_rep,adh];exact hz),rfl,q _ I.fresh⟩
end
end L2
namespace Att
open PySem PySem.W PySem.Calls PyProof.Rows
theorem ints_of_wellAll{P:Params}{h:Heap}:∀(ns:List Int) (vs:List Value),WellAll P h vs (ns.map WData.int)->YH vs ns:=by
 intro ns;induction ns with
 |nil=>
  intro vs w;rw[Y0] at w;cases w;exact .nil
 |cons n ns ih=>
  intro vs w;rw[Xp] at w;cases w with
  |cons a b=>
   cases a;exact .cons _ _ (ih _ b)
theorem script_of{l:OpenLaw}{n:Nat}(hn:l.most=some n){P:Params}{h:Heap}{args:List WData}{vals:List Value}
 (IE:l.row.toRowW.claim.pre args=true)(Sb:WellAll P h vals args):
 ∃a vs ns,vals=[XX a]/\args=[WData.list (ns.map WData.int)]/\h.get? a=some {cls:= .type "list",data:= .seq vs.toArray}/\YH vs ns/\ns.length<=n:=by
 have R8:WShape.hasAll [] args [.list .int]=true:=(pre_splitW IE).1;have hc:l.pre.holds [] {args:=args}=true:=(pre_splitW IE).2;obtain⟨d,r,rfl,h1,h2⟩:=hasAllW_cons R8;obtain rfl:=hasAllW_nil h2;obtain⟨xs,rfl,h3⟩:=hasW_list h1;obtain⟨ns,rfl⟩:=items_int h3;have v6:ns.length<=n:=by
  unfold OpenLaw.pre at hc;have h4:(WTm.not (.lt (.lit (.int (n:Int))) (.len (.arg 0)))).holds [] {args:=[.list (ns.map .int)]}=true:=by
   have h4:=(holds_andW hc).1;rw[hn] at h4;exact h4
  have h5:=condW_of h4 (w_not (w_lt w_lit (w_len_list (w_arg rfl))));rw[Xh] at h5;refine Nat.le_of_not_lt λq=>?_;have q':(n:Int)<((ns.length:Nat):Int):=by omega
  first
   |(rw [ad1 q'] at h5;exact ad3 h5 (by decide))
   |(simp at h5;omega)
 cases Sb with
 |cons w1 w2=>
  cases w2;cases w1 with
  |list ho Fy=>exact⟨_,_,ns,rfl,rfl,ho,ints_of_wellAll ns _ Fy,v6⟩
theorem post_true(l:OpenLaw)(args:List WData):l.row.toRowW.claim.post args (.bool true) args=true:=
 postW_of (r:=l.row.toRowW) (X:=(true==true))
  (show WShape.has [] (.bool true) .bool=true by first | rfl | decide | simp[WShape.has,WShape.arms,WShape.armsAll])
  (show (WTm.eq .res (.lit (.bool true))).value [] {args:=args,res:=some (.bool true),after:=args}=some (.bool (true==true)) from w_eq_bool (w_res rfl) w_lit) rfl
theorem attach_call{l:OpenLaw}{n:Nat}{q:XR}{loose:List Str}{XP:(Str->Option Value)->Heap->Prop}{YP:World->Heap->Prop}{d:DefRec}
 (hn:l.most=some n)(Oy:d.params.defaults=[])
 (call:∀(w:World) (ad9 v4:Xl) (mg mb:Str->Option Value) (fa:Addr) (o:Obj) (pm cd doc:Value) (a:Addr) (vs:List Value) (ns:List Int),
  Ground q loose [] XP w ad9 mg mb v4.heap->YP w v4.heap->
  v4.heap.get? fa=some o->o.data= .func (docDef d.name d.params d.body d.scope pm cd doc)->v4.heap.CodeRec cd d.name->mg d.name=some (.ref fa)->
  v4.heap.get? a=some {cls:= .type "list",data:= .seq vs.toArray}->YH vs ns->ns.length<=n->v4.gens= #[]->
  aaK (model l.prog w) acm (.call (.ref fa) ⟨[.ref a],[]⟩) (λr s'=>r= .ok (.ret (.bool true))/\OldK v4.heap s'.heap/\s'.os=v4.os/\abE s'.gens) v4):
 WalkO q loose XP YP l.row.toRowW d [] (λf vs=>adD f vs):=by
 intro w ad9 v4 mg mb G Y fa o pm cd doc dV kV ho hd uf hD LU hg args vals as IE VR Xb Sb W8;obtain rfl:dV= .none:=Dflts.none hD Oy;obtain rfl:kV= .none:=Dflts.noKw hD;obtain⟨a,vs,ns,rfl,rfl,FL,hints,v6⟩:=script_of hn IE Sb;refine enter_call (acz (call w ad9 v4 mg mb fa o pm cd doc a vs ns G Y ho (fd_plain hd) uf LU FL hints v6 hg) λr s' hq=>?_);obtain⟨rfl,h2,h3,h4⟩:=hq;exact⟨.inl ⟨.bool true, .bool true,[],rfl,λ_=>rfl, .bool true,post_true l _,λ_=>⟨acv,λ_ hm=>(nomatch hm)⟩⟩,h2,h3,h4⟩
section
def ledger(h:Heap)(L d:Addr):List (Addr×Obj):=(XQ h.objs.size).filterMap λa=>if a=L\/a=d then none else(h.get? a).map λo=>(a,o)
end
end Att
namespace L2
open PySem PySem.Spec PyProof.Rows
theorem u6:∀{vs:List Value}{ns:List Int},YH vs ns->Vals (ns.map V.int) vs
 |_,_, .nil=> .nil
 |_,_, .cons n t h=> .cons ⟨t,rfl⟩ (u6 h)
def Li(H:Hp):Prop:=∀b,H b=none\/∃o xs,H b=some (.frz o (.lst xs))
theorem yC{P:XR}{w:World}{K:Xr}{mg mb:Str->Option Value}{CX:BC}{k:Nat}{fa a:Addr}{fd:ZC}{x:Str}{sp:Sp}{v4:Xl}{vs:List Value}{ns:List Int}
 (KX:K.In v4.heap)(NT:v4.heap.Ns XJ mg)(hb:v4.heap.Ns builtinsNs mb)(Vl:∀x:Str,x≠"__name__"->mb x=Yd x)(OJ:v4.heap.NoLimit)(hg:v4.gens= #[])
 (ha:v4.heap.get? a=some {cls:= .type "list",data:= .seq vs.toArray})(hi:YH vs ns)(hl:ns.length<=XH)(hr:Room k acm)
 (F:∀base:Heap,K.In base->base.Ns XJ mg->FnOk P w K mg base CX k fa fd [x] sp)(Ou:∀(s:Xl) (u:Value),ac3 s fd ⟨[u],[]⟩ [(x,u)])
 (uh:∀H:Hp,Li H->SqL K H a (ns.map V.int)->sp [.ref a] H (λv _=>v= .bl true) λ_ _ _=>False)
 (Rp:∀H e s',CX [] H v4 (λ_ _ _=>False) e s'->False):
 aaK (model P w) acm (.call (.ref fa) ⟨[.ref a],[]⟩) (λr s'=>r= .ok (.ret (.bool true))/\OldK v4.heap s'.heap/\s'.os=v4.os/\abE s'.gens) v4:=by
 have rv:=u6 hi;have Ss:=hi.length;have core:∀H:Hp,Li H->SqL K H a (ns.map V.int)->HOk P w H v4.heap->(∀b,H b≠none->b=a)->(H a≠none->K.lookup a=none)->
  aaK (model P w) acm (.call (.ref fa) ⟨[.ref a],[]⟩) (λr s'=>r= .ok (.ret (.bool true))/\OldK v4.heap s'.heap/\s'.os=v4.os/\abE s'.gens) v4:=by
  intro H hO hS hok hA hK;have BK:∀{b:Addr}{o:Obj},v4.heap.get? b=some o->H b=none->(vL v4.heap H).get? b=some o:=λe n=>FD e n;have Pf:∀{b:Addr}{o:Obj}{es:Array YL}{ep:Nat},v4.heap.get? b=some o->o.data= .dict es ep->H b=none:=λ{b o es ep} e d=>by
   cases q:H b with
   |none=>rfl
   |some u=>
    have e':b=a:=hA b (by rw[q];simp);subst e';rw[ha] at e;cases e;have d':Data.seq vs.toArray _=aaf es ep:=d;cases d'
  have QS:∀{b:Addr}{m:Str->Option Value},v4.heap.Ns b m->(vL v4.heap H).Ns b m:=λ{b m} ⟨o,es,ep,e,d,r⟩=>⟨o,es,ep,BK e (Pf e d),d,r⟩
  have TQ:K.In (vL v4.heap H):=λb o e=>BK (KX b o e) (by
   cases q:H b with
   |none=>rfl
   |some u=>
    have e':b=a:=hA b (by rw[q];simp);subst e';rw[hK (by rw[q];simp)] at e;cases e)
  have hM:Mod K mg (vL v4.heap H):=⟨TQ,QS NT,⟨mb,QS hb,Vl⟩,let ⟨mc,h1,h2⟩:=OJ;⟨mc,QS h1,h2⟩⟩
  have e0:Env0 P w K mg (vL v4.heap H) acm [] v4 H:=⟨rfl,hM,λb o e=>Jo e,Nat.le_of_eq (Dv _ _),trivial,λb hb=>ad3 (show b∈([]:List Addr) from hb) (by simp),hok, .of_eq hg⟩
  refine acz ((F _ TQ (QS NT)).run acm [] v4 H ⟨[.ref a],[]⟩ [.ref a] [.ref a] _ _ hr e0 (Ou v4 (.ref a)) (.cons rfl .nil) (uh H hO hS)) λr s' h=>?_;cases r with
  |error e=>exact(Rp H e s' h).elim
  |ok fl=>
   cases fl with
   |next=>exact YX h
   |brk=>exact YX h
   |cont=>exact YX h
   |ret u=>
    obtain⟨v,H',os,bare,un,RY,r',q⟩:=h;have q':v= .bl true:=q;subst q';obtain rfl:u=Zq true:=r';refine⟨rfl,OldK.of_keep λb o e=>?_,os,bare⟩;cases q:H b with
    |none=>exact un.keep b o e q (by intro z;exact ad3 (show b∈([]:List Addr) from z) (by simp)) (by simp)
    |some u=>
     rcases hO b with z | ⟨ob,xs,z⟩
     ·rw[q] at z;cases z
     ·have z2:=un.frzs b ob _ z;obtain⟨e1,_⟩:=hok b _ z;obtain⟨e2,_⟩:=RY b _ z2;rw[e] at e1;cases e1;exact e2
 cases hk:K.lookup a with
 |some o=>
  have e:=KX a o hk;rw[ha] at e;cases e;refine core (λ_=>none) (λ_=> .inl rfl) (.inr ⟨_,vs.toArray,_,hk,rfl,rfl,rfl,by rw[Xu,Ss];exact hl,by simpa using rv⟩) (λb u z=>by have z':(none:Option HO)=some u:=z;cases z') (λb z=>ad3 rfl z) λz=>ad3 rfl z
 |none=>
  refine core (λb=>if b=a then some (.frz {cls:= .type "list",data:= .seq vs.toArray} (.lst (ns.map V.int))) else none) (λb=>?_) (.inl (.inr ⟨{cls:= .type "list",data:= .seq vs.toArray},adY rfl⟩)) (λb u z=>?_) (λb z=>?_) λ_=>hk
  ·by_cases hb:b=a
   ·exact .inr ⟨_,_,adY hb⟩
   ·exact .inl (ad0 hb)
  ·by_cases hb:b=a
   ·have z':=(adY hb).symm.trans z;cases z';subst hb;exact⟨ha,by rw[Xh];exact hl,vs,_,rv,ha⟩
   ·have z':=(ad0 hb).symm.trans z;cases z'
  ·by_cases hb:b=a
   ·exact hb
   ·exact ad3 (ad0 hb) z
abbrev WZ{K:Xr}{h:Heap}(_:K.In h):Xr:=K
theorem Q1{l:adE}{n k:Nat}{q:XR}{loose:List Str}{XP:(Str->Option Value)->Heap->Prop}{YP:World->Heap->Prop}{d:DefRec}{K:Params->Xr}{CX:World->BC}{sp:World->Sp}{x:Str}
 (hn:l.most=some n)(QI:n<=XH)(Oy:d.params.defaults=[])(hr:Room k acm)
 (hY:∀(w:World) (h:Heap),YP w h->(K w.params).In h)
 (F:∀(w:World) (mg:Str->Option Value) (fa:Addr) (h:Heap),(K w.params).In h->h.Ns XJ mg->mg d.name=some (.ref fa)->
  ∃fd:ZC,(∀(s:Xl) (u:Value),ac3 s fd ⟨[u],[]⟩ [(x,u)])/\
   ∀base:Heap,(K w.params).In base->base.Ns XJ mg->FnOk l.prog w (K w.params) mg base (CX w) k fa fd [x] (sp w))
 (uh:∀(w:World) (H:Hp) (a:Addr) (ns:List Int),ns.length<=n->Li H->SqL (K w.params) H a (ns.map V.int)->sp w [.ref a] H (λv _=>v= .bl true) λ_ _ _=>False)
 (Rp:∀(w:World) (H:Hp) (s:Xl) (e:Value) (s':Xl),CX w [] H s (λ_ _ _=>False) e s'->False):
 PySem.W.WalkO q loose XP YP l.row.toRowW d [] (λf vs=>adD f vs):=by
 refine Att.attach_call hn Oy λw ad9 v4 mg mb fa o pm cd doc a vs ns G Y ho hd uf LU FL hints v6 hg=>?_;have KX:=hY w _ Y;obtain⟨fd,hb,hF⟩:=F w mg fa _ KX G.T.g LU;exact yC KX G.T.g G.T.b G.T.builtins G.T.nolimit hg FL hints (X2 v6 QI) hr hF hb (λH hO hS=>uh w H a ns v6 hO hS) λH e s'=>Rp w H v4 e s'
abbrev NY:BC:=λ_ _ _ _ _ _=>False
abbrev E0:XK:=λ_ _ _=>False
structure Fun (K:Xr) (x qual:Str) (st:Stmt) (f:Addr) (fd:ZC):Prop where
 ex:∃(oc:Value) (od:Option Addr) (kV doc pm:Value) (an:Option Addr) (cg ct:Value) (EF:Array (Option Value)),
  fd=YN x qual (eV st) (aZ st) (ai st) .none kV doc pm an cg ct/\K.lookup f=some ⟨oc,od, .func fd,EF⟩/\ZW K cg qual=true
 kp:YV K (.ref f)=true
section
variable{P:XR}{w:World}{K:Xr}{mg:Str->Option Value}{base:Heap}
theorem Fun.ok{x qual:Str}{st:Stmt}{f:Addr}{fd:ZC}{N ps:List Str}{k:Nat}{sp:Sp}(F:Fun K x qual st f fd)(S:FnScope N ps (ai st))(len:∀vs H Q E,sp vs H Q E->vs.length=ps.length)
 (iB:∀(cg:Value) (A:X6) (outer:List Env) (s:Xl) (H:Hp) (vs:List V) (Q:VK) (E:XK),Room k (A.deeper (Y8 qual (ai st) s.heap.objs.size f cg))->sp vs H Q E->
  ∃t,PSs (a9 NY P w K mg base N qual (ai st) f cg A outer s H E).nox (aZ st) t/\t {nx:=λ_ H'=>Q .non H',rt:=Q} (start N vs) H):FnOk P w K mg base NY (k+1) f fd ps sp:=by
 obtain⟨oc,od,kV,doc,pm,an,cg,ct,EF,rfl,lk,uf⟩:=F.ex;refine KG lk uf S len λA outer s H vs Q E hr uh=>?_;obtain⟨t,h,q⟩:=iB cg A outer s H vs Q E hr uh;exact⟨t,h.nox,q⟩
theorem Fun.binds{x qual:Str}{st:Stmt}{f:Addr}{fd:ZC}{ps:List Str}(F:Fun K x qual st f fd)
 (h:∀(kV doc pm:Value) (an:Option Addr) (cg ct:Value) (us:List Value),us.length=ps.length->bindArgs (YN x qual (eV st) (aZ st) (ai st) .none kV doc pm an cg ct) ⟨us,[]⟩=pure (ps.zip us)):Binds K fd ps []:=by
 obtain⟨oc,od,kV,doc,pm,an,cg,ct,EF,rfl,lk,uf⟩:=F.ex;exact .all (h kV doc pm an cg ct)
theorem Fl{x qual:Str}{st:Stmt}{f:Addr}{oc:Value}{od an:Option Addr}{EF:Array (Option Value)}{kV doc pm cg ct:Value}(l:K.lookup f=some ⟨oc,od, .func (YN x qual (eV st) (aZ st) (ai st) .none kV doc pm an cg ct),EF⟩)
 (c:ZW K cg qual=true)(k:YV K (.ref f)=true):Fun K x qual st f (YN x qual (eV st) (aZ st) (ai st) .none kV doc pm an cg ct):=⟨⟨oc,od,kV,doc,pm,an,cg,ct,EF,rfl,l,c⟩,k⟩
end
section
variable{X:Cx}
theorem pv(i:Nat){x:Str}{pos:Pos}(hN:X.N[i]? =some x:=by rfl)(hv:Q9 X.env.scope x:=by first | exact Or.inl rfl | exact Or.inr (Or.inl rfl) | exact Or.inr (Or.inr rfl))(hd:(x==("__debug__":Str))=false:=by decide)
 (uf:(x==("__classdict__":Str))=false:=by decide):PE X (.Name x pos) (sk i):=M3 hN hv hd uf
end
def Same(H H':Hp):Prop:=∀b o,H b=some o->H' b=some o
theorem Same.refl(H:Hp):Same H H:=λ_ _ h=>h
theorem Same.trans{H H1 H2:Hp}(a:Same H H1)(b:Same H1 H2):Same H H2:=λc o h=>b c o (a c o h)
theorem Same.free{H H':Hp}(e:Same H H'){l:Addr}(h:H' l=Option.none):H l=Option.none:=by
 cases q:H l with
 |none=>rfl
 |some o=>
  rw[e l o q] at h;cases h
theorem Same.seq{K:Xr}{H H':Hp}{a:Addr}{xs:List V}(e:Same H H')(h:SqL K H a xs):SqL K H' a xs:=by
 rcases h with(h | ⟨o,h⟩) | h
 ·exact .inl (.inl (e _ _ h))
 ·exact .inl (.inr ⟨o,e _ _ h⟩)
 ·exact .inr h
section
variable{κ:Type}[DecidableEq κ]
def mW(aE:List (κ×V))(k:κ):Option V:=(aE.find? λkv=>decide (kv.1=k)).map (·.2)
def putK(aE:List (κ×V))(k:κ)(v:V):List (κ×V):=
 if (aE.any λkv=>decide (kv.1=k))=true then aE.map (λkv=>if kv.1=k then(kv.1,v) else kv) else aE++[(k,v)]
def Kz(aE:List (κ×V))(k:κ):List (κ×V):=aE.filter λkv=>decide (kv.1≠k)
theorem mY{p:κ×V}{r:List (κ×V)}{k:κ}(e:p.1=k):mW (p::r) k=some p.2:=by simp[mW,aad,e]
theorem mX{p:κ×V}{r:List (κ×V)}{k:κ}(e:¬p.1=k):mW (p::r) k=mW r k:=by simp[mW,aad,e]
theorem su(k:κ):∀aE:List (κ×V),(aE.any λkv=>decide (kv.1=k))=(mW aE k).isSome
 |[]=>rfl
 |p::r=>by
  rw[aae];by_cases e:p.1=k
  ·simp only[mY e,ad1 e,Bool.true_or,Option.isSome_some]
  ·rw[mX e,ad2 e,Bool.false_or];exact su k r
theorem fX(aE:List (κ×V))(k:κ)(v:V):(putK aE k v).length<=aE.length+1:=by
 unfold putK;split
 ·rw[Xh];omega
 ·rw[Xq,Xo,X5];omega
theorem RelO.isSome_eq{o:Option V}{u:Option Value}(r:RelO o u):o.isSome=u.isSome:=by
 cases o with
 |none=>cases u with
  |none=>rfl
  |some _=>exact(show False from r).elim
 |some _=>cases u with
  |none=>exact(show False from r).elim
  |some _=>rfl
theorem RelO.getD{o:Option V}{u:Option Value}{d:V}{d':Value}(r:RelO o u)(rd:RelV d d'):RelV (o.getD d) (u.getD d'):=by
 cases o with
 |none=>cases u with
  |none=>exact rd
  |some _=>exact(show False from r).elim
 |some _=>cases u with
  |none=>exact(show False from r).elim
  |some _=>exact r
theorem KV.val{aE:List (κ×V)}{vs:List (κ×Value)}(r:KV aE vs)(k:κ):RelO (mW aE k) (acT vs k):=by
 unfold KV at r;induction r with
 |nil=>exact Zs
 | @cons p q ps qs h t ih=>
   obtain⟨h1,h2⟩:=h;by_cases e:p.1=k
   ·have e':q.1=k:=h1.symm.trans e;have b:acT (q::qs) k=some q.2:=by simp[acT,aad,e']
    rw[mY e,b];exact h2
   ·have e':¬q.1=k:=λz=>e (h1.trans z);have b:acT (q::qs) k=acT qs k:=by simp[acT,aad,e']
    rw[mX e,b];exact ih
theorem KV.any{aE:List (κ×V)}{vs:List (κ×Value)}(r:KV aE vs)(k:κ):(aE.any λkv=>decide (kv.1=k))=vs.any λkv=>decide (kv.1=k):=by
 unfold KV at r;induction r with
 |nil=>rfl
 |cons h t ih=>rw[aae,aae,ih,h.1]
theorem KV.repl{aE:List (κ×V)}{vs:List (κ×Value)}(r:KV aE vs)(k:κ){y:V}{u:Value}(ry:RelV y u):
 KV (aE.map λkv=>if kv.1=k then(kv.1,y) else kv) (vs.map λkv=>if kv.1=k then(kv.1,u) else kv):=by
 unfold KV at r⊢;induction r with
 |nil=>exact .nil
 | @cons p q ps qs h t ih=>
   rw[Xp,Xp];refine .cons ?_ ih;obtain⟨h1,h2⟩:=h;by_cases e:p.1=k
   ·rw[adY e,adY (h1.symm.trans e)];exact⟨h1,ry⟩
   ·rw[ad0 e,ad0 (λz=>e (h1.trans z))];exact⟨h1,h2⟩
theorem KV.put{aE:List (κ×V)}{vs:List (κ×Value)}(r:KV aE vs)(k:κ){y:V}{u:Value}(ry:RelV y u):KV (putK aE k y) (stored vs k u):=by
 unfold putK stored;rw[r.any k];by_cases e:(vs.any λkv=>decide (kv.1=k))=true
 ·rw[adY e,adY e];exact r.repl k ry
 ·rw[ad0 e,ad0 e];exact Paired.snoc r ⟨rfl,ry⟩
theorem KV.drop{aE:List (κ×V)}{vs:List (κ×Value)}(r:KV aE vs)(k:κ):KV (Kz aE k) (without vs k):=by
 unfold KV at r⊢;unfold Kz without;induction r with
 |nil=>exact .nil
 | @cons p q ps qs h t ih=>
   obtain⟨h1,h2⟩:=h;rw[YG,YG];by_cases e:p.1=k
   ·have a:¬decide (p.1≠k)=true:=by simp[e]
    have b:¬decide (q.1≠k)=true:=by simp[h1.symm.trans e]
    rw[ad0 a,ad0 b];exact ih
   ·have e':¬q.1=k:=λz=>e (h1.trans z);have a:decide (p.1≠k)=true:=by simp[e]
    have b:decide (q.1≠k)=true:=by simp[e']
    rw[adY a,adY b];exact .cons ⟨h1,h2⟩ ih
theorem KV.length{aE:List (κ×V)}{vs:List (κ×Value)}(r:KV aE vs):aE.length=vs.length:=Zg r
end
theorem oF{P:XR}{w:World}{k:Key}{u:Value}(r:RelV (kV k) u):(a6 P w).is k u=true:=by
 cases k with
 |inl i=>obtain⟨t,e⟩:=(show∃t,u=acX i t from r);subst e;exact yM P w i t
 |inr x=>obtain⟨t,e⟩:=(show∃t,u=acW x t from r);subst e;exact yN P w x t
theorem Mj{a b:Key}(e:kV a=kV b):a=b:=by
 cases a with
 |inl i=>cases b with
  |inl j=>have e':V.int i=V.int j:=e;injection e' with e';rw[e']
  |inr y=>exact nomatch (show V.int i=V.str y from e)
 |inr x=>cases b with
  |inl j=>exact nomatch (show V.str x=V.int j from e)
  |inr y=>have e':V.str x=V.str y:=e;injection e' with e';rw[e']
theorem B8:∀{a b:List Key},a.map kV=b.map kV->a=b
 |[],[],_=>rfl
 |[],_::_,e=>by simp at e
 |_::_,[],e=>by simp at e
 |x::xs,y::ys,e=>by
  rw[Xp,Xp] at e;injection e with e1 e2
  rw[Mj e1,B8 e2]
theorem uq{P:XR}{w:World}:∀{ks:List Key}{us:List Value},Vals (ks.map kV) us->ItemsAre (a6 P w) ks us
 |[],_,r=>by rw[Y0] at r;cases r;exact .nil
 |k::ks,_,r=>by
  rw[Xp] at r;cases r with
  |cons h t=>exact .cons (oF h) (uq t)
abbrev KT(H:Hp):List (List Key×V)->List (List Key×Addr×Value)->Prop:=abT λp q=>p.1=q.1/\H q.2.1=some (.tup (p.1.map kV))/\RelV p.2 q.2.2
theorem KT.val{H:Hp}{aE:List (List Key×V)}{xs:List (List Key×Addr×Value)}(r:KT H aE xs)(k:List Key):RelO (mW aE k) ((atKey xs k).map (·.2)):=by
 induction r with
 |nil=>exact Zs
 | @cons p q ps qs h t ih=>
   obtain⟨h1,_,h2⟩:=h;by_cases e:p.1=k
   ·have e':q.1=k:=h1.symm.trans e;have b:atKey (q::qs) k=some q.2:=by simp[atKey,aad,e']
    rw[mY e,b];exact h2
   ·have e':¬q.1=k:=λz=>e (h1.trans z);have b:atKey (q::qs) k=atKey qs k:=by simp[atKey,aad,e']
    rw[mX e,b];exact ih
theorem KT.repl{H:Hp}{aE:List (List Key×V)}{xs:List (List Key×Addr×Value)}(r:KT H aE xs)(k:List Key){y:V}{u:Value}(ry:RelV y u):
 KT H (aE.map λkv=>if kv.1=k then(kv.1,y) else kv) (xs.map (putAt k u)):=by
 induction r with
 |nil=>exact .nil
 | @cons p q ps qs h t ih=>
   rw[Xp,Xp];refine .cons ?_ ih;obtain⟨h1,h2,h3⟩:=h;unfold putAt;by_cases e:p.1=k
   ·rw[adY e,adY (h1.symm.trans e)];exact⟨h1,h2,ry⟩
   ·rw[ad0 e,ad0 (λz=>e (h1.trans z))];exact⟨h1,h2,h3⟩
theorem KT.put{H:Hp}{aE:List (List Key×V)}{xs:List (List Key×Addr×Value)}(r:KT H aE xs)(k:List Key){b:Addr}{y:V}{u:Value}(hb:H b=some (.tup (k.map kV)))(ry:RelV y u):
 KT H (putK aE k y) (aaJ xs k b u):=by
 have e:(aE.any λkv=>decide (kv.1=k))=(atKey xs k).isSome:=by
  rw[su,(r.val k).isSome_eq,abH]
 unfold putK aaJ;rw[e];by_cases q:(atKey xs k).isSome=true
 ·rw[adY q,adY q];exact r.repl k ry
 ·rw[ad0 q,ad0 q];exact Paired.snoc r ⟨rfl,hb,ry⟩
theorem KT.keeps{H H':Hp}{aE:List (List Key×V)}{xs:List (List Key×Addr×Value)}(r:KT H aE xs)(ht:∀b ys,H b=some (.tup ys)->H' b=some (.tup ys)):KT H' aE xs:=
 Paired.mapP r λ_ _ z=>⟨z.1,ht _ _ z.2.1,z.2.2⟩
section
variable{P:XR}{w:World}{H:Hp}{h:Heap}{a:Addr}
theorem La{u:HO}(ok:HOk P w H h)(e:Rd H a u):ObjOk P w H h a u:=e.ok ok
theorem oA{aE:List (Key×V)}(ok:HOk P w H h)(e:Rd H a (.dK aE)):aE.length<=XH/\(a==YS)=false/\∃vs,KV aE vs/\h.DictOf (a6 P w) a vs:=
 show ObjOk P w H h a (.dK aE) from La ok e
theorem Ky{aE:List (Key×V)}(ok:HOk P w H h)(e:H a=some (.dK aE)):aE.length<=XH/\(a==YS)=false/\∃vs,KV aE vs/\h.DictOf (a6 P w) a vs:=oA ok (.inl e)
theorem i_{ks:List Key}(ok:HOk P w H h)(e:H a=some (.tup (ks.map kV))):(Zh (a6 P w)).is h ks a:=by
 obtain⟨_,aL,r,o,h1,h2,n,h3⟩:=(show ObjOk P w H h a (.tup (ks.map kV)) from ok a _ e)
 exact⟨o,aL.toArray,n,h1,h2,h3,by simpa using uq r⟩
theorem lU{aE:List (List Key×V)}(ok:HOk P w H h)(e:Rd H a (.dT aE)):aE.length<=XH/\(a==YS)=false/\
 ∃xs,KT H aE xs/\h.DictOfH (Zh (a6 P w)) a xs:=by
 obtain⟨z,y,xs,r,o,es,ep,h1,h2,h3,h4,h5⟩:=(show ObjOk P w H h a (.dT aE) from La ok e)
 refine⟨z,y,xs,r,o,es,ep,h1,h2,h3,h4,λx hx=>?_,h5⟩;have all:∀{l:List (List Key×V)}{m:List (List Key×Addr×Value)},KT H l m->∀x∈m,(Zh (a6 P w)).is h x.1 x.2.1:=by
  intro l m q;induction q with
  |nil=>intro x hx;exact nomatch hx
  | @cons p q ps qs hq t ih=>
    intro x hx;rcases Xs.mp hx with e | hx
    ·subst e;exact i_ ok (by rw[<-hq.1];exact hq.2.1)
    ·exact ih x hx
 exact all r x hx
theorem Fb{aE:List (List Key×V)}(ok:HOk P w H h)(e:H a=some (.dT aE)):aE.length<=XH/\(a==YS)=false/\
 ∃xs,KT H aE xs/\h.DictOfH (Zh (a6 P w)) a xs:=lU ok (.inl e)
end
def kY(H:Hp)(a:Addr)(y:V)(r:Option V):Prop:=
 (∃aE k,Rd H a (.dK aE)/\y=kV k/\r=mW aE k)\/∃aE k b,Rd H a (.dT aE)/\y= .ref b/\H b=some (.tup (k.map kV))/\r=mW aE k
def DPut(H:Hp)(a:Addr)(y v:V)(H':Hp):Prop:=
 (∃aE k,H a=some (.dK aE)/\y=kV k/\aE.length<XH/\H'=upd H a (.dK (putK aE k v)))\/
 ∃aE k b,H a=some (.dT aE)/\y= .ref b/\H b=some (.tup (k.map kV))/\aE.length<XH/\H'=upd H a (.dT (putK aE k v))
theorem DPut.k{H:Hp}{a:Addr}{aE:List (Key×V)}{k:Key}{v:V}(e:H a=some (.dK aE))(hl:aE.length<XH):DPut H a (kV k) v (upd H a (.dK (putK aE k v))):= .inl ⟨aE,k,e,rfl,hl,rfl⟩
theorem DPut.t{H:Hp}{a b:Addr}{aE:List (List Key×V)}{k:List Key}{v:V}(e:H a=some (.dT aE))(eb:H b=some (.tup (k.map kV)))(hl:aE.length<XH):
 DPut H a (.ref b) v (upd H a (.dT (putK aE k v))):= .inr ⟨aE,k,b,e,rfl,eb,hl,rfl⟩
section
variable{X:Cx}{f8:List (Addr×Obj)}{σ:St}{H:Hp}{s:Xl}{a:Addr}{y v:V}{u r:Value}{o:Option V}{A:X6}{E:Value->Xl->Prop}
theorem Inv.big(I:Inv X f8 σ H s):YS<s.heap.objs.size:=by
 have h:XJ<s.heap.objs.size:=(I.mod.glob.keeps I.bk).lt;exact Z7 (by decide) h
theorem Di{Q:Value->Xl->Prop}(hu:A.units+1<cLine)(I:Inv X f8 σ H s)(g:kY H a y (some v))(ry:RelV y u)(h:∀w' s',Inv X f8 σ H s'->RelV v w'->Q w' s'):
 wpAny (model X.prog X.w) A (adA (.ref a) u) Q E s:=by
 rcases g with⟨aE,k,e,ey,l⟩ | ⟨aE,k,b,e,ey,eb,l⟩
 ·subst ey;obtain⟨z,hd,vs,rel,dd⟩:=oA I.hok e;obtain⟨w',hw,zW⟩:=RelO.some_of (v:=v) (o:=acT vs k) (by rw[l];exact rel.val k);exact wpAny_getItem_of (oF ry) dd.mapOf hw (h w' _ (I.tok _) zW)
 ·subst ey;cases (show u=XX b from ry);obtain⟨z,hd,xs,rel,dd⟩:=lU I.hok e;obtain⟨w',hw,zW⟩:=RelO.some_of (v:=v) (o:=(atKey xs k).map (·.2)) (by rw[l];exact rel.val k);obtain⟨p,hp,R1⟩:=Option.map_eq_some_iff.mp hw;refine wpAny_getItem_heap (ZT hu) (i_ I.hok eb) dd hp ?_;rw[R1];exact h w' _ (I.tok _) zW
theorem Oa{Q:Value->Xl->Prop}(hu:A.units+1<cLine)(I:Inv X f8 σ H s)(g:kY H a y o)(ry:RelV y u)(h:∀s',Inv X f8 σ H s'->Q (.bool o.isSome) s'):
 wpAny (model X.prog X.w) A (X9 .In u (.ref a)) Q E s:=by
 rcases g with⟨aE,k,e,ey,l⟩ | ⟨aE,k,b,e,ey,eb,l⟩
 ·subst ey;obtain⟨z,hd,vs,rel,dd⟩:=oA I.hok e;refine wpAny_in_of (oF ry) hd dd.mapOf ?_;rw[<-(rel.val k).isSome_eq,<-l];exact h _ (I.tok _)
 ·subst ey;cases (show u=XX b from ry);obtain⟨z,hd,xs,rel,dd⟩:=lU I.hok e;refine wpAny_in_heap (ZT hu) (i_ I.hok eb) hd dd ?_;have q:=(rel.val k).isSome_eq;rw[abH] at q;rw[<-q,<-l];exact h _ (I.tok _)
theorem Im{Q:Value->Xl->Prop}(hu:A.units+1<cLine)(I:Inv X f8 σ H s)(g:kY H a y o)(ry:RelV y u)(h:∀s',Inv X f8 σ H s'->Q (.bool (!o.isSome)) s'):
 wpAny (model X.prog X.w) A (X9 .NotIn u (.ref a)) Q E s:=by
 rcases g with⟨aE,k,e,ey,l⟩ | ⟨aE,k,b,e,ey,eb,l⟩
 ·subst ey;obtain⟨z,hd,vs,rel,dd⟩:=oA I.hok e;refine wpAny_notIn_of (oF ry) hd dd.mapOf ?_;rw[<-(rel.val k).isSome_eq,<-l];exact h _ (I.tok _)
 ·subst ey;cases (show u=XX b from ry);obtain⟨z,hd,xs,rel,dd⟩:=lU I.hok e;refine wpAny_notIn_heap (ZT hu) (i_ I.hok eb) hd dd ?_;have q:=(rel.val k).isSome_eq;rw[abH] at q;rw[<-q,<-l];exact h _ (I.tok _)
theorem lT{h':Heap}{t':Nat}{ob:HO}(I:Inv X f8 σ H s)(mu:N2 (H a))(hs:YI a s.heap h')(he:∃q,h'.get? a=some q)(new:ObjOk X.prog X.w (upd H a ob) h' a ob):
 Inv X f8 σ (upd H a ob) {s with heap:=h',toks:=t'}:=
 I.write (x:=a) (e:=a) mu (.inl rfl) (λb q hb z=>(hs.2 b hb).trans z) he new
theorem E_{P:XR}{w:World}{H':Hp}{h':Heap}{aE:List (Key×V)}{vs:List (Key×Value)}(z:aE.length<=XH)(hd:(a==YS)=false)(rel:KV aE vs)(dd:h'.DictOf (a6 P w) a vs):
 ObjOk P w H' h' a (.dK aE):=⟨z,hd,vs,rel,dd⟩
theorem Dj{H':Hp}{Q:Unit->Xl->Prop}(hu:A.units+1<cLine)(I:Inv X f8 σ H s)(g:DPut H a y v H')(ry:RelV y u)(rv:RelV v r)(h:∀s',Inv X f8 σ H' s'->Q () s'):
 wpAny (model X.prog X.w) A (setItem (.ref a) u r) Q E s:=by
 rcases g with⟨aE,k,e,ey,l,eH⟩ | ⟨aE,k,b,e,ey,eb,l,eH⟩
 ·subst ey eH;obtain⟨z,hd,vs,rel,dd⟩:=Ky I.hok e;have hz:vs.length<=XH:=by rw[<-rel.length];exact z
  have hl:(putK aE k v).length<=XH:=by have:=fX aE k v;omega
  refine wpAny_setItem_pairs (hsz:=hz) (oF ry) dd λh' Dk hs=>h _ ?_;have he:∃q,h'.get? a=some q:=let ⟨q,_,_,hq,_⟩:=Dk;⟨q,hq⟩
  exact lT I (by rw[e];exact Zs) hs he (E_ hl hd (rel.put k rv) Dk)
 ·subst ey eH;cases (show u=XX b from ry);obtain⟨z,hd,xs,rel,dd⟩:=Fb I.hok e;have hz:xs.length<=XH:=by rw[<-Zg rel];exact z
  have hl:(putK aE k v).length<=XH:=by have:=fX aE k v;omega
  refine wpAny_setItem_heap (hsz:=hz) (ZT hu) (i_ I.hok eb) dd λh' Dk hs=>h _ ?_;obtain⟨q,es,ep,hq,h2,h3,h4,_,h5⟩:=Dk;refine lT I (by rw[e];exact Zs) hs ⟨q,hq⟩ ⟨hl,hd,_,(rel.put k eb rv).keeps λc ys ec=>?_,q,es,ep,hq,h2,h3,h4,h5⟩;rw[aA (Gk ec e (λz=>nomatch z))];exact ec
end
def Lh(i:Expr):Prop:=∀ov iv,subscripted i false ov iv=operate [ov,iv] (adA ov iv)
theorem Kh{prog:XR}{w:World}{A:X6}{E:Value->Xl->Prop}{s:Xl}{env:Env}{value slice:Expr}{pos:Pos}{T id:String}{Q:Value->Xl->Prop}
 (hl:abF (.type T) "__getitem__"=pure (some (.builtin id)))(hs:Lh slice)
 (h:wpAny (model prog w) A (eval value env) (λo v4=>wpAny (model prog w) A (eval slice env) (λi u8=>u8.TypeIs o T/\wpAny (model prog w) A (adA o i) Q E u8) E v4) E s):
 wpAny (model prog w) A (eval (.Subscript value slice pos) env) Q E s:=by
 refine Subscript_ (YA h (λo v4 h₁=>YA h₁ (λi u8 h₂=>?_) λ_ _ x=>x) λ_ _ x=>x);obtain⟨hT,h₂⟩:=h₂;unfold subscriptTail;refine Xg ?_;rw[getitemInPython_of_ne hT.not_modules];refine Xg (acQ hT hl ?_);have fin:wpAny (model prog w) A (subscripted slice false o i) (λr s₃=>wpAny (model prog w) A (letTemporaryGo value o r>>=λ_=>pure r) Q E s₃) E u8:=by
  rw[hs o i];exact wpAny_operating (YA h₂ (λr s₃ h₃=>Xg (wpAny_letTemporaryGo (Xn h₃))) λ_ _ x=>x)
 first
  |exact Xn (Xg fin)
  |exact Xg (Xn (Xg fin))
  |exact Xg fin
theorem ye{X:Cx}{f8:List (Addr×Obj)}{σ:St}{H:Hp}{s:Xl}{a:Addr}{y:V}{o:Option V}(I:Inv X f8 σ H s)(g:kY H a y o):s.TypeIs (.ref a) "dict":=by
 rcases g with⟨aE,k,e,_,_⟩ | ⟨aE,k,b,e,_,_,_⟩
 ·obtain⟨_,_,vs,_,dd⟩:=oA I.hok e;exact dd.typeIs
 ·obtain⟨_,_,xs,_,dd⟩:=lU I.hok e;exact dd.typeIs
def Qb(td ty:TE):TE:=λσ H Q=>td σ H λx H1=>ty σ H1 λy H2=>∃a v,x= .ref a/\kY H2 a y (some v)/\Q v H2
def S9(ty td:TE):TE:=λσ H Q=>ty σ H λy H1=>td σ H1 λx H2=>∃a o,x= .ref a/\kY H2 a y o/\Q (.bl o.isSome) H2
def P7(td ty tv:TE):TS:=λD σ H=>tv σ H λv H1=>td σ H1 λx H2=>ty σ H2 λy H3=>∃a H4,x= .ref a/\DPut H3 a y v H4/\D.nx σ H4
section
variable{X:Cx}{o i value:Expr}{pos pos':Pos}{td ty tv:TE}
theorem JM(hu:X.A.units+1<cLine)(ho:PE X o td)(hi:PE X i ty)(hs:Lh i):PE X (.Subscript o i pos) (Qb td ty):=by
 intro f8 s σ H Q I h;refine Kh PySem.F.slot_dict_getitem.lookup hs (cC (ho f8 s σ H _ I h) λu s1 ⟨x,H1,I1,rx,q1⟩=>cC (hi f8 s1 σ H1 _ I1 q1) λiv s2 ⟨y,H2,I2,ry,a,v,ex,g,q2⟩=>?_);subst ex;obtain rfl:u=XX a:=rx;exact⟨ye I2 g,Di hu I2 g ry λw' s3 I3 zW=>⟨v,H2,I3,zW,q2⟩⟩
theorem MM(hu:X.A.units+1<cLine)(hi:PE X i ty)(ho:PE X o td):PC X .In i o (S9 ty td):=by
 intro f8 s σ H Q I h;refine cC (hi f8 s σ H _ I h) λiv s1 ⟨y,H1,I1,ry,q1⟩=>cC (ho f8 s1 σ H1 _ I1 q1) λu s2 ⟨x,H2,I2,rx,a,ov,ex,g,q2⟩=>?_;subst ex;obtain rfl:u=XX a:=rx;exact Oa hu I2 g ry λs3 I3=>⟨.bl ov.isSome,H2,I3,rfl,q2⟩
theorem JR(hu:X.A.units+1<cLine)(ho:PE X o td)(hi:PE X i ty)(hv:PE X value tv)(hs:abf value (some (.Subscript o i pos')) pos.line X.env=pure false):
 PS X (.Assign [.Subscript o i pos'] value pos) (P7 td ty tv):=by
 intro f8 s σ H D I h;refine wpAny_Assign_Subscript (cC (hv f8 s σ H _ I h) λr s1 ⟨v,H1,I1,rv,q1⟩=>cC (ho f8 s1 σ H1 _ I1 q1) λu s2 ⟨x,H2,I2,rx,q2⟩=>cC (hi f8 s2 σ H2 _ I2 q2) λiv s3 ⟨y,H3,I3,ry,a,H4,ex,g,q3⟩=>?_) hs;subst ex;obtain rfl:u=XX a:=rx;exact Dj hu I3 g ry rv λs4 I4=>⟨σ,H4,I4,q3⟩
end
theorem yf{P:XR}{w:World}{H:Hp}(h:Heap)(hb:YS<h.objs.size):ObjOk P w H (h.push {cls:= .type "dict",data:= .dict #[]}) h.objs.size (.dT []):=
 ⟨Yo _,ad6.mpr (Yp (XS hb)),[], .nil,_,#[],0,XA _ rfl,⟨rfl,rfl,rfl⟩,rfl,rfl,aan⟩
def Nz:TE:=λ_ H Q=>∀p,H p=none->Q (.ref p) (upd H p (.dT []))
section
variable{X:Cx}{pos:Pos}
theorem GY:PE X (.Dict [] [] pos) Nz:=λf8 s σ H Q I h=>
 wpAny_Dict_empty ⟨.ref s.heap.objs.size,_,I.laid (a:=s.heap.objs.size) (o:= .dT []) (t':=s.toks) (λ_ _ q=>Xm _ q) (Xx _) (yf s.heap I.big),rfl,h _ (I.hok.fresh (Xx _))⟩
end
def HA:List (TE×TE)->St->Hp->(List (V×V)->Hp->Prop)->Prop
 |[],_,H,Q=>Q [] H
 |(tk,tv)::r,σ,H,Q=>tk σ H λx H1=>tv σ H1 λy H2=>HA r σ H2 λps H3=>Q ((x,y)::ps) H3
abbrev VV:List (V×V)->List (Value×Value)->Prop:=abT λp q=>RelV p.1 q.1/\RelV p.2 q.2
def Q5(X:Cx)(pos:Pos)(keys:List (Option Expr))(values:List Expr)(Q0:List (TE×TE)):Prop:=
 ∀(f8:List (Addr×Obj)) (s:Xl) (σ:St) (H:Hp) (Q:List (V×V)->Hp->Prop),Inv X f8 σ H s->HA Q0 σ H Q->
  wpAny (model X.prog X.w) X.A (evalPairs (pairTrees keys values X.env pos)) (λvs s'=>∃ps H',Inv X f8 σ H' s'/\VV ps vs/\Q ps H') X.xe s
theorem JO{X:Cx}{pos:Pos}:Q5 X pos [] [] []:=λf8 s σ H Q I h=>pairTrees_nil_walk ⟨[],H,I, .nil,h⟩
theorem G0{X:Cx}{pos:Pos}{k v:Expr}{ks:List (Option Expr)}{vs:List Expr}{tk tv:TE}{Q0:List (TE×TE)}(hk:PE X k tk)(hv:PE X v tv)(hr:Q5 X pos ks vs Q0):
 Q5 X pos (some k::ks) (v::vs) ((tk,tv)::Q0):=λf8 s σ H Q I h=>
 pairTrees_cons_walk (cC (hk f8 s σ H _ I h) λu s1 ⟨x,H1,I1,rx,q1⟩=>cC (hv f8 s1 σ H1 _ I1 q1) λw2 s2 ⟨y,H2,I2,ry,q2⟩=>
  cC (hr f8 s2 σ H2 _ I2 q2) λws s3 ⟨ps,H3,I3,rel,q3⟩=>⟨(x,y)::ps,H3,I3, .cons ⟨rx,ry⟩ rel,q3⟩)
structure M1 (X:Cx) (o:Expr) (m:Str) (P3:Pos) (e:Expr) (a7:Pos):Prop where
 base:Ze o m X.env (eval o X.env)=eval o X.env
 few:((Y9 a7 (Xz [e] X.env)).all (λx=>!x.1)&&(aaP a7 (ZJ [] X.env)).all (λx=>x.1.isSome)
  &&decide (([e]:List Expr).length+([]:List ZR).length+(if ([]:List ZR).isEmpty then 0 else 1)<30))=true
 line:(P3.endLine==a7.line)=true
 trees:Y9 a7 (Xz [e] X.env)=[(false,eval e X.env)]
structure M2 (X:Cx) (o:Expr) (m:Str) (P3:Pos) (e f:Expr) (a7:Pos):Prop where
 base:Ze o m X.env (eval o X.env)=eval o X.env
 few:((Y9 a7 (Xz [e,f] X.env)).all (λx=>!x.1)&&(aaP a7 (ZJ [] X.env)).all (λx=>x.1.isSome)
  &&decide (([e,f]:List Expr).length+([]:List ZR).length+(if ([]:List ZR).isEmpty then 0 else 1)<30))=true
 line:(P3.endLine==a7.line)=true
 trees:Y9 a7 (Xz [e,f] X.env)=[(false,eval e X.env),(false,eval f X.env)]
def NZ(H:Hp)(a:Addr):Prop:=(∃aE,Rd H a (.dK aE))\/∃aE,Rd H a (.dT aE)
theorem AB{X:Cx}{f8:List (Addr×Obj)}{σ:St}{H:Hp}{s:Xl}{a:Addr}(I:Inv X f8 σ H s)(d:NZ H a):
 s.TypeIs (.ref a) "dict"/\(∀b,XX a= .ref b->∃ob,s.heap.get? b=some ob/\ob.dict=none)/\(a==YS)=false:=by
 rcases d with⟨aE,e⟩ | ⟨aE,e⟩
 ·obtain⟨_,hd,vs,_,dd⟩:=oA I.hok e;refine⟨dd.typeIs,λb q=>?_,hd⟩;cases q;obtain⟨ob,_,_,h1,h2,_⟩:=dd;exact⟨ob,h1,h2.2.1⟩
 ·obtain⟨_,hd,xs,_,dd⟩:=lU I.hok e;refine⟨dd.typeIs,λb q=>?_,hd⟩;cases q;obtain⟨ob,_,_,h1,h2,_⟩:=dd;exact⟨ob,h1,h2.2.1⟩
section
variable{X:Cx}{f8:List (Addr×Obj)}{σ:St}{H:Hp}{s:Xl}{a:Addr}{y d:V}{u r:Value}{o:Option V}{A:X6}{E:Value->Xl->Prop}
theorem Ls{Q:Value->Xl->Prop}(hu:A.units+1<cLine)(I:Inv X f8 σ H s)(g:kY H a y o)(ry:RelV y u)(h:∀w' s',Inv X f8 σ H s'->RelV (o.getD .non) w'->Q w' s'):
 wpAny (model X.prog X.w) A (call (.builtin "dict.get") [.ref a,u]) Q E s:=by
 rcases g with⟨aE,k,e,ey,l⟩ | ⟨aE,k,b,e,ey,eb,l⟩
 ·subst ey;obtain⟨z,hd,vs,rel,dd⟩:=oA I.hok e;refine acA Zf dd.typeIs aac (acr _ _) (meets_dict_get (a6 X.prog X.w) a (oF ry) hd) ⟨_,dd.mapOf,h _ _ (I.tok _) ?_⟩;rw[l];exact(rel.val k).getD rfl
 ·subst ey;cases (show u=XX b from ry);obtain⟨z,hd,xs,rel,dd⟩:=lU I.hok e;refine acA Zf dd.typeIs aac (acr _ _) (meetsH_dict_get (Zh (a6 X.prog X.w)) a b hd) ⟨ZT hu,k,xs,i_ I.hok eb,dd,h _ _ (I.tok _) ?_⟩;rw[l];exact(rel.val k).getD rfl
theorem Lu{Q:Value->Xl->Prop}(hu:A.units+1<cLine)(I:Inv X f8 σ H s)(g:kY H a y o)(ry:RelV y u)(rd:RelV d r)(h:∀w' s',Inv X f8 σ H s'->RelV (o.getD d) w'->Q w' s'):
 wpAny (model X.prog X.w) A (call (.builtin "dict.get") [.ref a,u,r]) Q E s:=by
 rcases g with⟨aE,k,e,ey,l⟩ | ⟨aE,k,b,e,ey,eb,l⟩
 ·subst ey;obtain⟨z,hd,vs,rel,dd⟩:=oA I.hok e;refine acA Zf dd.typeIs aac (acq _ _ _) (meets_dict_get_default (a6 X.prog X.w) a (oF ry) hd r) ⟨_,dd.mapOf,h _ _ (I.tok _) ?_⟩;rw[l];exact(rel.val k).getD rd
 ·subst ey;cases (show u=XX b from ry);obtain⟨z,hd,xs,rel,dd⟩:=lU I.hok e;refine acA Zf dd.typeIs aac (acq _ _ _) (meetsH_dict_get_default (Zh (a6 X.prog X.w)) a b hd r) ⟨ZT hu,k,xs,i_ I.hok eb,dd,h _ _ (I.tok _) ?_⟩;rw[l];exact(rel.val k).getD rd
end
def Nx(td ty:TE):TE:=λσ H Q=>td σ H λx H1=>∃a,x= .ref a/\NZ H1 a/\ty σ H1 λy H2=>∃o,kY H2 a y o/\Q (o.getD .non) H2
def Ny(td ty tx:TE):TE:=λσ H Q=>td σ H λx H1=>∃a,x= .ref a/\NZ H1 a/\ty σ H1 λy H2=>tx σ H2 λz H3=>∃o,kY H3 a y o/\Q (o.getD z) H3
section
variable{X:Cx}{o e f:Expr}{P3 a7:Pos}{td ty tx:TE}
theorem GW(hu:X.A.units+1<cLine)(ho:PE X o td)(he:PE X e ty)(m:M1 X o "get" P3 e a7):PE X (.Call (.Attribute o "get" P3) [e] [] a7) (Nx td ty):=by
 intro f8 s σ H Q I h;refine acj m.base m.few m.line Z6 Zf acM (cC (ho f8 s σ H _ I h) λu s1 ⟨x,H1,I1,rx,a,ex,d,q1⟩=>?_);subst ex;obtain rfl:u=XX a:=rx;obtain⟨t1,t2,_⟩:=AB I1 d;refine⟨t1,t2,?_⟩;rw[m.trees];refine ZG rfl (ZY (aab (cC (he f8 s1 σ H1 _ I1 q1) λiv s2 ⟨y,H2,I2,ry,ov,g,q2⟩=>aaX ?_)));exact Ls hu I2 g ry λw' s3 I3 zW=>⟨_,H2,I3,zW,q2⟩
theorem GX(hu:X.A.units+1<cLine)(ho:PE X o td)(he:PE X e ty)(hf:PE X f tx)(m:M2 X o "get" P3 e f a7):PE X (.Call (.Attribute o "get" P3) [e,f] [] a7) (Ny td ty tx):=by
 intro f8 s σ H Q I h;refine acj m.base m.few m.line Z6 Zf acM (cC (ho f8 s σ H _ I h) λu s1 ⟨x,H1,I1,rx,a,ex,d,q1⟩=>?_);subst ex;obtain rfl:u=XX a:=rx;obtain⟨t1,t2,_⟩:=AB I1 d;refine⟨t1,t2,?_⟩;rw[m.trees];refine ZG rfl (ZY (aab (cC (he f8 s1 σ H1 _ I1 q1) λiv s2 ⟨y,H2,I2,ry,q2⟩=>
  aab (cC (hf f8 s2 σ H2 _ I2 q2) λfv s3 ⟨z,H3,I3,rz,ov,g,q3⟩=>aaX ?_))))
 exact Lu hu I3 g ry rz λw' s4 I4 zW=>⟨_,H3,I4,zW,q3⟩
end
end L2
namespace L3
open PySem PySem.Spec L2
open PyProof.Rows hiding St
inductive Rs (α:Type) where
 |ok (a:α) | ex (n:Nat)
def M(α:Type):=Option (Rs α)
def ae{α:Type}(a:α):M α:=some (.ok a)
def M.bind{α β:Type}(m:M α)(k:α->M β):M β:=match m with
 |none=>none
 |some (.ex n)=>some (.ex n)
 |some (.ok a)=>k a
def ag{α:Type}:M α:=none
def bR{α:Type}(n:Nat):M α:=some (.ex n)
instance:Monad M where
 pure:=ae
 bind:=M.bind
@[simp] theorem ay{α β:Type}(a:α)(k:α->M β):(ae a>>=k)=k a:=rfl
@[simp] theorem Ll{α β:Type}(a:α)(k:α->M β):((pure a:M α)>>=k)=k a:=rfl
@[simp] theorem Lm{α β:Type}(n:Nat)(k:α->M β):(bR n>>=k)=bR n:=rfl
@[simp] theorem Lo{α β:Type}(k:α->M β):((ag:M α)>>=k)=ag:=rfl
theorem M.cs{α:Type}(m:M α):m=ag\/(∃n,m=bR n)\/∃a,m=ae a:=by
 match m with
 |none=>exact .inl rfl
 |some (.ex n)=>exact .inr (.inl ⟨n,rfl⟩)
 |some (.ok a)=>exact .inr (.inr ⟨a,rfl⟩)
theorem gq{α:Type}{a b:α}(h:ae a=ae b):a=b:=by
 have h:some (Rs.ok a)=some (Rs.ok b):=h;cases h;rfl
theorem gU{α:Type}{a:α}(h:ag=ae a):False:=by
 have h:none=some (Rs.ok a):=h;cases h
theorem Ha{α:Type}{n:Nat}{a:α}(h:bR n=ae a):False:=by
 have h:some (Rs.ex n)=some (Rs.ok a):=h;cases h
theorem iX{α β:Type}{m:M α}{k:α->M β}{r:β}(h:(m>>=k)=ae r):∃a,m=ae a/\k a=ae r:=by
 rcases m.cs with e | ⟨n,e⟩ | ⟨a,e⟩
 ·subst e;exact(gU h).elim
 ·subst e;exact(Ha h).elim
 ·subst e;exact⟨a,rfl,h⟩
def BD(h:Heap)(ea D:Addr):Prop:=∃ox,h.get? ea=some ox/\ox.cls= .ref D
def Lg(ea D:Addr):HO:= .ext λh=>BD h ea D
inductive D where
 |non | bl (b:Bool) | int (i:Int) | str (x:Str) | raw (v:V) | exc (C:Addr) | scr (l:List Int) | tup (l:List D) | lst (l:List D)
 |dct (ks:List (List Key)) (l:List D) | dci (ks:List Key) (l:List D)
instance:Inhabited D:=⟨.non⟩
def lim:Nat:=4096
theorem d6:lim<XH:=by rw[Zw];decide
mutual
def Den(K:Xr)(F:Hp):D->V->Prop
 | .non,v=>v= .non
 | .bl b,v=>v= .bl b
 | .int i,v=>v= .int i
 | .str x,v=>v= .str x/\x.length<=lim
 | .raw u,v=>v=u
 | .exc C,v=>∃ea,v= .ref ea/\F ea=some (Lg ea C)
 | .scr ns,v=>∃a,v= .ref a/\SqL K F a (ns.map V.int)/\ns.length<=lim
 | .tup ds,v=>∃a vs,v= .ref a/\F a=some (.tup vs)/\DenL K F ds vs/\ds.length<=lim
 | .lst ds,v=>∃a vs,v= .ref a/\F a=some (.lst vs)/\DenL K F ds vs/\ds.length<=lim
 | .dct ks ds,v=>∃a ob vs,v= .ref a/\F a=some (.frz ob (.dT (ks.zip vs)))/\DenL K F ds vs/\ks.length=ds.length/\ds.length<=lim
 | .dci ks ds,v=>∃a ob vs,v= .ref a/\F a=some (.frz ob (.dK (ks.zip vs)))/\DenL K F ds vs/\ks.length=ds.length/\ds.length<=lim
def DenL(K:Xr)(F:Hp):List D->List V->Prop
 |[],vs=>vs=[]
 |d::ds,vs=>∃v r,vs=v::r/\Den K F d v/\DenL K F ds r
end
theorem Same.rd{H H':Hp}{a:Addr}{u:HO}(e:Same H H')(h:Rd H a u):Rd H' a u:=by
 rcases h with h | ⟨o,h⟩
 ·exact .inl (e _ _ h)
 ·exact .inr ⟨o,e _ _ h⟩
theorem Same.tup{K:Xr}{H H':Hp}{a:Addr}{xs:List V}(e:Same H H')(h:SqT K H a xs):SqT K H' a xs:=by
 rcases h with h | h
 ·exact .inl (Same.rd e h)
 ·exact .inr h
section
variable{K:Xr}{F F':Hp}
mutual
theorem Den.mono(e:Same F F'):∀{d:D}{v:V},Den K F d v->Den K F' d v
 | .non,_,h=>h
 | .bl _,_,h=>h
 | .int _,_,h=>h
 | .str _,_,h=>h
 | .raw _,_,h=>h
 | .exc _,_,⟨a,h1,h2⟩=>⟨a,h1,e _ _ h2⟩
 | .scr _,_,⟨a,h1,h2,h3⟩=>⟨a,h1,Same.seq e h2,h3⟩
 | .tup _,_,⟨a,vs,h1,h2,h3,h4⟩=>⟨a,vs,h1,e _ _ h2,DenL.mono e h3,h4⟩
 | .lst _,_,⟨a,vs,h1,h2,h3,h4⟩=>⟨a,vs,h1,e _ _ h2,DenL.mono e h3,h4⟩
 | .dct _ _,_,⟨a,ob,vs,h1,h2,h3,h4⟩=>⟨a,ob,vs,h1,e _ _ h2,DenL.mono e h3,h4⟩
 | .dci _ _,_,⟨a,ob,vs,h1,h2,h3,h4⟩=>⟨a,ob,vs,h1,e _ _ h2,DenL.mono e h3,h4⟩
theorem DenL.mono(e:Same F F'):∀{ds:List D}{vs:List V},DenL K F ds vs->DenL K F' ds vs
 |[],_,h=>h
 |_::_,_,⟨v,r,h1,h2,h3⟩=>⟨v,r,h1,Den.mono e h2,DenL.mono e h3⟩
end
theorem DenL.nil:DenL K F [] []:=rfl
theorem DenL.cons{d:D}{v:V}{ds:List D}{vs:List V}(h:Den K F d v)(r:DenL K F ds vs):DenL K F (d::ds) (v::vs):=⟨v,vs,rfl,h,r⟩
theorem DenL.len:∀{ds:List D}{vs:List V},DenL K F ds vs->ds.length=vs.length
 |[],_,h=>by cases (show _=_ from h);rfl
 |_::ds,_,⟨v,r,h1,_,h3⟩=>by subst h1;rw[Xo,Xo,DenL.len h3]
theorem DenL.get:∀{ds:List D}{vs:List V}{i:Nat}{d:D},DenL K F ds vs->ds[i]? =some d->∃v,vs[i]? =some v/\Den K F d v
 |[],_,_,_,_,e=>by simp at e
 |d::ds,_,0,_,⟨v,r,h1,h2,h3⟩,e=>by subst h1;simp at e;subst e;exact⟨v,rfl,h2⟩
 |d::ds,_,i+1,_,⟨v,r,h1,h2,h3⟩,e=>by
  subst h1;obtain⟨w,e1,e2⟩:=DenL.get (i:=i) h3 (by simpa using e);exact⟨w,by simpa using e1,e2⟩
theorem DenL.at:∀{ds:List D}{vs:List V}{i:Nat}{v:V},DenL K F ds vs->vs[i]? =some v->∃d,ds[i]? =some d/\Den K F d v
 |[],_,_,_,h,e=>by cases (show _=_ from h);simp at e
 |d::ds,_,0,_,⟨v,r,h1,h2,h3⟩,e=>by subst h1;simp at e;subst e;exact⟨d,rfl,h2⟩
 |d::ds,_,i+1,_,⟨v,r,h1,h2,h3⟩,e=>by
  subst h1;obtain⟨w,e1,e2⟩:=DenL.at (i:=i) h3 (by simpa using e);exact⟨w,by simpa using e1,e2⟩
theorem DenL.append:∀{ds es:List D}{vs ws:List V},DenL K F ds vs->DenL K F es ws->DenL K F (ds++es) (vs++ws)
 |[],_,_,_,h,h'=>by cases (show _=_ from h);exact h'
 |d::ds,_,_,_,⟨v,r,h1,h2,h3⟩,h'=>by subst h1;exact⟨v,_,rfl,h2,DenL.append h3 h'⟩
theorem DenL.take:∀{ds:List D}{vs:List V}(n:Nat),DenL K F ds vs->DenL K F (ds.take n) (vs.take n)
 |_,_,0,_=>by simp[List.take];rfl
 |[],_,_+1,h=>by cases (show _=_ from h);rfl
 |d::ds,_,n+1,⟨v,r,h1,h2,h3⟩=>by subst h1;exact⟨v,_,rfl,h2,DenL.take n h3⟩
theorem DenL.drop:∀{ds:List D}{vs:List V}(n:Nat),DenL K F ds vs->DenL K F (ds.drop n) (vs.drop n)
 |_,_,0,h=>by simpa using h
 |[],_,_+1,h=>by cases (show _=_ from h);rfl
 |d::ds,_,n+1,⟨v,r,h1,h2,h3⟩=>by subst h1;exact DenL.drop n h3
theorem DenL.ints(ns:List Int):DenL K F (ns.map D.int) (ns.map V.int):=by
 induction ns with
 |nil=>rfl
 |cons n ns ih=>exact .cons rfl ih
end
structure Ext (F H F' H':Hp):Prop where
 hh:Same H H'
 ff:Same F F'
 fh:Same F' H'
 new:∀a,H a≠none->F' a=F a\/∃ts,H a=some (.tup ts)
theorem Ext.old{F H F' H':Hp}(e:Ext F H F' H'){a:Addr}{o:HO}(h:H a=some o)(hn:∀ts,o≠ .tup ts):F' a=F a:=by
 rcases e.new a (by rw[h];exact λz=>nomatch z) with q | ⟨ts,q⟩
 ·exact q
 ·rw[h] at q;cases q;exact ad3 rfl (hn ts)
theorem Ext.refl{F H:Hp}(h:Same F H):Ext F H F H:=⟨Same.refl _,Same.refl _,h,λ_ _=> .inl rfl⟩
theorem Ext.trans{F H F' H' F'' H'':Hp}(a:Ext F H F' H')(b:Ext F' H' F'' H''):Ext F H F'' H'':=
 ⟨a.hh.trans b.hh,a.ff.trans b.ff,b.fh,λc hc=>by
  have:H' c≠none:=by
   cases q:H c with
   |none=>exact ad3 q hc
   |some o=>rw[a.hh c o q];exact λz=>nomatch z
  rcases a.new c hc with p | p
  ·rcases b.new c this with q | ⟨ts,q⟩
   ·exact .inl (q.trans p)
   ·cases z:H c with
    |none=>exact ad3 z hc
    |some o=>
     rw[a.hh c o z] at q;exact .inr ⟨ts,q⟩
  ·exact .inr p⟩
theorem Ext.lay{F H:Hp}{a:Addr}{o:HO}(h:Same F H)(n:H a=none):Ext F H (upd F a o) (upd H a o):=by
 have nf:F a=none:=Same.free h n;refine⟨λb u e=>?_,λb u e=>?_,λb u e=>?_,λb hb=>?_⟩
 ·rw[aA (bu e n)];exact e
 ·rw[aA (bu e nf)];exact e
 ·by_cases q:b=a
  ·subst q;rw[aM] at e⊢;exact e
  ·rw[aA q] at e⊢;exact h b u e
 ·exact .inl (aA λz=>hb (by rw[z];exact n))
theorem Ext.free{F H:Hp}{a:Addr}{o:HO}(h:Same F H)(n:H a=none):Ext F H F (upd H a o):=
 ⟨λb u e=>by rw[aA (bu e n)];exact e,Same.refl _,λb u e=>by rw[aA (bu (h b u e) n)];exact h b u e,λ_ _=> .inl rfl⟩
theorem Ext.tup{F H:Hp}{a:Addr}{ts:List V}(h:Same F H)(e:H a=some (.tup ts)):Ext F H (upd F a (.tup ts)) H:=by
 refine⟨Same.refl _,λb u q=>?_,λb u q=>?_,λb hb=>?_⟩
 ·by_cases z:b=a
  ·subst z;rw[aM,<-e];exact h b u q
  ·rw[aA z];exact q
 ·by_cases z:b=a
  ·subst z;rw[aM] at q;rw[e];exact q
  ·rw[aA z] at q;exact h b u q
 ·by_cases z:b=a
  ·subst z;exact .inr ⟨ts,e⟩
  ·exact .inl (aA z)
def WP(K:Xr)(Xw:Nat->Hp->Prop)(F H:Hp)(m:M D)(Q:VK):Prop:=
 match m with
 |none=>False
 |some (.ok d)=>∀v H' F',Ext F H F' H'->Den K F' d v->Q v H'
 |some (.ex n)=>∀F' H',Ext F H F' H'->Xw n H'
def WPL(K:Xr)(Xw:Nat->Hp->Prop)(F H:Hp)(m:M (List D))(Q:List V->Hp->Prop):Prop:=
 match m with
 |none=>False
 |some (.ok ds)=>∀vs H' F',Ext F H F' H'->DenL K F' ds vs->Q vs H'
 |some (.ex n)=>∀F' H',Ext F H F' H'->Xw n H'
def WPB(Xw:Nat->Hp->Prop)(F H:Hp)(m:M Bool)(Q:Bool->Hp->Prop):Prop:=
 match m with
 |none=>False
 |some (.ok b)=>∀H' F',Ext F H F' H'->Q b H'
 |some (.ex n)=>∀F' H',Ext F H F' H'->Xw n H'
section
variable{K:Xr}{Xw:Nat->Hp->Prop}{F F' H H':Hp}{Q:VK}
theorem WP.ext{m:M D}(e:Ext F H F' H')(h:WP K Xw F H m Q):WP K Xw F' H' m Q:=by
 match m,h with
 |none,h=>exact h
 |some (.ok d),h=>exact λv H2 F2 e2 q=>h v H2 F2 (e.trans e2) q
 |some (.ex n),h=>exact λF2 H2 e2=>h F2 H2 (e.trans e2)
theorem WPL.ext{m:M (List D)}{Q:List V->Hp->Prop}(e:Ext F H F' H')(h:WPL K Xw F H m Q):WPL K Xw F' H' m Q:=by
 match m,h with
 |none,h=>exact h
 |some (.ok d),h=>exact λv H2 F2 e2 q=>h v H2 F2 (e.trans e2) q
 |some (.ex n),h=>exact λF2 H2 e2=>h F2 H2 (e.trans e2)
theorem WPB.ext{m:M Bool}{Q:Bool->Hp->Prop}(e:Ext F H F' H')(h:WPB Xw F H m Q):WPB Xw F' H' m Q:=by
 match m,h with
 |none,h=>exact h
 |some (.ok d),h=>exact λH2 F2 e2=>h H2 F2 (e.trans e2)
 |some (.ex n),h=>exact λF2 H2 e2=>h F2 H2 (e.trans e2)
theorem WP.fin{d:D}{v:V}(h:WP K Xw F H (ae d) Q)(e:Ext F H F' H')(q:Den K F' d v):Q v H':=h v H' F' e q
theorem WP.now{d:D}{v:V}(h:WP K Xw F H (ae d) Q)(s:Same F H)(q:Den K F d v):Q v H:=h v H F (Ext.refl s) q
theorem WP.bind{m:M D}{k:D->M D}(h:WP K Xw F H (m>>=k) Q):WP K Xw F H m λv H1=>∃F1 d,Ext F H F1 H1/\Den K F1 d v/\WP K Xw F1 H1 (k d) Q:=by
 match m,h with
 |none,h=>exact h
 |some (.ok d),h=>exact λv H2 F2 e2 q=>⟨F2,d,e2,q,WP.ext e2 (show WP K Xw F H (k d) Q from h)⟩
 |some (.ex n),h=>exact h
theorem WP.bindL{m:M (List D)}{k:List D->M D}(h:WP K Xw F H (m>>=k) Q):WPL K Xw F H m λvs H1=>∃F1 ds,Ext F H F1 H1/\DenL K F1 ds vs/\WP K Xw F1 H1 (k ds) Q:=by
 match m,h with
 |none,h=>exact h
 |some (.ok d),h=>exact λv H2 F2 e2 q=>⟨F2,d,e2,q,WP.ext e2 (show WP K Xw F H (k d) Q from h)⟩
 |some (.ex n),h=>exact h
theorem WP.bindB{m:M Bool}{k:Bool->M D}(h:WP K Xw F H (m>>=k) Q):WPB Xw F H m λb H1=>∃F1,Ext F H F1 H1/\WP K Xw F1 H1 (k b) Q:=by
 match m,h with
 |none,h=>exact h
 |some (.ok d),h=>exact λH2 F2 e2=>⟨F2,e2,WP.ext e2 (show WP K Xw F H (k d) Q from h)⟩
 |some (.ex n),h=>exact h
theorem WPB.bind{m:M D}{k:D->M Bool}{Q:Bool->Hp->Prop}(h:WPB Xw F H (m>>=k) Q):WP K Xw F H m λv H1=>∃F1 d,Ext F H F1 H1/\Den K F1 d v/\WPB Xw F1 H1 (k d) Q:=by
 match m,h with
 |none,h=>exact h
 |some (.ok d),h=>exact λv H2 F2 e2 q=>⟨F2,d,e2,q,WPB.ext e2 (show WPB Xw F H (k d) Q from h)⟩
 |some (.ex n),h=>exact h
theorem WPB.bindB{m:M Bool}{k:Bool->M Bool}{Q:Bool->Hp->Prop}(h:WPB Xw F H (m>>=k) Q):WPB Xw F H m λb H1=>∃F1,Ext F H F1 H1/\WPB Xw F1 H1 (k b) Q:=by
 match m,h with
 |none,h=>exact h
 |some (.ok d),h=>exact λH2 F2 e2=>⟨F2,e2,WPB.ext e2 (show WPB Xw F H (k d) Q from h)⟩
 |some (.ex n),h=>exact h
theorem WPL.bind{m:M D}{k:D->M (List D)}{Q:List V->Hp->Prop}(h:WPL K Xw F H (m>>=k) Q):WP K Xw F H m λv H1=>∃F1 d,Ext F H F1 H1/\Den K F1 d v/\WPL K Xw F1 H1 (k d) Q:=by
 match m,h with
 |none,h=>exact h
 |some (.ok d),h=>exact λv H2 F2 e2 q=>⟨F2,d,e2,q,WPL.ext e2 (show WPL K Xw F H (k d) Q from h)⟩
 |some (.ex n),h=>exact h
theorem WPL.bindL{m:M (List D)}{k:List D->M (List D)}{Q:List V->Hp->Prop}(h:WPL K Xw F H (m>>=k) Q):WPL K Xw F H m λvs H1=>∃F1 ds,Ext F H F1 H1/\DenL K F1 ds vs/\WPL K Xw F1 H1 (k ds) Q:=by
 match m,h with
 |none,h=>exact h
 |some (.ok d),h=>exact λv H2 F2 e2 q=>⟨F2,d,e2,q,WPL.ext e2 (show WPL K Xw F H (k d) Q from h)⟩
 |some (.ex n),h=>exact h
theorem WP.mono{m:M D}{Q':VK}(h:WP K Xw F H m Q)(k:∀v H',Q v H'->Q' v H'):WP K Xw F H m Q':=by
 match m,h with
 |none,h=>exact h
 |some (.ok d),h=>exact λv H2 F2 e2 q=>k _ _ (h v H2 F2 e2 q)
 |some (.ex n),h=>exact h
theorem WPL.mono{m:M (List D)}{Q Q':List V->Hp->Prop}(h:WPL K Xw F H m Q)(k:∀v H',Q v H'->Q' v H'):WPL K Xw F H m Q':=by
 match m,h with
 |none,h=>exact h
 |some (.ok d),h=>exact λv H2 F2 e2 q=>k _ _ (h v H2 F2 e2 q)
 |some (.ex n),h=>exact h
theorem WPB.mono{m:M Bool}{Q Q':Bool->Hp->Prop}(h:WPB Xw F H m Q)(k:∀v H',Q v H'->Q' v H'):WPB Xw F H m Q':=by
 match m,h with
 |none,h=>exact h
 |some (.ok d),h=>exact λH2 F2 e2=>k _ _ (h H2 F2 e2)
 |some (.ex n),h=>exact h
end
inductive C where
 |lst (l:List D) | dct (ks:List (List Key)) (l:List D) | dci (ks:List Key) (l:List D)
def C.d:C->D
 | .lst ds=> .lst ds
 | .dct ks ds=> .dct ks ds
 | .dci ks ds=> .dci ks ds
inductive Sl where
 |fz (d:D) | ow (c:C)
abbrev bb:=List (Option Sl)
def DenC(K:Xr)(F:Hp):C->HO->Prop
 | .lst ds,o=>∃vs,o= .lst vs/\DenL K F ds vs/\ds.length<=lim
 | .dct ks ds,o=>∃vs,o= .dT (ks.zip vs)/\DenL K F ds vs/\ks.length=ds.length/\ds.length<=lim
 | .dci ks ds,o=>∃vs,o= .dK (ks.zip vs)/\DenL K F ds vs/\ks.length=ds.length/\ds.length<=lim
theorem DenC.mono{K:Xr}{F F':Hp}(e:Same F F'):∀{c:C}{o:HO},DenC K F c o->DenC K F' c o
 | .lst _,_,⟨vs,h1,h2,h3⟩=>⟨vs,h1,DenL.mono e h2,h3⟩
 | .dct _ _,_,⟨vs,h1,h2,h3⟩=>⟨vs,h1,DenL.mono e h2,h3⟩
 | .dci _ _,_,⟨vs,h1,h2,h3⟩=>⟨vs,h1,DenL.mono e h2,h3⟩
theorem DenC.notup{K:Xr}{F:Hp}:∀{c:C}{o:HO},DenC K F c o->∀ts,o≠ .tup ts
 | .lst _,_,⟨_,h1,_⟩,ts,z=>by rw[h1] at z;cases z
 | .dct _ _,_,⟨_,h1,_⟩,ts,z=>by rw[h1] at z;cases z
 | .dci _ _,_,⟨_,h1,_⟩,ts,z=>by rw[h1] at z;cases z
def pH(ob:Obj):HO->HO
 | .dT aE=> .frz ob (.dT aE)
 | .dK aE=> .frz ob (.dK aE)
 |o=>o
theorem DenC.den{K:Xr}{F F':Hp}{a:Addr}{ob:Obj}:∀{c:C}{o:HO},DenC K F c o->Same F F'->F' a=some (pH ob o)->Den K F' c.d (.ref a)
 | .lst _,_,⟨vs,h1,h2,h3⟩,e,q=>by subst h1;exact⟨a,vs,rfl,q,DenL.mono e h2,h3⟩
 | .dct _ _,_,⟨vs,h1,h2,h3⟩,e,q=>by subst h1;exact⟨a,ob,vs,rfl,q,DenL.mono e h2,h3⟩
 | .dci _ _,_,⟨vs,h1,h2,h3⟩,e,q=>by subst h1;exact⟨a,ob,vs,rfl,q,DenL.mono e h2,h3⟩
def DenO(K:Xr)(F H:Hp):Sl->V->Prop
 | .fz d,v=>Den K F d v
 | .ow c,v=>∃a o,v= .ref a/\H a=some o/\F a=none/\DenC K F c o
structure StE (K:Xr) (F H:Hp) (σ:St) (ρ:bb):Prop where
 fh:Same F H
 den:∀(i:Nat) (sl:Sl),ρ[i]? =some (some sl)->∃v,σ[i]? =some (some v)/\DenO K F H sl v
theorem DenO.ext{K:Xr}{F H F' H':Hp}(e:Ext F H F' H'):∀{sl:Sl}{v:V},DenO K F H sl v->DenO K F' H' sl v
 | .fz _,_,h=>Den.mono e.ff h
 | .ow _,_,⟨a,o,h1,h2,h3,h4⟩=>⟨a,o,h1,e.hh _ _ h2,by rw[e.old h2 h4.notup];exact h3,DenC.mono e.ff h4⟩
theorem StE.ext{K:Xr}{F H F' H':Hp}{σ:St}{ρ:bb}(s:StE K F H σ ρ)(e:Ext F H F' H'):StE K F' H' σ ρ:=
 ⟨e.fh,λi sl q=>let ⟨v,h1,h2⟩:=s.den i sl q;⟨v,h1,h2.ext e⟩⟩
abbrev DE:=bb->M D
abbrev DT:=bb->M Bool
abbrev DA:=bb->M (List D)
def tD(K:Xr)(Xw:Nat->Hp->Prop)(δ:DE):TE:=λσ H Q=>∃F ρ,StE K F H σ ρ/\WP K Xw F H (δ ρ) Q
def S_(K:Xr)(Xw:Nat->Hp->Prop)(δ:DT):TT:=λσ H Q=>∃F ρ,StE K F H σ ρ/\WPB Xw F H (δ ρ) Q
def UE(K:Xr)(Xw:Nat->Hp->Prop)(δ:DA):TA:=λσ H Q=>∃F ρ,StE K F H σ ρ/\WPL K Xw F H (δ ρ) Q
def PD(X:Cx)(Xw:Nat->Hp->Prop)(e:Expr)(δ:DE):Prop:=PE X e (tD X.K Xw δ)
def lK(X:Cx)(Xw:Nat->Hp->Prop)(e:Expr)(δ:DT):Prop:=PT X e (S_ X.K Xw δ)
def gV(X:Cx)(Xw:Nat->Hp->Prop)(es:List Expr)(δ:DA):Prop:=PA X es (UE X.K Xw δ)
theorem PE.weak{X:Cx}{e:Expr}{t t':TE}(h:PE X e t)(k:∀σ H Q,t' σ H Q->t σ H Q):PE X e t':=λf8 s σ H Q I w=>h f8 s σ H Q I (k σ H Q w)
theorem PT.weak{X:Cx}{e:Expr}{t t':TT}(h:PT X e t)(k:∀σ H Q,t' σ H Q->t σ H Q):PT X e t':=λf8 s σ H Q I w=>h f8 s σ H Q I (k σ H Q w)
theorem PA.weak{X:Cx}{e:List Expr}{t t':TA}(h:PA X e t)(k:∀σ H Q,t' σ H Q->t σ H Q):PA X e t':=λpos f8 s σ H Q I w=>h pos f8 s σ H Q I (k σ H Q w)
def dV(i:Nat):DE:=λρ=>match ρ[i]? with
 |some (some (.fz d))=>ae d
 |_=>ag
def dC(d:D):DE:=λ_=>ae d
def d1(g:D->M D)(a:DE):DE:=λρ=>a ρ>>=g
def d2(g:D->D->M D)(a b:DE):DE:=λρ=>a ρ>>=λx=>b ρ>>=λy=>g x y
def aN:DA:=λ_=>ae []
def aC(a:DE)(r:DA):DA:=λρ=>a ρ>>=λx=>r ρ>>=λxs=>ae (x::xs)
def dA(g:List D->M D)(a:DA):DE:=λρ=>a ρ>>=g
def EO:D->M Bool
 | .bl b=>ae b
 |_=>ag
def bU(a:DE):DT:=λρ=>a ρ>>=EO
def lg(a b:DT):DT:=λρ=>a ρ>>=λx=>if x then b ρ else ae false
def lS(a b:DT):DT:=λρ=>a ρ>>=λx=>if x then ae true else b ρ
def fE(a:DT):DT:=λρ=>a ρ>>=λx=>ae (!x)
def HM(c:DT)(a b:DE):DE:=λρ=>c ρ>>=λx=>if x then a ρ else b ρ
def gb(a b:DE):DE:=λρ=>a ρ>>=λx=>EO x>>=λc=>if c then b ρ else ae (.bl false)
def Ku(a:DE):DE:=λρ=>a ρ>>=λx=>EO x>>=λc=>ae (.bl (!c))
section
variable{X:Cx}{Xw:Nat->Hp->Prop}{a b:Expr}{δa δb:DE}{pos:Pos}
theorem af{i:Nat}{x:Str}(h:PE X (.Name x pos) (sk i)):PD X Xw (.Name x pos) (dV i):=PE.weak h λσ H Q ⟨F,ρ,s,w⟩=>by
 unfold dV at w;split at w
 ·rename_i d e;obtain⟨v,h1,h2⟩:=s.den i _ e;exact⟨v,h1,WP.now w s.fh h2⟩
 ·exact w.elim
theorem iJ{e:Expr}{d:D}{v:V}(h:PE X e (tC v))(hd:∀F,Den X.K F d v):PD X Xw e (dC d):=PE.weak h λσ H Q ⟨F,ρ,s,w⟩=>WP.now w s.fh (hd F)
theorem aq{i j}:PD X Xw (.Constant (.int i) j pos) (dC (.int i)):=iJ MU λ_=>rfl
theorem gc{i j}:PD X Xw (.Constant (.bool i) j pos) (dC (.bl i)):=iJ Pu λ_=>rfl
theorem ji{j}:PD X Xw (.Constant .none j pos) (dC .non):=iJ MV λ_=>rfl
theorem dP{x j}(h:x.length<=lim:=by decide):PD X Xw (.Constant (.str x) j pos) (dC (.str x)):=iJ MY λ_=>⟨rfl,h⟩
def u9(K:Xr)(r:R2)(g:D->D->M D):Prop:=∀(Xw:Nat->Hp->Prop) (F H:Hp) (x y:V) (dx dy:D) (Q:VK),Same F H->Den K F dx x->Den K F dy y->WP K Xw F H (g dx dy) Q->r x y H Q
theorem xt{r:R2}{g:D->D->M D}(hg:u9 X.K r g):∀σ H Q,tD X.K Xw (d2 g δa δb) σ H Q->Qe r (tD X.K Xw δa) (tD X.K Xw δb) σ H Q:=λσ H Q ⟨F,ρ,s,w⟩=>by
 refine⟨F,ρ,s,WP.mono (WP.bind w) λv H1 ⟨F1,d,e1,q1,w1⟩=>?_⟩;refine⟨F1,ρ,s.ext e1,WP.mono (WP.bind w1) λu H2 ⟨F2,d',e2,q2,w2⟩=>?_⟩;exact hg Xw F2 H2 v u d d' Q e2.fh (Den.mono e2.ff q1) q2 w2
theorem o_{op:Operator}{r:R2}{g:D->D->M D}(ho:OpR X (aay op) r)(hg:u9 X.K r g)(ha:PD X Xw a δa)(hb:PD X Xw b δb):PD X Xw (.BinOp a op b pos) (d2 g δa δb):=
 PE.weak (Pw ho ha hb) (xt hg)
theorem GK{op:CmpOp}{r:R2}{g:D->D->M D}(ho:OpR X (X9 op) r)(hg:u9 X.K r g)(ha:PD X Xw a δa)(hb:PD X Xw b δb)(hm:Yt op b=false:=by first | exact Gs _ | rfl):PD X Xw (.Compare a [op] [b] pos) (d2 g δa δb):=
 PE.weak (JL ho ha hb hm) (xt hg)
theorem dB{op:CmpOp}{r:R2}{g:D->D->M D}(ho:OpR X (X9 op) r)(hg:u9 X.K r g)(ha:PD X Xw a δa)(hb:PD X Xw b δb)(hm:Yt op b=false:=by first | exact Gs _ | rfl):lK X Xw (.Compare a [op] [b] pos) (bU (d2 g δa δb)):=
 PT.weak (JX ho ha hb hm) λσ H Q ⟨F,ρ,s,w⟩=>by
  refine xt hg σ H _ ⟨F,ρ,s,WP.mono (WPB.bind w) λv H1 ⟨F1,d,e1,q1,w1⟩=>?_⟩;cases d with
  |bl k=>exact⟨k,q1,w1 _ _ (Ext.refl e1.fh)⟩
  |_=>exact w1.elim
theorem Ct{r:R2}{g:D->D->M D}(hr:N1 X r)(hg:u9 X.K r g)(ha:PD X Xw a δa)(hb:PD X Xw b δb)(hs:iU b:=by intro _ _;rfl):PD X Xw (.Subscript a b pos) (d2 g δa δb):=
 PE.weak (K_ hr ha hb hs) (xt hg)
theorem ah:gV X Xw [] aN:=PA.weak rD λσ H Q ⟨F,ρ,s,w⟩=>w [] H F (Ext.refl s.fh) rfl
theorem aa{es:List Expr}{δs:DA}(ha:PD X Xw a δa)(hr:gV X Xw es δs)(hs:Xz (a::es) X.env=(false,eval a X.env)::Xz es X.env:=by rfl):gV X Xw (a::es) (aC δa δs):=
 PA.weak (kA ha hr hs) λσ H Q ⟨F,ρ,s,w⟩=>by
  refine⟨F,ρ,s,WP.mono (WPL.bind w) λv H1 ⟨F1,d,e1,q1,w1⟩=>?_⟩;refine⟨F1,ρ,s.ext e1,WPL.mono (WPL.bindL w1) λvs H2 ⟨F2,ds,e2,q2,w2⟩=>?_⟩;exact w2 _ _ _ (Ext.refl e2.fh) (.cons (Den.mono e2.ff q1) q2)
def aY(ds:List D):M D:=if ds.length<=lim then ae (.tup ds) else ag
def b7(ds:List D):M D:=if ds.length<=lim then ae (.lst ds) else ag
theorem AU{ds:List D}{f:List D->D}{Q:VK}{F H:Hp}(w:WP X.K Xw F H (if ds.length<=lim then ae (f ds) else ag) Q):ds.length<=lim/\WP X.K Xw F H (ae (f ds)) Q:=by
 split at w
 ·rename_i h;exact⟨h,w⟩
 ·exact w.elim
theorem bQ{x1}{es:List Expr}{δs:DA}(h:gV X Xw es δs):PD X Xw (.Tuple es x1 pos) (dA aY δs):=PE.weak (MZ h) λσ H Q ⟨F,ρ,s,w⟩=>by
 refine⟨F,ρ,s,WPL.mono (WP.bindL w) λvs H1 ⟨F1,ds,e1,q1,w1⟩=>?_⟩;obtain⟨hl,w1⟩:=AU (X:=X) w1;have hv:=q1.len;refine⟨by have:=d6;omega,λp hp=>WP.fin w1 (Ext.lay e1.fh hp) ⟨p,vs,rfl,aM,DenL.mono (Ext.lay e1.fh hp).ff q1,hl⟩⟩
theorem du{es:List Expr}{δs:DA}(h:gV X Xw es δs):PD X Xw (.List es pos) (dA b7 δs):=PE.weak (wR h) λσ H Q ⟨F,ρ,s,w⟩=>by
 refine⟨F,ρ,s,WPL.mono (WP.bindL w) λvs H1 ⟨F1,ds,e1,q1,w1⟩=>?_⟩;obtain⟨hl,w1⟩:=AU (X:=X) w1;have hv:=q1.len;refine⟨by have:=d6;omega,λp hp=>WP.fin w1 (Ext.lay e1.fh hp) ⟨p,vs,rfl,aM,DenL.mono (Ext.lay e1.fh hp).ff q1,hl⟩⟩
end
def ItD(K:Xr)(F:Hp)(J:It)(ds:List D):Prop:=∀(F' H':Hp) (i:Nat),Same F F'->Same F' H'->
 (∀d,ds[i]? =some d->J.go i H'/\∀x H'',J.yld i H' x H''->∃F'',Ext F' H' F'' H''/\Den K F'' d x)/\(ds.length<=i->J.stop i H')
theorem ItD.mono{K:Xr}{F F1:Hp}{J:It}{ds:List D}(h:ItD K F J ds)(e:Same F F1):ItD K F1 J ds:=λF' H' i s1 s2=>h F' H' i (e.trans s1) s2
def WPI(K:Xr)(Xw:Nat->Hp->Prop)(F H:Hp)(m:M (List D))(R:It->Hp->Prop):Prop:=
 match m with
 |none=>False
 |some (.ok ds)=>∀J H' F',Ext F H F' H'->ItD K F' J ds->R J H'
 |some (.ex n)=>∀F' H',Ext F H F' H'->Xw n H'
def WO(K:Xr)(Xw:Nat->Hp->Prop)(δ:DA):TI:=λσ H R=>∃F ρ,StE K F H σ ρ/\WPI K Xw F H (δ ρ) R
def zY(X:Cx)(Xw:Nat->Hp->Prop)(tg iter:Expr)(δ:DA):Prop:=PI X tg iter (WO X.K Xw δ)
theorem PI.weak{X:Cx}{tg e:Expr}{t t':TI}(h:PI X tg e t)(k:∀σ H Q,t' σ H Q->t σ H Q):PI X tg e t':=λf8 s σ H Q I w=>h f8 s σ H Q I (k σ H Q w)
theorem WPI.bind{K:Xr}{Xw:Nat->Hp->Prop}{F H:Hp}{m:M D}{k:D->M (List D)}{R:It->Hp->Prop}(h:WPI K Xw F H (m>>=k) R):
 WP K Xw F H m λv H1=>∃F1 d,Ext F H F1 H1/\Den K F1 d v/\WPI K Xw F1 H1 (k d) R:=by
 match m,h with
 |none,h=>exact h
 |some (.ok d),h=>
  refine λv H2 F2 e2 q=>⟨F2,d,e2,q,?_⟩
  have h:WPI K Xw F H (k d) R:=h;show WPI K Xw F2 H2 (k d) R
  match k d,h with
  |none,h=>exact h
  |some (.ok ds),h=>exact λJ H3 F3 e3 q3=>h J H3 F3 (e2.trans e3) q3
  |some (.ex n),h=>exact λF3 H3 e3=>h F3 H3 (e2.trans e3)
 |some (.ex n),h=>exact h
theorem WPI.bindL{K:Xr}{Xw:Nat->Hp->Prop}{F H:Hp}{m:M (List D)}{k:List D->M (List D)}{R:It->Hp->Prop}(h:WPI K Xw F H (m>>=k) R):
 WPL K Xw F H m λv H1=>∃F1 d,Ext F H F1 H1/\DenL K F1 d v/\WPI K Xw F1 H1 (k d) R:=by
 match m,h with
 |none,h=>exact h
 |some (.ok d),h=>
  refine λv H2 F2 e2 q=>⟨F2,d,e2,q,?_⟩
  have h:WPI K Xw F H (k d) R:=h;show WPI K Xw F2 H2 (k d) R
  match k d,h with
  |none,h=>exact h
  |some (.ok ds),h=>exact λJ H3 F3 e3 q3=>h J H3 F3 (e2.trans e3) q3
  |some (.ex n),h=>exact λF3 H3 e3=>h F3 H3 (e2.trans e3)
 |some (.ex n),h=>exact h
def lstM:D->M (List D)
 | .lst ds=>ae ds
 |_=>ag
def Th:D->M (List D)
 | .tup ds=>ae ds
 |_=>ag
def dD(a:DE):DA:=λρ=>a ρ>>=lstM
def nq(a:DE):DA:=λρ=>a ρ>>=Th
theorem FY{K:Xr}{F:Hp}{a:Addr}{vs:List V}{ds:List D}(h:SqL K F a vs)(hd:DenL K F ds vs):ItD K F (Q2 K a) ds:=λF' H' i s1 s2=>by
 have hs:=Same.seq s2 (Same.seq s1 h);refine⟨λd e=>?_,λhl=>⟨vs,hs,by rw[<-hd.len];exact hl⟩⟩;obtain⟨v,e1,q⟩:=hd.get e;refine⟨⟨vs,v,hs,e1⟩,λx H'' y=>?_⟩;obtain⟨e2,y⟩:=y;subst e2;have:=y vs hs;rw[e1] at this;cases this;exact⟨F',Ext.refl s2,Den.mono s1 q⟩
theorem IQ{K:Xr}{F:Hp}{a:Addr}{vs:List V}{ds:List D}(h:SqT K F a vs)(hd:DenL K F ds vs):ItD K F (Q3 K a) ds:=λF' H' i s1 s2=>by
 have hs:=Same.tup s2 (Same.tup s1 h);refine⟨λd e=>?_,λhl=>⟨vs,hs,by rw[<-hd.len];exact hl⟩⟩;obtain⟨v,e1,q⟩:=hd.get e;refine⟨⟨vs,v,hs,e1⟩,λx H'' y=>?_⟩;obtain⟨e2,y⟩:=y;subst e2;have:=y vs hs;rw[e1] at this;cases this;exact⟨F',Ext.refl s2,Den.mono s1 q⟩
def iO(lo:Int)(n:Nat):List D:=(XQ n).map λ(i:Nat)=>D.int (lo+(i:Int))
theorem uo{K:Xr}{F:Hp}(lo:Int)(n:Nat):ItD K F (N0 lo n) (iO lo n):=λF' H' i s1 s2=>by
 refine⟨λd e=>?_,λhl=>show n<=i by simpa[iO] using hl⟩;unfold iO at e;rw[Xv] at e;have hi:i<n:=by
  by_cases hi:i<n
  ·exact hi
  ·rw[abl (by simpa using hi)] at e;cases e
 rw[aaH hi] at e;cases e;refine⟨hi,λx H'' y=>?_⟩;obtain⟨e2,y⟩:=y;subst e2 y;exact⟨F',Ext.refl s2,rfl⟩
section
variable{X:Cx}{Xw:Nat->Hp->Prop}{tg l:Expr}{δ:DE}{pos:Pos}
theorem bN(h:PD X Xw l δ):zY X Xw tg l (dD δ):=PI.weak (JN h) λσ H R ⟨F,ρ,s,w⟩=>by
 refine⟨F,ρ,s,WP.mono (WPI.bind w) λv H1 ⟨F1,d,e1,q1,w1⟩=>?_⟩;cases d with
 |lst ds=>
  obtain⟨a,vs,h1,h2,h3,h4⟩:=q1;exact⟨a,h1,⟨vs,Same.seq e1.fh (SqL.of h2)⟩,w1 _ _ _ (Ext.refl e1.fh) (FY (SqL.of h2) h3)⟩
 |_=>exact w1.elim
theorem kC(h:PD X Xw l δ):zY X Xw tg l (nq δ):=PI.weak (M7 h) λσ H R ⟨F,ρ,s,w⟩=>by
 refine⟨F,ρ,s,WP.mono (WPI.bind w) λv H1 ⟨F1,d,e1,q1,w1⟩=>?_⟩;cases d with
 |tup ds=>
  obtain⟨a,vs,h1,h2,h3,h4⟩:=q1;exact⟨a,h1,⟨vs,Same.tup e1.fh (SqT.of h2)⟩,w1 _ _ _ (Ext.refl e1.fh) (IQ (SqT.of h2) h3)⟩
 |_=>exact w1.elim
def eO:List D->M (List D)
 |[.int j]=>if -4096<=j/\j<=4096 then ae (iO 0 j.toNat) else ag
 |_=>ag
def uW:List D->M (List D)
 |[.int i, .int j]=>if (-4096<=i/\i<=4096)/\(-4096<=j/\j<=4096) then ae (iO i (j - i).toNat) else ag
 |_=>ag
theorem DenL.one{K:Xr}{F:Hp}{d:D}{vs:List V}(h:DenL K F [d] vs):∃v,vs=[v]/\Den K F d v:=by
 obtain⟨v,r,h1,h2,h3⟩:=h;cases (show r=[] from h3);exact⟨v,h1,h2⟩
theorem DenL.two{K:Xr}{F:Hp}{d d':D}{vs:List V}(h:DenL K F [d,d'] vs):∃v v',vs=[v,v']/\Den K F d v/\Den K F d' v':=by
 obtain⟨v,r,h1,h2,h3⟩:=h;obtain⟨v',h4,h5⟩:=h3.one;subst h4;exact⟨v,v',h1,h2,h5⟩
theorem cf{a:Expr}{δs:DA}{p:Pos}(hg:Gl X "range")(hm:X.mg "range"=none)(ha:gV X Xw [a] δs)(hs:Xz [a] X.env=[(false,eval a X.env)]:=by rfl):zY X Xw tg (.Call (.Name "range" p) [a] [] pos) (λρ=>δs ρ>>=eO):=
 PI.weak (Ee hg hm ha hs) λσ H R ⟨F,ρ,s,w⟩=>by
  refine⟨F,ρ,s,WPL.mono (WPI.bindL w) λvs H1 ⟨F1,ds,e1,q1,w1⟩=>?_⟩;unfold eO at w1;split at w1
  ·rename_i j;obtain⟨v,h1,h2⟩:=q1.one;cases (show v=_ from h2);split at w1
   ·exact⟨j,h1,by omega,by omega,w1 _ _ _ (Ext.refl e1.fh) (uo 0 _)⟩
   ·exact w1.elim
  ·exact w1.elim
theorem rJ{a b:Expr}{δs:DA}{p:Pos}(hg:Gl X "range")(hm:X.mg "range"=none)(ha:gV X Xw [a,b] δs)(hs:Xz [a,b] X.env=[(false,eval a X.env),(false,eval b X.env)]:=by rfl)
 (IF:Xz [b] X.env=[(false,eval b X.env)]:=by rfl):zY X Xw tg (.Call (.Name "range" p) [a,b] [] pos) (λρ=>δs ρ>>=uW):=
 PI.weak (Ef hg hm ha hs IF) λσ H R ⟨F,ρ,s,w⟩=>by
  refine⟨F,ρ,s,WPL.mono (WPI.bindL w) λvs H1 ⟨F1,ds,e1,q1,w1⟩=>?_⟩;unfold uW at w1;split at w1
  ·rename_i i j;obtain⟨v,v',h1,h2,h3⟩:=q1.two;cases (show v=_ from h2);cases (show v'=_ from h3);split at w1
   ·exact⟨i,j,h1,⟨by omega,by omega,by omega,by omega⟩,w1 _ _ _ (Ext.refl e1.fh) (uo i _)⟩
   ·exact w1.elim
  ·exact w1.elim
end
def cT(tg N:List Str):List Str:=N.map λy=>if tg.contains y then y++(" ":Str) else y
def kJ(X:Cx)(scope:Scope)(tn:List Str)(f8:List (Addr×Obj))(cl:List (Str×Addr))(C:Addr)(fp:List Addr)(u8:Xl)(H:Hp):Cx:=
 {X with N:=tn++cT tn X.N,ad9:=u8,ad8:=H,env:=compEnvC scope cl C X.env,outer:=X.stack,ex:=fp,fn:=λ_=>false,pn:=X.pn++f8,xe:=λ_ _=>False}
structure CompSc (X:Cx) (scope:Scope) (tn:List Str):Prop where
 kind:scope.kind= .function
 nocell:∀y∈scope.names,y.2≠ .cell
 names:∀y∈scope.names,y.2= .local->scope.names.lookup y.1=some .local
 frees:∀y∈scope.names,y.2= .free->X.env.kindOf y.1=some .cell\/X.env.kindOf y.1=some .free
 vis:∀p∈(cT tn X.N).zip X.N,scope.names.lookup p.1=none\/(p.1=p.2/\scope.names.lookup p.1=some .free)
theorem lb{env:Env}:∀(names:List (Str×aa5)) (acc:List (Str×Addr)),(∀y∈names,y.2= .free->∃c,env.cells.lookup y.1=some c)->
 (∀x c,acc.lookup x=some c->env.cells.lookup x=some c)->
 ∃cl,(forIn names acc (λ(x:Str×aa5) (r:List (Str×Addr))=>do
   let __x:=x
   if (__x.2==adS)=true then do let c<-cellOf env __x.1;pure (YB ((__x.1,c)::r)) else pure (YB r)):Sem (List (Str×Addr)))=pure cl/\
  (∀x c,cl.lookup x=some c->env.cells.lookup x=some c)/\(∀x c,acc.lookup x=some c->∃c',cl.lookup x=some c')/\(∀x,names.lookup x=some .free->∃c,cl.lookup x=some c)
 |[],acc,_,h2=>⟨acc,rfl,h2,λx c e=>⟨c,e⟩,λx e=>by simp at e⟩
 |(n,k)::r,acc,h1,h2=>by
  by_cases hk:k= .free
  ·subst hk;obtain⟨c,hc⟩:=h1 (n, .free) Xk rfl;obtain⟨cl,e,a1,a2,a3⟩:=lb r ((n,c)::acc) (λy hy=>h1 y (Xj _ hy)) (λx c' q=>by
    rw[Zj] at q;split at q
    ·rename_i hx;cases q;rw[show x=n from by simpa using hx];exact hc
    ·exact h2 x c' q)
   refine⟨cl,?_,a1,λx c' q=>?_,λx q=>?_⟩
   ·rw[ab_];have:cellOf env n=pure c:=by unfold cellOf;rw[hc]
    simp only[beq_self_eq_true,if_true,this,pure_bind];exact e
   ·by_cases hx:x=n
    ·subst hx;exact a2 x c (by simp[Zj])
    ·exact a2 x c' (by rw[Zj,show (x==n)=false from by simpa using hx];exact q)
   ·rw[Zj] at q;split at q
    ·rename_i hx;exact a2 x c (by rw[Zj,hx])
    ·exact a3 x q
  ·obtain⟨cl,e,a1,a2,a3⟩:=lb r acc (λy hy=>h1 y (Xj _ hy)) h2;refine⟨cl,?_,a1,a2,λx q=>?_⟩
   ·rw[ab_];have:((k==adS)=true)=False:=by simpa using hk
    simp only[this,if_false,pure_bind];exact e
   ·rw[Zj] at q;split at q
    ·cases q;exact ad3 rfl hk
    ·exact a3 x q
theorem qj{scope:Scope}{env:Env}(h:∀y∈scope.names,y.2= .free->∃c,env.cells.lookup y.1=some c):
 ∃cl,closureFor scope env=pure cl/\(∀x c,cl.lookup x=some c->env.cells.lookup x=some c)/\(∀x,scope.names.lookup x=some .free->∃c,cl.lookup x=some c):=by
 obtain⟨cl,e,a1,_,a3⟩:=lb (env:=env) scope.names [] h (λx c q=>by simp at q);refine⟨cl,?_,a1,a3⟩;unfold closureFor;show (forIn scope.names [] _>>=λr=>pure r)=_;rw[bind_pure];exact e
def noex{α:Type}:M α->M α
 |some (.ok a)=>some (.ok a)
 |_=>none
def d9(f:D->M (Option D)):List D->M (List D)
 |[]=>ae []
 |d::ds=>f d>>=λo=>d9 f ds>>=λr=>ae (match o with | some y=>y::r | none=>r)
def UG(n:Nat):D->M (List D):=λd=>match n,d with
 |0,d=>ae [d]
 |n, .tup ds=>if ds.length=n then ae ds else ag
 |_,_=>ag
def iw(n:Nat)(δt:DT)(δe:DE)(ρ:bb):D->M (Option D):=λd=>
 UG n d>>=λts=>δt (ts.map (λt=>some (Sl.fz t))++ρ)>>=λb=>if b then δe (ts.map (λt=>some (Sl.fz t))++ρ)>>=λy=>ae (some y) else ae none
def bB(n:Nat)(δi:DA)(δt:DT)(δe:DE):DE:=λρ=>δi ρ>>=λds=>noex (d9 (iw n δt δe ρ) ds)>>=b7
def ck:DT:=λ_=>ae true
theorem fC(f:D->M (Option D))(d:D)(ds:List D):d9 f (d::ds)=(f d>>=λo=>d9 f ds>>=λr=>ae (match o with | some y=>y::r | none=>r)):=rfl
theorem Ae{f:D->M (Option D)}{ds:List D}{i:Nat}{d:D}{ys R:List D}(hd:ds[i]? =some d)
 (h:d9 f ds=(d9 f (ds.drop i)>>=λr=>ae (ys++r)))(hR:d9 f ds=ae R):
 ∃o,f d=ae o/\d9 f ds=(d9 f (ds.drop (i+1))>>=λr=>ae ((match o with | some y=>ys++[y] | none=>ys)++r)):=by
 have e:ds.drop i=d::ds.drop (i+1):=by
  obtain⟨hi,e⟩:=Xy.mp hd;rw[acD hi,e]
 rw[e,fC] at h;have h':=h.symm.trans hR;obtain⟨r,h1,h2⟩:=iX h';obtain⟨o,h3,h4⟩:=iX h1;refine⟨o,h3,?_⟩;obtain⟨r',h5,h6⟩:=iX h4;rw[h5,hR];rw[<-h2,<-gq h6];show ae _=ae _;cases o with
 |none=>rfl
 |some y=>simp
theorem zt{P:XR}{w:World}{H:Hp}{h1 h2:Heap}{a:Addr}(x:HOk P w H h1)(s:YI a h1 h2)(n:H a=none):HOk P w H h2:=λb o e=>by
 refine(x b o e).stay (λc v hc q=>(s.2 c ?_).trans q) (λ_ q=>q) λ_ _ q=>q;rintro rfl;rcases hc with rfl | hc
 ·rw[n] at e;cases e
 ·rw[n] at hc;cases hc
theorem Dg{prog:XR}{w:World}{A:X6}{R:adn->Xl->Prop}{s:Xl}{elt target iter:Expr}{ifs:List Expr}{scope:Scope}{pos:Pos}{it acc:Value}{env:Env}(I:Nat->Xl->Prop)
 (turn:∀n s,I n s->wpAny (model prog w) A (aaq it) (λr v4=>match r with
  |none=>R (.ok .next) v4
  |some v=>wpAny (model prog w) A (aby target it v) (λ_ UD=>wpAny (model prog w) A (assign target env v) (λ_ u8=>
    wpAny (model prog w) A (forIn ifs true λc r=>if r=true then do let ok<-isTrue c env (eval c env);pure (YB ok) else pure (YB r)) (λok s₃=>
     if ok=true then wpAny (model prog w) A (eval elt env) (λx s₄=>
      wpAny (model prog w) A (call (.builtin "list.append") [acc,x]) (λ_ s₅=>∃m,m<n/\I m s₅) (adz (model prog w) A env λe s'=>R (.error e) s') s₄) (adz (model prog w) A env λe s'=>R (.error e) s') s₃
     else∃m,m<n/\I m s₃) (adz (model prog w) A env λe s'=>R (.error e) s') u8) (adz (model prog w) A env λe s'=>R (.error e) s') UD) (adz (model prog w) A env λe s'=>R (.error e) s') v4) (adz (model prog w) A env λe s'=>R (.error e) s') s)
 (n:Nat) (h:I n s):
 aaK (model prog w) A (.compLoop (.ListComp elt [⟨target,iter,ifs,0⟩] scope pos) 0 it acc env) R s:=by
 refine codeAny_loop rfl I (λn s hI=>?_) n h;show wpAny _ A ((compTurn (.ListComp elt [⟨target,iter,ifs,0⟩] scope pos) 0 it acc env).onRaise (λx=>do noteFrame x env;theTreesLotGoes x)) _ _ s;refine wpAny_noted ?_;rw[compTurn_list];refine Xg (wpAny_standAt (Xg (YA (turn n s hI) (λr v4 h₁=>?_) λ_ _ h'=>h')));cases r with
 |none=>exact Xn h₁
 |some v=>
  refine Xg (YA h₁ (λ_ UD h₁=>?_) λ_ _ h'=>h');refine Xg (YA h₁ (λ_ u8 h₂=>Xg (YA h₂ (λok s₃ h₃=>?_) λ_ _ h'=>h')) λ_ _ h'=>h');cases ok with
  |false=>exact Xn ⟨rfl,h₃⟩
  |true=>
   exact Xg (Xg (YA h₃ (λx s₄ h₄=>Xg (YA h₄ (λ_ s₅ h₅=>Xn (Xn ⟨rfl,h₅⟩)) λ_ _ h'=>h')) λ_ _ h'=>h'))
def CQ(X:Cx)(tg:Expr)(n:Nat)(σ:St):Prop:=∀(f8:List (Addr×Obj)) (s:Xl) (σ':St) (F H:Hp) (d:D) (ts:List D) (v:V) (u:Value),Inv X f8 σ' H s->Same F H->σ'.drop (max n 1)=σ->RelV v u->Den X.K F d v->UG n d=ae ts->
 wpAny (model X.prog X.w) X.A (assign tg X.env u) (λ_ s'=>∃vs,Inv X f8 (vs.map some++σ) H s'/\DenL X.K F ts vs) X.xe s
def ng(X:Cx)(ifs:List Expr)(δt:DT):Prop:=∀(f8:List (Addr×Obj)) (s:Xl) (σ:St) (H:Hp) (Q:Bool->Hp->Prop),Inv X f8 σ H s->S_ X.K (λ_ _=>False) δt σ H Q->
 wpAny (model X.prog X.w) X.A (forIn ifs true λc r=>if r=true then do let ok<-isTrue c X.env (eval c X.env);pure (YB ok) else pure (YB r)) (TP X f8 σ Q) X.xe s
theorem cz{X:Cx}:ng X [] ck:=λf8 s σ H Q I ⟨F,ρ,S,w⟩=>wpAny_tests_nil ⟨H,I,w H F (Ext.refl S.fh)⟩
theorem sq{X:Cx}{c:Expr}{δ:DT}(h:lK X (λ_ _=>False) c δ):ng X [c] δ:=λf8 s σ H Q I w=>wpAny_tests_one (h f8 s σ H Q I w)
theorem StE.cons{K:Xr}{F H:Hp}{σ:St}{ρ:bb}{ts:List D}{vs:List V}(s:StE K F H σ ρ)(h:DenL K F ts vs):StE K F H (vs.map some++σ) (ts.map (λt=>some (Sl.fz t))++ρ):=by
 refine⟨s.fh,λi sl e=>?_⟩;have hl:=h.len;by_cases hi:i<ts.length
 ·rw[Yb (by simpa using hi),Xv] at e;cases q:ts[i]? with
  |none=>rw[q] at e;cases e
  |some t=>
   rw[q] at e;cases e;obtain⟨v,e1,e2⟩:=h.get q;exact⟨v,by rw[Yb (by simp;omega),Xv,e1];rfl,e2⟩
 ·rw[Yg (by simpa using hi)] at e;obtain⟨v,e1,e2⟩:=s.den _ _ e;refine⟨v,?_,e2⟩;rw[Yg (by simp;omega)];simpa[hl] using e1
theorem WPB.take{Xw:Nat->Hp->Prop}{F H:Hp}{b:Bool}:WPB Xw F H (ae b) λb' H'=>b'=b/\∃F',Ext F H F' H':=λH' F' e=>⟨rfl,F',e⟩
theorem WP.take{K:Xr}{Xw:Nat->Hp->Prop}{F H:Hp}{d:D}:WP K Xw F H (ae d) λv H'=>∃F',Ext F H F' H'/\Den K F' d v:=λv H' F' e q=>⟨F',e,q⟩
def n4(env:Env)(p:Str×aa5):Str×aa5:=if (p.2== .free&&env.scope.kind== .function&&env.kindOf p.1==some .cell) then(p.1, .cell) else(p.1,p.2)
theorem ig(scope:Scope)(env:Env):(relabel scope env).names=scope.names.map (n4 env):=rfl
theorem Hc(env:Env)(p:Str×aa5):(n4 env p).1=p.1:=by unfold n4;split<;>rfl
theorem ja(env:Env)(x:Str):∀ns:List (Str×aa5),(ns.map (n4 env)).lookup x=(ns.lookup x).map λk=>(n4 env (x,k)).2
 |[]=>rfl
 |(m,k)::r=>by
  rw[Xp,Zj,Zj];have e:n4 env (m,k)=(m,(n4 env (m,k)).2):=abG (Hc env (m,k)) rfl;rw[e]
  dsimp only
  by_cases hx:(x==m)=true
  ·have hm:x=m:=by simpa using hx
   subst hm;rw[hx];rfl
  ·have hx:(x==m)=false:=by simpa using hx
   rw[hx];exact ja env x r
theorem wY{scope:Scope}{env:Env}{x:Str}(h:scope.names.lookup x=none):(relabel scope env).names.lookup x=none:=by
 rw[ig,ja,h];rfl
theorem wX{scope:Scope}{env:Env}{x:Str}(hc:∀y∈scope.names,y.2≠ .cell)(h:(relabel scope env).names.lookup x=some .cell\/(relabel scope env).names.lookup x=some .free):scope.names.lookup x=some .free:=by
 rw[ig,ja] at h;cases q:scope.names.lookup x with
 |none=>rw[q] at h;rcases h with h | h<;>cases h
 |some k=>
  rw[q] at h;have hk:k≠ .cell:=hc _ (Y_ q);have h:(n4 env (x,k)).2= .cell\/(n4 env (x,k)).2= .free:=by simpa using h
  by_cases hf:k= .free
  ·rw[hf]
  ·have:(n4 env (x,k)).2=k:=by
    unfold n4;rw[ad0];simp[hf]
   rw[this] at h;rcases h with h | h
   ·exact ad3 h hk
   ·exact ad3 h hf
theorem n8{scope:Scope}{env:Env}{x:Str}(h:scope.names.lookup x=some .free):¬(relabel scope env).names.lookup x=some .local:=by
 rw[ig,ja,h];intro z;have z:(n4 env (x, .free)).2= .local:=by simpa using z
 unfold n4 at z;split at z<;>cases z
structure BlockEnd (X:Cx) (f8:List (Addr×Obj)) (C:Addr) (H':Hp) (s1:Xl):Prop where
 ns:∃m,s1.heap.Ns C m
 free:H' C=none
 nl:C≠X.env.locals
 nw:X.ad9.heap.objs.size<=C
 nc:∀x c,X.env.cells.lookup x=some c->c≠C
 np:∀p∈X.pn++f8,p.1≠C
theorem xY{X:Cx}{Xw:Nat->Hp->Prop}{elt iter tg:Expr}{ifs:List Expr}{scope:Scope}{pos:Pos}{tn:List Str}{n:Nat}{δi:DA}{δt:DT}{δe:DE}{cl:List (Str×Addr)}{f8:List (Addr×Obj)}{s:Xl}{σ:St}{H F:Hp}{ρ:bb}{Q:VK}{RR:Value->Addr->adn->Xl->Prop}
 (sc:CompSc X scope tn)(hn:tn.length=max n 1)(hc:X.calm=true)(hi:zY X Xw tg iter δi)
 (hg:∀f8 cl C fp u8 H σ,CQ (kJ X scope tn f8 cl C fp u8 H) tg n σ)
 (ht:∀f8 cl C fp u8 H,ng (kJ X scope tn f8 cl C fp u8 H) ifs δt)
 (he:∀f8 cl C fp u8 H,PD (kJ X scope tn f8 cl C fp u8 H) (λ_ _=>False) elt δe)
 (I:Inv X f8 σ H s)(S:StE X.K F H σ ρ)(w:WP X.K Xw F H (bB n δi δt δe ρ) Q)
 (cl1:∀x c,cl.lookup x=some c->X.env.cells.lookup x=some c)(NN:∀x,scope.names.lookup x=some .free->∃c,cl.lookup x=some c)
 (Vi:∀(s1:Xl) (C D:Addr) (H':Hp),Inv X f8 σ H' s1->Q (.ref D) H'->BlockEnd X f8 C H' s1->RR (.ref D) C (.ok .next) s1):
 wpAny (model X.prog X.w) X.A (eval iter X.env) (λx v4=>wpAny (model X.prog X.w) X.A (pyIter x) (λit u8=>wpAny (model X.prog X.w) X.A (newList []) (λacc s₃=>
  wpAny (model X.prog X.w) X.A (newFunctionEnv scope X.env.globals cl [] X.env.qual none .none (some X.env)) (λN5 s₄=>
   aaK (model X.prog X.w) X.A (.compStart (.ListComp elt [⟨tg,iter,ifs,0⟩] scope pos) 0 it acc {N5 with scope:=relabel scope X.env}) (RR acc N5.locals) s₄) X.xe s₃) X.xe u8) X.xe v4) X.xe s:=by
 refine cC (hi f8 s σ H (λJ H2=>∃F2 ds,Ext F H F2 H2/\ItD X.K F2 J ds/\WP X.K Xw F2 H2 (noex (d9 (iw n δt δe ρ) ds)>>=b7) Q) I ⟨F,ρ,S,?_⟩) λxv v4 h₁=>cC h₁ λit u8 h₂=>?_
 ·unfold bB at w;rcases(δi ρ).cs with hq | ⟨m,hq⟩ | ⟨ds,hq⟩
  ·rw[hq] at w;exact w.elim
  ·rw[hq] at w⊢;exact w
  ·rw[hq] at w⊢;exact λJ H' F' e q=>⟨F',ds,e,q,WP.ext e w⟩
 obtain⟨ia,fp,UH,J,H2,rfl,I2,T,xM,f2,F2,ds,e2,Um,w2⟩:=h₂;obtain⟨R,hR,TU,w2⟩:∃R,d9 (iw n δt δe ρ) ds=ae R/\R.length<=lim/\WP X.K Xw F2 H2 (ae (.lst R)) Q:=by
  rcases(d9 (iw n δt δe ρ) ds).cs with hq | ⟨m,hq⟩ | ⟨R,hq⟩
  ·rw[hq] at w2;exact w2.elim
  ·rw[hq] at w2;exact w2.elim
  ·rw[hq] at w2;obtain⟨h1,h2⟩:=AU (X:=X) (f:=D.lst) (show WP X.K Xw F2 H2 (b7 R) Q from w2);exact⟨R,hq,h1,h2⟩
 refine YD (wpAny_newFunctionEnv sc.nocell (by intro y hy;simp at hy) (λh₁ LV IG=>?_) sc.kind)
 dsimp only at LV IG⊢
 generalize Rt:u8.heap.push {cls:= .type "list",dict:=none,data:= .seq ([]:List Value).toArray}=HL at LV IG⊢;have hC:HL.objs.size=u8.heap.objs.size+1:=by rw[<-Rt,Y4]
 have Dq:u8.heap.objs.size<HL.objs.size:=by rw[hC];exact ZF _
 have old:∀b o,u8.heap.get? b=some o->h₁.get? b=some o:=λb o e=>IG.extBut b o (XS (Z7 (XB e) Dq)) (Xm _ (Rt▸Xm _ e));have Fx:h₁.get? u8.heap.objs.size=some {cls:= .type "list",data:= .seq ([]:List Value).toArray}:=IG.extBut _ _ (XS Dq) (Xm _ (Rt▸XA _ rfl));have nD:H2 u8.heap.objs.size=none:=I2.hok.fresh (Xx _);have nC:H2 HL.objs.size=none:=I2.hok.fresh (Y6 Dq);have gC:u8.heap.get? HL.objs.size=none:=adk (Y6 Dq);have fl:∀b∈fp,b<u8.heap.objs.size:=λb hb=>by
  obtain⟨o,e,_⟩:=T.obj 0 _ xM b hb;exact XB e
 generalize yu:kJ X scope tn f8 cl HL.objs.size fp u8 H2=X';have Uz:X'.Ok:=by
  subst yu;refine⟨I2.ok.mod,sc.kind,I2.ok.glob,I2.ok.blt,Y6 Dq,λx y c h1 h2=>I2.ok.inj x y c (cl1 _ _ h1) (cl1 _ _ h2),λx hx=>?_,λ_ _ h=>(by cases h),I2.ok.hd,I2.ok.frames, .inl rfl,
   λb hb=>⟨XS (Z7 (fl b hb) Dq),λx c h=>(f2 b hb).2.2.2.2.1 x c (cl1 _ _ h)⟩,I2.bs,X2 I2.ok.bsz I2.sz,λb o e hb=>?_,λb hb z=>?_,I2.stack,I2.stkFree⟩
  ·have hx:(relabel scope X.env).names.lookup x=some .cell\/(relabel scope X.env).names.lookup x=some .free:=hx;exact NN x (wX sc.nocell hx)
  ·rcases(f2 b hb).2.2.2.1 with z | z
   ·exact I2.ok.noex b o e z
   ·exact ad3 (X1 (XB (I2.ok.bs b o e).1) z) (Yr _)
  ·rcases Xs.mp (I2.stkSub b z) with q | q
   ·exact(f2 b hb).2.1 q
   ·exact(f2 b hb).2.2.1 q
 have SA:∀b o,H2 b=some o->b≠u8.heap.objs.size:=λb o e=>bu e nD;have LI:∀{H':Hp},(∀b∈fp,H' b=none)->∀b∈fp,sI X' [] H' b:=λV3 b hb=>by
  subst yu;refine⟨V3 b hb,XS (Z7 (fl b hb) Dq),λz=>Uz.exfs b hb z, .inl hb,λx c h=>(f2 b hb).2.2.2.2.1 x c (cl1 _ _ h),λp hp=>?_⟩;rw[X0] at hp;exact(f2 b hb).2.2.2.2.2 p hp
 have I0:Inv X' [] (XC (max n 1) none++σ) (upd H2 u8.heap.objs.size (.lst [])) {u8 with heap:=h₁,toks:=u8.toks+([]:List (Str×Value)).length}:=by
  subst yu;have R0:HOk X.prog X.w (upd H2 u8.heap.objs.size (.lst [])) h₁:=I2.hok.laid old (Xx _) ⟨Yo _,[],_, .nil,Fx⟩;refine⟨Uz,rfl,I2.bare,Un.laid old (Xx _) nD,⟨_,LV,λi x v h1 h2 h3=>?_⟩,λx c h=>?_,?_,λx c h=>?_,λp hp=>?_,R0,?_⟩
  ·by_cases hi:i<max n 1
   ·rw[Yb (by simpa using hi),YR,adY hi] at h2;cases h2
   ·have RM:tn.length<=i:=by omega
    have h1:(tn++cT tn X.N)[i]? =some x:=h1;rw[Yg RM] at h1;rw[Yg (by simpa using hi),abk,<-hn] at h2;have hN:∃y,X.N[i - tn.length]? =some y/\(x,y)∈(cT tn X.N).zip X.N:=by
     have eM:=(Xy.mp h1).1;have Dw:i - tn.length<X.N.length:=by simpa[cT] using eM
     refine⟨X.N[i - tn.length],Xi Dw,?_⟩;refine List.mem_iff_getElem?.mpr ⟨i - tn.length,?_⟩;rw[acC];exact⟨h1,Xi Dw⟩
    obtain⟨y,hy,hm⟩:=hN;have hV:(relabel scope X.env).names.lookup x=some .local\/(relabel scope X.env).names.lookup x=some .cell\/(relabel scope X.env).names.lookup x=some .free:=h3;rcases sc.vis _ hm with FK | ⟨Ay,EB⟩
    ·have FK:scope.names.lookup x=none:=FK;have:(relabel scope X.env).names.lookup x=none:=wY FK;rw[this] at hV;rcases hV with z | z | z<;>cases z
    ·have Ay:x=y:=Ay;subst Ay;have EB:scope.names.lookup x=some .free:=EB;have hk:=sc.frees (x, .free) (Y_ EB) rfl;obtain⟨m,LS,LR⟩:=I2.loc;obtain⟨u,ru,lk⟩:=LR _ x v hy h2 (by rcases hk with z | z;exact .inr (.inl z);exact .inr (.inr z));refine⟨u,ru, .inr ⟨?_,?_⟩⟩
     ·rcases hV with z | z | z
      ·exact ad3 z (n8 EB)
      ·exact .inl z
      ·exact .inr z
     ·rcases lk with⟨z,_⟩ | ⟨_,c,TX,BZ⟩
      ·rcases hk with q | q
       ·rw[show X.env.kindOf x=some .local from z] at q;cases q
       ·rw[show X.env.kindOf x=some .local from z] at q;cases q
      ·obtain⟨c',KL⟩:=NN x EB;have:=cl1 _ _ KL;rw[TX] at this;cases this;obtain⟨o,ho,hd⟩:=BZ;exact⟨c,KL,o,old _ _ ho,hd⟩
  ·obtain⟨v,o,ho,hd⟩:=I2.cell x c (cl1 _ _ h);exact⟨v,o,old _ _ ho,hd⟩
  ·show upd H2 u8.heap.objs.size (.lst []) HL.objs.size=none;rw[aA (YJ Dq)];exact nC
  ·have Ov:=cl1 _ _ h;obtain⟨v,q⟩:=I2.cell x c Ov;rw[aA (XS q.lt)];exact I2.freeC x c Ov
  ·rw[X0] at hp;obtain⟨e,nn,ne,nf,d⟩:=I2.pin p hp;have eM:=XB e;refine⟨old _ _ e,by rw[aA (XS eM)];exact nn,XS (Z7 eM Dq),λz=>?_,d⟩;rcases Xs.mp (I2.stkSub p.1 z) with q | q
   ·exact ne q
   ·exact nf q
  ·show (XC (max n 1) none++σ).length=(tn++cT tn X.N).length;rw[Xq,Xq,abk,hn,show (cT tn X.N).length=X.N.length from by simp[cT],I2.len]
 have loop:∀s₃:Xl,s₃={u8 with heap:=h₁,toks:=u8.toks+([]:List (Str×Value)).length}->
  aaK (model X.prog X.w) X.A (.compLoop (.ListComp elt [⟨tg,iter,ifs,0⟩] scope pos) 0 (.ref ia) (.ref u8.heap.objs.size) (compEnvC scope cl HL.objs.size X.env))
   (RR (.ref u8.heap.objs.size) HL.objs.size) s₃:=by
  intro s₃ L4;have Fe:X'.env=compEnvC scope cl HL.objs.size X.env:=by subst yu;rfl
  have hA:X'.A=X.A:=by subst yu;rfl
  have hP:X'.prog=X.prog:=by subst yu;rfl
  have hw:X'.w=X.w:=by subst yu;rfl
  have hK:X'.K=X.K:=by subst yu;rfl
  have Wo:X'.xe=λ_ _=>False:=by subst yu;rfl
  have KN:X'.calm=true:=by subst yu;exact hc
  have Vw:X'.fs=fM X.stack:=by subst yu;rfl
  have hex:X'.ex=fp:=by subst yu;rfl
  have Vc:X'.ad8=H2:=by subst yu;rfl
  have Uc:X'.ad9=u8:=by subst yu;rfl
  have pass:∀{α:Type}{t:Sem α}{P:α->Xl->Prop}{E':Value->Xl->Prop}{s:Xl},wpAny (model X'.prog X'.w) X'.A t P X'.xe s->wpAny (model X.prog X.w) X.A t P E' s:=λ{α t P E' s} h=>by
   rw[hP,hw,hA,Wo] at h;exact YA h (λ_ _ q=>q) λ_ _ q=>q.elim
  refine Dg (λm s'=>∃(i:Nat) (F' H':Hp) (vs:List V) (ys:List D) (σt:St),m=ds.length - i/\i<=ds.length/\σt.length=max n 1/\Inv X' [] (σt++σ) H' s'/\UH i s'.heap/\(∀b∈fp,H' b=none)/\Ext F2 H2 F' H'/\
   H' u8.heap.objs.size=some (.lst vs)/\F' u8.heap.objs.size=none/\DenL X.K F' ys vs/\d9 (iw n δt δe ρ) ds=(d9 (iw n δt δe ρ) (ds.drop i)>>=λr=>ae (ys++r))) ?_ ds.length ?_
  ·rintro m s' ⟨i,F',H',vs,ys,σt,rfl,RN,Wu,I',sf,TC,Ai,hD,fD,QN,heq⟩;by_cases eM:i<ds.length
   ·
    obtain⟨d,hd⟩:∃d,ds[i]? =some d:=⟨_,Xi eM⟩
    obtain⟨RL,L8⟩:=(Um F' H' i Ai.ff Ai.fh).1 d hd;obtain⟨o,ho,OB⟩:=Ae hd heq hR;have Se:ys.length<=lim:=by
     rw[heq] at hR;obtain⟨r,_,hr⟩:=iX hR;rw[<-gq hr,Xq] at TU;omega
    obtain⟨ts,Wf,ho⟩:=iX ho;refine pass ?_;rw[hP,hw];refine cC (T.item X' hP hw hK KN i [] s' (σt++σ) H' X'.xe I' (LI TC) sf RL) ?_;rintro r s1 ⟨u,rfl,h1⟩;refine pass ?_;rw[hP,hw];refine cC h1 ?_;rintro _ s2 ⟨x,H3,I3,rx,y3,Lc,Qs⟩;obtain⟨F3,HP,q3⟩:=L8 x H3 y3;have TL:H3 u8.heap.objs.size=some (.lst vs):=HP.hh _ _ hD;have UY:F3 u8.heap.objs.size=none:=by rw[HP.old hD (λ_ z=>nomatch z)];exact fD
    have I3':=I3.pinned (LI Qs) (T.obj _ _ Lc);have B9:∀{σ7:St}{H7:Hp}{s7:Xl},Inv X' ([]++rL fp s2.heap) σ7 H7 s7->UH (i+1) s7.heap/\∀b∈fp,H7 b=none:=λ{σ7 H7 s7} I7=>
     ⟨T.keep _ _ _ Lc λb hb o e=>(I7.pin (b,o) (X_ _ (X_ _ (jb hb e)))).1,λb hb=>by
      obtain⟨o,e,_⟩:=T.obj _ _ Lc b hb;exact(I7.pin (b,o) (X_ _ (X_ _ (jb hb e)))).2.1⟩
    have VA:CQ X' tg n σ:=by subst yu;exact hg _ _ _ _ _ _ _
    have Wb:ng X' ifs δt:=by subst yu;exact ht _ _ _ _ _ _
    have Vt:PD X' (λ_ _=>False) elt δe:=by subst yu;exact he _ _ _ _ _ _
    refine pass ?_;rw[<-Fe];refine cC (VA _ s2 (σt++σ) F3 H3 d ts x u I3' HP.fh (by rw[<-Wu];simp) rx (by rw[hK];exact q3) Wf) ?_;rintro _ s4 ⟨vt,I4,dt⟩;rw[hK] at dt;have S4:StE X.K F3 H3 (vt.map some++σ) (ts.map (λt=>some (Sl.fz t))++ρ):=StE.cons ((S.ext e2).ext (Ai.trans HP)) dt;obtain⟨b,hb,ho⟩:=iX ho;refine pass ?_
    try rw[<-Fe]
    refine cC (Wb _ s4 _ H3 (λb' H5=>b'=b/\∃F5,Ext F3 H3 F5 H5) I4 ⟨F3,_,by rw[hK];exact S4,by rw[hb];exact WPB.take⟩) ?_;rintro b' s5 ⟨H5,I5,rfl,F5,Ly⟩;have Rq:H5 u8.heap.objs.size=some (.lst vs):=Ly.hh _ _ TL;have Tz:F5 u8.heap.objs.size=none:=by rw[Ly.old TL (λ_ z=>nomatch z)];exact UY
    cases b' with
    |false=>
     rw[ad0 XM] at ho⊢;obtain rfl:=gq ho;refine⟨ds.length - (i+1),by omega,i+1,F5,H5,vs,ys,vt.map some,rfl,eM,?_,I5.unpinned,(B9 I5).1,(B9 I5).2,Ai.trans (HP.trans Ly),Rq,Tz,DenL.mono (HP.trans Ly).ff QN,OB⟩;have h1:=I5.len;have h2:=I3.len;rw[Xq] at h1 h2;omega
    |true=>
     rw[adY rfl] at ho⊢;obtain⟨yv,hy,ho⟩:=iX ho;obtain rfl:=gq ho;refine pass ?_
     try rw[<-Fe]
     refine cC (Vt _ s5 _ H5 (λv H6=>∃F6,Ext F5 H5 F6 H6/\Den X.K F6 yv v) I5 ⟨F5,_,by rw[hK];exact S4.ext Ly,by rw[hy,hK];exact WP.take⟩) ?_;rintro xv s6 ⟨v,H6,I6,rv,F6,Qr,qv⟩;have Vb:H6 u8.heap.objs.size=some (.lst vs):=Qr.hh _ _ Rq;have TB:F6 u8.heap.objs.size=none:=by rw[Qr.old Rq (λ_ z=>nomatch z)];exact Tz
     have Wk:vs.length<XH:=by
      have:=QN.len;have:=d6;omega
     refine pass ?_;refine cC (uD _ s6 _ H6 (.ref u8.heap.objs.size) [v] (.ref u8.heap.objs.size) [xv] (λ_ H7=>H7=upd H6 u8.heap.objs.size (.lst (vs++[v]))) I6 rfl (.cons rv .nil) ⟨_,vs,v,rfl,rfl,Vb,Wk,rfl⟩) ?_;rintro _ s7 ⟨_,H7,I7,_,rfl⟩;have UW:Ext F2 H2 F6 (upd H6 u8.heap.objs.size (.lst (vs++[v]))):=by
      have e:=Ai.trans (HP.trans (Ly.trans Qr));refine⟨λb u q=>?_,e.ff,λb u q=>?_,e.new⟩
      ·rw[aA (SA b u q)];exact e.hh b u q
      ·rw[aA (λz=>by rw[z,TB] at q;cases q)];exact e.fh b u q
     refine⟨ds.length - (i+1),by omega,i+1,F6,_,vs++[v],ys++[yv],vt.map some,rfl,eM,?_,I7.unpinned,(B9 I7).1,(B9 I7).2,UW,aM,TB,
      DenL.append (DenL.mono (HP.trans (Ly.trans Qr)).ff QN) (.cons qv .nil),OB⟩
     have h1:=I5.len;have h2:=I3.len;rw[Xq] at h1 h2;omega
   ·
    have hi:i=ds.length:=by omega
    subst hi;rw[List.drop_length] at heq;have Vj:R=ys:=by
     rw[heq] at hR;have hR:ae (ys++[])=ae R:=hR;rw[<-gq hR,X0]
    subst Vj;refine pass ?_;rw[hP,hw];refine cC (T.done X' hP hw hK KN ds.length [] s' (σt++σ) H' X'.xe I' (LI TC) sf ((Um F' H' ds.length Ai.ff Ai.fh).2 (Xx _))) ?_;rintro r s1 ⟨rfl,I1⟩;obtain⟨m,hm,_⟩:=I1.loc;rw[Fe] at hm;have U_:H' HL.objs.size=none:=by
     have:=I1.free;rw[Fe] at this;exact this
    have u:=I1.base;rw[Vw,hex,Vc,Uc] at u;have OO:s1.os=u8.os:=by have:=I1.os;rw[Uc] at this;exact this
    have OE:=I1.hok;rw[hP,hw] at OE;refine Vi s1 HL.objs.size u8.heap.objs.size H' (I2.call' (s':=s1) (ch:=fp) OO u OE I1.bare (λb hb=>⟨(f2 b hb).2.2.2.1,(f2 b hb).2.1,(f2 b hb).2.2.2.2.1,(f2 b hb).2.2.2.2.2⟩)) ?_
     ⟨⟨m,hm⟩,U_,YJ (Z7 I2.lt Dq),X2 I2.sz (Y6 Dq),λx c q z=>?_,λp hp z=>?_⟩
    rotate_left
    ·obtain⟨v,q'⟩:=I2.cell x c q;exact ad3 (Z7 q'.lt Dq) (by rw[z];exact Yr _)
    ·exact ad3 (Z7 (XB (I2.pin p hp).1) Dq) (by rw[z];exact Yr _)
    refine WP.fin w2 (F':=upd F' u8.heap.objs.size (.lst vs)) ⟨Ai.hh,λb u q=>?_,λb u q=>?_,λa ha=>?_⟩ ⟨_,vs,rfl,aM,DenL.mono (λb u q=>?_) QN,TU⟩
    ·rw[aA (λz=>by have:=Ai.ff b u q;rw[z,fD] at this;cases this)];exact Ai.ff b u q
    ·by_cases z:b=u8.heap.objs.size
     ·rw[z,aM] at q;rw[z,hD];exact q
     ·rw[aA z] at q;exact Ai.fh b u q
    ·rcases Ai.new a ha with q | q
     ·exact .inl (by rw[aA (λz=>ha (by rw[z];exact nD))];exact q)
     ·exact .inr q
    ·rw[aA (λz=>by rw[z,fD] at q;cases q)];exact q
  ·rw[L4];refine⟨0,F2,_,[],[],XC (max n 1) none,by simp,Yo _,by simp,I0,T.keep _ _ _ xM (λb hb o e=>old b o e),λb hb=>?_,⟨λb u q=>?_,Same.refl _,λb u q=>?_,λ_ _=> .inl rfl⟩,aM,Same.free e2.fh nD,rfl,?_⟩
   ·rw[aA (XS (fl b hb))];exact(f2 b hb).1
   ·rw[aA (SA b u q)];exact q
   ·rw[aA (SA b u (e2.fh b u q))];exact e2.fh b u q
   ·rw[List.drop_zero];rcases(d9 (iw n δt δe ρ) ds).cs with hq | ⟨m,hq⟩ | ⟨R,hq⟩<;>rw[hq]<;>rfl
 exact codeAny_compStart_list (loop _ rfl) (T.self X.A 0 _ _ _ (T.keep _ _ _ xM (λb hb o e=>old b o e)) (loop _ rfl))
theorem Inv.block{X:Cx}{f8:List (Addr×Obj)}{σ:St}{H':Hp}{s1:Xl}{C:Addr}{h':Heap}(I:Inv X f8 σ H' s1)(b:BlockEnd X f8 C H' s1)(B0:YI C s1.heap h'):Inv X f8 σ H' {s1 with heap:=h'}:=
 I.turned (t':=s1.toks) (λa o ha e=>(B0.2 a ha).trans e) b.free b.nl (.inr b.nw) b.nc b.np
section
variable{X:Cx}{Xw:Nat->Hp->Prop}{elt iter tg:Expr}{ifs:List Expr}{scope:Scope}{pos:Pos}{tn:List Str}{n:Nat}{δi:DA}{δt:DT}{δe:DE}
theorem dz(sc:CompSc X scope tn)(hn:tn.length=max n 1)(hc:X.calm=true)(hi:zY X Xw tg iter δi)
 (hg:∀f8 cl C fp u8 H σ,CQ (kJ X scope tn f8 cl C fp u8 H) tg n σ)
 (ht:∀f8 cl C fp u8 H,ng (kJ X scope tn f8 cl C fp u8 H) ifs δt)
 (he:∀f8 cl C fp u8 H,PD (kJ X scope tn f8 cl C fp u8 H) (λ_ _=>False) elt δe)
 (hs:∀x,aat iter X.env x=pure x:=by intro _;rfl):
 PD X Xw (.ListComp elt [⟨tg,iter,ifs,0⟩] scope pos) (bB n δi δt δe):=by
 intro f8 s σ H Q I ⟨F,ρ,S,w⟩;obtain⟨cl,FC,cl1,NN⟩:=qj (scope:=scope) (env:=X.env) λy hy hf=>I.ok.has y.1 (sc.frees y hy hf);rw[eval_ListComp];refine adm (use:=none) rfl hs FC sc.kind sc.names (xY (RR:=λacc C=>compPost (model X.prog X.w) X.A X.xe none (EP X f8 σ Q) acc C) sc hn hc hi hg ht he I S w cl1 NN λs1 C D H' I1 q b=>?_);obtain⟨m,hm⟩:=b.ns;exact⟨m,hm,λh' B0=>⟨.ref D,H',Inv.block I1 b B0,rfl,q⟩⟩
end
inductive Out where
 |nx (ρ:bb) | rt (d:D)
abbrev DS:=bb->M Out
structure StOk (K:Xr) (s0 ad8 F H:Hp) (σ:St) (ρ:bb):Prop where
 ext:Ext s0 ad8 F H
 st:StE K F H σ ρ
 len:ρ.length=σ.length
 own:∀(i:Nat) (c:C) (a:Addr),ρ[i]? =some (some (.ow c))->σ[i]? =some (some (.ref a))->ad8 a=none
 sep:∀(i j:Nat) (c c':C) (a:Addr),ρ[i]? =some (some (.ow c))->ρ[j]? =some (some (.ow c'))->σ[i]? =some (some (.ref a))->σ[j]? =some (some (.ref a))->i=j
def WPS(K:Xr)(Xw:Nat->Hp->Prop)(s0 ad8:Hp)(m:M Out)(Dn:Ends):Prop:=
 match m with
 |none=>False
 |some (.ok (.nx ρ))=>∀σ F H,StOk K s0 ad8 F H σ ρ->Dn.nx σ H
 |some (.ok (.rt d))=>∀v F H,Ext s0 ad8 F H->Den K F d v->Dn.rt v H
 |some (.ex n)=>∀F H,Ext s0 ad8 F H->Xw n H
def tS(K:Xr)(Xw:Nat->Hp->Prop)(s0 ad8:Hp)(τ:DS):TS:=λDn σ H=>∃F ρ,StOk K s0 ad8 F H σ ρ/\WPS K Xw s0 ad8 (τ ρ) Dn
def iq(X:Cx)(Xw:Nat->Hp->Prop)(st:Stmt)(τ:DS):Prop:=∀s0 ad8,PS X st (tS X.K Xw s0 ad8 τ)
def PSDs(X:Cx)(Xw:Nat->Hp->Prop)(st:List Stmt)(τ:DS):Prop:=∀s0 ad8,PSs X st (tS X.K Xw s0 ad8 τ)
theorem PS.weak{X:Cx}{st:Stmt}{t t':TS}(h:PS X st t)(k:∀D σ H,t' D σ H->t D σ H):PS X st t':=λf8 s σ H D I w=>h f8 s σ H D I (k D σ H w)
theorem PSs.weak{X:Cx}{st:List Stmt}{t t':TS}(h:PSs X st t)(k:∀D σ H,t' D σ H->t D σ H):PSs X st t':=λf8 s σ H D I w=>h f8 s σ H D I (k D σ H w)
section
variable{K:Xr}{s0 ad8 F H F' H':Hp}{σ:St}{ρ:bb}
theorem StOk.ext'(s:StOk K s0 ad8 F H σ ρ)(e:Ext F H F' H'):StOk K s0 ad8 F' H' σ ρ:=⟨s.ext.trans e,s.st.ext e,s.len,s.own,s.sep⟩
theorem StOk.set(s:StOk K s0 ad8 F H σ ρ){i:Nat}{d:D}{v:V}(h:Den K F d v):StOk K s0 ad8 F H (σ.set i (some v)) (ρ.set i (some (.fz d))):=by
 have hl:=s.len;have get:∀(j:Nat) (sl:Sl),(ρ.set i (some (.fz d)))[j]? =some (some sl)->(j=i/\i<ρ.length/\sl= .fz d)\/(j≠i/\ρ[j]? =some (some sl)):=λj sl e=>by
  by_cases hj:j=i
  ·subst hj;have hi:j<ρ.length:=by
    have:=(Xy.mp e).1;simpa using this
   rw[XN hi] at e;cases e;exact .inl ⟨rfl,hi,rfl⟩
  ·rw[XF (Yp hj)] at e;exact .inr ⟨hj,e⟩
 refine⟨s.ext,⟨s.st.fh,λj sl e=>?_⟩,by simp[hl],λj c a e e'=>?_,λj k c c' a e1 e2 e3 e4=>?_⟩
 ·rcases get j sl e with⟨rfl,hi,rfl⟩ | ⟨hj,e⟩
  ·exact⟨v,by rw[XN (by omega)],h⟩
  ·obtain⟨u,h1,h2⟩:=s.st.den j sl e;exact⟨u,by rw[XF (Yp hj)];exact h1,h2⟩
 ·rcases get j _ e with⟨_,_,z⟩ | ⟨hj,e⟩
  ·cases z
  ·rw[XF (Yp hj)] at e';exact s.own j c a e e'
 ·rcases get j _ e1 with⟨_,_,z⟩ | ⟨hj,e1⟩
  ·cases z
  ·rcases get k _ e2 with⟨_,_,z⟩ | ⟨hk,e2⟩
   ·cases z
   ·rw[XF (Yp hj)] at e3;rw[XF (Yp hk)] at e4;exact s.sep j k c c' a e1 e2 e3 e4
theorem StOk.setNew(s:StOk K s0 ad8 F H σ ρ){i:Nat}{a:Addr}{o:HO}{c₀:C}(n:H a=none)(h:DenC K F c₀ o):
 StOk K s0 ad8 F (upd H a o) (σ.set i (some (.ref a))) (ρ.set i (some (.ow c₀))):=by
 have hle:=s.len;have e0:=Ext.free (o:=o) s.st.fh n;have nF:F a=none:=Same.free s.st.fh n;have get:∀(j:Nat) (sl:Sl),(ρ.set i (some (.ow c₀)))[j]? =some (some sl)->(j=i/\i<ρ.length/\sl= .ow c₀)\/(j≠i/\ρ[j]? =some (some sl)):=λj sl e=>by
  by_cases hj:j=i
  ·subst hj;have hi:j<ρ.length:=by
    have:=(Xy.mp e).1;simpa using this
   rw[XN hi] at e;cases e;exact .inl ⟨rfl,hi,rfl⟩
  ·rw[XF (Yp hj)] at e;exact .inr ⟨hj,e⟩
 have old:∀(j:Nat) (c:C) (b:Addr),ρ[j]? =some (some (.ow c))->σ[j]? =some (some (.ref b))->b≠a:=λj c b e e' z=>by
  obtain⟨u,h1,b',o,h2,h3,_⟩:=s.st.den j _ e;rw[h1] at e';cases e';cases h2;rw[z,n] at h3;cases h3
 refine⟨s.ext.trans e0,⟨e0.fh,λj sl e=>?_⟩,by simp[hle],λj c b e e'=>?_,λj k c c' b e1 e2 e3 e4=>?_⟩
 ·rcases get j sl e with⟨rfl,hi,rfl⟩ | ⟨hj,e⟩
  ·exact⟨.ref a,by rw[XN (by omega)],a,_,rfl,aM,nF,h⟩
  ·obtain⟨u,h1,h2⟩:=s.st.den j sl e;exact⟨u,by rw[XF (Yp hj)];exact h1,h2.ext e0⟩
 ·rcases get j _ e with⟨rfl,hi,_⟩ | ⟨hj,e⟩
  ·rw[XN (by omega)] at e';cases e';exact Same.free s.ext.hh n
  ·rw[XF (Yp hj)] at e';exact s.own j c b e e'
 ·rcases get j _ e1 with⟨rfl,hi,_⟩ | ⟨hj,e1⟩
  ·rw[XN (by omega)] at e3;cases e3;rcases get k _ e2 with⟨rfl,_,_⟩ | ⟨hk,e2⟩
   ·rfl
   ·rw[XF (Yp hk)] at e4;exact ad3 rfl (old k c' a e2 e4)
  ·rcases get k _ e2 with⟨RS,hi,_⟩ | ⟨hk,e2⟩
   ·rw[RS,XN (by omega)] at e4;cases e4;rw[XF (Yp hj)] at e3;exact ad3 rfl (old j c a (by assumption) e3)
   ·rw[XF (Yp hj)] at e3;rw[XF (Yp hk)] at e4;exact s.sep j k c c' b e1 e2 e3 e4
theorem StOk.chg(s:StOk K s0 ad8 F H σ ρ){i:Nat}{a:Addr}{c c₀:C}{o₀:HO}(hi:ρ[i]? =some (some (.ow c)))(ha:σ[i]? =some (some (.ref a)))(h:DenC K F c₀ o₀):
 StOk K s0 ad8 F (upd H a o₀) σ (ρ.set i (some (.ow c₀))):=by
 have hle:=s.len;have h0:=s.own i c a hi ha;obtain⟨u,q1,a',o,q2,q3,q4,q5⟩:=s.st.den i _ hi;rw[ha] at q1;cases q1;cases q2;have FF:i<ρ.length:=(Xy.mp hi).1;have get:∀(j:Nat) (sl:Sl),(ρ.set i (some (.ow c₀)))[j]? =some (some sl)->(j=i/\sl= .ow c₀)\/(j≠i/\ρ[j]? =some (some sl)):=λj sl e=>by
  by_cases hj:j=i
  ·subst hj;rw[XN FF] at e;cases e;exact .inl ⟨rfl,rfl⟩
  ·rw[XF (Yp hj)] at e;exact .inr ⟨hj,e⟩
 have fh:Same F (upd H a o₀):=λb o e=>by
  rw[aA (λz=>by rw[z,q4] at e;cases e)];exact s.st.fh b o e
 refine⟨⟨λb o e=>?_,s.ext.ff,fh,s.ext.new⟩,⟨fh,λj sl e=>?_⟩,by simp[hle],λj c' b e e'=>?_,λj k c1 c2 b e1 e2 e3 e4=>?_⟩
 ·rw[aA (λz=>by rw[z,h0] at e;cases e)];exact s.ext.hh b o e
 ·rcases get j sl e with⟨rfl,rfl⟩ | ⟨hj,e⟩
  ·exact⟨.ref a,ha,a,_,rfl,aM,q4,h⟩
  ·obtain⟨u,h1,h2⟩:=s.st.den j sl e;refine⟨u,h1,?_⟩;cases sl with
   |fz d=>exact h2
   |ow c'=>
    obtain⟨b,o',r1,r2,r3,r4⟩:=h2;refine⟨b,o',r1,?_,r3,r4⟩;rw[aA (λz=>hj (s.sep j i c' c a e hi (by rw[h1,r1,z]) ha))];exact r2
 ·rcases get j _ e with⟨rfl,_⟩ | ⟨hj,e⟩
  ·rw[ha] at e';cases e';exact h0
  ·exact s.own j c' b e e'
 ·have k1:∃c,ρ[j]? =some (some (.ow c)):=by
   rcases get j _ e1 with⟨rfl,_⟩ | ⟨_,e⟩
   ·exact⟨c,hi⟩
   ·exact⟨_,e⟩
  have k2:∃c,ρ[k]? =some (some (.ow c)):=by
   rcases get k _ e2 with⟨rfl,_⟩ | ⟨_,e⟩
   ·exact⟨c,hi⟩
   ·exact⟨_,e⟩
  obtain⟨_,k1⟩:=k1;obtain⟨_,k2⟩:=k2;exact s.sep j k _ _ b k1 k2 e3 e4
def frz(i:Nat)(ρ:bb):bb:=match ρ[i]? with
 |some (some (.ow c))=>ρ.set i (some (.fz c.d))
 |_=>ρ
theorem StOk.frz(s:StOk K s0 ad8 F H σ ρ)(i:Nat)(obj:Addr->Obj):(∃a o,H a=some o/\DenC K F (ρ[i]?.elim (.lst []) λx=>x.elim (.lst []) λy=>match y with | .ow c=>c | _=> .lst []) o/\σ[i]? =some (some (.ref a))/\StOk K s0 ad8 (upd F a (pH (obj a) o)) (upd H a (pH (obj a) o)) σ (frz i ρ))\/frz i ρ=ρ:=by
 unfold L3.frz;split
 ·rename_i c₀ hi;have hle:=s.len;obtain⟨u,ha,a,o,rfl,q3,q4,T1⟩:=s.st.den i _ hi;refine .inl ⟨a,o,q3,by rw[hi];exact T1,ha,?_⟩;have h0:=s.own i _ a hi ha;have FF:i<ρ.length:=(Xy.mp hi).1;have ff:Same F (upd F a (pH (obj a) o)):=λb o e=>by rw[aA (λz=>by rw[z,q4] at e;cases e)];exact e
  have fh:Same (upd F a (pH (obj a) o)) (upd H a (pH (obj a) o)):=λb o e=>by
   by_cases z:b=a
   ·rw[z,aM] at e⊢;exact e
   ·rw[aA z] at e⊢;exact s.st.fh b o e
  have get:∀(j:Nat) (sl:Sl),(ρ.set i (some (.fz c₀.d)))[j]? =some (some sl)->(j=i/\sl= .fz c₀.d)\/(j≠i/\ρ[j]? =some (some sl)):=λj sl e=>by
   by_cases hj:j=i
   ·subst hj;rw[XN FF] at e;cases e;exact .inl ⟨rfl,rfl⟩
   ·rw[XF (Yp hj)] at e;exact .inr ⟨hj,e⟩
  refine⟨⟨λb u q=>?_,s.ext.ff.trans ff,fh,λb hb=>?_⟩,⟨fh,λj sl e=>?_⟩,by simp[hle],λj c' b e e'=>?_,λj k c1 c2 b e1 e2 e3 e4=>?_⟩
  ·rw[aA (λz=>by rw[z,h0] at q;cases q)];exact s.ext.hh b u q
  ·rcases s.ext.new b hb with q | q
   ·exact .inl (by rw[aA (λz=>hb (by rw[z];exact h0))];exact q)
   ·exact .inr q
  ·rcases get j sl e with⟨rfl,rfl⟩ | ⟨hj,e⟩
   ·exact⟨.ref a,ha,DenC.den T1 ff aM⟩
   ·obtain⟨u,h1,h2⟩:=s.st.den j sl e;refine⟨u,h1,?_⟩;cases sl with
    |fz d=>exact Den.mono ff h2
    |ow c'=>
     obtain⟨b,o',r1,r2,r3,r4⟩:=h2;have iT:b≠a:=λz=>hj (s.sep j i c' _ a e hi (by rw[h1,r1,z]) ha);exact⟨b,o',r1,by rw[aA iT];exact r2,by rw[aA iT];exact r3,DenC.mono ff r4⟩
  ·rcases get j _ e with⟨_,z⟩ | ⟨hj,e⟩
   ·cases z
   ·exact s.own j c' b e e'
  ·rcases get j _ e1 with⟨_,z⟩ | ⟨_,e1⟩
   ·cases z
   ·rcases get k _ e2 with⟨_,z⟩ | ⟨_,e2⟩
    ·cases z
    ·exact s.sep j k _ _ b e1 e2 e3 e4
 ·exact .inr rfl
end
def join(F H:Hp):Hp:=λa=>match F a with
 |some o=>some o
 |none=>H a
theorem StOk.rebase{K:Xr}{s0 ad8 F H:Hp}{σ:St}{ρ:bb}(s:StOk K s0 ad8 F H σ ρ):StOk K F (join F ad8) F H σ ρ/\∀F' H',Ext F (join F ad8) F' H'->Ext s0 ad8 F' H':=by
 have hj:Same (join F ad8) H:=λb o e=>by
  unfold join at e;cases q:F b with
  |some u=>rw[q] at e;cases e;exact s.st.fh b _ q
  |none=>rw[q] at e;exact s.ext.hh b o e
 have h0:Same ad8 (join F ad8):=λb o e=>by
  unfold join;cases q:F b with
  |some u=>
   have h1:=s.st.fh b u q;rw[s.ext.hh b o e] at h1;exact h1.symm
  |none=>exact e
 refine⟨⟨⟨hj,Same.refl _,s.st.fh,λ_ _=> .inl rfl⟩,s.st,s.len,λi c a e e'=>?_,s.sep⟩,λF' H' x=>⟨h0.trans x.hh,s.ext.ff.trans x.ff,x.fh,λa ha=>?_⟩⟩
 ·have h1:=s.own i c a e e';obtain⟨v,q1,a',o,q2,q3,q4,_⟩:=s.st.den i _ e;rw[e'] at q1;cases q1;cases q2;unfold join;rw[q4];exact h1
 ·have:join F ad8 a≠none:=by
   cases q:ad8 a with
   |none=>exact ad3 q ha
   |some o=>rw[h0 a o q];exact λz=>nomatch z
  rcases s.ext.new a ha with p | p
  ·rcases x.new a this with q | ⟨ts,q⟩
   ·exact .inl (q.trans p)
   ·cases z:ad8 a with
    |none=>exact ad3 z ha
    |some o=>
     rw[h0 a o z] at q;exact .inr ⟨ts,q⟩
  ·exact .inr p
theorem StOk.unbase{K:Xr}{s0 ad8 F U F' H':Hp}{σ:St}{ρ:bb}(k:∀F' H',Ext F U F' H'->Ext s0 ad8 F' H')(s:StOk K F U F' H' σ ρ)(h:Same ad8 U):StOk K s0 ad8 F' H' σ ρ:=
 ⟨k _ _ s.ext,s.st,s.len,λi c a e e'=>Same.free h (s.own i c a e e'),s.sep⟩
theorem DK{K:Xr}{s0 ad8 F H:Hp}{σ:St}{ρ:bb}(s:StOk K s0 ad8 F H σ ρ):Same ad8 (join F ad8):=λb o e=>by
 unfold join;cases q:F b with
 |some u=>
  have h1:=s.st.fh b u q;rw[s.ext.hh b o e] at h1;exact h1.symm
 |none=>exact e
theorem Inv.refrz{X:Cx}{f8:List (Addr×Obj)}{σ:St}{H:Hp}{s:Xl}{a:Addr}{o o':HO}(I:Inv X f8 σ H s)(e:H a=some o)
 (ho:o'=o\/∃u,o'= .frz ((s.heap.get? a).getD {cls:= .none,data:= .fields #[]}) u/\((∃k,o= .dT k/\u= .dT k)\/∃k,o= .dK k/\u= .dK k)):Inv X f8 σ (upd H a o') s:=by
 rcases ho with rfl | ⟨u,rfl,hu⟩
 ·have:upd H a o'=H:=by
   funext b;by_cases z:b=a
   ·rw[z,aM,e]
   ·rw[aA z]
  rw[this];exact I
 have V6:o=u:=by rcases hu with⟨k,h1,h2⟩ | ⟨k,h1,h2⟩<;>rw[h1,h2]
 subst V6;have nt:∀ts,o≠ .tup ts:=λts z=>by rcases hu with⟨k,h1,_⟩ | ⟨k,h1,_⟩<;>rw[h1] at z<;>cases z
 have nf:∀ob v,o≠ .frz ob v:=λob v z=>by rcases hu with⟨k,h1,_⟩ | ⟨k,h1,_⟩<;>rw[h1] at z<;>cases z
 have nb:∀p,o≠ .tbl p:=λp z=>by rcases hu with⟨k,h1,_⟩ | ⟨k,h1,_⟩<;>rw[h1] at z<;>cases z
 have no:∀p,o≠ .own p:=λp z=>by rcases hu with⟨k,h1,_⟩ | ⟨k,h1,_⟩<;>rw[h1] at z<;>cases z
 have ne:∀b,H b=none->b≠a:=λb hb z=>by rw[z,e] at hb;cases hb
 have hk:=I.hok a o e;have eM:=hk.lt;obtain⟨ob,OM⟩:∃ob,s.heap.get? a=some ob:=by
  rcases hu with⟨k,h1,_⟩ | ⟨k,h1,_⟩
  ·subst h1;obtain⟨_,_,_,_,ob,_,_,q,_⟩:=hk;exact⟨ob,q⟩
  ·subst h1;obtain⟨_,_,_,_,ob,_,_,q,_⟩:=hk;exact⟨ob,q⟩
 rw[OM];refine⟨I.ok,I.os,I.bare,⟨I.base.keep,I.base.slot,λb q h1 h2 h3=>?_,I.base.there,λb xs q=>?_,λb q1 v q=>?_,λb ps q=>?_⟩,I.loc,I.cell,?_,λx c q=>?_,λp hp=>?_,λb v q=>?_,I.len⟩
 ·have:=I.base.free b q h1 h2 h3;rw[aA (ne b this)];exact this
 ·have:=I.base.tups b xs q;rw[aA (λz=>by rw[z,e] at this;exact nt xs (XT this))];exact this
 ·have:=I.base.frzs b q1 v q;rw[aA (λz=>by rw[z,e] at this;exact nf _ _ (XT this))];exact this
 ·obtain⟨m,this⟩:=I.base.tbls b ps q;exact⟨m,by rw[aA (λz=>by rw[z,e] at this;exact nb _ (XT this))];exact this⟩
 ·rw[aA (ne _ I.free)];exact I.free
 ·rw[aA (ne _ (I.freeC x c q))];exact I.freeC x c q
 ·obtain⟨h1,h2,h3⟩:=I.pin p hp;exact⟨h1,by rw[aA (ne _ h2)];exact h2,h3⟩
 ·have st:∀{c:Addr}{v:HO},ObjOk X.prog X.w H s.heap c v->ObjOk X.prog X.w (upd H a (.frz ob o)) s.heap c v:=λ{c v} k=>k.stay (λ_ _ _ q=>q)
   (λc' q=>by rw[aA (λz=>by rw[z,e] at q;exact no _ (XT q))];exact q) λc' xs q=>by rw[aA (λz=>by rw[z,e] at q;exact nt _ (XT q))];exact q
  by_cases z:b=a
  ·subst z;rw[show (some ob).getD _=ob from rfl,aM] at q;cases q;exact⟨OM,st hk⟩
  ·rw[aA z] at q;exact st (I.hok b v q)
def aI(a b:DS):DS:=λρ=>a ρ>>=λo=>match o with | .nx ρ'=>b ρ' | .rt d=>ae (.rt d)
def dE:DS:=λρ=>ae (.nx ρ)
def bI(δ:DE):DS:=λρ=>δ ρ>>=λd=>ae (.rt d)
def rS(δ:DE):DS:=λρ=>δ ρ>>=λ_=>ae (.nx ρ)
def bg(i:Nat)(δ:DE):DS:=λρ=>δ ρ>>=λd=>ae (.nx (ρ.set i (some (.fz d))))
def iP(c:DT)(a b:DS):DS:=λρ=>c ρ>>=λx=>if x then a ρ else b ρ
def xK(i:Nat)(a:DS):DS:=λρ=>a (frz i ρ)
def rT(i:Nat):DS:=λρ=>ae (.nx (ρ.set i (some (.ow (.lst [])))))
def A7(ρ:bb)(i:Nat):Option (List D):=match ρ[i]? with
 |some (some (.ow (.lst ds)))=>some ds
 |_=>none
theorem uI{ρ:bb}{i:Nat}{ds:List D}(h:A7 ρ i=some ds):ρ[i]? =some (some (.ow (.lst ds))):=by
 unfold A7 at h;split at h
 ·rename_i ds' e;cases h;exact e
 ·cases h
def jC(i:Nat)(δ:DE):DS:=λρ=>match A7 ρ i with
 |some ds=>δ ρ>>=λd=>if ds.length<lim then ae (.nx (ρ.set i (some (.ow (.lst (ds++[d])))))) else ag
 |none=>ag
def Hg(i:Nat)(δ:DE):DS:=λρ=>match A7 ρ i with
 |some ds=>δ ρ>>=λd=>lstM d>>=λes=>if ds.length+es.length<=lim then ae (.nx (ρ.set i (some (.ow (.lst (ds++es)))))) else ag
 |none=>ag
def forL(put:D->bb->Option bb)(body:DS):List D->DS
 |[],ρ=>ae (.nx ρ)
 |d::ds,ρ=>(match put d ρ with | none=>ag | some ρ1=>body ρ1>>=λo=>match o with | .nx ρ2=>forL put body ds ρ2 | .rt v=>ae (.rt v))
def putN(i:Nat):D->bb->Option bb:=λd ρ=>some (ρ.set i (some (.fz d)))
def cV(put:D->bb->Option bb)(δi:DA)(body:DS):DS:=λρ=>δi ρ>>=λds=>forL put body ds ρ
section
variable{X:Cx}{Xw:Nat->Hp->Prop}{s0 ad8:Hp}{st:Stmt}{W1:List Stmt}{τ τ':DS}{e:Expr}{δ:DE}{pos:Pos}
theorem bz:PSDs X Xw [] dE:=λs0 ad8=>PSs.weak JV λD σ H ⟨F,ρ,s,w⟩=>w σ F H s
theorem aj(h1:iq X Xw st τ)(h2:PSDs X Xw W1 τ'):PSDs X Xw (st::W1) (aI τ τ'):=λs0 ad8=>PSs.weak (G2 (h1 s0 ad8) (h2 s0 ad8)) λD σ H ⟨F,ρ,s,w⟩=>by
 refine⟨F,ρ,s,?_⟩;unfold aI at w
 match τ ρ,w with
 |none,w=>exact w
 |some (.ok (.nx ρ')),w=>exact λσ' F' H' s'=>⟨F',ρ',s',w⟩
 |some (.ok (.rt d)),w=>exact w
 |some (.ex n),w=>exact w
theorem ar(h1:iq X Xw st τ):PSDs X Xw [st] τ:=λs0 ad8=>JW (h1 s0 ad8)
theorem de{i:Nat}(h:iq X Xw st τ):iq X Xw st (xK i τ):=λs0 ad8 f8 sh σ H D I ⟨F,ρ,s,w⟩=>by
 rcases s.frz i (λa=>(sh.heap.get? a).getD {cls:= .none,data:= .fields #[]}) with⟨a,o,ha,hc,hσ,s'⟩ | e
 ·refine h s0 ad8 f8 sh σ _ D (L3.Inv.refrz I ha ?_) ⟨_,_,s',w⟩;generalize (ρ[i]?.elim (C.lst []) λx=>x.elim (.lst []) λy=>match y with | .ow c=>c | _=> .lst [])=c at hc;cases c with
  |lst ds=>obtain⟨vs,rfl,_⟩:=hc;exact .inl rfl
  |dct ks ds=>obtain⟨vs,rfl,_⟩:=hc;exact .inr ⟨_,rfl, .inl ⟨_,rfl,rfl⟩⟩
  |dci ks ds=>obtain⟨vs,rfl,_⟩:=hc;exact .inr ⟨_,rfl, .inr ⟨_,rfl,rfl⟩⟩
 ·exact h s0 ad8 f8 sh σ H D I ⟨F,ρ,s,by unfold xK at w;rw[e] at w;exact w⟩
theorem aK(h:PD X Xw e δ):iq X Xw (.Return (some e) pos) (bI δ):=λs0 ad8=>PS.weak (M_ h) λD σ H ⟨F,ρ,s,w⟩=>by
 refine⟨F,ρ,s.st,?_⟩;unfold bI at w
 match δ ρ,w with
 |none,w=>exact w
 |some (.ok d),w=>exact λv H' F' e' q=>w v F' H' (s.ext.trans e') q
 |some (.ex n),w=>exact λF' H' e'=>w F' H' (s.ext.trans e')
theorem mI(h:PD X Xw e δ)(hs:abf e none pos.line X.env=pure false:=by rfl):iq X Xw (.Expr e pos) (rS δ):=λs0 ad8=>PS.weak (p8 h hs) λD σ H ⟨F,ρ,s,w⟩=>by
 refine⟨F,ρ,s.st,?_⟩;unfold rS at w
 match δ ρ,w with
 |none,w=>exact w
 |some (.ok d),w=>exact λv H' F' e' q=>w σ F' H' (s.ext' e')
 |some (.ex n),w=>exact λF' H' e'=>w F' H' (s.ext.trans e')
theorem aF{i:Nat}{x:Str}{pos':Pos}(hN:X.N.Nodup)(hi:X.N[i]? =some x)(hx:Loc X.env.scope x)(he:PD X Xw e δ)(hf:X.fn x=true\/X.env.scope.names.lookup x=some .local:=by first | exact .inl rfl | exact .inr rfl)
 (hs:adx [.Name x pos'] e pos.line X.env=pure false:=by rfl):
 iq X Xw (.Assign [.Name x pos'] e pos) (bg i δ):=λs0 ad8=>PS.weak (wU he (aS hN hi hx hf) hs) λD σ H ⟨F,ρ,s,w⟩=>by
 refine⟨F,ρ,s.st,?_⟩;unfold bg at w
 match δ ρ,w with
 |none,w=>exact w
 |some (.ok d),w=>exact λv H' F' e' q=>w _ F' H' ((s.ext' e').set q)
 |some (.ex n),w=>exact λF' H' e'=>w F' H' (s.ext.trans e')
theorem g_{elt iter tg:Expr}{ifs:List Expr}{scope:Scope}{a7:Pos}{tn:List Str}{n:Nat}{δi:DA}{δt:DT}{δe:DE}{i:Nat}{x:Str}{pos':Pos}(hN:X.N.Nodup)(RM:X.N[i]? =some x)(hx:Loc X.env.scope x)
 (sc:CompSc X scope tn)(hn:tn.length=max n 1)(hc:X.calm=true)(hi:zY X Xw tg iter δi)
 (hg:∀f8 cl C fp u8 H σ,CQ (kJ X scope tn f8 cl C fp u8 H) tg n σ)
 (ht:∀f8 cl C fp u8 H,ng (kJ X scope tn f8 cl C fp u8 H) ifs δt)
 (he:∀f8 cl C fp u8 H,PD (kJ X scope tn f8 cl C fp u8 H) (λ_ _=>False) elt δe)
 (hf:X.fn x=true\/X.env.scope.names.lookup x=some .local:=by first | exact .inl rfl | exact .inr rfl)
 (Wa:abf (.ListComp elt [⟨tg,iter,ifs,0⟩] scope a7) (some (.Name x pos')) pos.line X.env=pure true:=by rfl)
 (hs:∀x,aat iter X.env x=pure x:=by intro _;rfl):
 iq X Xw (.Assign [.Name x pos'] (.ListComp elt [⟨tg,iter,ifs,0⟩] scope a7) pos) (bg i (bB n δi δt δe)):=λs0 ad8 f8 s σ H D I ⟨F,ρ,S,w⟩=>by
 obtain⟨cl,FC,cl1,NN⟩:=qj (scope:=scope) (env:=X.env) λy hy hf=>I.ok.has y.1 (sc.frees y hy hf);have w':WP X.K Xw F H (bB n δi δt δe ρ) (λv H'=>D.nx (σ.set i (some v)) H'):=by
  have w:WPS X.K Xw s0 ad8 (bB n δi δt δe ρ>>=λd=>ae (.nx (ρ.set i (some (.fz d))))) D:=w
  match bB n δi δt δe ρ,w with
  |none,w=>exact w
  |some (.ok d),w=>exact λv H' F' e' q=>w _ F' H' ((S.ext' e').set q)
  |some (.ex n),w=>exact λF' H' e'=>w F' H' (S.ext.trans e')
 rw[exec_Assign_Name_used _ _ _ _ Wa];refine Xg (wpAny_standAt (Xg ?_));show wpAny _ X.A (do let _<-comprehension (.ListComp elt [⟨tg,iter,ifs,0⟩] scope a7) scope X.env _ (newList []) false (eval iter X.env) (some (assign (.Name x pos') X.env))) _ _ s;refine Xg (YA (adm (use:=some (assign (.Name x pos') X.env)) (Q:=λ_ s'=>SP X f8 D .next s') rfl hs FC sc.kind sc.names
  (xY (RR:=λacc C=>compPost (model X.prog X.w) X.A X.xe (some (assign (.Name x pos') X.env)) (λ_ s'=>SP X f8 D .next s') acc C) sc hn hc hi hg ht he I S.st w' cl1 NN λs1 C D' H' I1 q b=>?_)) (λ_ s' hq=>Xn (Xn hq)) λ_ _ e=>e)
 show wpAny _ X.A (assign (.Name x pos') X.env (.ref D')) _ _ _;refine aci (oj I1 hN RM hx (v:= .ref D') rfl (λs2 I2 ⟨a,sb,ha⟩=>?_) hf);have U9:C≠a:=by
  rcases ha with z | z
  ·rw[z];exact b.nl
  ·exact Yp (b.nc x a z)
 obtain⟨m,hm⟩:=b.ns;have LS:s2.heap.Ns C m:=hm.sameBut sb U9;refine⟨m,LS,λh' B0=>⟨_,H',Inv.block I2 ⟨⟨m,LS⟩,b.free,b.nl,b.nw,b.nc,b.np⟩ B0,q⟩⟩
theorem b6{c:Expr}{a b:List Stmt}{tc:DT}(hc:lK X Xw c tc)(ha:PSDs X Xw a τ)(hb:PSDs X Xw b τ'):iq X Xw (.If c a b pos) (iP tc τ τ'):=λs0 ad8=>PS.weak (Pz hc (ha s0 ad8) (hb s0 ad8)) λD σ H ⟨F,ρ,s,w⟩=>by
 refine⟨F,ρ,s.st,?_⟩;unfold iP at w
 match tc ρ,w with
 |none,w=>exact w
 |some (.ok true),w=>exact λH' F' e'=>⟨F',ρ,s.ext' e',w⟩
 |some (.ok false),w=>exact λH' F' e'=>⟨F',ρ,s.ext' e',w⟩
 |some (.ex n),w=>exact λF' H' e'=>w F' H' (s.ext.trans e')
theorem gp{i:Nat}{x:Str}{pos' M8:Pos}(hN:X.N.Nodup)(hi:X.N[i]? =some x)(hx:Loc X.env.scope x)(hf:X.fn x=true\/X.env.scope.names.lookup x=some .local:=by first | exact .inl rfl | exact .inr rfl):
 iq X Xw (.Assign [.Name x pos'] (.List [] M8) pos) (rT i):=λs0 ad8=>PS.weak (wU (wR rD) (aS hN hi hx hf) rfl) λD σ H ⟨F,ρ,s,w⟩=>by
 refine⟨Yo _,λp hp=>?_⟩;exact w _ F _ (s.setNew (c₀:= .lst []) hp ⟨[],rfl,rfl,Yo _⟩)
def EJ(K:Xr)(g:TG)(put:D->bb->Option bb):Prop:=∀(s0 ad8 F H:Hp) (σ:St) (ρ ρ':bb) (d:D) (v:V) (Q:St->Hp->Prop),StOk K s0 ad8 F H σ ρ->Den K F d v->put d ρ=some ρ'->
 (∀σ',StOk K s0 ad8 F H σ' ρ'->Q σ' H)->g v σ H Q
theorem bC{K:Xr}{i:Nat}:EJ K (Fq i) (putN i):=λs0 ad8 F H σ ρ ρ' d v Q s q e k=>by
 cases e;exact k _ (s.set q)
def WS(K:Xr)(Xw:Nat->Hp->Prop)(τ:DS):TS:=λD σ H=>∃s0 ad8,tS K Xw s0 ad8 τ D σ H
theorem PSDs.ex{body:List Stmt}(h:PSDs X Xw body τ):PSs X body (WS X.K Xw τ):=λf8 s σ H D I ⟨s0,ad8,w⟩=>h s0 ad8 f8 s σ H D I w
theorem bx{tg iter:Expr}{body:List Stmt}{δi:DA}{g:TG}{put:D->bb->Option bb}(hp:PassesOwn (model X.prog X.w) X.A X.env X.xe)(hc:X.calm=true)(hi:zY X Xw tg iter δi)(hg:PG X tg g)(R4:EJ X.K g put)(hb:PSDs X Xw body τ)
 (hs:∀x,aat iter X.env x=pure x:=by intro _;rfl):iq X Xw (.For tg iter body [] pos) (cV put δi τ):=λs0 ad8=>PS.weak (M9 hp hc hi hg hb.ex hs) λD σ H ⟨F,ρ,s,w⟩=>by
 refine⟨F,ρ,s.st,?_⟩;unfold cV at w
 match δi ρ,w with
 |none,w=>exact w
 |some (.ex n),w=>exact λF' H' e'=>w F' H' (s.ext.trans e')
 |some (.ok ds),w=>
  have w:WPS X.K Xw s0 ad8 (forL put τ ds ρ) D:=w;intro J H1 F1 e1 Uo;obtain⟨s1,back⟩:=(s.ext' e1).rebase;have hU:=DK (s.ext' e1);generalize join F1 ad8=U at s1 back hU;refine⟨λi m σ H=>m=ds.length - i/\i<=ds.length/\∃F ρ,StOk X.K F1 U F H σ ρ/\WPS X.K Xw s0 ad8 (forL put τ (ds.drop i) ρ) D,⟨ds.length,by simp,Yo _,F1,ρ,s1,by simpa using w⟩,?_⟩;rintro i m σ2 H2 ⟨rfl,RN,F2,ρ2,s2,w2⟩;by_cases eM:i<ds.length
  ·obtain⟨d,hd⟩:∃d,ds[i]? =some d:=⟨_,Xi eM⟩
   obtain⟨RL,L8⟩:=(Uo F2 H2 i s2.ext.ff s2.st.fh).1 d hd;have ed:ds.drop i=d::ds.drop (i+1):=by
    obtain⟨hi,e⟩:=Xy.mp hd;rw[acD hi,e]
   rw[ed] at w2;unfold forL at w2;refine .inr ⟨RL,λσ' H'=>∃F' ρ',StOk X.K F1 U F' H' σ' ρ'/\WPS X.K Xw s0 ad8 (forL put τ (ds.drop (i+1)) ρ') D,λσ' H' ⟨F',ρ',h2,h3⟩=>⟨ds.length - (i+1),by omega,rfl,eM,F',ρ',h2,h3⟩,λx H3 y3=>?_⟩;obtain⟨F3,HP,q3⟩:=L8 x H3 y3
   match R3:put d ρ2,w2 with
   |none,w2=>exact w2.elim
   |some ρ3,w2=>
    refine R4 F1 U F3 H3 σ2 ρ2 ρ3 d x _ (s2.ext' HP) q3 R3 λσ3 s3=>⟨F1,U,F3,ρ3,s3,?_⟩
    have w2:WPS X.K Xw s0 ad8 (τ ρ3>>=λo=>match o with | .nx ρ2=>forL put τ (ds.drop (i+1)) ρ2 | .rt v=>ae (.rt v)) D:=w2
    match τ ρ3,w2 with
    |none,w2=>exact w2
    |some (.ok (.nx ρ')),w2=>exact λσ' F' H' s'=>⟨F',ρ',s',w2⟩
    |some (.ok (.rt d)),w2=>exact λv F' H' e q=>w2 v F' H' (back _ _ e) q
    |some (.ex n),w2=>exact λF' H' e=>w2 F' H' (back _ _ e)
  ·have hi:i=ds.length:=by omega
   subst hi;rw[List.drop_length] at w2;exact .inl ⟨(Uo F2 H2 ds.length s2.ext.ff s2.st.fh).2 (Xx _),w2 σ2 F2 H2 (s2.unbase back hU)⟩
end
def gI(f:Int->Int->D):D->D->M D
 | .int i, .int j=>ae (f i j)
 |_,_=>ag
def Oj(c:Int->Int->Bool)(f:Int->Int->D):D->D->M D
 | .int i, .int j=>if c i j then ae (f i j) else ag
 |_,_=>ag
theorem uG{K:Xr}{gv:Int->Int->V}{gd:Int->Int->D}(h:∀F i j,Den K F (gd i j) (gv i j)):u9 K (Bf gv) (gI gd):=λXw F H x y dx dy Q s hx hy w=>by
 unfold gI at w;split at w
 ·rename_i i j;exact⟨i,j,hx,hy,WP.now w s (h F i j)⟩
 ·exact w.elim
theorem A4{K:Xr}{gv:Int->Int->V}{gd:Int->Int->D}{c:Int->Int->Bool}{C:Int->Int->Prop}(h:∀F i j,Den K F (gd i j) (gv i j))(hc:∀i j,c i j=true->C i j):u9 K (rI C gv) (Oj c gd):=λXw F H x y dx dy Q s hx hy w=>by
 unfold Oj at w;split at w
 ·rename_i i j;split at w
  ·rename_i QD;exact⟨i,j,hx,hy,hc i j QD,WP.now w s (h F i j)⟩
  ·exact w.elim
 ·exact w.elim
def dN:=gI λi j=> .int (i+j)
def jz:=gI λi j=> .int (i - j)
def i8:=Oj (λi j=>decide ((-(2 ^ 64)<i/\i<2 ^ 64)\/(-(2 ^ 64)<j/\j<2 ^ 64))) λi j=> .int (i*j)
def sR:=Oj (λ_ j=>decide (0<j/\j<1073741824)) λi j=> .int (i / j)
def lZ:=Oj (λ_ j=>decide (0<j)) λi j=> .int (i % j)
def HQ:=gI λi j=> .bl (decide (i<j))
def Qu:=gI λi j=> .bl (decide (j<i))
def Qt:=gI λi j=> .bl (decide (j<=i))
section
variable{X:Cx}{Xw:Nat->Hp->Prop}{a b:Expr}{δa δb:DE}{pos:Pos}
theorem cG(ha:PD X Xw a δa)(hb:PD X Xw b δb):PD X Xw (.BinOp a .Add b pos) (d2 dN δa δb):=o_ Mz (uG λ_ _ _=>rfl) ha hb
theorem lD(ha:PD X Xw a δa)(hb:PD X Xw b δb):PD X Xw (.BinOp a .Sub b pos) (d2 jz δa δb):=o_ MK (uG λ_ _ _=>rfl) ha hb
theorem j4(ha:PD X Xw a δa)(hb:PD X Xw b δb):PD X Xw (.BinOp a .Mult b pos) (d2 i8 δa δb):=o_ MH (A4 (λ_ _ _=>rfl) λi j h=>by unfold CMul;exact ad4 h) ha hb
theorem wL(ha:PD X Xw a δa)(hb:PD X Xw b δb):PD X Xw (.BinOp a .FloorDiv b pos) (d2 sR δa δb):=o_ Js (A4 (λ_ _ _=>rfl) λi j h=>by unfold NX;exact ad4 h) ha hb
theorem nV(ha:PD X Xw a δa)(hb:PD X Xw b δb):PD X Xw (.BinOp a .Mod b pos) (d2 lZ δa δb):=o_ MG (A4 (λ_ _ _=>rfl) λi j h=>ad4 h) ha hb
theorem G4(ha:PD X Xw a δa)(hb:PD X Xw b δb):lK X Xw (.Compare a [.Lt] [b] pos) (bU (d2 HQ δa δb)):=dB GD (uG λ_ _ _=>rfl) ha hb
theorem PF(ha:PD X Xw a δa)(hb:PD X Xw b δb):lK X Xw (.Compare a [.Gt] [b] pos) (bU (d2 Qu δa δb)):=dB Po (uG λ_ _ _=>rfl) ha hb
def cE:D->D->M D
 | .lst ds, .int i=>match atI ds i with | some d=>ae d | none=>ag
 |_,_=>ag
def aU:D->D->M D
 | .tup ds, .int i=>match atI ds i with | some d=>ae d | none=>ag
 |_,_=>ag
def Fo:D->D->M D
 | .scr ns, .int i=>match atI ns i with | some n=>ae (.int n) | none=>ag
 |_,_=>ag
def jK:D->D->M D
 | .str x, .int i=>match atI x.cps.toList i with | some c=>ae (.str ⟨#[c]⟩) | none=>ag
 |_,_=>ag
theorem DenL.atI{K:Xr}{F:Hp}{ds:List D}{vs:List V}(h:DenL K F ds vs){i:Int}{d:D}(e:L2.atI ds i=some d):∃v,L2.atI vs i=some v/\Den K F d v:=by
 unfold L2.atI at e⊢;rw[<-h.len];cases q:AG ds.length i with
 |none=>rw[q] at e;cases e
 |some j=>
  rw[q] at e;exact h.get e
theorem Jv{K:Xr}:u9 K (Np K) cE:=λXw F H x y dx dy Q s hx hy w=>by
 unfold cE at w;split at w
 ·rename_i ds i;obtain⟨a,vs,h1,h2,h3,h4⟩:=hx;split at w
  ·rename_i d e;obtain⟨v,e1,q⟩:=h3.atI e;exact⟨a,vs,i,v,h1,hy,SqL.of (s _ _ h2),e1,WP.now w s q⟩
  ·exact w.elim
 ·exact w.elim
theorem Jy{K:Xr}:u9 K (PX K) aU:=λXw F H x y dx dy Q s hx hy w=>by
 unfold aU at w;split at w
 ·rename_i ds i;obtain⟨a,vs,h1,h2,h3,h4⟩:=hx;split at w
  ·rename_i d e;obtain⟨v,e1,q⟩:=h3.atI e;exact⟨a,vs,i,v,h1,hy,SqT.of (s _ _ h2),e1,WP.now w s q⟩
  ·exact w.elim
 ·exact w.elim
theorem Jw{K:Xr}:u9 K (Np K) Fo:=λXw F H x y dx dy Q s hx hy w=>by
 unfold Fo at w;split at w
 ·rename_i ns i;obtain⟨a,h1,h2,h3⟩:=hx;split at w
  ·rename_i n e;refine⟨a,_,i, .int n,h1,hy,Same.seq s h2,?_,WP.now w s rfl⟩;unfold L2.atI at e⊢;rw[Xh];cases q:AG ns.length i with
   |none=>rw[q] at e;cases e
   |some j=>
    rw[q] at e;have e:ns[j]? =some n:=e;show (ns.map V.int)[j]? =some (.int n);rw[Xv,e];rfl
  ·exact w.elim
 ·exact w.elim
theorem Jx{K:Xr}:u9 K PV jK:=λXw F H x y dx dy Q s hx hy w=>by
 unfold jK at w;split at w
 ·rename_i z i;obtain⟨h1,h2⟩:=hx;split at w
  ·rename_i c e;exact⟨z,i,c,h1,hy,by have:=d6;omega,e,WP.now w s ⟨rfl,by show 1<=lim;decide⟩⟩
  ·exact w.elim
 ·exact w.elim
theorem dq(ha:PD X Xw a δa)(hb:PD X Xw b δb)(hs:iU b:=by intro _ _;rfl):PD X Xw (.Subscript a b pos) (d2 cE δa δb):=Ct vU Jv ha hb hs
theorem MQ(ha:PD X Xw a δa)(hb:PD X Xw b δb)(hs:iU b:=by intro _ _;rfl):PD X Xw (.Subscript a b pos) (d2 Fo δa δb):=Ct vU Jw ha hb hs
theorem bf(ha:PD X Xw a δa)(hb:PD X Xw b δb)(hs:iU b:=by intro _ _;rfl):PD X Xw (.Subscript a b pos) (d2 aU δa δb):=Ct Mi Jy ha hb hs
theorem nU(ha:PD X Xw a δa)(hb:PD X Xw b δb)(hs:iU b:=by intro _ _;rfl):PD X Xw (.Subscript a b pos) (d2 jK δa δb):=Ct Mh Jx ha hb hs
def jw:D->D->M D
 | .lst x, .lst y=>if x.length+y.length<=lim then ae (.lst (x++y)) else ag
 |_,_=>ag
def Fs:D->D->M D
 | .lst x, .int k=>if (0<=k/\k<=64)/\x.length*k.toNat<=lim then ae (.lst (XC k.toNat x).flatten) else ag
 |_,_=>ag
theorem ki(x y:Str):(x++y).length=x.length+y.length:=by
 show (x.cps++y.cps).size=_;simp[Str.length]
theorem p6(ha:PD X Xw a δa)(hb:PD X Xw b δb):PD X Xw (.BinOp a .Add b pos) (d2 jw δa δb):=o_ MA (λXw F H x y dx dy Q s hx hy w=>by
 unfold jw at w;split at w
 ·rename_i i j;obtain⟨a,vs,h1,h2,h3,h4⟩:=hx;obtain⟨a',vs',k1,k2,k3,k4⟩:=hy;split at w
  ·rename_i hl;have e1:=h3.len;have e2:=k3.len;have:=d6;refine⟨a,a',vs,vs',h1,k1,s _ _ h2,s _ _ k2,by omega,λp hp=>?_⟩;exact WP.fin w (Ext.lay s hp) ⟨p,_,rfl,aM,DenL.mono (Ext.lay s hp).ff (h3.append k3),by rw[Xq];exact hl⟩
  ·exact w.elim
 ·exact w.elim) ha hb
theorem DenL.rep{K:Xr}{F:Hp}{ds:List D}{vs:List V}(h:DenL K F ds vs):∀n:Nat,DenL K F (XC n ds).flatten (XC n vs).flatten
 |0=>rfl
 |n+1=>by
  rw[Za,Za,ZV,ZV];exact h.append (DenL.rep h n)
theorem Bc(ha:PD X Xw a δa)(hb:PD X Xw b δb):PD X Xw (.BinOp a .Mult b pos) (d2 Fs δa δb):=o_ MJ (λXw F H x y dx dy Q s hx hy w=>by
 unfold Fs at w;split at w
 ·rename_i i k;obtain⟨a,vs,h1,h2,h3,h4⟩:=hx;split at w
  ·rename_i hl;obtain⟨⟨l1,l2⟩,l3⟩:=hl;have e1:=h3.len;have:=d6;refine⟨a,k,vs,h1,hy,s _ _ h2,by omega,by omega,by rw[<-e1];omega,λp hp=>?_⟩;exact WP.fin w (Ext.lay s hp) ⟨p,_,rfl,aM,DenL.mono (Ext.lay s hp).ff (h3.rep _),by rw[len_rep,adh];exact l3⟩
  ·exact w.elim
 ·exact w.elim) ha hb
end
end L3
namespace L3
open PySem PySem.Spec L2 SeqAt
open PyProof.Rows hiding St
def oC(f:D->D->Option Bool):List D->List D->Option Bool
 |[],[]=>some true
 |x::xs,y::ys=>match f x y,oC f xs ys with
  |some b,some r=>some (b&&r)
  |_,_=>none
 |[],_::_=>some false
 |_::_,[]=>some false
def Af:D->D->Option Bool
 | .non, .non=>some true
 | .bl a, .bl b=>some (a==b)
 | .bl a, .int j=>some ((if a then 1 else 0)==j)
 | .int i, .bl b=>some (i==(if b then 1 else 0))
 | .int i, .int j=>some (i==j)
 | .str x, .str y=>some (x==y)
 | .non, .bl _=>some false
 | .non, .int _=>some false
 | .non, .str _=>some false
 | .non, .lst _=>some false
 | .non, .tup _=>some false
 | .bl _, .non=>some false
 | .bl _, .str _=>some false
 | .bl _, .lst _=>some false
 | .bl _, .tup _=>some false
 | .int _, .non=>some false
 | .int _, .str _=>some false
 | .int _, .lst _=>some false
 | .int _, .tup _=>some false
 | .str _, .non=>some false
 | .str _, .bl _=>some false
 | .str _, .int _=>some false
 | .str _, .lst _=>some false
 | .str _, .tup _=>some false
 | .lst _, .non=>some false
 | .lst _, .bl _=>some false
 | .lst _, .int _=>some false
 | .lst _, .str _=>some false
 | .lst _, .tup _=>some false
 | .tup _, .non=>some false
 | .tup _, .bl _=>some false
 | .tup _, .int _=>some false
 | .tup _, .str _=>some false
 | .tup _, .lst _=>some false
 |_,_=>none
def iZ:Nat->D->D->Option Bool
 |n+1, .tup xs, .tup ys=>oC (iZ n) xs ys
 |n+1, .lst xs, .lst ys=>oC (iZ n) xs ys
 |n+1, .scr xs, .lst ys=>oC (iZ n) (xs.map D.int) ys
 |_,x,y=>Af x y
structure EqAll (A:X6) (s:Xl) (u v:Value) (b:Bool):Prop where
 rc:RcAt A s u v b
 ne:RcNeAt A s u v (!b)
 eq:EqAt A s u v b
section
variable{X:Cx}{f8:List (Addr×Obj)}{σ:St}{F H:Hp}{s:Xl}{A:X6}
theorem f_(I:Inv X f8 σ H s)(hs:Same F H){ds:List D}{v:V}{u:Value}(h:Den X.K F (.tup ds) v)(r:RelV v u):∃a vs aL,u= .ref a/\v= .ref a/\F a=some (.tup vs)/\DenL X.K F ds vs/\Vals vs aL/\s.heap.IsTuple a aL.toArray:=by
 obtain⟨a,vs,rfl,h2,h3,h4⟩:=h;obtain⟨aL,r1,p1,_⟩:=I.tuple (SqT.of (hs _ _ h2));exact⟨a,vs,aL,r,rfl,h2,h3,r1,p1⟩
theorem fH(I:Inv X f8 σ H s)(hs:Same F H){ds:List D}{v:V}{u:Value}(h:Den X.K F (.lst ds) v)(r:RelV v u):∃a vs aL,u= .ref a/\v= .ref a/\F a=some (.lst vs)/\DenL X.K F ds vs/\Vals vs aL/\s.heap.IsList a aL.toArray:=by
 obtain⟨a,vs,rfl,h2,h3,h4⟩:=h;obtain⟨aL,r1,p1,_⟩:=I.list (SqL.of (hs _ _ h2));exact⟨a,vs,aL,r,rfl,h2,h3,r1,p1.isList⟩
theorem Nu(I:Inv X f8 σ H s)(hs:Same F H){ns:List Int}{v:V}{u:Value}(h:Den X.K F (.scr ns) v)(r:RelV v u):∃a aL,u= .ref a/\v= .ref a/\SqL X.K F a (ns.map V.int)/\Vals (ns.map V.int) aL/\s.heap.IsList a aL.toArray:=by
 obtain⟨a,rfl,h2,h3⟩:=h;obtain⟨aL,r1,p1,_⟩:=I.list (Same.seq hs h2);exact⟨a,aL,r,rfl,h2,r1,p1.isList⟩
theorem yj(I:Inv X f8 σ H s)(hs:Same F H)(hu:A.units<cLine){x y:D}{v w:V}{u t:Value}{b:Bool}(hx:Den X.K F x v)(hy:Den X.K F y w)(rx:RelV v u)(ry:RelV w t)(e:Af x y=some b):EqAll A s u t b:=by
 cases x with
 |non=>
  cases y with
  |non=>
   cases e;cases (show _=_ from hx);cases rx;cases (show _=_ from hy);cases ry;exact⟨RcAt.none_none,RcNeAt.none_none,EqAt.same _⟩
  |bl d=>
   cases e;cases (show _=_ from hx);cases rx;cases (show _=_ from hy);cases ry;exact⟨RcAt.none_bool _,RcNeAt.none_bool _,EqAt.none_bool _⟩
  |int d=>
   cases e;cases (show _=_ from hx);cases rx;cases (show _=_ from hy);obtain⟨t2,rfl⟩:=ry;exact⟨RcAt.none_int _ _,RcNeAt.none_int _ _,EqAt.none_int _ _⟩
  |str d=>
   cases e;cases (show _=_ from hx);cases rx;cases (show _=_ from hy.1);obtain⟨t2,rfl⟩:=ry;exact⟨RcAt.none_str _ _,RcNeAt.none_str _ _,EqAt.none_str _ _⟩
  |raw d=>cases e
  |dct _ _=>cases e
  |dci _ _=>cases e
  |exc d=>cases e
  |scr d=>cases e
  |tup d=>
   cases e;cases (show _=_ from hx);cases rx;obtain⟨a2,_,_,rfl,_,_,_,_,p2⟩:=f_ I hs hy ry;exact⟨RcAt.none_tuple p2 hu,RcNeAt.none_tuple p2 hu,EqAt.none_tuple p2 hu⟩
  |lst d=>
   cases e;cases (show _=_ from hx);cases rx;obtain⟨a2,_,_,rfl,_,_,_,_,p2⟩:=fH I hs hy ry;exact⟨RcAt.none_list p2 hu,RcNeAt.none_list p2 hu,EqAt.none_list p2 hu⟩
 |bl c=>
  cases y with
  |non=>
   cases e;cases (show _=_ from hx);cases rx;cases (show _=_ from hy);cases ry;exact⟨RcAt.bool_none _,RcNeAt.bool_none _,EqAt.bool_none _⟩
  |bl d=>
   cases e;cases (show _=_ from hx);cases rx;cases (show _=_ from hy);cases ry;exact⟨RcAt.bool_bool _ _,RcNeAt.bool_bool _ _,EqAt.bool_bool _ _⟩
  |int d=>
   cases e;cases (show _=_ from hx);cases rx;cases (show _=_ from hy);obtain⟨t2,rfl⟩:=ry;exact⟨RcAt.bool_int _ _ _,RcNeAt.bool_int _ _ _,EqAt.bool_int _ _ _⟩
  |str d=>
   cases e;cases (show _=_ from hx);cases rx;cases (show _=_ from hy.1);obtain⟨t2,rfl⟩:=ry;exact⟨RcAt.bool_str _ _ _,RcNeAt.bool_str _ _ _,EqAt.bool_str _ _ _⟩
  |raw d=>cases e
  |dct _ _=>cases e
  |dci _ _=>cases e
  |exc d=>cases e
  |scr d=>cases e
  |tup d=>
   cases e;cases (show _=_ from hx);cases rx;obtain⟨a2,_,_,rfl,_,_,_,_,p2⟩:=f_ I hs hy ry;exact⟨RcAt.bool_tuple _ p2 hu,RcNeAt.bool_tuple _ p2 hu,EqAt.bool_tuple _ p2 hu⟩
  |lst d=>
   cases e;cases (show _=_ from hx);cases rx;obtain⟨a2,_,_,rfl,_,_,_,_,p2⟩:=fH I hs hy ry;exact⟨RcAt.bool_list _ p2 hu,RcNeAt.bool_list _ p2 hu,EqAt.bool_list _ p2 hu⟩
 |int c=>
  cases y with
  |non=>
   cases e;cases (show _=_ from hx);obtain⟨t1,rfl⟩:=rx;cases (show _=_ from hy);cases ry;exact⟨RcAt.int_none _ _,RcNeAt.int_none _ _,EqAt.int_none _ _⟩
  |bl d=>
   cases e;cases (show _=_ from hx);obtain⟨t1,rfl⟩:=rx;cases (show _=_ from hy);cases ry;exact⟨RcAt.int_bool _ _ _,RcNeAt.int_bool _ _ _,EqAt.int_bool _ _ _⟩
  |int d=>
   cases e;cases (show _=_ from hx);obtain⟨t1,rfl⟩:=rx;cases (show _=_ from hy);obtain⟨t2,rfl⟩:=ry;exact⟨RcAt.int_int _ _ _ _,RcNeAt.int_int _ _ _ _,EqAt.int_int _ _ _ _⟩
  |str d=>
   cases e;cases (show _=_ from hx);obtain⟨t1,rfl⟩:=rx;cases (show _=_ from hy.1);obtain⟨t2,rfl⟩:=ry;exact⟨RcAt.int_str _ _ _ _,RcNeAt.int_str _ _ _ _,EqAt.int_str _ _ _ _⟩
  |raw d=>cases e
  |dct _ _=>cases e
  |dci _ _=>cases e
  |exc d=>cases e
  |scr d=>cases e
  |tup d=>
   cases e;cases (show _=_ from hx);obtain⟨t1,rfl⟩:=rx;obtain⟨a2,_,_,rfl,_,_,_,_,p2⟩:=f_ I hs hy ry;exact⟨RcAt.int_tuple _ _ p2 hu,RcNeAt.int_tuple _ _ p2 hu,EqAt.int_tuple _ _ p2 hu⟩
  |lst d=>
   cases e;cases (show _=_ from hx);obtain⟨t1,rfl⟩:=rx;obtain⟨a2,_,_,rfl,_,_,_,_,p2⟩:=fH I hs hy ry;exact⟨RcAt.int_list _ _ p2 hu,RcNeAt.int_list _ _ p2 hu,EqAt.int_list _ _ p2 hu⟩
 |str c=>
  cases y with
  |non=>
   cases e;cases (show _=_ from hx.1);obtain⟨t1,rfl⟩:=rx;cases (show _=_ from hy);cases ry;exact⟨RcAt.str_none _ _,RcNeAt.str_none _ _,EqAt.str_none _ _⟩
  |bl d=>
   cases e;cases (show _=_ from hx.1);obtain⟨t1,rfl⟩:=rx;cases (show _=_ from hy);cases ry;exact⟨RcAt.str_bool _ _ _,RcNeAt.str_bool _ _ _,EqAt.str_bool _ _ _⟩
  |int d=>
   cases e;cases (show _=_ from hx.1);obtain⟨t1,rfl⟩:=rx;cases (show _=_ from hy);obtain⟨t2,rfl⟩:=ry;exact⟨RcAt.str_int _ _ _ _,RcNeAt.str_int _ _ _ _,EqAt.str_int _ _ _ _⟩
  |str d=>
   cases e;cases (show _=_ from hx.1);obtain⟨t1,rfl⟩:=rx;cases (show _=_ from hy.1);obtain⟨t2,rfl⟩:=ry;exact⟨RcAt.str_str _ _ _ _,RcNeAt.str_str _ _ _ _,EqAt.str_str _ _ _ _⟩
  |raw d=>cases e
  |dct _ _=>cases e
  |dci _ _=>cases e
  |exc d=>cases e
  |scr d=>cases e
  |tup d=>
   cases e;cases (show _=_ from hx.1);obtain⟨t1,rfl⟩:=rx;obtain⟨a2,_,_,rfl,_,_,_,_,p2⟩:=f_ I hs hy ry;exact⟨RcAt.str_tuple _ _ p2 hu,RcNeAt.str_tuple _ _ p2 hu,EqAt.str_tuple _ _ p2 hu⟩
  |lst d=>
   cases e;cases (show _=_ from hx.1);obtain⟨t1,rfl⟩:=rx;obtain⟨a2,_,_,rfl,_,_,_,_,p2⟩:=fH I hs hy ry;exact⟨RcAt.str_list _ _ p2 hu,RcNeAt.str_list _ _ p2 hu,EqAt.str_list _ _ p2 hu⟩
 |raw _=>cases y<;>cases e
 |dct _ _=>cases y<;>cases e
 |dci _ _=>cases y<;>cases e
 |exc _=>cases y<;>cases e
 |scr c=>cases y<;>cases e
 |tup c=>
  cases y with
  |non=>
   cases e;obtain⟨a1,_,_,rfl,_,_,_,_,p1⟩:=f_ I hs hx rx;cases (show _=_ from hy);cases ry;exact⟨RcAt.tuple_none p1 hu,RcNeAt.tuple_none p1 hu,EqAt.tuple_none p1 hu⟩
  |bl d=>
   cases e;obtain⟨a1,_,_,rfl,_,_,_,_,p1⟩:=f_ I hs hx rx;cases (show _=_ from hy);cases ry;exact⟨RcAt.tuple_bool _ p1 hu,RcNeAt.tuple_bool _ p1 hu,EqAt.tuple_bool _ p1 hu⟩
  |int d=>
   cases e;obtain⟨a1,_,_,rfl,_,_,_,_,p1⟩:=f_ I hs hx rx;cases (show _=_ from hy);obtain⟨t2,rfl⟩:=ry;exact⟨RcAt.tuple_int _ _ p1 hu,RcNeAt.tuple_int _ _ p1 hu,EqAt.tuple_int _ _ p1 hu⟩
  |str d=>
   cases e;obtain⟨a1,_,_,rfl,_,_,_,_,p1⟩:=f_ I hs hx rx;cases (show _=_ from hy.1);obtain⟨t2,rfl⟩:=ry;exact⟨RcAt.tuple_str _ _ p1 hu,RcNeAt.tuple_str _ _ p1 hu,EqAt.tuple_str _ _ p1 hu⟩
  |raw d=>cases e
  |dct _ _=>cases e
  |dci _ _=>cases e
  |exc d=>cases e
  |scr d=>cases e
  |tup d=>cases e
  |lst d=>
   cases e;obtain⟨a1,_,_,rfl,_,_,_,_,p1⟩:=f_ I hs hx rx;obtain⟨a2,_,_,rfl,_,_,_,_,p2⟩:=fH I hs hy ry;exact⟨RcAt.tuple_list p1 p2 hu,RcNeAt.tuple_list p1 p2 hu,EqAt.tuple_list p1 p2 hu⟩
 |lst c=>
  cases y with
  |non=>
   cases e;obtain⟨a1,_,_,rfl,_,_,_,_,p1⟩:=fH I hs hx rx;cases (show _=_ from hy);cases ry;exact⟨RcAt.list_none p1 hu,RcNeAt.list_none p1 hu,EqAt.list_none p1 hu⟩
  |bl d=>
   cases e;obtain⟨a1,_,_,rfl,_,_,_,_,p1⟩:=fH I hs hx rx;cases (show _=_ from hy);cases ry;exact⟨RcAt.list_bool _ p1 hu,RcNeAt.list_bool _ p1 hu,EqAt.list_bool _ p1 hu⟩
  |int d=>
   cases e;obtain⟨a1,_,_,rfl,_,_,_,_,p1⟩:=fH I hs hx rx;cases (show _=_ from hy);obtain⟨t2,rfl⟩:=ry;exact⟨RcAt.list_int _ _ p1 hu,RcNeAt.list_int _ _ p1 hu,EqAt.list_int _ _ p1 hu⟩
  |str d=>
   cases e;obtain⟨a1,_,_,rfl,_,_,_,_,p1⟩:=fH I hs hx rx;cases (show _=_ from hy.1);obtain⟨t2,rfl⟩:=ry;exact⟨RcAt.list_str _ _ p1 hu,RcNeAt.list_str _ _ p1 hu,EqAt.list_str _ _ p1 hu⟩
  |raw d=>cases e
  |dct _ _=>cases e
  |dci _ _=>cases e
  |exc d=>cases e
  |scr d=>cases e
  |tup d=>
   cases e;obtain⟨a1,_,_,rfl,_,_,_,_,p1⟩:=fH I hs hx rx;obtain⟨a2,_,_,rfl,_,_,_,_,p2⟩:=f_ I hs hy ry;exact⟨RcAt.list_tuple p1 p2 hu,RcNeAt.list_tuple p1 p2 hu,EqAt.list_tuple p1 p2 hu⟩
  |lst d=>cases e
end
def ev(f:D->D->Option Bool)(xs ys:List D)(j:Nat):Bool:=match xs[j]?,ys[j]? with
 |some x,some y=>(f x y).getD false
 |_,_=>false
theorem yh{f:D->D->Option Bool}:∀{xs ys:List D}{b:Bool},oC f xs ys=some b->∀(j:Nat) (x y:D),xs[j]? =some x->ys[j]? =some y->∃c,f x y=some c
 |[],_,_,_,_,_,_,h,_=>by simp at h
 |_::_,[],_,_,_,_,_,_,h=>by simp at h
 |x::xs,y::ys,b,e,j,x',y',hx,hy=>by
  unfold oC at e;split at e
  ·rename_i b1 r1 e1 e2;cases j with
   |zero=>simp at hx hy;subst hx hy;exact⟨_,e1⟩
   |succ j=>exact yh e2 j x' y' (by simpa using hx) (by simpa using hy)
  ·cases e
theorem vG{f:D->D->Option Bool}:∀{xs ys:List D}{b:Bool},oC f xs ys=some b->b=((XQ (min xs.length ys.length)).all (ev f xs ys)&&xs.length==ys.length)
 |[],[],_,e=>by cases e;rfl
 |[],_::_,_,e=>by cases e;simp
 |_::_,[],_,e=>by cases e;simp
 |x::xs,y::ys,b,e=>by
  unfold oC at e;split at e
  ·rename_i b1 r1 e1 e2;cases e;have h:=vG e2;rw[Xo,Xo,Nat.succ_min_succ,ac0,aaC,aao];have e0:ev f (x::xs) (y::ys) 0=b1:=by unfold ev;simp[e1]
   have e3:(ev f (x::xs) (y::ys)∘Nat.succ)=ev f xs ys:=by funext j;simp[ev,adX]
   have e4:(xs.length+1==ys.length+1)=(xs.length==ys.length):=by simp
   rw[e0,e3,e4,h,Bool.and_assoc]
  ·cases e
section
variable{X:Cx}{f8:List (Addr×Obj)}{σ:St}{F H:Hp}{s:Xl}
theorem lW{f:D->D->Option Bool}(h:∀x y v b,Den X.K F x v->Den X.K F y v->f x y=some b->b=true):∀{xs ys:List D}{vs:List V}{b:Bool},DenL X.K F xs vs->DenL X.K F ys vs->oC f xs ys=some b->b=true
 |[],[],_,_,_,_,e=>by cases e;rfl
 |[],_::_,_,_,h1,h2,_=>by
  cases (show _=_ from h1);obtain⟨v,r,z,_⟩:=h2;cases z
 |_::_,[],_,_,h1,h2,_=>by
  cases (show _=_ from h2);obtain⟨v,r,z,_⟩:=h1;cases z
 |x::xs,y::ys,_,b,⟨v,r,e1,q1,q2⟩,⟨v',r',e2,q3,q4⟩,e=>by
  subst e1;cases e2;unfold oC at e;split at e
  ·rename_i b1 r1 f1 f2;cases e;rw[h x y v b1 q1 q3 f1,lW h q2 q4 f2];rfl
  ·cases e
theorem uc{x y:D}{v:V}{b:Bool}(hx:Den X.K F x v)(hy:Den X.K F y v)(e:Af x y=some b):b=true:=by
 cases x<;>cases y<;>first
  |(cases e;done)
  |(cases e;cases (show _=_ from hx);cases (show _=_ from hy);first | rfl | simp)
  |(cases e;cases (show _=_ from hx.1);cases (show _=_ from hy.1);simp)
  |(cases e;cases (show _=_ from hx);cases (show _=_ from hy.1))
  |(cases e;cases (show _=_ from hx.1);cases (show _=_ from hy))
  |(cases e;obtain⟨_,_,z,_⟩:=hx;subst z;cases (show _=_ from hy);done)
  |(cases e;obtain⟨_,_,z,_⟩:=hx;subst z;cases (show _=_ from hy.1);done)
  |(cases e;obtain⟨_,z,_⟩:=hx;subst z;cases (show _=_ from hy);done)
  |(cases e;obtain⟨_,z,_⟩:=hx;subst z;cases (show _=_ from hy.1);done)
  |(cases e;obtain⟨_,_,z,_⟩:=hy;subst z;cases (show _=_ from hx);done)
  |(cases e;obtain⟨_,_,z,_⟩:=hy;subst z;cases (show _=_ from hx.1);done)
  |(cases e;obtain⟨_,z,_⟩:=hy;subst z;cases (show _=_ from hx);done)
  |(cases e;obtain⟨_,z,_⟩:=hy;subst z;cases (show _=_ from hx.1);done)
  |(cases e;obtain⟨_,_,z,h2,_⟩:=hx;obtain⟨_,_,z',Qv,_⟩:=hy;subst z;cases z';rw[h2] at Qv;cases Qv;done)
  |(cases e;cases (show _=_ from hx);cases (show _=_ from hy);done)
  |(cases e;cases (show _=_ from hx.1);cases (show _=_ from hy.1);done)
theorem lV(I:Inv X f8 σ H s)(hs:Same F H):∀(n:Nat) (x y:D) (v:V) (b:Bool),Den X.K F x v->Den X.K F y v->iZ n x y=some b->b=true
 |0,x,y,v,b,hx,hy,e=>uc hx hy (by unfold iZ at e;exact e)
 |n+1,x,y,v,b,hx,hy,e=>by
  unfold iZ at e;split at e
  ·rename_i xs ys _;obtain⟨a,vs,rfl,h2,h3,_⟩:=hx;obtain⟨a',vs',z,k2,k3,_⟩:=hy;cases z;rw[h2] at k2;cases k2;exact lW (lV I hs _) h3 k3 (by simpa using e)
  ·rename_i xs ys _;obtain⟨a,vs,rfl,h2,h3,_⟩:=hx;obtain⟨a',vs',z,k2,k3,_⟩:=hy;cases z;rw[h2] at k2;cases k2;exact lW (lV I hs _) h3 k3 (by simpa using e)
  ·rename_i xs ys _;obtain⟨a,rfl,h2,_⟩:=hx;obtain⟨a',vs',z,k2,k3,_⟩:=hy;cases z;have hv:=I.list_inj (Same.seq hs h2) (SqL.of (hs _ _ k2));rw[<-hv] at k3;exact lW (lV I hs _) (DenL.ints xs) k3 (by simpa using e)
  ·exact uc hx hy e
theorem Vals.at{vs:List V}{aL:List Value}(r:Vals vs aL){j:Nat}(h:j<aL.toArray.size):∃v,vs[j]? =some v/\RelV v aL.toArray[j]:=by
 have hl:=r.length;have hj:j<vs.length:=by rw[Xu] at h;omega
 obtain⟨u,e1,e2⟩:=r.get (Xi hj);refine⟨vs[j],Xi hj,?_⟩;have:aL.toArray[j]=u:=by
  have:=(Xy.mp e1).2;simpa using this
 rw[this];exact e2
theorem pW{f:D->D->Option Bool}{A:X6}{xs ys:List D}{vs ws:List V}{aL e7:List Value}{b:Bool}(h1:DenL X.K F xs vs)(h2:DenL X.K F ys ws)(r1:Vals vs aL)(r2:Vals ws e7)(e:oC f xs ys=some b)
 (ih:∀x y v w u t c,Den X.K F x v->Den X.K F y w->RelV v u->RelV w t->f x y=some c->EqAt A s u t c):
 ∀j (k1:j<aL.toArray.size) (k2:j<e7.toArray.size),EqAt A s aL.toArray[j] e7.toArray[j] (ev f xs ys j):=λj k1 k2=>by
 obtain⟨v,e1,q1⟩:=Vals.at r1 k1;obtain⟨w,e2,q2⟩:=Vals.at r2 k2;obtain⟨x,e3,q3⟩:=h1.at e1;obtain⟨y,e4,q4⟩:=h2.at e2;obtain⟨c,hc⟩:=yh e j x y e3 e4;have:ev f xs ys j=c:=by unfold ev;rw[e3,e4];simp[hc]
 rw[this];exact ih x y v w _ _ c q3 q4 q1 q2 hc
theorem uz{f:D->D->Option Bool}{A:X6}(hu:A.units<cLine){xs ys:List D}{vs ws:List V}{aL e7:List Value}{b:Bool}{a a':Addr}(h1:DenL X.K F xs vs)(h2:DenL X.K F ys ws)(r1:Vals vs aL)(r2:Vals ws e7)
 (p1:s.heap.IsList a aL.toArray)(p2:s.heap.IsList a' e7.toArray)(e:oC f xs ys=some b)(hr:a=a'->b=true)
 (ih:∀x y v w u t c,Den X.K F x v->Den X.K F y w->RelV v u->RelV w t->f x y=some c->EqAt A.in1 s u t c):EqAll A s (.ref a) (.ref a') b:=by
 have l1:=h1.len;have l2:=h2.len;have l3:=r1.length;have l4:=r2.length;have hv:=vG e;have core:RcAt A s (.ref a) (.ref a') b/\RcNeAt A s (.ref a) (.ref a') (!b):=by
  by_cases hl:xs.length=ys.length
  ·have hsz:aL.toArray.size=e7.toArray.size:=by rw[Xu,Xu];omega
   have hb:b=(XQ aL.toArray.size).all (ev f xs ys):=by
    rw[hv,hl,Nat.min_self,beq_self_eq_true,acO];congr 2;rw[Xu];omega
   rw[hb];exact⟨RcAt.lists p1 p2 hsz hu (pW h1 h2 r1 r2 e ih),RcNeAt.lists p1 p2 hsz hu (pW h1 h2 r1 r2 e ih)⟩
  ·have hb:b=false:=by rw[hv,show (xs.length==ys.length)=false from by simpa using hl,Bool.and_false]
   have hsz:(aL.toArray.size !=e7.toArray.size)=true:=by
    rw[Xu,Xu];simp;omega
   rw[hb];exact⟨RcAt.lists_lengths p1 p2 hsz hu,RcNeAt.lists_lengths p1 p2 hsz hu⟩
 refine⟨core.1,core.2,?_⟩;by_cases hq:a=a'
 ·rw[hr hq];subst hq;exact EqAt.same _
 ·exact EqAt.of_refs hq core.1
theorem Bq{f:D->D->Option Bool}{A:X6}(hu:A.units<cLine){xs ys:List D}{vs ws:List V}{aL e7:List Value}{b:Bool}{a a':Addr}(h1:DenL X.K F xs vs)(h2:DenL X.K F ys ws)(r1:Vals vs aL)(r2:Vals ws e7)
 (p1:s.heap.IsTuple a aL.toArray)(p2:s.heap.IsTuple a' e7.toArray)(e:oC f xs ys=some b)(hr:a=a'->b=true)
 (ih:∀x y v w u t c,Den X.K F x v->Den X.K F y w->RelV v u->RelV w t->f x y=some c->EqAt A.in1 s u t c):EqAll A s (.ref a) (.ref a') b:=by
 have l1:=h1.len;have l2:=h2.len;have l3:=r1.length;have l4:=r2.length;have hb:b=((XQ (min aL.toArray.size e7.toArray.size)).all (ev f xs ys)&&aL.toArray.size==e7.toArray.size):=by
  rw[vG e,Xu,Xu,<-l3,<-l4,<-l1,<-l2]
 have core:RcAt A s (.ref a) (.ref a') b/\RcNeAt A s (.ref a) (.ref a') (!b):=by
  rw[hb];exact⟨RcAt.tuples p1 p2 hu (pW h1 h2 r1 r2 e ih),RcNeAt.tuples p1 p2 hu (pW h1 h2 r1 r2 e ih)⟩
 refine⟨core.1,core.2,?_⟩;by_cases hq:a=a'
 ·rw[hr hq];subst hq;exact EqAt.same _
 ·exact EqAt.of_refs hq core.1
theorem vH(I:Inv X f8 σ H s)(hs:Same F H):∀(n:Nat) (A:X6) (x y:D) (v w:V) (u t:Value) (b:Bool),A.units+n<cLine->Den X.K F x v->Den X.K F y w->RelV v u->RelV w t->iZ n x y=some b->EqAll A s u t b
 |0,A,x,y,v,w,u,t,b,hu,hx,hy,rx,ry,e=>yj I hs (by omega) hx hy rx ry (by unfold iZ at e;exact e)
 |n+1,A,x,y,v,w,u,t,b,hu,hx,hy,rx,ry,e=>by
  have QM:A.units<cLine:=by omega
  have Wh:A.in1.units+n<cLine:=by show A.units+1+n<cLine;omega
  have hrefl:=lV (F:=F) I hs (n+1) x y;have ih:∀x y v w u t c,Den X.K F x v->Den X.K F y w->RelV v u->RelV w t->iZ n x y=some c->EqAt A.in1 s u t c:=λx y v w u t c q1 q2 q3 q4 q5=>(vH I hs n A.in1 x y v w u t c Wh q1 q2 q3 q4 q5).eq;have e0:=e;unfold iZ at e;split at e
  ·rename_i xs ys heq;cases heq;obtain⟨a,vs,aL,rfl,Oe,h2,h3,r1,p1⟩:=f_ I hs hx rx;obtain⟨a',vs',its',rfl,Of,k2,k3,PJ,Pq⟩:=f_ I hs hy ry;exact Bq QM h3 k3 r1 PJ p1 Pq e (λz=>by subst z;exact hrefl v b hx (by rw[Oe,<-Of];exact hy) e0) ih
  ·rename_i xs ys heq;cases heq;obtain⟨a,vs,aL,rfl,Oe,h2,h3,r1,p1⟩:=fH I hs hx rx;obtain⟨a',vs',its',rfl,Of,k2,k3,PJ,Pq⟩:=fH I hs hy ry;exact uz QM h3 k3 r1 PJ p1 Pq e (λz=>by subst z;exact hrefl v b hx (by rw[Oe,<-Of];exact hy) e0) ih
  ·rename_i xs ys heq;cases heq;obtain⟨a,aL,rfl,Oe,h2,r1,p1⟩:=Nu I hs hx rx;obtain⟨a',vs',its',rfl,Of,k2,k3,PJ,Pq⟩:=fH I hs hy ry;exact uz QM (DenL.ints _) k3 r1 PJ p1 Pq e (λz=>by subst z;exact hrefl v b hx (by rw[Oe,<-Of];exact hy) e0) ih
  ·exact yj I hs QM hx hy rx ry e
end
def iz(x y:D):M D:=match iZ 6 x y with | some b=>ae (.bl b) | none=>ag
def ny(x y:D):M D:=match iZ 6 x y with | some b=>ae (.bl (!b)) | none=>ag
def PL(K:Xr):R2:=λx y H Q=>∃F dx dy b,Same F H/\Den K F dx x/\Den K F dy y/\iZ 6 dx dy=some b/\Q (.bl b) H
def P1(K:Xr):R2:=λx y H Q=>∃F dx dy b,Same F H/\Den K F dx x/\Den K F dy y/\iZ 6 dx dy=some b/\Q (.bl (!b)) H
section
variable{X:Cx}{Xw:Nat->Hp->Prop}{a b:Expr}{δa δb:DE}{pos:Pos}
theorem GC(hu:X.A.units+64<cLine):OpR X (X9 .Eq) (PL X.K):=by
 intro f8 s σ H x y v u Q I rx ry h;obtain⟨F,dx,dy,b,hs,hx,hy,e,q⟩:=h;exact(vH I hs 6 X.A dx dy x y v u b (by omega) hx hy rx ry e).rc _ _ _ _ ⟨.bl b,H,I,rfl,q⟩
theorem MI(hu:X.A.units+64<cLine):OpR X (X9 .NotEq) (P1 X.K):=by
 intro f8 s σ H x y v u Q I rx ry h;obtain⟨F,dx,dy,b,hs,hx,hy,e,q⟩:=h;exact(vH I hs 6 X.A dx dy x y v u b (by omega) hx hy rx ry e).ne _ _ _ _ ⟨.bl (!b),H,I,rfl,q⟩
theorem GF{K:Xr}:u9 K (PL K) iz:=λXw F H x y dx dy Q s hx hy w=>by
 unfold iz at w;split at w
 ·rename_i b e;exact⟨F,dx,dy,b,s,hx,hy,e,WP.now w s rfl⟩
 ·exact w.elim
theorem ML{K:Xr}:u9 K (P1 K) ny:=λXw F H x y dx dy Q s hx hy w=>by
 unfold ny at w;split at w
 ·rename_i b e;exact⟨F,dx,dy,b,s,hx,hy,e,WP.now w s rfl⟩
 ·exact w.elim
theorem kW(hu:X.A.units+64<cLine)(ha:PD X Xw a δa)(hb:PD X Xw b δb):lK X Xw (.Compare a [.Eq] [b] pos) (bU (d2 iz δa δb)):=dB (GC hu) GF ha hb
theorem mJ(hu:X.A.units+64<cLine)(ha:PD X Xw a δa)(hb:PD X Xw b δb):lK X Xw (.Compare a [.NotEq] [b] pos) (bU (d2 ny δa δb)):=dB (MI hu) ML ha hb
theorem ze(hu:X.A.units+64<cLine)(ha:PD X Xw a δa)(hb:PD X Xw b δb):PD X Xw (.Compare a [.Eq] [b] pos) (d2 iz δa δb):=GK (GC hu) GF ha hb
end
def PDW(X:Cx)(Xw:Nat->Hp->Prop)(e:Expr)(δ:DT):Prop:=PW X e (S_ X.K Xw δ)
theorem PW.weak{X:Cx}{e:Expr}{t t':TT}(h:PW X e t)(k:∀σ H Q,t' σ H Q->t σ H Q):PW X e t':=λwh f8 s σ H Q I w=>h wh f8 s σ H Q I (k σ H Q w)
section
variable{X:Cx}{Xw:Nat->Hp->Prop}{a b c:Expr}{W1:List Expr}{δa δb δc:DE}{τa τb:DT}{pos:Pos}
theorem rK(ha:lK X Xw a τa):PDW X Xw (.BoolOp .And [a] pos) τa:=J0 ha
theorem gm(ha:lK X Xw a τa):PDW X Xw (.BoolOp .Or [a] pos) τa:=Nk ha
theorem mH(ha:lK X Xw a τa)(hb:PDW X Xw (.BoolOp .And (b::W1) pos) τb):PDW X Xw (.BoolOp .And (a::b::W1) pos) (lg τa τb):=PW.weak (Nj ha hb) λσ H Q ⟨F,ρ,s,w⟩=>by
 refine⟨F,ρ,s,WPB.mono (WPB.bindB w) λv H1 ⟨F1,e1,w1⟩=>?_⟩;cases v with
 |true=>exact⟨F1,ρ,s.ext e1,w1⟩
 |false=>exact w1 _ _ (Ext.refl e1.fh)
theorem jj(ha:lK X Xw a τa)(hb:PDW X Xw (.BoolOp .Or (b::W1) pos) τb):PDW X Xw (.BoolOp .Or (a::b::W1) pos) (lS τa τb):=PW.weak (PH ha hb) λσ H Q ⟨F,ρ,s,w⟩=>by
 refine⟨F,ρ,s,WPB.mono (WPB.bindB w) λv H1 ⟨F1,e1,w1⟩=>?_⟩;cases v with
 |false=>exact⟨F1,ρ,s.ext e1,w1⟩
 |true=>exact w1 _ _ (Ext.refl e1.fh)
theorem PDW.t(h:PDW X Xw a τa):lK X Xw a τa:=PW.pt h
theorem fP(ha:lK X Xw a τa):lK X Xw (.UnaryOp .Not a pos) (fE τa):=PT.weak (Nh ha) λσ H Q ⟨F,ρ,s,w⟩=>
 ⟨F,ρ,s,WPB.mono (WPB.bindB w) λv H1 ⟨F1,e1,w1⟩=>w1 _ _ (Ext.refl e1.fh)⟩
def HD:D->M Bool
 | .non=>ae false
 | .bl b=>ae b
 | .lst ds=>ae (!ds.isEmpty)
 | .tup ds=>ae (!ds.isEmpty)
 |_=>ag
def dR(δ:DE):DT:=λρ=>δ ρ>>=HD
theorem DenL.isEmpty{K:Xr}{F:Hp}{ds:List D}{vs:List V}(h:DenL K F ds vs):ds.isEmpty=vs.isEmpty:=by
 have:=h.len;cases ds<;>cases vs<;>simp_all
theorem fg(ha:PD X Xw a δa)(he:∀whole,isTrue a X.env whole=(do let v<-whole;standAt a.pos;holding [v] (truthy v)):=by intro _;rfl):lK X Xw a (dR δa):=PT.weak (G5 ha he) λσ H Q ⟨F,ρ,s,w⟩=>by
 refine⟨F,ρ,s,WP.mono (WPB.bind (K:=X.K) w) λv H1 ⟨F1,d,e1,q1,w1⟩=>?_⟩;cases d with
 |non=>cases (show _=_ from q1);exact⟨false,rfl,w1 _ _ (Ext.refl e1.fh)⟩
 |bl b=>cases (show _=_ from q1);exact⟨b,rfl,w1 _ _ (Ext.refl e1.fh)⟩
 |lst ds=>
  obtain⟨a,vs,rfl,h2,h3,_⟩:=q1;exact⟨!ds.isEmpty, .inl ⟨vs,SqL.of (e1.fh _ _ h2),by rw[h3.isEmpty]⟩,w1 _ _ (Ext.refl e1.fh)⟩
 |tup ds=>
  obtain⟨a,vs,rfl,h2,h3,_⟩:=q1;exact⟨!ds.isEmpty, .inr (.inl ⟨vs,SqT.of (e1.fh _ _ h2),by rw[h3.isEmpty]⟩),w1 _ _ (Ext.refl e1.fh)⟩
 |_=>exact w1.elim
theorem Bb{op}(h:PD X Xw a δa):PD X Xw (.BoolOp op [a] pos) δa:=MX h
theorem wK(ha:PD X Xw a δa)(hb:PD X Xw (.BoolOp .And (b::W1) pos) δb):PD X Xw (.BoolOp .And (a::b::W1) pos) (gb δa δb):=PE.weak (MS ha hb) λσ H Q ⟨F,ρ,s,w⟩=>by
 refine⟨F,ρ,s,WP.mono (WP.bind w) λv H1 ⟨F1,d,e1,q1,w1⟩=>?_⟩;cases d with
 |bl k=>
  refine⟨k,q1,?_⟩;cases k with
  |true=>exact⟨F1,ρ,s.ext e1,w1⟩
  |false=>exact WP.now w1 e1.fh rfl
 |_=>exact w1.elim
theorem MR(ha:PD X Xw a δa):PD X Xw (.UnaryOp .Not a pos) (Ku δa):=PE.weak (MW ha) λσ H Q ⟨F,ρ,s,w⟩=>by
 refine⟨F,ρ,s,WP.mono (WP.bind w) λv H1 ⟨F1,d,e1,q1,w1⟩=>?_⟩;cases d with
 |bl k=>exact⟨k,q1,WP.now w1 e1.fh rfl⟩
 |_=>exact w1.elim
theorem K8(hc:lK X Xw c τa)(ha:PD X Xw a δa)(hb:PD X Xw b δb):PD X Xw (.IfExp c a b pos) (HM τa δa δb):=PE.weak (GZ hc ha hb) λσ H Q ⟨F,ρ,s,w⟩=>by
 refine⟨F,ρ,s,WPB.mono (WP.bindB w) λv H1 ⟨F1,e1,w1⟩=>?_⟩;cases v with
 |true=>exact⟨F1,ρ,s.ext e1,w1⟩
 |false=>exact⟨F1,ρ,s.ext e1,w1⟩
def zS(p q:Int->Int->Bool)(a b c:DE):DE:=λρ=>a ρ>>=λx=>b ρ>>=λy=>match x,y with
 | .int i, .int j=>if p i j then c ρ>>=λz=>gI (λi j=> .bl (q i j)) y z else ae (.bl false)
 |_,_=>ag
theorem u5{p q:Int->Int->Bool}:∀σ H Q,tD X.K Xw (zS p q δa δb δc) σ H Q->Bp (Bf λi j=> .bl (p i j)) (Bf λi j=> .bl (q i j)) (tD X.K Xw δa) (tD X.K Xw δb) (tD X.K Xw δc) σ H Q:=λσ H Q ⟨F,ρ,s,w⟩=>by
 refine⟨F,ρ,s,WP.mono (WP.bind w) λv H1 ⟨F1,d,e1,q1,w1⟩=>?_⟩;refine⟨F1,ρ,s.ext e1,WP.mono (WP.bind w1) λu H2 ⟨F2,d',e2,q2,w2⟩=>?_⟩;cases d with
 |int i=>
  cases d' with
  |int j=>
   refine⟨i,j,q1,q2,p i j,rfl,?_⟩;have w2:WP X.K Xw F2 H2 (if p i j then δc ρ>>=λz=>gI (λi j=> .bl (q i j)) (.int j) z else ae (.bl false)) Q:=w2;cases hp:p i j with
   |false=>
    rw[hp] at w2;exact WP.now w2 e2.fh rfl
   |true=>
    rw[hp] at w2;refine⟨F2,ρ,(s.ext e1).ext e2,WP.mono (WP.bind w2) λu' H3 ⟨F3,UN,e3,q3,w3⟩=>?_⟩;exact uG (K:=X.K) (gv:=λi j=> .bl (q i j)) (gd:=λi j=> .bl (q i j)) (λ_ _ _=>rfl) Xw F3 H3 u u' (.int j) UN Q e3.fh q2 q3 w3
  |_=>exact w2.elim
 |_=>exact w2.elim
theorem GJ{op A3:CmpOp}{p q:Int->Int->Bool}(ho:OpR X (X9 op) (Bf λi j=> .bl (p i j)))(l6:OpR X (X9 A3) (Bf λi j=> .bl (q i j)))(ha:PD X Xw a δa)(hb:PD X Xw b δb)(hc:PD X Xw c δc)
 (hm:lastMarks [op,A3] [b,c]=false:=by with_unfolding_all rfl):PD X Xw (.Compare a [op,A3] [b,c] pos) (zS p q δa δb δc):=PE.weak (GV ho l6 ha hb hc hm) u5
theorem Be{op A3:CmpOp}{p q:Int->Int->Bool}(ho:OpR X (X9 op) (Bf λi j=> .bl (p i j)))(l6:OpR X (X9 A3) (Bf λi j=> .bl (q i j)))(ha:PD X Xw a δa)(hb:PD X Xw b δb)(hc:PD X Xw c δc)
 (hm:lastMarks [op,A3] [b,c]=false:=by with_unfolding_all rfl):lK X Xw (.Compare a [op,A3] [b,c] pos) (bU (zS p q δa δb δc)):=PT.weak (G3 ho l6 ha hb hc hm) λσ H Q ⟨F,ρ,s,w⟩=>by
 refine u5 σ H _ ⟨F,ρ,s,WP.mono (WPB.bind w) λv H1 ⟨F1,d,e1,q1,w1⟩=>?_⟩;cases d with
 |bl k=>exact⟨k,q1,w1 _ _ (Ext.refl e1.fh)⟩
 |_=>exact w1.elim
def xN(K:Xr)(r:List V->Hp->VK->Prop)(g:List D->M D):Prop:=∀(Xw:Nat->Hp->Prop) (F H:Hp) (vs:List V) (ds:List D) (Q:VK),Same F H->DenL K F ds vs->WP K Xw F H (g ds) Q->r vs H Q
variable{x:Str}{p:Pos}{e:Expr}{es:List Expr}{δs:DA}{id T:String}{r:List V->Hp->VK->Prop}{g:List D->M D}
theorem Hx(h:xN X.K r g):∀σ H Q,tD X.K Xw (dA g δs) σ H Q->S7 r (UE X.K Xw δs) σ H Q:=λσ H Q ⟨F,ρ,s,w⟩=>
 ⟨F,ρ,s,WPL.mono (WP.bindL w) λvs H1 ⟨F1,ds,e1,q1,w1⟩=>h Xw F1 H1 vs ds Q e1.fh q1 w1⟩
theorem dO(hc:CallR X (.builtin id) r)(hd:xN X.K r g)(hg:Gl X x)(hm:X.mg x=none)(hv:Yd x=some (.builtin id))(ha:gV X Xw (e::es) δs)(hn:x≠"__name__":=by decide)(l5:(x==("__debug__":Str))=false:=by decide)
 (he:Xz (e::es) X.env=(false,eval e X.env)::Xz es X.env:=by rfl)(kK:(Y9 pos (Xz es X.env)).any (·.1)=false:=by rfl):PD X Xw (.Call (.Name x p) (e::es) [] pos) (dA g δs):=
 PE.weak (GU hc hg hm hv ha hn l5 he kK) (Hx hd)
theorem uL(hc:CallR X (.type T) r)(hd:xN X.K r g)(hg:Gl X x)(hm:X.mg x=none)(hv:Yd x=some (.type T))(ha:gV X Xw (e::es) δs)(hn:x≠"__name__":=by decide)(l5:(x==("__debug__":Str))=false:=by decide)
 (he:Xz (e::es) X.env=(false,eval e X.env)::Xz es X.env:=by rfl)(kK:(Y9 pos (Xz es X.env)).any (·.1)=false:=by rfl):PD X Xw (.Call (.Name x p) (e::es) [] pos) (dA g δs):=
 PE.weak (uN hc hg hm hv ha hn l5 he kK) (Hx hd)
def bq:List D->M D
 |[.lst ds]=>ae (.int ds.length)
 |[.tup ds]=>ae (.int ds.length)
 |[.str x]=>ae (.int x.length)
 |[.scr ns]=>ae (.int ns.length)
 |_=>ag
theorem DO:xN X.K (λxs H Q=>(∃p ys,xs=[.ref p]/\(SqL X.K H p ys\/SqT X.K H p ys)/\Q (.int ys.length) H)\/∃z,xs=[.str z]/\z.length<=XH/\Q (.int z.length) H) bq:=λXw F H vs ds Q s h w=>by
 unfold bq at w;split at w
 ·obtain⟨v,rfl,h1⟩:=h.one;obtain⟨a,vs,rfl,h2,h3,_⟩:=h1;exact .inl ⟨a,vs,rfl, .inl (SqL.of (s _ _ h2)),by rw[<-h3.len];exact WP.now w s rfl⟩
 ·obtain⟨v,rfl,h1⟩:=h.one;obtain⟨a,vs,rfl,h2,h3,_⟩:=h1;exact .inl ⟨a,vs,rfl, .inr (SqT.of (s _ _ h2)),by rw[<-h3.len];exact WP.now w s rfl⟩
 ·obtain⟨v,rfl,h1⟩:=h.one;cases (show _=_ from h1.1);exact .inr ⟨_,rfl,by have:=h1.2;have:=d6;omega,WP.now w s rfl⟩
 ·obtain⟨v,rfl,h1⟩:=h.one;obtain⟨a,rfl,h2,_⟩:=h1;exact .inl ⟨a,_,rfl, .inl (Same.seq s h2),by rw[Xh];exact WP.now w s rfl⟩
 ·exact w.elim
theorem bP(hg:Gl X "len")(hm:X.mg "len"=none)(ha:gV X Xw [e] δs)(he:Xz [e] X.env=[(false,eval e X.env)]:=by rfl):PD X Xw (.Call (.Name "len" p) [e] [] pos) (dA bq δs):=
 dO (vw.or vx) DO hg hm PySem.boot_len ha (by decide) (by decide) he rfl
def nh:List D->M D
 |[.int i]=>ae (.int (if i<0 then -i else i))
 |_=>ag
def AN:List D->M D
 |[.int i, .int j]=>ae (.int (if j>i then j else i))
 |_=>ag
def DX:List D->M D
 |[.int i, .int j]=>ae (.int (if j<i then j else i))
 |_=>ag
theorem wJ(hg:Gl X "abs")(hm:X.mg "abs"=none)(ha:gV X Xw [e] δs)(hb:Yd "abs"=some (.builtin "abs"))(he:Xz [e] X.env=[(false,eval e X.env)]:=by rfl):PD X Xw (.Call (.Name "abs" p) [e] [] pos) (dA nh δs):=
 dO EW (λXw F H vs ds Q s h w=>by
  unfold nh at w;split at w
  ·obtain⟨v,rfl,h1⟩:=h.one;cases (show _=_ from h1);exact⟨_,rfl,WP.now w s rfl⟩
  ·exact w.elim) hg hm hb ha (by decide) (by decide) he rfl
end
theorem WP.xw{K:Xr}{Xw Xw':Nat->Hp->Prop}{F H:Hp}{m:M D}{Q:VK}(h:WP K Xw F H m Q)(k:∀n H,Xw n H->Xw' n H):WP K Xw' F H m Q:=by
 match m,h with
 |none,h=>exact h
 |some (.ok d),h=>exact h
 |some (.ex n),h=>exact λF' H' e=>k n H' (h F' H' e)
theorem bT{X:Cx}{Xw:Nat->Hp->Prop}{st:Stmt}{τ:DS}(h:iq X.nox (λ_ _=>False) st τ):iq X Xw st (λρ=>noex (τ ρ)):=λs0 ad8 f8 s σ H D I ⟨F,ρ,S,w⟩=>by
 have w:WPS X.K Xw s0 ad8 (noex (τ ρ)) D:=w;have w':tS X.K (λ_ _=>False) s0 ad8 τ D σ H:=by
  refine⟨F,ρ,S,?_⟩;rcases(τ ρ).cs with e | ⟨n,e⟩ | ⟨o,e⟩
  ·rw[e] at w;exact w.elim
  ·rw[e] at w;exact w.elim
  ·rw[e] at w⊢;cases o with
   |nx ρ'=>exact w
   |rt d=>exact w
 refine YA (h s0 ad8 f8 s σ H D (I.wish _) w') (λf s' q=>SP.unwish q) λ_ _ z=>z.elim
def EX(cv:Nat->Value)(Xw:Nat->Hp->Prop):XK:=λc _ H=>∃n,c=cv n/\Xw n H
def EI(K:Xr)(cv:Nat->Value)(k:Nat)(f:List D->M D):Sp:=λvs H Q E=>∃F ds,Same F H/\DenL K F ds vs/\vs.length=k/\WP K (λn H'=>E (cv n) none H') F H (f ds) Q
def bX(n:Nat)(τ:DS):List D->M D:=λds=>τ (ds.map (λd=>some (Sl.fz d))++XC (n - ds.length) none)>>=λo=>match o with
 | .nx _=>ae .non
 | .rt d=>ae d
section
variable{P:XR}{w:World}{K:Xr}{mg:Str->Option Value}{base:Heap}{CX:BC}{cv:Nat->Value}
theorem Oh{x qual:Str}{st:Stmt}{f:Addr}{fd:ZC}{N ps:List Str}{k:Nat}{τ:DS}(Fn:Fun K x qual st f fd)(S:FnScope N ps (ai st))
 (iB:∀(cg:Value) (A:X6) (outer:List Env) (s:Xl) (H:Hp) (E:XK),Room k (A.deeper (Y8 qual (ai st) s.heap.objs.size f cg))->
  PSDs (a9 CX P w K mg base N qual (ai st) f cg A outer s H E) (λn H'=>E (cv n) none H') (aZ st) τ):FnOk P w K mg base CX (k+1) f fd ps (EI K cv ps.length (bX N.length τ)):=by
 obtain⟨oc,od,kV,doc,pm,an,cg,ct,EF,rfl,lk,uf⟩:=Fn.ex;refine KG lk uf S (λvs H Q E ⟨_,_,_,_,hl,_⟩=>hl) λA outer s H vs Q E hr uh=>?_;obtain⟨F,ds,fh,hd,hl,hw⟩:=uh;refine⟨_,iB cg A outer s H E hr F H,F,ds.map (λd=>some (Sl.fz d))++XC (N.length - ds.length) none,⟨Ext.refl fh,⟨fh,λi sl e=>?_⟩,?_,λi c a e=>?_,λi j c c' a e=>?_⟩,?_⟩
 ·have v6:=hd.len;by_cases hi:i<ds.length
  ·rw[Yb (by simpa using hi),Xv] at e;cases q:ds[i]? with
   |none=>rw[q] at e;cases e
   |some d=>
    rw[q] at e;cases e;obtain⟨v,e1,e2⟩:=hd.get q;refine⟨v,?_,e2⟩;unfold L2.start;rw[Yb (by simp;omega),Xv,e1];rfl
  ·rw[Yg (by simpa using hi),YR] at e;split at e<;>cases e
 ·have v6:=hd.len;unfold L2.start;simp[v6]
 ·exfalso
  by_cases hi:i<ds.length
  ·rw[Yb (by simpa using hi),Xv] at e;cases q:ds[i]? with
   |none=>rw[q] at e;cases e
   |some d=>rw[q] at e;cases e
  ·rw[Yg (by simpa using hi),YR] at e;split at e<;>cases e
 ·exfalso
  by_cases hi:i<ds.length
  ·rw[Yb (by simpa using hi),Xv] at e;cases q:ds[i]? with
   |none=>rw[q] at e;cases e
   |some d=>rw[q] at e;cases e
  ·rw[Yg (by simpa using hi),YR] at e;split at e<;>cases e
 ·have hw:WP K (λn H'=>E (cv n) none H') F H (τ (ds.map (λd=>some (Sl.fz d))++XC (N.length - ds.length) none)>>=λo=>match o with | .nx _=>ae .non | .rt d=>ae d) Q:=hw;rcases(τ (ds.map (λd=>some (Sl.fz d))++XC (N.length - ds.length) none)).cs with e | ⟨n,e⟩ | ⟨o,e⟩
  ·rw[e] at hw;exact hw.elim
  ·rw[e] at hw⊢;exact hw
  ·rw[e] at hw⊢;cases o with
   |nx ρ'=>exact λσ' F' H' s'=>hw .non H' F' s'.ext rfl
   |rt d=>exact λv F' H' e' q=>hw v H' F' e' q
end
section
variable{X:Cx}{Xw:Nat->Hp->Prop}{CX:BC}{cv:Nat->Value}{k m:Nat}{f:Addr}{fd:ZC}{ps:List Str}{g:List D->M D}{x:Str}{p pos:Pos}{e:Expr}{es:List Expr}{δs:DA}
theorem JB(F:FnOk X.prog X.w X.K X.mg X.base CX k f fd ps (EI X.K cv m g))(hr:Room k X.A)(hg:Gl X x)(hm:X.mg x=some (.ref f))(hk:YV X.K (.ref f)=true)(hb:Binds X.K fd ps [])(hx:Passes CX X (EX cv Xw))
 (ha:gV X Xw (e::es) δs)(hl:(e::es).length=m)(l5:(x==("__debug__":Str))=false:=by decide)(he:Xz (e::es) X.env=(false,eval e X.env)::Xz es X.env:=by rfl)(kK:(Y9 pos (Xz es X.env)).any (·.1)=false:=by rfl):
 PD X Xw (.Call (.Name x p) (e::es) [] pos) (λρ=>δs ρ>>=λds=>if ds.length=m then g ds else ag):=PE.weak (JK F hr hg hm hk hb .nil hx ha l5 he kK) λσ H Q ⟨F,ρ,s,w⟩=>by
 refine⟨F,ρ,s,WPL.mono (WP.bindL w) λvs H1 ⟨F1,ds,e1,q1,w1⟩=>?_⟩;split at w1
 ·rename_i FH;refine⟨F1,ds,e1.fh,by simpa using q1,by rw[X0,<-q1.len];exact FH,WP.xw w1 λn H h=>⟨n,rfl,h⟩⟩
 ·exact w1.elim
theorem wM{x:Str}{d:D}{v:V}{u:Value}(hg:Gl X x)(hm:X.mg x=some u)(r:RelV v u)(hd:∀F,Den X.K F d v)(l5:(x==("__debug__":Str))=false:=by decide):PD X Xw (.Name x pos) (dC d):=
 iJ (p7 hg hm r l5) hd
end
theorem obj_some{P:XR}{w:World}{H:Hp}{h:Heap}{a:Addr}{o:HO}(x:ObjOk P w H h a o):∃ob,h.get? a=some ob:=by
 cases o with
 |lst xs=>obtain⟨_,_,_,_,e⟩:=x;exact⟨_,e⟩
 |tup xs=>obtain⟨_,_,_,ob,e,_⟩:=x;exact⟨_,e⟩
 |dK aE=>obtain⟨_,_,_,_,o,_,_,e,_⟩:=x;exact⟨_,e⟩
 |dT aE=>obtain⟨_,_,_,_,o,_,_,e,_⟩:=x;exact⟨_,e⟩
 |set S n=>obtain⟨o,_,_,_,e,_⟩:=x;exact⟨_,e⟩
 |ins C dx fs=>obtain⟨_,_,_,e,_⟩:=x;exact⟨_,e⟩
 |own y=>obtain⟨_,e⟩:=x;exact⟨_,e⟩
 |xd fs=>obtain⟨_,⟨_,_,_,e,_⟩,_⟩:=x;exact⟨_,e⟩
 |rng lo hi=>obtain⟨_,_,_,e⟩:=x;exact⟨_,e⟩
 |frz ob u=>obtain⟨e,_⟩:=x;exact⟨_,e⟩
 |tbl ps=>exact⟨_,(show h.get? a=some _ from x)⟩
 |met f y=>exact⟨_,(show h.get? a=some _ from x)⟩
 |ext φ=>obtain⟨_,⟨_,e⟩,_⟩:=x;exact⟨_,e⟩
def cW(P:XR)(w:World)(cv:Nat->Value):BC:=λouter H s E e s'=>∃(ea:Addr) (n:Nat) (a0:Value) (B:Heap) (H':Hp),e= .ref ea/\s'.os=s.os/\abE s'.gens/\HOk P w H' s'.heap/\Un (fM outer) [] H H' s.heap s'.heap/\
 Heap.FlyingW B outer ea (cv n) a0 s'.heap/\(∀b o,s'.heap.get? b=some o->(H' b≠none\/(s.heap.get? b).isSome=true)->b∉fM outer->B.get? b=some o)/\E (cv n) none H'
section
variable{P:XR}{w:World}{fs:List Addr}{ad8 H:Hp}{h₀ h h':Heap}
theorem xy(u:Un fs [] ad8 H h₀ h)(ka:∀b o,h.get? b=some o->b∉fs->(H b≠none\/(h₀.get? b).isSome=true)->h'.get? b=some o)(kb:∀b o,h.get? b=some o->b∈fs->∃sl,h'.get? b=some {o with slots:=sl}):Un fs [] ad8 H h₀ h' where
 keep:=λb o e n hb hx=>ka b o (u.keep b o e n hb hx) hb (.inr (by rw[e];rfl))
 slot:=λb o e n hb hx=>by
  obtain⟨sl,q⟩:=u.slot b o e n hb hx;obtain⟨Kd,q'⟩:=kb b _ q hb;exact⟨Kd,q'⟩
 free:=u.free
 there:=λb o e hx=>by
  obtain⟨o',q⟩:=u.there b o e hx;by_cases hb:b∈fs
  ·obtain⟨sl,q'⟩:=kb b _ q hb;exact⟨_,q'⟩
  ·exact⟨o',ka b o' q hb (.inr (by rw[e];rfl))⟩
 tups:=u.tups
 frzs:=u.frzs
 tbls:=u.tbls
theorem qx(x:HOk P w H h)(hf:∀b∈fs,H b=none)(ka:∀b o,h.get? b=some o->b∉fs->H b≠none->h'.get? b=some o):HOk P w H h':=λa o e=>by
 refine(x a o e).stay (λb u hb q=>ka b u q (λz=>?_) ?_) (λ_ q=>q) λ_ _ q=>q
 ·have hz:=hf b z;rcases hb with rfl | hb
  ·rw[hz] at e;cases e
  ·rw[hz] at hb;cases hb
 ·rcases hb with rfl | hb
  ·rw[e];exact λz=>nomatch z
  ·rw[hb];exact λz=>nomatch z
end
section
variable{P:XR}{w:World}{K:Xr}{mg:Str->Option Value}{base:Heap}{N:List Str}{qual:Str}{scope:Scope}{f:Addr}{cd:Value}{A:X6}{outer:List Env}{ad9:Xl}{ad8:Hp}{E:XK}{cv:Nat->Value}
theorem b9:Passes (cW P w cv) (a9 (cW P w cv) P w K mg base N qual scope f cd A outer ad9 ad8 E) (EX cv λn H'=>E (cv n) none H'):=by
 intro f8 σ H s e s' I ⟨ea,n,a0,B,H',he,OO,hg,hok,un,Dp,hB,m,hm,hE⟩;subst he;have Au:((a9 (cW P w cv) P w K mg base N qual scope f cd A outer ad9 ad8 E)).env.locals=ad9.heap.objs.size:=rfl;have vP:fM ((a9 (cW P w cv) P w K mg base N qual scope f cd A outer ad9 ad8 E)).stack=ad9.heap.objs.size::fM outer:=rfl;show wpAny (model P w) (A.deeper (Y8 qual scope ad9.heap.objs.size f cd)) (leaving (Y8 qual scope ad9.heap.objs.size f cd) (.ref ea)) _ _ s';refine wpAny_leaves_onW (base:=B) (outer:=outer) (L:=ad9.heap.objs.size) I.ok.frames rfl Dp λh' Lz ups=>?_;have EB:∀b∈fM ((a9 (cW P w cv) P w K mg base N qual scope f cd A outer ad9 ad8 E)).stack,H' b=none:=λb hb=>by
  obtain⟨o,ho⟩:∃o,s.heap.get? b=some o:=by
   obtain⟨_,o,ho,_⟩:=I.stack.mem hb;exact⟨o,ho⟩
  exact un.free b o ho (I.stkFree b hb) (by simp)
 have l8:∀b o,s'.heap.get? b=some o->b∉fM ((a9 (cW P w cv) P w K mg base N qual scope f cd A outer ad9 ad8 E)).stack->(H' b≠none\/(s.heap.get? b).isSome=true)->h'.get? b=some o:=λb o e hb hc=>Lz.1 b o (hB b o e hc hb);have unA:Un (fM outer) [] ad8 H' ad9.heap s'.heap:=by
  have u1:Un (fM outer) [] ad8 H ad9.heap s.heap:=I.base;refine⟨λb o e nn hb hx=>?_,λb o e nn hb hx=>?_,λb o e nn hx=>?_,λb o e hx=>?_,λb xs q=>un.tups b xs (u1.tups b xs q),λb o u q=>un.frzs b o u (u1.frzs b o u q),λb ps q=>?_⟩
  ·refine un.keep b o (u1.keep b o e nn hb hx) (u1.free b o e nn hx) (λz=>?_) (by simp);rw[vP] at z;rcases Xs.mp z with z | z
   ·exact ad3 (XB e) (by rw[z];exact Yr _)
   ·exact hb z
  ·obtain⟨sl,q⟩:=u1.slot b o e nn hb hx;obtain⟨Kd,q'⟩:=un.slot b _ q (u1.free b o e nn hx) (by rw[vP];exact Xj _ hb) (by simp);exact⟨Kd,q'⟩
  ·obtain⟨o',q⟩:=u1.there b o e hx;exact un.free b o' q (u1.free b o e nn hx) (by simp)
  ·obtain⟨o',q⟩:=u1.there b o e hx;exact un.there b o' q (by simp)
  ·obtain⟨m1,q1⟩:=u1.tbls b ps q;obtain⟨m2,q2⟩:=un.tbls b _ q1;exact⟨m1++m2,by rw[q2,abD]⟩
 have Uk:∀b,(ad9.heap.get? b).isSome=true->(s.heap.get? b).isSome=true:=λb hb=>by
  obtain⟨o,ho⟩:=Yj.mp hb;obtain⟨o',q⟩:=(show Un (fM outer) [] ad8 H ad9.heap s.heap from I.base).there b o ho (by simp);rw[q];rfl
 have D1:∀b,(ad9.heap.get? b).isSome=true->b≠ad9.heap.objs.size:=λb hb z=>by
  obtain⟨o,ho⟩:=Yj.mp hb;exact ad3 (XB ho) (by rw[z];exact Yr _)
 have Gu:∀b,b∉fM outer->(H' b≠none\/(ad9.heap.get? b).isSome=true)->b∉fM ((a9 (cW P w cv) P w K mg base N qual scope f cd A outer ad9 ad8 E)).stack:=λb hb hc z=>by
  rcases hc with hc | hc
  ·exact hc (EB b z)
  ·rw[vP] at z;rcases Xs.mp z with z | z
   ·exact D1 b hc z
   ·exact hb z
 refine⟨ea,n,a0,B,H',rfl,OO.trans I.os,hg,qx hok EB (λb o e hb hc=>l8 b o e hb (.inl hc)),xy unA (λb o e hb hc=>l8 b o e (Gu b hb hc) (hc.imp id (Uk b))) (λb o e hb=>?_),Lz,λb o e hc hb=>?_,?_⟩
 ·obtain⟨_,o',l6,hd⟩:=Dp.2.2.1.mem (show b∈fM ((a9 (cW P w cv) P w K mg base N qual scope f cd A outer ad9 ad8 E)).stack by rw[vP];exact Xj _ hb);rw[e] at l6;cases l6;exact ups b o e hd
 ·have xJ:=Gu b hb hc;obtain⟨o',l6⟩:∃o',s'.heap.get? b=some o':=by
   rcases hc with hc | hc
   ·cases q:H' b with
    |none=>exact ad3 q hc
    |some u=>
     exact obj_some (hok b u q)
   ·obtain⟨o1,h1⟩:=Yj.mp hc;exact unA.there b o1 h1 (by simp)
  have:=hB b o' l6 (hc.imp id (Uk b)) xJ;rw[Lz.1 b o' this] at e;cases e;exact this
 ·rw[hm];exact hE
def Kr(X:Cx)(cv:Nat->Value)(Xw:Nat->Hp->Prop):Prop:=∀(n:Nat) (f8:List (Addr×Obj)) (σ:St) (H:Hp) (s:Xl) (h':Heap) (ea:Addr) (args:List Value),Inv X f8 σ H s->Heap.MadeExcOf s.heap h' ea (cv n) args->Xw n H->X.xe (.ref ea) {s with heap:=h'}
theorem Gd:Kr (a9 (cW P w cv) P w K mg base N qual scope f cd A outer ad9 ad8 E) cv (λn H'=>E (cv n) none H'):=by
 intro n f8 σ H s hh ea args I hx hE;have vP:fM ((a9 (cW P w cv) P w K mg base N qual scope f cd A outer ad9 ad8 E)).stack=ad9.heap.objs.size::fM outer:=rfl;have qw:∀env∈((a9 (cW P w cv) P w K mg base N qual scope f cd A outer ad9 ad8 E)).stack,∀b,env.frame=some b->b∈fM ((a9 (cW P w cv) P w K mg base N qual scope f cd A outer ad9 ad8 E)).stack:=λenv he b hb=>abI.mpr ⟨env,he,hb⟩;have stays:(aau s.heap (fM ((a9 (cW P w cv) P w K mg base N qual scope f cd A outer ad9 ad8 E)).stack)).StaysIn s.heap:=λb o q=>ac7 _ q;show wpAny (model P w) (A.deeper (Y8 qual scope ad9.heap.objs.size f cd)) (leaving (Y8 qual scope ad9.heap.objs.size f cd) (.ref ea)) _ _ _;refine wpAny_leaves_madeW (base:=aau s.heap (fM ((a9 (cW P w cv) P w K mg base N qual scope f cd A outer ad9 ad8 E)).stack)) (h:=s.heap) (outer:=outer) (L:=ad9.heap.objs.size) I.ok.frames rfl stays (PySem.W.funFrames_hide I.stack qw) hx λh' t Dp _ _ ups=>?_;have hB:∀b o,s.heap.get? b=some o->b∉fM ((a9 (cW P w cv) P w K mg base N qual scope f cd A outer ad9 ad8 E)).stack->(aau s.heap (fM ((a9 (cW P w cv) P w K mg base N qual scope f cd A outer ad9 ad8 E)).stack)).get? b=some o:=λb o e hb=>acZ _ e hb;have l8:∀b o,s.heap.get? b=some o->b∉fM ((a9 (cW P w cv) P w K mg base N qual scope f cd A outer ad9 ad8 E)).stack->h'.get? b=some o:=λb o e hb=>Dp.1 b o (hB b o e hb);have u1:Un (fM outer) [] ad8 H ad9.heap s.heap:=I.base;have D1:∀b,(ad9.heap.get? b).isSome=true->b≠ad9.heap.objs.size:=λb hb z=>by
  obtain⟨o,ho⟩:=Yj.mp hb;exact ad3 (XB ho) (by rw[z];exact Yr _)
 have Gu:∀b,b∉fM outer->(H b≠none\/(ad9.heap.get? b).isSome=true)->b∉fM ((a9 (cW P w cv) P w K mg base N qual scope f cd A outer ad9 ad8 E)).stack:=λb hb hc z=>by
  rcases hc with hc | hc
  ·exact hc (I.stkFree b z)
  ·rw[vP] at z;rcases Xs.mp z with z | z
   ·exact D1 b hc z
   ·exact hb z
 refine⟨ea,n, .ref t,aau s.heap (fM ((a9 (cW P w cv) P w K mg base N qual scope f cd A outer ad9 ad8 E)).stack),H,rfl,I.os,I.bare,qx I.hok I.stkFree (λb o e hb hc=>l8 b o e hb),xy u1 (λb o e hb hc=>l8 b o e (Gu b hb hc)) (λb o e hb=>?_),Dp,λb o e hc hb=>?_,hE⟩
 ·obtain⟨_,o',l6,hd⟩:=I.stack.mem (show b∈fM ((a9 (cW P w cv) P w K mg base N qual scope f cd A outer ad9 ad8 E)).stack by rw[vP];exact Xj _ hb);rw[e] at l6;cases l6;exact ups b o (hx.keeps b o e) hd
 ·obtain⟨o',l6⟩:∃o',s.heap.get? b=some o':=by
   rcases hc with hc | hc
   ·cases q:H b with
    |none=>exact ad3 q hc
    |some u=>exact obj_some (I.hok b u q)
   ·obtain⟨o1,h1⟩:=Yj.mp hc;exact u1.there b o1 h1 (by simp)
  have xJ:=Gu b hb hc;rw[l8 b o' l6 xJ] at e;cases e;exact hB b o l6 xJ
end
section
variable{X:Cx}{Xw:Nat->Hp->Prop}{cv:Nat->Value}{n:Nat}{C:Addr}{x:Str}{np a7 pos:Pos}{e:Expr}{es:List Expr}{δs:DA}{bm:List Value}{B newId Mc:String}
theorem nY(O:OwnCls x C bm newId X.mg X.base)(FB:ExcBaseFacts B newId Mc bm)(hg:Gl X x)(hc:X.calm=true)(NQ:cv n= .ref C)(hx:Kr X cv Xw)(ha:gV X Xw (e::es) δs)(l5:(x==("__debug__":Str))=false:=by decide)
 (he:Xz (e::es) X.env=(false,eval e X.env)::Xz es X.env:=by rfl)(kK:(Y9 a7 (Xz es X.env)).any (·.1)=false:=by rfl):
 iq X Xw (.Raise (some (.Call (.Name x np) (e::es) [] a7)) none pos) (λρ=>δs ρ>>=λds=>if ds.length<=lim then bR n else ag):=λs0 ad8 f8 s σ H D I ⟨F,ρ,S,w⟩=>by
 obtain⟨tl,Nn,nm,q,bs,hdct,sn,sub,ab,col,dd,k0,k1,k2,k3,k5,mN,hC,hN,V2,T⟩:=O.obj;refine wpAny_Raise_call_subT (C:=C) (nm:=nm) (q:=q) (N:=Nn) (bs:=bs) (bm:=tl) (hdct:=hdct) (sn:=sn) (sub:=sub) (ab:=ab) (col:=col) (dd:=dd) (k0:=k0) (k1:=k1) (k2:=k2) (k3:=k3) (k5:=k5)
  FB (mN:=mN) (T.hasType FB.hasBase) (I.ok.hd hc) (by rw[he];show (false||(Y9 a7 (Xz es X.env)).any (·.1))=false;rw[kK];rfl) V2 (l_ I hg O.bound ⟨rfl,?_⟩ l5)
 have w:WPS X.K Xw s0 ad8 (δs ρ>>=λds=>if ds.length<=lim then bR n else ag) D:=w;have hA:=ha a7 f8 s σ H (λvs H1=>vs.length<=lim/\Xw n H1) I ⟨F,ρ,S.st,by
  rcases(δs ρ).cs with q | ⟨m,q⟩ | ⟨ds,q⟩
  ·rw[q] at w;exact w.elim
  ·rw[q] at w⊢;exact λF' H' e'=>w F' H' (S.ext.trans e')
  ·rw[q] at w⊢;intro vs H' F' e' hd;have w:WPS X.K Xw s0 ad8 (if ds.length<=lim then bR n else ag) D:=w;split at w
   ·rename_i hl;exact⟨by rw[<-hd.len];exact hl,w F' H' (S.ext.trans e')⟩
   ·exact w.elim⟩
 rw[he] at hA⊢;refine ZY (cC hA λus u8 ⟨vs,H1,I1,r,hl,hX⟩=>⟨rfl,by rw[<-r.length];have:=d6;omega,I1.bk _ _ hC,hN.keeps I1.bk,T.keeps I1.bk,λh' ea hm=>hx n f8 σ H1 u8 h' ea us I1 (by rw[NQ];exact hm) hX⟩)
end
def K0:D->Option String
 | .non=>some "NoneType"
 | .bl _=>some "bool"
 | .int _=>some "int"
 | .str _=>some "str"
 | .tup _=>some "tuple"
 | .lst _=>some "list"
 |_=>none
def Mg(k T:String):Option Bool:=if T="str"\/T="int"\/T="bool"\/T="tuple"\/T="list" then some (decide (k=T)||(decide (k="bool")&&decide (T="int"))) else none
def lr:List D->M D
 |[d, .raw (.ty T)]=>match K0 d with
  |some k=>match Mg k T with
   |some b=>ae (.bl b)
   |none=>ag
  |none=>ag
 |_=>ag
theorem Mp{K:Xr}{k T:String}{b:Bool}(hk:k="NoneType"\/k="bool"\/k="int"\/k="str"\/k="tuple"\/k="list")(h:Mg k T=some b):XD K (.type k) (.type T)=some b:=by
 unfold Mg at h;split at h
 ·rename_i hT;cases h;rcases hk with rfl | rfl | rfl | rfl | rfl | rfl<;>rcases hT with rfl | rfl | rfl | rfl | rfl<;>with_unfolding_all rfl
 ·cases h
section
variable{X:Cx}{Xw:Nat->Hp->Prop}{a b e e2:Expr}{δs:DA}{pos p:Pos}
def PR(K:Xr):List V->Hp->VK->Prop:=λxs H Q=>∃x T t b,xs=[x, .ty T]/\TyOf K H x t/\XD K t (.type T)=some b/\Q (.bl b) H
theorem EY:CallR X (.builtin "isinstance") (PR X.K):=by
 intro f8 s σ H xs us Q I r h;obtain⟨x,T,t,b,rfl,ty,e,q⟩:=h;obtain⟨u,w',rfl,r1,r2⟩:=vals2 r;cases (show w'=_ from r2);exact DG I r1 ty e λtk=>⟨.bl b,H,I.tok tk,rfl,q⟩
theorem HF{K:Xr}{F H:Hp}{d:D}{v:V}{k:String}(s:Same F H)(h:Den K F d v)(hk:K0 d=some k):TyOf K H v (.type k)/\(k="NoneType"\/k="bool"\/k="int"\/k="str"\/k="tuple"\/k="list"):=by
 cases d with
 |non=>cases hk;cases (show _=_ from h);exact⟨.non, .inl rfl⟩
 |bl x=>cases hk;cases (show _=_ from h);exact⟨.bl x, .inr (.inl rfl)⟩
 |int x=>cases hk;cases (show _=_ from h);exact⟨.int x, .inr (.inr (.inl rfl))⟩
 |str x=>cases hk;cases (show _=_ from h.1);exact⟨.str x, .inr (.inr (.inr (.inl rfl)))⟩
 |tup x=>cases hk;obtain⟨a,vs,rfl,h2,_⟩:=h;exact⟨.tup (s _ _ h2), .inr (.inr (.inr (.inr (.inl rfl))))⟩
 |lst x=>cases hk;obtain⟨a,vs,rfl,h2,_⟩:=h;exact⟨.lst (s _ _ h2), .inr (.inr (.inr (.inr (.inr rfl))))⟩
 |_=>cases hk
theorem DD{K:Xr}:xN K (PR K) lr:=λXw F H vs ds Q s h w=>by
 unfold lr at w;split at w
 ·rename_i d T;obtain⟨v,v',rfl,h1,h2⟩:=h.two;cases (show _=_ from h2);split at w
  ·rename_i k hk;split at w
   ·rename_i b hb;obtain⟨ty,NR⟩:=HF s h1 hk;exact⟨v,T, .type k,b,rfl,ty,Mp NR hb,WP.now w s rfl⟩
   ·exact w.elim
  ·exact w.elim
 ·exact w.elim
theorem rG(hg:Gl X "isinstance")(hm:X.mg "isinstance"=none)(hb:Yd "isinstance"=some (.builtin "isinstance"))(ha:gV X Xw [e,e2] δs)(he:Xz [e,e2] X.env=(false,eval e X.env)::Xz [e2] X.env:=by rfl)
 (kK:(Y9 pos (Xz [e2] X.env)).any (·.1)=false:=by rfl):PD X Xw (.Call (.Name "isinstance" p) [e,e2] [] pos) (dA lr δs):=
 dO EY DD hg hm hb ha (by decide) (by decide) he kK
theorem uM{x:Str}{T:String}(hg:Gl X x)(hm:X.mg x=none)(hv:Yd x=some (.type T))(hn:x≠"__name__":=by decide)(hd:(x==("__debug__":Str))=false:=by decide):PD X Xw (.Name x pos) (dC (.raw (.ty T))):=
 iJ (v:= .ty T) (JJ hg hm hv (show RelV (.ty T) (.type T) from rfl) hn hd) λ_=>rfl
def bools:List D->Option (List Bool)
 |[]=>some []
 | .bl b::r=>(bools r).map (b:: ·)
 |_=>none
def allM:List D->M D
 |[.lst ds]=>match bools ds with
  |some bs=>ae (.bl (bs.all id))
  |none=>ag
 |_=>ag
theorem km{K:Xr}{F:Hp}:∀{ds:List D}{vs:List V}{bs:List Bool},bools ds=some bs->DenL K F ds vs->vs=bs.map V.bl
 |[],_,_,e,h=>by cases e;exact h
 | .bl b::r,_,_,e,⟨v,r',h1,h2,h3⟩=>by
   unfold bools at e;cases q:bools r with
   |none=>rw[q] at e;cases e
   |some bs=>rw[q] at e;cases e;subst h1;rw[km q h3,show v= .bl b from h2];rfl
 | .non::_,_,_,e,_=>by cases e
 | .int _::_,_,_,e,_=>by cases e
 | .str _::_,_,_,e,_=>by cases e
 | .raw _::_,_,_,e,_=>by cases e
 | .exc _::_,_,_,e,_=>by cases e
 | .scr _::_,_,_,e,_=>by cases e
 | .tup _::_,_,_,e,_=>by cases e
 | .lst _::_,_,_,e,_=>by cases e
theorem qa:∀{bs:List Bool}{aL:List Value},Vals (bs.map V.bl) aL->aL=bs.map Zq
 |[],_,r=>by cases r;rfl
 |b::bs,_,r=>by
  cases r with
  |cons r1 r2=>cases (show _=_ from r1);rw[qa r2];rfl
def SK:List V->Hp->VK->Prop:=λxs H Q=>∃(a:Addr) (bs:List Bool),xs=[.ref a]/\H a=some (.lst (bs.map V.bl))/\Q (.bl (bs.all id)) H
theorem all_range{bs:List Bool}:(XQ bs.length).all (λi=>bs.getD i false)=bs.all id:=by
 induction bs with
 |nil=>rfl
 |cons b bs ih=>
  rw[Xo,ac0,aaC,aao,aaC];congr 1
theorem C7(hc:X.calm=true):CallR X (.builtin "all") SK:=by
 intro f8 s σ H xs us Q I r h;obtain⟨a,bs,rfl,hH,q⟩:=h;obtain⟨u,rfl,r1⟩:=vals1 r;cases (show u=_ from r1);obtain⟨aL,r2,pl,hz⟩:=I.list (SqL.of (K:=X.K) hH);obtain rfl:=qa r2;have iT:a≠s.heap.objs.size:=XS (I.hok.lt hH);refine call_all_walk (abe pl.isList ?_);refine⟨s.heap.objs.size,_,_,_,_,_,λi=>bs.getD i false,rfl,acB (A:=X.A.in1) (show X.A.in1.handled=none from I.ok.hd hc) s.heap.objs.size a iT (bs.map Zq).toArray,⟨⟨_,XA _ rfl,rfl,rfl⟩,Heap.IsList.at pl.isList λo e=>Xm _ e⟩,?_,λh' tk k=>?_⟩
 ·intro i v s' Q' E' hv hq;have hv:(bs.map Zq).toArray[i]? =some v:=hv;rw[ada,Xv] at hv;cases q':bs[i]? with
  |none=>rw[q'] at hv;cases hv
  |some b=>
   rw[q'] at hv;cases hv;have:bs.getD i false=b:=by rw[XG,q'];rfl
   have hq:Q' (bs.getD i false) s':=hq;rw[this] at hq;exact YK hq
 ·have e:(XQ (bs.map Zq).toArray.size).all (λi=>bs.getD i false)=bs.all id:=by
   rw[Xu,Xh];exact all_range
  rw[e];refine⟨.bl (bs.all id),H,I.kept (h':=h') (t':=tk) λb o e'=>k b o (λz=>?_) (Xm _ e'),rfl,q⟩;have z:b=s.heap.objs.size:=by simpa using z
  exact ad3 (XB e') (by rw[z];exact Yr _)
theorem A_(hc:X.calm=true)(hg:Gl X "all")(hm:X.mg "all"=none)(hb:Yd "all"=some (.builtin "all"))(ha:gV X Xw [e] δs)(he:Xz [e] X.env=[(false,eval e X.env)]:=by rfl):PD X Xw (.Call (.Name "all" p) [e] [] pos) (dA allM δs):=
 dO (C7 hc) (λXw F H vs ds Q s h w=>by
  unfold allM at w;split at w
  ·rename_i ds;obtain⟨v,rfl,h1⟩:=h.one;obtain⟨a,ws,rfl,h2,h3,_⟩:=h1;split at w
   ·rename_i bs hb;exact⟨a,bs,rfl,by rw[<-km hb h3];exact s _ _ h2,WP.now w s rfl⟩
   ·exact w.elim
  ·exact w.elim) hg hm hb ha (by decide) (by decide) he rfl
end
section
variable{X:Cx}{Xw:Nat->Hp->Prop}{a b e e2:Expr}{es:List Expr}{δ δa δb:DE}{pos p P3 a7:Pos}
theorem Ki{i:Nat}:∀s0 ad8 D σ H,tS X.K Xw s0 ad8 (jC i δ) D σ H->Hz (S6 X.K "list" Cz (sk i) (Hy (tD X.K Xw δ) NA)) D σ H:=λs0 ad8 D σ H ⟨F,ρ,s,w⟩=>by
 unfold jC at w;cases ho:A7 ρ i with
 |none=>rw[ho] at w;exact w.elim
 |some ds=>
  rw[ho] at w;have hi:=uI ho;obtain⟨v,hv,a,o,rfl,hH,hF,vs,rfl,hd,hl⟩:=s.st.den i _ hi;have w:WPS X.K Xw s0 ad8 (δ ρ>>=λd=>if ds.length<lim then ae (.nx (ρ.set i (some (.ow (.lst (ds++[d])))))) else ag) D:=w;refine⟨.ref a,hv, .inl ⟨rfl,vs,SqL.of hH⟩,F,ρ,s.st,?_⟩;rcases(δ ρ).cs with q | ⟨n,q⟩ | ⟨d,q⟩
  ·rw[q] at w;exact w.elim
  ·rw[q] at w⊢;exact λF' H' e'=>w F' H' (s.ext.trans e')
  ·rw[q] at w⊢;intro u H1 F1 e1 hq;have w:WPS X.K Xw s0 ad8 (if ds.length<lim then ae (.nx (ρ.set i (some (.ow (.lst (ds++[d])))))) else ag) D:=w;split at w
   ·rename_i eM;have v6:=hd.len;refine⟨a,vs,u,rfl,rfl,e1.hh _ _ hH,by have:=d6;omega,?_⟩;exact w σ F1 _ ((s.ext' e1).chg (c₀:= .lst (ds++[d])) hi hv ⟨_,rfl,DenL.append (DenL.mono e1.ff hd) (.cons hq .nil),by rw[Xq];exact eM⟩)
   ·exact w.elim
theorem Kj{i:Nat}:∀s0 ad8 D σ H,tS X.K Xw s0 ad8 (Hg i δ) D σ H->Hz (S6 X.K "list" CA (sk i) (Hy (tD X.K Xw δ) NA)) D σ H:=λs0 ad8 D σ H ⟨F,ρ,s,w⟩=>by
 unfold Hg at w;cases ho:A7 ρ i with
 |none=>rw[ho] at w;exact w.elim
 |some ds=>
  rw[ho] at w;have hi:=uI ho;obtain⟨v,hv,a,o,rfl,hH,hF,vs,rfl,hd,hl⟩:=s.st.den i _ hi;have w:WPS X.K Xw s0 ad8 (δ ρ>>=λd=>lstM d>>=λes=>if ds.length+es.length<=lim then ae (.nx (ρ.set i (some (.ow (.lst (ds++es)))))) else ag) D:=w;refine⟨.ref a,hv, .inl ⟨rfl,vs,SqL.of hH⟩,F,ρ,s.st,?_⟩;rcases(δ ρ).cs with q | ⟨n,q⟩ | ⟨d,q⟩
  ·rw[q] at w;exact w.elim
  ·rw[q] at w⊢;exact λF' H' e'=>w F' H' (s.ext.trans e')
  ·rw[q] at w⊢;intro u H1 F1 e1 hq;cases d with
   |lst es=>
    obtain⟨b,ws,rfl,k2,k3,k4⟩:=hq;have w:WPS X.K Xw s0 ad8 (if ds.length+es.length<=lim then ae (.nx (ρ.set i (some (.ow (.lst (ds++es)))))) else ag) D:=w;split at w
    ·rename_i eM;have v6:=hd.len;have T8:=k3.len;refine⟨a,b,vs,ws,rfl,rfl,e1.hh _ _ hH,e1.fh _ _ k2,by have:=d6;omega,?_⟩;exact w σ F1 _ ((s.ext' e1).chg (c₀:= .lst (ds++es)) hi hv ⟨_,rfl,DenL.append (DenL.mono e1.ff hd) k3,by rw[Xq];exact eM⟩)
    ·exact w.elim
   |_=>exact w.elim
theorem gn{i:Nat}{x:Str}(hv:PE X (.Name x p) (sk i))(he:PD X Xw e δ)(hs:abf (.Call (.Attribute (.Name x p) "append" P3) [e] [] a7) none pos.line X.env=pure false:=by rfl)
 (fV:Ze (.Name x p) "append" X.env (eval (.Name x p) X.env)=eval (.Name x p) X.env:=by rfl)
 (ll:((Y9 a7 (Xz [e] X.env)).all (λx=>!x.1)&&(aaP a7 (ZJ [] X.env)).all (λx=>x.1.isSome)&&decide ([e].length+([]:List ZR).length+(if ([]:List ZR).isEmpty then 0 else 1)<30))=true:=by rfl)
 (fW:(P3.endLine==a7.line)=true:=by rfl)(sH:Xz [e] X.env=[(false,eval e X.env)]:=by rfl):iq X Xw (.Expr (.Call (.Attribute (.Name x p) "append" P3) [e] [] a7) pos) (jC i δ):=λs0 ad8=>
 PS.weak (p8 (GS Zx PySem.F.slot_list_append PySem.F.type_list_append uD hv (kA he rD sH) fV ll fW sH rfl) hs) λD σ H w=>Ki s0 ad8 D σ H w
theorem JS{i:Nat}{x:Str}(hv:PE X (.Name x p) (sk i))(he:PD X Xw e δ)(hs:abf (.Call (.Attribute (.Name x p) "extend" P3) [e] [] a7) none pos.line X.env=pure false:=by rfl)
 (fV:Ze (.Name x p) "extend" X.env (eval (.Name x p) X.env)=eval (.Name x p) X.env:=by rfl)
 (ll:((Y9 a7 (Xz [e] X.env)).all (λx=>!x.1)&&(aaP a7 (ZJ [] X.env)).all (λx=>x.1.isSome)&&decide ([e].length+([]:List ZR).length+(if ([]:List ZR).isEmpty then 0 else 1)<30))=true:=by rfl)
 (fW:(P3.endLine==a7.line)=true:=by rfl)(sH:Xz [e] X.env=[(false,eval e X.env)]:=by rfl):iq X Xw (.Expr (.Call (.Attribute (.Name x p) "extend" P3) [e] [] a7) pos) (Hg i δ):=λs0 ad8=>
 PS.weak (p8 (GS Zx PySem.F.slot_list_extend PySem.F.type_list_extend D0 hv (kA he rD sH) fV ll fW sH rfl) hs) λD σ H w=>Kj s0 ad8 D σ H w
theorem GA:OpR X (aay .Add) (λx y H Q=>∃a b ys,x= .ref a/\y= .ref b/\SqT X.K H a []/\SqT X.K H b ys/\Q (.ref b) H):=by
 intro f8 s σ H x y v u Q I rx ry h;obtain⟨a,b,ys,rfl,rfl,ha,hb,q⟩:=h;cases rx;cases ry;obtain⟨aL,r1,p1,_⟩:=I.tuple ha;obtain⟨e7,r2,p2,_⟩:=I.tuple hb;cases r1;obtain⟨⟨cls,dd,data,sl⟩,ho,hc,n,hd⟩:=id p1;obtain⟨⟨Lr,t7,data2,EH⟩,Dx,BZ,n2,hd2⟩:=id p2;simp only at hc hd BZ hd2;subst hc hd BZ hd2;exact concat_meets ⟨_,ho,rfl⟩ ⟨_,Dx,rfl⟩ acI ady aa2 aaV (aaQ _ _)
  (tuple_addW0 a b _ _ n n2 dd t7 sl EH (by simp)) ⟨ho,Dx,⟨.ref b,H,I,rfl,q⟩⟩
def yp:D->D->M D
 | .tup x, .tup y=>if x.length+y.length<=lim then ae (.tup (x++y)) else ag
 |_,_=>ag
theorem Cr(ha:PD X Xw a δa)(hb:PD X Xw b δb):PD X Xw (.BinOp a .Add b pos) (d2 yp δa δb):=o_ (GA.or Jr) (λXw F H x y dx dy Q s hx hy w=>by
 unfold yp at w;split at w
 ·rename_i i j;obtain⟨a,vs,h1,h2,h3,h4⟩:=hx;obtain⟨a',vs',k1,k2,k3,k4⟩:=hy;split at w
  ·rename_i hl;have e1:=h3.len;have e2:=k3.len;have:=d6;by_cases hv:vs=[]
   ·subst hv;have:i=[]:=by cases i with | nil=>rfl | cons _ _=>simp at e1
    subst this;exact .inl ⟨a,a',vs',h1,k1,SqT.of (s _ _ h2),SqT.of (s _ _ k2),WP.now w s ⟨a',vs',k1▸rfl,k2,k3,k4⟩⟩
   ·refine .inr ⟨a,a',vs,vs',h1,k1,SqT.of (s _ _ h2),SqT.of (s _ _ k2),hv,by omega,λz=>?_,λz p hp=>?_⟩
    ·subst z;have:j=[]:=by cases j with | nil=>rfl | cons _ _=>simp at e2
     subst this;rw[X0] at w;exact WP.now w s ⟨a,vs,rfl,h2,h3,h4⟩
    ·exact WP.fin w (Ext.lay s hp) ⟨p,_,rfl,aM,DenL.mono (Ext.lay s hp).ff (h3.append k3),by rw[Xq];exact hl⟩
  ·exact w.elim
 ·exact w.elim) ha hb
end
section
variable{X:Cx}{Xw:Nat->Hp->Prop}{a b e e2 o:Expr}{es:List Expr}{δa δb δo:DE}{δs:DA}{pos p P3 a7:Pos}
def dM(kd:D->Bool)(g:D->List D->M D)(o:DE)(s:DA):DE:=λρ=>o ρ>>=λd=>if kd d then s ρ>>=λds=>g d ds else ag
theorem Cq{T:String}{name:Str}{id:String}{r:V->List V->Hp->VK->Prop}{kd:D->Bool}{g:D->List D->M D}(pa:PlainAttrs T)(slot:Slot T name id)(R_:typeOf (.builtin id)=pure (.type "method_descriptor"))(hm:NK X id r)
 (hk:∀(F H:Hp) (x:V) (d:D),kd d=true->Same F H->Den X.K F d x->Qf X.K T x H)
 (hd:∀(Xw:Nat->Hp->Prop) (F H:Hp) (x:V) (vs:List V) (d:D) (ds:List D) (Q:VK),Same F H->Den X.K F d x->DenL X.K F ds vs->WP X.K Xw F H (g d ds) Q->r x vs H Q)
 (ho:PD X Xw o δo)(ha:gV X Xw (e::es) δs)
 (fV:Ze o name X.env (eval o X.env)=eval o X.env:=by rfl)
 (ll:((Y9 a7 (Xz (e::es) X.env)).all (λx=>!x.1)&&(aaP a7 (ZJ [] X.env)).all (λx=>x.1.isSome)
  &&decide ((e::es).length+([]:List ZR).length+(if ([]:List ZR).isEmpty then 0 else 1)<30))=true:=by rfl)
 (fW:(P3.endLine==a7.line)=true:=by rfl) (hs:Xz (e::es) X.env=(false,eval e X.env)::Xz es X.env:=by rfl) (Av:(Y9 a7 (Xz es X.env)).any (·.1)=false:=by rfl):
 PD X Xw (.Call (.Attribute o name P3) (e::es) [] a7) (dM kd g δo δs):=PE.weak (GS pa slot R_ hm ho ha fV ll fW hs Av) λσ H Q ⟨F,ρ,s,w⟩=>by
 refine⟨F,ρ,s,WP.mono (WP.bind w) λv H1 ⟨F1,d,e1,q1,w1⟩=>?_⟩;split at w1
 ·rename_i VM;refine⟨hk F1 H1 v d VM e1.fh q1,F1,ρ,s.ext e1,WPL.mono (WP.bindL w1) λvs H2 ⟨F2,ds,e2,q2,w2⟩=>?_⟩;exact hd Xw F2 H2 v vs d ds Q e2.fh (Den.mono e2.ff q1) q2 w2
 ·exact w1.elim
def ED:D->Bool
 | .str _=>true
 |_=>false
def iC:D->Bool
 | .lst _=>true
 |_=>false
theorem Me{K:Xr}(F H:Hp)(x:V)(d:D)(h:ED d=true)(s:Same F H)(q:Den K F d x):Qf K "str" x H:=by
 cases d with
 |str z=>cases (show _=_ from q.1);exact rfl
 |_=>cases h
theorem qC{K:Xr}(F H:Hp)(x:V)(d:D)(h:iC d=true)(s:Same F H)(q:Den K F d x):Qf K "list" x H:=by
 cases d with
 |lst z=>obtain⟨a,vs,rfl,h2,_⟩:=q;exact .inl ⟨rfl,vs,SqL.of (s _ _ h2)⟩
 |_=>cases h
def pS:List D->Option (List Str)
 |[]=>some []
 | .str x::r=>(pS r).map (x:: ·)
 |_=>none
theorem sr{K:Xr}{F:Hp}:∀{ds:List D}{vs:List V}{xs:List Str},pS ds=some xs->DenL K F ds vs->vs=xs.map V.str
 |[],_,_,e,h=>by cases e;exact h
 | .str b::r,_,_,e,⟨v,r',h1,h2,h3⟩=>by
   unfold pS at e;cases q:pS r with
   |none=>rw[q] at e;cases e
   |some bs=>rw[q] at e;cases e;subst h1;rw[sr q h3,show v= .str b from h2.1];rfl
 | .non::_,_,_,e,_=>by cases e
 | .int _::_,_,_,e,_=>by cases e
 | .bl _::_,_,_,e,_=>by cases e
 | .raw _::_,_,_,e,_=>by cases e
 | .exc _::_,_,_,e,_=>by cases e
 | .scr _::_,_,_,e,_=>by cases e
 | .tup _::_,_,_,e,_=>by cases e
 | .lst _::_,_,_,e,_=>by cases e
theorem sv:∀{xs:List Str}{aL:List Value},Vals (xs.map V.str) aL->StrsAre aL xs
 |[],_,r=>by cases r;exact .nil
 |b::bs,_,r=>by
  cases r with
  |cons r1 r2=>obtain⟨t,rfl⟩:=r1;exact .cons b t (sv r2)
def eU:List Str->Str
 |[]=>⟨#[]⟩
 |x::r=>x++eU r
def joinM:D->List D->M D
 | .str sep,[.lst ds]=>match pS ds with
   |some xs=>if sep.length=0/\(xs.map (·.length)).sum<=lim then ae (.str (eU xs)) else ag
   |none=>ag
 | .str sep,[.tup ds]=>match pS ds with
   |some xs=>if sep.length=0/\(xs.map (·.length)).sum<=lim then ae (.str (eU xs)) else ag
   |none=>ag
 |_,_=>ag
theorem qg:∀xs:List Str,(eU xs).length=(xs.map (·.length)).sum
 |[]=>rfl
 |x::r=>by
  show (x++eU r).length=_;rw[ki,qg r,Xp,Yq]
theorem Kg{x:Str}(h:x.length=0):x=⟨#[]⟩:=by
 obtain⟨⟨l⟩⟩:=x;have:l.length=0:=h;cases l with
 |nil=>rfl
 |cons _ _=>simp at this
theorem pd(x:Str):x++(⟨#[]⟩:Str)=x:=by
 obtain⟨c⟩:=x;show (⟨c++ #[]⟩:Str)=⟨c⟩
 simp
theorem oE(sep:Str)(h:sep.length=0):∀xs:List Str,Txt.join sep xs=eU xs:=by
 have e:=Kg h;subst e;intro xs;show Builtin.Str.glued _ xs=_;rw[StrLaws.glued_eq_join];induction xs with
 |nil=>rfl
 |cons x r ih=>
  cases r with
  |nil=>show x=x++(⟨#[]⟩:Str);rw[pd]
  |cons y r=>show x++(⟨#[]⟩:Str)++Str.join _ (y::r)=x++eU (y::r);rw[pd,ih]
def rJoin(K:Xr):V->List V->Hp->VK->Prop:=λx vs H Q=>∃(sep:Str) (a:Addr) (xs:List Str),x= .str sep/\vs=[.ref a]/\(H a=some (.lst (xs.map V.str))\/H a=some (.tup (xs.map V.str)))/\sep.length=0/\(xs.map (·.length)).sum<=lim/\Q (.str (eU xs)) H
theorem Jk:NK X "str.join" (rJoin X.K):=by
 intro f8 s σ H x vs v us Q I rx rv h;obtain⟨sep,a,xs,rfl,rfl,hH,hs,hl,q⟩:=h;obtain⟨t,rfl⟩:=rx;obtain⟨u,rfl,r1⟩:=rv.one;cases (show u=_ from r1);have hok:(xs.map (·.length)).sum+xs.length*sep.length<=16777216:=by
  rw[hs,Nat.mul_zero];unfold lim at hl;omega
 rcases hH with hH | hH
 ·obtain⟨aL,r2,pl,hz⟩:=I.list (SqL.of (K:=X.K) hH);refine join_list pl.isList (by simpa using sv r2) hok λt' k=>⟨.str (eU xs),H,I.tok k,⟨t',by rw[oE sep hs]⟩,q⟩
 ·obtain⟨aL,r2,pl,hz⟩:=I.tuple (SqT.of (K:=X.K) hH);refine join_tuple pl (by simpa using sv r2) hok λt' k=>⟨.str (eU xs),H,I.tok k,⟨t',by rw[oE sep hs]⟩,q⟩
theorem wO(ho:PD X Xw o δo)(ha:gV X Xw [e] δs)(fV:Ze o "join" X.env (eval o X.env)=eval o X.env:=by rfl)
 (ll:((Y9 a7 (Xz [e] X.env)).all (λx=>!x.1)&&(aaP a7 (ZJ [] X.env)).all (λx=>x.1.isSome)&&decide ([e].length+([]:List ZR).length+(if ([]:List ZR).isEmpty then 0 else 1)<30))=true:=by rfl)
 (fW:(P3.endLine==a7.line)=true:=by rfl)(sH:Xz [e] X.env=[(false,eval e X.env)]:=by rfl):PD X Xw (.Call (.Attribute o "join" P3) [e] [] a7) (dM ED joinM δo δs):=
 Cq PySem.F.plainAttrs_str PySem.F.slot_str_join PySem.F.type_str_join Jk Me (λXw F H x vs d ds Q s hx hv w=>by
  unfold joinM at w;split at w
  ·rename_i sep ds;obtain⟨v,rfl,h1⟩:=hv.one;obtain⟨a,ws,rfl,h2,h3,_⟩:=h1;split at w
   ·rename_i xs OY;split at w
    ·rename_i hc;exact⟨sep,a,xs,hx.1,rfl, .inl (by rw[<-sr OY h3];exact s _ _ h2),hc.1,hc.2,WP.now w s ⟨rfl,by rw[qg];exact hc.2⟩⟩
    ·exact w.elim
   ·exact w.elim
  ·rename_i sep ds;obtain⟨v,rfl,h1⟩:=hv.one;obtain⟨a,ws,rfl,h2,h3,_⟩:=h1;split at w
   ·rename_i xs OY;split at w
    ·rename_i hc;exact⟨sep,a,xs,hx.1,rfl, .inr (by rw[<-sr OY h3];exact s _ _ h2),hc.1,hc.2,WP.now w s ⟨rfl,by rw[qg];exact hc.2⟩⟩
    ·exact w.elim
   ·exact w.elim
  ·exact w.elim) ho ha fV ll fW sH rfl
def HE:List D->M D
 |[.lst ds]=>ae (.tup ds)
 |[.tup ds]=>ae (.tup ds)
 |_=>ag
def Ga:List D->M D
 |[.lst ds]=>ae (.lst ds)
 |[.tup ds]=>ae (.lst ds)
 |_=>ag
theorem GP(hg:Gl X "tuple")(hm:X.mg "tuple"=none)(hb:Yd "tuple"=some (.type "tuple"))(ha:gV X Xw [e] δs)(he:Xz [e] X.env=[(false,eval e X.env)]:=by rfl):PD X Xw (.Call (.Name "tuple" p) [e] [] pos) (dA HE δs):=
 uL sP (λXw F H vs ds Q s h w=>by
  unfold HE at w;split at w
  ·rename_i ds;obtain⟨v,rfl,h1⟩:=h.one;obtain⟨a,ws,rfl,h2,h3,h4⟩:=h1;exact⟨a,ws,rfl, .inl ⟨SqL.of (s _ _ h2),λl hl=>WP.fin w (Ext.lay s hl) ⟨l,ws,rfl,aM,DenL.mono (Ext.lay s hl).ff h3,h4⟩⟩⟩
  ·rename_i ds;obtain⟨v,rfl,h1⟩:=h.one;obtain⟨a,ws,rfl,h2,h3,h4⟩:=h1;exact⟨a,ws,rfl, .inr ⟨SqT.of (s _ _ h2),WP.now w s ⟨a,ws,rfl,h2,h3,h4⟩⟩⟩
  ·exact w.elim) hg hm hb ha (by decide) (by decide) he rfl
theorem JD(hg:Gl X "list")(hm:X.mg "list"=none)(hb:Yd "list"=some (.type "list"))(ha:gV X Xw [e] δs)(he:Xz [e] X.env=[(false,eval e X.env)]:=by rfl):PD X Xw (.Call (.Name "list" p) [e] [] pos) (dA Ga δs):=
 uL vy (λXw F H vs ds Q s h w=>by
  unfold Ga at w;split at w
  ·rename_i ds;obtain⟨v,rfl,h1⟩:=h.one;obtain⟨a,ws,rfl,h2,h3,h4⟩:=h1;exact⟨a,ws,rfl, .inl (SqL.of (s _ _ h2)),λl hl=>WP.fin w (Ext.lay s hl) ⟨l,ws,rfl,aM,DenL.mono (Ext.lay s hl).ff h3,h4⟩⟩
  ·rename_i ds;obtain⟨v,rfl,h1⟩:=h.one;obtain⟨a,ws,rfl,h2,h3,h4⟩:=h1;exact⟨a,ws,rfl, .inr (SqT.of (s _ _ h2)),λl hl=>WP.fin w (Ext.lay s hl) ⟨l,ws,rfl,aM,DenL.mono (Ext.lay s hl).ff h3,h4⟩⟩
  ·exact w.elim) hg hm hb ha (by decide) (by decide) he rfl
theorem Ba(hc:X.calm=true)(hg:Gl X "max")(hm:X.mg "max"=none)(hb:Yd "max"=some (.builtin "max"))(ha:gV X Xw [e,e2] δs)(he:Xz [e,e2] X.env=(false,eval e X.env)::Xz [e2] X.env:=by rfl)
 (kK:(Y9 pos (Xz [e2] X.env)).any (·.1)=false:=by rfl):PD X Xw (.Call (.Name "max" p) [e,e2] [] pos) (dA AN δs):=
 dO (C9 hc) (λXw F H vs ds Q s h w=>by
  unfold AN at w;split at w
  ·obtain⟨v,v',rfl,h1,h2⟩:=h.two;cases (show _=_ from h1);cases (show _=_ from h2);exact⟨_,_,rfl,WP.now w s rfl⟩
  ·exact w.elim) hg hm hb ha (by decide) (by decide) he kK
theorem GL(hc:X.calm=true)(hg:Gl X "min")(hm:X.mg "min"=none)(hb:Yd "min"=some (.builtin "min"))(ha:gV X Xw [e,e2] δs)(he:Xz [e,e2] X.env=(false,eval e X.env)::Xz [e2] X.env:=by rfl)
 (kK:(Y9 pos (Xz [e2] X.env)).any (·.1)=false:=by rfl):PD X Xw (.Call (.Name "min" p) [e,e2] [] pos) (dA DX δs):=
 dO (C_ hc) (λXw F H vs ds Q s h w=>by
  unfold DX at w;split at w
  ·obtain⟨v,v',rfl,h1,h2⟩:=h.two;cases (show _=_ from h1);cases (show _=_ from h2);exact⟨_,_,rfl,WP.now w s rfl⟩
  ·exact w.elim) hg hm hb ha (by decide) (by decide) he kK
def nums:List D->Option (List Int)
 |[]=>some []
 | .int x::r=>(nums r).map (x:: ·)
 |_=>none
theorem gL{K:Xr}{F:Hp}:∀{ds:List D}{vs:List V}{xs:List Int},nums ds=some xs->DenL K F ds vs->vs=xs.map V.int
 |[],_,_,e,h=>by cases e;exact h
 | .int b::r,_,_,e,⟨v,r',h1,h2,h3⟩=>by
   unfold nums at e;cases q:nums r with
   |none=>rw[q] at e;cases e
   |some bs=>rw[q] at e;cases e;subst h1;rw[gL q h3,show v= .int b from h2];rfl
 | .non::_,_,_,e,_=>by cases e
 | .str _::_,_,_,e,_=>by cases e
 | .bl _::_,_,_,e,_=>by cases e
 | .raw _::_,_,_,e,_=>by cases e
 | .exc _::_,_,_,e,_=>by cases e
 | .scr _::_,_,_,e,_=>by cases e
 | .tup _::_,_,_,e,_=>by cases e
 | .lst _::_,_,_,e,_=>by cases e
def Ao(neg:Bool):D->D->M D
 | .int i, .tup ds=>match nums ds with | some ns=>ae (.bl (if neg then !ns.contains i else ns.contains i)) | none=>ag
 |_,_=>ag
theorem FR(i:Int)(ns:List Int):QP (.int i) (ns.map V.int)=ns.contains i:=by
 unfold QP;rw[List.any_map];induction ns with
 |nil=>rfl
 |cons n ns ih=>
  rw[aae,List.contains_cons,ih];congr 1;show HN (.int n) (.int i)=(i==n)
  unfold HN;exact Bool.beq_comm
theorem FQ{neg:Bool}{K:Xr}:u9 K (SQ K neg) (Ao neg):=λXw F H x y dx dy Q s hx hy w=>by
 unfold Ao at w;split at w
 ·rename_i i ds;obtain⟨a,vs,h1,h2,h3,h4⟩:=hy;split at w
  ·rename_i ns hn;have hv:=gL hn h3;subst hv;cases (show _=_ from hx);refine⟨a,ns.map V.int,h1, .inr (SqT.of (s _ _ h2)),rfl,?_,?_⟩
   ·rw[aao];exact Yl.mpr λ_ _=>rfl
   ·rw[FR];exact WP.now w s rfl
  ·exact w.elim
 ·exact w.elim
theorem Eg(ha:PD X Xw a δa)(hb:PD X Xw b δb)(hm:Yt .NotIn b=false:=by rfl):lK X Xw (.Compare a [.NotIn] [b] pos) (bU (d2 (Ao true) δa δb)):=dB wH FQ ha hb hm
def Fm(neg:Bool):D->D->M D
 | .str x, .str y=>ae (.bl (if neg then !(!(Z1 y x 0 y.length 1).isEmpty) else !(Z1 y x 0 y.length 1).isEmpty))
 |_,_=>ag
theorem MP(ha:PD X Xw a δa)(hb:PD X Xw b δb)(hm:Yt .In b=false:=by rfl):PD X Xw (.Compare a [.In] [b] pos) (d2 (Fm false) δa δb):=GK D8 (λXw F H x y dx dy Q s hx hy w=>by
 unfold Fm at w;split at w
 ·exact⟨_,_,hx.1,hy.1,WP.now w s rfl⟩
 ·exact w.elim) ha hb hm
end
end L3
namespace L3
open PySem PySem.Spec L2 SeqAt HT
open PyProof.Rows hiding St
section
variable{Xw:Nat->Hp->Prop}{b:Expr}{lo hi:Option Expr}
def WPO(Xw:Nat->Hp->Prop)(F H:Hp)(m:M (Option Int))(Q:Option Int->Hp->Prop):Prop:=
 match m with
 |none=>False
 |some (.ok b)=>∀H' F',Ext F H F' H'->Q b H'
 |some (.ex n)=>∀F' H',Ext F H F' H'->Xw n H'
theorem WPO.mono{Xw:Nat->Hp->Prop}{F H:Hp}{m:M (Option Int)}{Q Q':Option Int->Hp->Prop}(h:WPO Xw F H m Q)(k:∀v H',Q v H'->Q' v H'):WPO Xw F H m Q':=by
 match m,h with
 |none,h=>exact h
 |some (.ok d),h=>exact λH2 F2 e2=>k _ _ (h H2 F2 e2)
 |some (.ex n),h=>exact h
def cutD(ds:List D)(lo hi:Option Int):List D:=(ds.drop (sIx ds.length 0 lo)).take (sIx ds.length ds.length hi - sIx ds.length 0 lo)
end
def Qj(x:Str):It:=⟨λi _=>i<x.cps.size,λi H v H'=>H'=H/\∃c,x.cps[i]? =some c/\v= .str ⟨#[c]⟩,λi _=>x.cps.size<=i⟩
theorem Es{P:XR}{w:World}{K:Xr}{tg:Expr}(it:Addr)(x:Str)(t:Tok):Turn P w K tg (Qj x) [it] it (λi h=>i<=x.cps.size/\h.IsStrIter it "str_ascii_iterator" x t i) where
 mem:=by simp
 obj:=λi h st b hb=>by
  have e:b=it:=by simpa using hb
  subst e;obtain⟨_,o,e,c,d⟩:=st;exact⟨o,e,λv z=>by rw[d] at z;cases z⟩
 keep:=λi h h' st k=>⟨st.1,let ⟨o,e,r⟩:=st.2;⟨o,k it (by simp) o e,r⟩⟩
 item:=by
  intro X hP hw hK hc i f8 s σ H E I hf st hg;subst hP hw hK;obtain⟨f0,f1,f2,f3,f4,f5⟩:=hf it (by simp);have hi:i<x.cps.size:=hg;refine(Walks.strAscii (prog:=X.prog) (w:=X.w) (I.ok.hd hc) it x t).item i s _ _ hi st.2 λv h' tk hv sf kk=>?_;obtain⟨c,u,RA,rfl⟩:=hv;have I1:Inv X f8 σ H {s with heap:=h',toks:=tk}:=I.turned (λb o hb e=>kk b o (by simpa using hb) e) f0 f1 f3 f4 f5;obtain⟨o,e,cc,dd⟩:=id sf;exact⟨_,rfl,ue (s:={s with heap:=h',toks:=tk}) e cc dd (by decide) ⟨.str ⟨#[c]⟩,H,I1,⟨u,rfl⟩,⟨rfl,c,RA,rfl⟩,⟨hi,sf⟩,λb hb=>(hf b hb).1⟩⟩
 done:=by
  intro X hP hw hK hc i f8 s σ H E I hf st hg;subst hP hw hK;obtain⟨f0,f1,f2,f3,f4,f5⟩:=hf it (by simp);have hi:i=x.cps.size:=acu st.1 hg;subst hi;exact(Walks.strAscii (prog:=X.prog) (w:=X.w) (I.ok.hd hc) it x t).done s _ _ st.2 λh' tk kk=>⟨rfl,I.turned (λb o hb e=>kk b o (by simpa using hb) e) f0 f1 f3 f4 f5⟩
 self:=λ_ _ _ _ _ st h=>wpAny_pyIter_striter_ascii st.2 h
theorem Et{P:XR}{w:World}{K:Xr}{tg:Expr}(it:Addr)(x:Str)(t:Tok):Turn P w K tg (Qj x) [it] it (λi h=>i<=x.cps.size/\h.IsStrIter it "str_iterator" x t i) where
 mem:=by simp
 obj:=λi h st b hb=>by
  have e:b=it:=by simpa using hb
  subst e;obtain⟨_,o,e,c,d⟩:=st;exact⟨o,e,λv z=>by rw[d] at z;cases z⟩
 keep:=λi h h' st k=>⟨st.1,let ⟨o,e,r⟩:=st.2;⟨o,k it (by simp) o e,r⟩⟩
 item:=by
  intro X hP hw hK hc i f8 s σ H E I hf st hg;subst hP hw hK;obtain⟨f0,f1,f2,f3,f4,f5⟩:=hf it (by simp);have hi:i<x.cps.size:=hg;refine(Walks.strWide (prog:=X.prog) (w:=X.w) (I.ok.hd hc) it x t).item i s _ _ hi st.2 λv h' tk hv sf kk=>?_;obtain⟨c,u,RA,rfl⟩:=hv;have I1:Inv X f8 σ H {s with heap:=h',toks:=tk}:=I.turned (λb o hb e=>kk b o (by simpa using hb) e) f0 f1 f3 f4 f5;obtain⟨o,e,cc,dd⟩:=id sf;exact⟨_,rfl,ue (s:={s with heap:=h',toks:=tk}) e cc dd (by decide) ⟨.str ⟨#[c]⟩,H,I1,⟨u,rfl⟩,⟨rfl,c,RA,rfl⟩,⟨hi,sf⟩,λb hb=>(hf b hb).1⟩⟩
 done:=by
  intro X hP hw hK hc i f8 s σ H E I hf st hg;subst hP hw hK;obtain⟨f0,f1,f2,f3,f4,f5⟩:=hf it (by simp);have hi:i=x.cps.size:=acu st.1 hg;subst hi;exact(Walks.strWide (prog:=X.prog) (w:=X.w) (I.ok.hd hc) it x t).done s _ _ st.2 λh' tk kk=>⟨rfl,I.turned (λb o hb e=>kk b o (by simpa using hb) e) f0 f1 f3 f4 f5⟩
 self:=λ_ _ _ _ _ st h=>wpAny_pyIter_striter_wide st.2 h
section
variable{X:Cx}{Xw:Nat->Hp->Prop}{tg a b e l o:Expr}{δ δo:DE}{δs:DA}{p P3 a7:Pos}
def Sg(tl:TE):TI:=λσ H R=>tl σ H λx H1=>∃z,x= .str z/\R (Qj z) H1
theorem M4{tl:TE}(hl:PE X l tl):PI X tg l (Sg tl):=by
 intro f8 s σ H R I h;refine cC (hl f8 s σ H _ I h) λv s1 ⟨x,H1,I1,r1,q1⟩=>?_;obtain⟨z,e,q⟩:=q1;subst e;obtain⟨t,rfl⟩:=r1;have fp:∀b∈[s1.heap.objs.size],sI X f8 H1 b:=λb hb=>by
  have e:b=s1.heap.objs.size:=by simpa using hb
  subst e;exact I1.fpOk (Xx _) (I1.hok.fresh (Xx _))
 cases ha:z.cps.all (· <128)
 ·exact wpAny_pyIter_wide ha ⟨s1.heap.objs.size,[s1.heap.objs.size],_,_,H1,rfl,I1.kept (t':=s1.toks) λb o e=>Xm _ e,Et _ z t,⟨Yo _,_,XA _ rfl,rfl,rfl⟩,fp,q⟩
 ·exact wpAny_pyIter_ascii ha ⟨s1.heap.objs.size,[s1.heap.objs.size],_,_,H1,rfl,I1.kept (t':=s1.toks) λb o e=>Xm _ e,Es _ z t,⟨Yo _,_,XA _ rfl,rfl,rfl⟩,fp,q⟩
def signs(x:Str):List D:=x.cps.toList.map λc=>D.str ⟨#[c]⟩
def Nv:D->M (List D)
 | .str x=>ae (signs x)
 |_=>ag
theorem IP{K:Xr}{F:Hp}(x:Str):ItD K F (Qj x) (signs x):=λF' H' i s1 s2=>by
 refine⟨λd e=>?_,λhl=>show x.cps.size<=i by simpa[signs] using hl⟩;unfold signs at e;rw[Xv] at e;cases q:x.cps.toList[i]? with
 |none=>rw[q] at e;cases e
 |some c=>
  rw[q] at e;cases e;have hi:i<x.cps.size:=by
   have:=(Xy.mp q).1;simpa using this
  refine⟨hi,λv H'' y=>?_⟩;obtain⟨e2,c',KL,rfl⟩:=y;subst e2;have:c'=c:=by
   have q':x.cps[i]? =some c:=by simpa using q
   rw[q'] at KL;exact(XT KL).symm
  subst this;exact⟨F',Ext.refl s2,rfl,by show 1<=lim;decide⟩
theorem JI(h:PD X Xw l δ):zY X Xw tg l (λρ=>δ ρ>>=Nv):=PI.weak (M4 h) λσ H R ⟨F,ρ,s,w⟩=>by
 refine⟨F,ρ,s,WP.mono (WPI.bind w) λv H1 ⟨F1,d,e1,q1,w1⟩=>?_⟩;cases d with
 |str z=>exact⟨z,q1.1,w1 _ _ _ (Ext.refl e1.fh) (IP z)⟩
 |_=>exact w1.elim
def Mf:Value->Bool
 | .bool b=>b
 |_=>false
theorem Fg{A:X6}{s:Xl}{bs:List Bool}:∀y,y∈(bs.map Zq).toArray->EqAt A s y (.bool true) (Mf y):=λy hy=>by
 have hy:y∈bs.map Zq:=by simpa using hy
 obtain⟨b,_,rfl⟩:=XE.mp hy;have:=EqAt.bool_bool (A:=A) (s:=s) b true;cases b<;>exact this
def Df:D->List D->M D
 | .lst ds,[.bl true]=>match bools ds with | some bs=>ae (.int (bs.count true)) | none=>ag
 |_,_=>ag
def L_:D->List D->M D
 | .lst ds,[.bl true]=>match bools ds with
   |some bs=>if bs.contains true then ae (.int (bs.idxOf true)) else ag
   |none=>ag
 |_,_=>ag
theorem xZ:∀bs:List Bool,(bs.map Zq).countP Mf=bs.count true
 |[]=>rfl
 |b::bs=>by
  rw[Xp,List.countP_cons,xZ bs,List.count_cons];cases b<;>rfl
def SN:V->List V->Hp->VK->Prop:=λx vs H Q=>∃(a:Addr) (bs:List Bool),x= .ref a/\vs=[.bl true]/\H a=some (.lst (bs.map V.bl))/\Q (.int (bs.count true)) H
def SO:V->List V->Hp->VK->Prop:=λx vs H Q=>∃(a:Addr) (bs:List Bool),x= .ref a/\vs=[.bl true]/\H a=some (.lst (bs.map V.bl))/\bs.contains true=true/\Q (.int (bs.idxOf true)) H
theorem Mu:NK X "list.count" SN:=by
 intro f8 s σ H x vs v us Q I rx rv h;obtain⟨a,bs,rfl,rfl,hH,q⟩:=h;cases rx;obtain⟨u,rfl,r1⟩:=rv.one;cases (show u=_ from r1);obtain⟨z,aL,n,r,hl,e⟩:=I.lstM hH;obtain rfl:=qa r;refine aaR F.slot_list_count ⟨_,e,rfl⟩ F.entry_list_count (F.args_list_count_2 _ _) (list_countAt a _ n none #[] (.bool true) Mf) ⟨e,Fg,?_⟩;have ec:((bs.map Zq).toArray.toList.countP Mf)=bs.count true:=xZ bs;rw[ec];exact⟨.int (bs.count true),H,I.tok _,⟨_,rfl⟩,q⟩
theorem Mv:NK X "list.index" SO:=by
 intro f8 s σ H x vs v us Q I rx rv h;obtain⟨a,bs,rfl,rfl,hH,hc,q⟩:=h;cases rx;obtain⟨u,rfl,r1⟩:=rv.one;cases (show u=_ from r1);obtain⟨z,aL,n,r,hl,e⟩:=I.lstM hH;obtain rfl:=qa r;have hm:true∈bs:=by simpa using hc
 have eM:bs.idxOf true<bs.length:=aa0.mpr hm;have hz:bs.length<=XH:=by simpa using z
 have hs:XH=16777216:=Zw;refine aaR F.slot_list_index ⟨_,e,rfl⟩ F.entry_list_index (F.args_list_index_2 _ _) (list_indexAt a _ n none #[] (.bool true) Mf (bs.idxOf true) (by simpa using eM) (by omega) ?_ ?_) ⟨e,Fg,?_⟩
 ·have:bs[bs.idxOf true]=true:=abK eM;simp[Mf,this]
 ·intro m VW Dw;have LS:m<bs.length:=by simpa using VW
  have:bs[m]≠true:=λz=>by
   have:=ac1 (p:=(· ==true)) (xs:=bs) (i:=m) Dw;rw[z] at this;simp at this
  simp[Mf];simpa using this
 ·exact⟨.int (bs.idxOf true),H,I.tok _,⟨_,rfl⟩,q⟩
theorem MN(ho:PD X Xw o δo)(ha:gV X Xw [e] δs)(fV:Ze o "count" X.env (eval o X.env)=eval o X.env:=by rfl)
 (ll:((Y9 a7 (Xz [e] X.env)).all (λx=>!x.1)&&(aaP a7 (ZJ [] X.env)).all (λx=>x.1.isSome)&&decide ([e].length+([]:List ZR).length+(if ([]:List ZR).isEmpty then 0 else 1)<30))=true:=by rfl)
 (fW:(P3.endLine==a7.line)=true:=by rfl)(sH:Xz [e] X.env=[(false,eval e X.env)]:=by rfl):PD X Xw (.Call (.Attribute o "count" P3) [e] [] a7) (dM iC Df δo δs):=
 Cq Zx PySem.F.slot_list_count PySem.F.type_list_count Mu qC (λXw F H x vs d ds Q s hx hv w=>by
  unfold Df at w;split at w
  ·rename_i ds;obtain⟨v,rfl,h1⟩:=hv.one;cases (show _=_ from h1);obtain⟨a,ws,rfl,h2,h3,_⟩:=hx;split at w
   ·rename_i bs hb;exact⟨a,bs,rfl,rfl,by rw[<-km hb h3];exact s _ _ h2,WP.now w s rfl⟩
   ·exact w.elim
  ·exact w.elim) ho ha fV ll fW sH rfl
theorem MO(ho:PD X Xw o δo)(ha:gV X Xw [e] δs)(fV:Ze o "index" X.env (eval o X.env)=eval o X.env:=by rfl)
 (ll:((Y9 a7 (Xz [e] X.env)).all (λx=>!x.1)&&(aaP a7 (ZJ [] X.env)).all (λx=>x.1.isSome)&&decide ([e].length+([]:List ZR).length+(if ([]:List ZR).isEmpty then 0 else 1)<30))=true:=by rfl)
 (fW:(P3.endLine==a7.line)=true:=by rfl)(sH:Xz [e] X.env=[(false,eval e X.env)]:=by rfl):PD X Xw (.Call (.Attribute o "index" P3) [e] [] a7) (dM iC L_ δo δs):=
 Cq Zx acp aco Mv qC (λXw F H x vs d ds Q s hx hv w=>by
  unfold L_ at w;split at w
  ·rename_i ds;obtain⟨v,rfl,h1⟩:=hv.one;cases (show _=_ from h1);obtain⟨a,ws,rfl,h2,h3,_⟩:=hx;split at w
   ·rename_i bs hb;split at w
    ·rename_i hc;exact⟨a,bs,rfl,rfl,by rw[<-km hb h3];exact s _ _ h2,hc,WP.now w s rfl⟩
    ·exact w.elim
   ·exact w.elim
  ·exact w.elim) ho ha fV ll fW sH rfl
end
end L3
namespace L3
open PySem PySem.Spec L2 SeqAt HT
open PyProof.Rows hiding St
open PySem.W (Frag Looks InstAt findIn mroIn)
open PySem.Builtin PySem.Builtin.ObjectAttr PySem.Builtin.Getset_descriptor
section
variable{prog:XR}{w:World}{A:X6}{E:Value->Xl->Prop}{h:Heap}{g:Array GenState}{d:Drawn}{t:Nat}{os:OsState}{x D:Addr}{ox:Obj}{K:Frag}
theorem Ad{tp:Value}{R:adn->Xl->Prop}(X:K.In h)(hx:h.get? x=some ox)(hc:ox.cls= .ref D)(hm:mroIn K D (.type "object")=some true)
 (hq:R (.ok (.ret (.ref D))) ⟨h,g,d,t,os⟩):aaK (model prog w) A (.call (.builtin "getset_descriptor.__get__") ⟨[.builtin "object.__class__", .ref x,tp],[]⟩) R ⟨h,g,d,t,os⟩:=by
 have L0:Looks (model prog w) h (typeOf (.ref x)) (.ref D):=hc▸(Looks.ld hx).andThen .now;have L1:=acY (M:=model prog w) X hm;refine codeAny_call_builtin PySem.W.KF.slot_gs.plain PySem.W.KF.entry_gs (PySem.W.KF.slot_gs.check _ _ _ _ _ _ _ _ PySem.W.KF.type_class (PySem.W.KF.args_gs _ _ _) ?_);unfold aaM.«getset_descriptor.__get__» descrGet;rw[PySem.W.dga_obj];refine Xg (Xn ?_);unfold descrGetter descrCheckInstance descrNameAndClass isInstance;simp only[PySem.W.KF.owner_class]
 repeat lk
 refine⟨Code.quiet_builtin _ (by decide+kernel),Zi PySem.W.KF.entry_class ?_⟩;unfold aaM.«object.__class__» shownTypeOf
 repeat lk
 exact hq
theorem pG{tk:Tok}{Q:PySem.Fin->Xl->Prop}(X:K.In h)(hx:h.get? x=some ox)(hc:ox.cls= .ref D)(ha:findIn K (.ref D) "__class__"=some (some (.builtin "object.__class__")))(hm:mroIn K D (.type "object")=some true)
 (hq:Q (.done (.ret (.ref D))) ⟨h,g,d,t,os⟩):wpAny (model prog w) A (aaM.«object.__getattribute__» ⟨[.ref x, .str "__class__" tk],[]⟩) Q E ⟨h,g,d,t,os⟩:=by
 have W3:(⟨h,g,d,t,os⟩:Xl).TypeIs (.builtin "object.__class__") "getset_descriptor":=adL;have f5:=adL;have f6:=F.slot_gs_get.lookup;have f7:=F.slot_gs_set.lookup;have LC:Looks (model prog w) h (abF (.ref D) "__class__") (some (.builtin "object.__class__")):=abh X ha
 repeat (any_goals (first | assumption | (with_reducible refine ach hx ?_;rw[hc]) | with_reducible refine LC.at ?_ | wp_step))
 exact Ad X hx hc hm (Xn hq)
theorem vz{M:Model}{K3:Value}{Q:Unit->Xl->Prop}(X:K.In h)(hx:h.get? x=some ox)(hc:ox.cls= .ref D)(hb:mroIn K D (.type "BaseException")=some true)(hq:Q () ⟨h,g,d,t,os⟩):
 wpAny M A (checkBuiltinCall "BaseException.__getattribute__" ⟨[.ref x,K3],[]⟩) Q E ⟨h,g,d,t,os⟩:=by
 have hk:builtinKind "BaseException.__getattribute__"=some .slot:=by decide+kernel
 have LZ:splitId "BaseException.__getattribute__"=some ("BaseException","__getattribute__"):=by decide+kernel
 have LB:Looks M h (isSubtype (.ref D) (.type "BaseException")) true:=acY X hb;have ha:=F.args_bexc_ga (.ref x) K3;simp only[checkBuiltinCall,hk,LZ];refine Xg ?_
 ·unfold isInstance
  repeat (first | (with_reducible refine ach hx ?_;rw[hc]) | with_reducible refine LB.at ?_ | wp_step)
  exact hq
theorem qi{tk:Tok}{R:adn->Xl->Prop}(X:K.In h)(hx:h.get? x=some ox)(hc:ox.cls= .ref D)(ha:findIn K (.ref D) "__class__"=some (some (.builtin "object.__class__")))(hm:mroIn K D (.type "object")=some true)(hb:mroIn K D (.type "BaseException")=some true)
 (hq:R (.ok (.ret (.ref D))) ⟨h,g,d,t,os⟩):aaK (model prog w) A (.call (.builtin "BaseException.__getattribute__") ⟨[.ref x, .str "__class__" tk],[]⟩) R ⟨h,g,d,t,os⟩:=
 codeAny_call_builtin (by decide+kernel) F.entry_bexc_ga (vz X hx hc hb (pG X hx hc ha hm hq))
theorem qh{Q:Option Value->Xl->Prop}(X:K.In h)(hx:h.get? x=some ox)(hc:ox.cls= .ref D)(VB:findIn K (.ref D) "__getattribute__"=some (some (.builtin "BaseException.__getattribute__")))(VF:findIn K (.ref D) "__getattr__"=some none)
 (ha:findIn K (.ref D) "__class__"=some (some (.builtin "object.__class__")))(hm:mroIn K D (.type "object")=some true)(hb:mroIn K D (.type "BaseException")=some true)
 (hq:Q (some (.ref D)) ⟨h,g,d,t+1,os⟩):wpAny (model prog w) A (getAttr? (.ref x) "__class__") Q E ⟨h,g,d,t,os⟩:=by
 have LG:Looks (model prog w) h (abF (.ref D) "__getattribute__") (some (.builtin "BaseException.__getattribute__")):=abh X VB;have LH:Looks (model prog w) h (abF (.ref D) "__getattr__") none:=abh X VF;have Wl:(aaa "BaseException.__getattribute__"==aaa "object.__getattribute__")=false:=by decide+kernel
 have Xd:(onTheHeap (XX D)&&aaa "BaseException.__getattribute__"==aaa "object.__getattribute__")=false:=by rw[Wl];rfl
 have f3:=PySem.F.excAttr_ValueError.ga.bind (.ref x);unfold getAttr? getAttrBy?
 repeat (any_goals (first | assumption | (with_reducible refine ach hx ?_;rw[hc]) | with_reducible refine LG.at ?_ | with_reducible refine LH.at ?_ | wp_step))
 refine qi X hx hc ha hm hb ?_
 repeat (any_goals (first | assumption | wp_step))
structure ExcC (K:Frag) (D:Addr):Prop where
 ga:findIn K (.ref D) "__getattribute__"=some (some (.builtin "BaseException.__getattribute__"))
 gt:findIn K (.ref D) "__getattr__"=some none
 ca:findIn K (.ref D) "__class__"=some (some (.builtin "object.__class__"))
 mo:mroIn K D (.type "object")=some true
 mb:mroIn K D (.type "BaseException")=some true
 cl:(aap K D).isSome=true
theorem yB(c:ExcC K D):PySem.W.KitX K (.ref x) (.ref D) (λh=>∃ox,h.get? x=some ox/\ox.cls= .ref D) where
 ty:=λ_ _ _ ⟨_,hx,hc⟩=>hc▸(Looks.ld hx).andThen .now
 it:=λ_ _ X _=>by
  obtain⟨UL,LP⟩:=Yj.mp c.cl;unfold aap at LP;split at LP
  ·rename_i c' d' UK Kd ho;intro A' Q' E' s' k q;unfold isType loadHead;exact Xg (wpAny_loadPart (k _ _ (X _ _ ho)) (Xn q))
  ·cases LP
 ne:=λh tp dd aL n sl X We=>by
  obtain⟨UL,LP⟩:=Yj.mp c.cl;refine abV.mpr λq=>?_;have e:D=tp:=adB (beq_iff_eq.mp q);subst e;unfold aap at LP;split at LP
  ·rename_i c' d' UK Kd ho;have z:=(X _ _ ho).symm.trans We;cases z
  ·cases LP
 ca:=λ{_ _ _ _ _ s} X ⟨_,hx,hc⟩ k=>by
  obtain⟨hh,g,d,t,os⟩:=s;exact qh X hx hc c.ga c.gt c.ca c.mo c.mb k
end
section
variable{X:Cx}{Xw:Nat->Hp->Prop}{e e2:Expr}{δs:DA}{pos p:Pos}
def SR(K:Frag):List V->Hp->VK->Prop:=λxs H Q=>∃ea C D b,xs=[.ref ea, .ref D]/\H ea=some (Lg ea C)/\ExcC K C/\XD K (.ref C) (.ref D)=some b/\Q (.bl b) H
def PU(K:Frag):List V->Hp->VK->Prop:=λxs H Q=>∃ea C T b,xs=[.ref ea, .ty T]/\H ea=some (Lg ea C)/\ExcC K C/\XD K (.ref C) (.type T)=some b/\Q (.bl b) H
theorem EZ:CallR X (.builtin "isinstance") (SR X.K):=by
 intro f8 s σ H xs us Q I r h;obtain⟨ea,C,D,b,rfl,hH,hc,e,q⟩:=h;obtain⟨u,w',rfl,r1,r2⟩:=vals2 r;cases (show u=_ from r1);cases (show w'=_ from r2);obtain⟨hx,_,_⟩:=I.hok ea _ hH;exact Ys (yB hc) I.kIn hx e (λz=>nomatch z) λtk=>⟨.bl b,H,I.tok tk,rfl,q⟩
theorem C8:CallR X (.builtin "isinstance") (PU X.K):=by
 intro f8 s σ H xs us Q I r h;obtain⟨ea,C,D,b,rfl,hH,hc,e,q⟩:=h;obtain⟨u,w',rfl,r1,r2⟩:=vals2 r;cases (show u=_ from r1);cases (show w'=_ from r2);obtain⟨hx,_,_⟩:=I.hok ea _ hH;exact Ys (yB hc) I.kIn hx e (λz=>nomatch z) λtk=>⟨.bl b,H,I.tok tk,rfl,q⟩
def nB(K:Frag)(cs:List Addr):List D->M D
 |[.exc C, .raw (.ref D)]=>if C∈cs then(match XD K (.ref C) (.ref D) with | some b=>ae (.bl b) | none=>ag) else ag
 |[.exc C, .raw (.ty T)]=>if C∈cs then(match XD K (.ref C) (.type T) with | some b=>ae (.bl b) | none=>ag) else ag
 |_=>ag
theorem j3{cs:List Addr}(TY:∀C∈cs,ExcC X.K C)(hg:Gl X "isinstance")(hm:X.mg "isinstance"=none)(hb:Yd "isinstance"=some (.builtin "isinstance"))(ha:gV X Xw [e,e2] δs)(he:Xz [e,e2] X.env=(false,eval e X.env)::Xz [e2] X.env:=by rfl)
 (kK:(Y9 pos (Xz [e2] X.env)).any (·.1)=false:=by rfl):PD X Xw (.Call (.Name "isinstance" p) [e,e2] [] pos) (dA (nB X.K cs) δs):=
 dO (EZ.or C8) (λXw F H vs ds Q s h w=>by
  unfold nB at w;split at w
  ·rename_i C D;obtain⟨v,v',rfl,h1,h2⟩:=h.two;cases (show _=_ from h2);obtain⟨ea,rfl,h3⟩:=h1;split at w
   ·rename_i hC;split at w
    ·rename_i b hb;exact .inl ⟨ea,C,D,b,rfl,s _ _ h3,TY C hC,hb,WP.now w s rfl⟩
    ·exact w.elim
   ·exact w.elim
  ·rename_i C T;obtain⟨v,v',rfl,h1,h2⟩:=h.two;cases (show _=_ from h2);obtain⟨ea,rfl,h3⟩:=h1;split at w
   ·rename_i hC;split at w
    ·rename_i b hb;exact .inr ⟨ea,C,T,b,rfl,s _ _ h3,TY C hC,hb,WP.now w s rfl⟩
    ·exact w.elim
   ·exact w.elim
  ·exact w.elim) hg hm hb ha (by decide) (by decide) he kK
end
end L3
namespace L3
open PySem PySem.Spec L2 SeqAt HT
open PyProof.Rows hiding St
open PySem.W (Frag Looks findIn mroIn)
theorem vT{ea C:Addr}{h1 h2:Heap}(x:BD h1 ea C)(k:∀o,h1.get? ea=some o->h2.get? ea=some o):BD h2 ea C:=
 let ⟨ox,a,b⟩:=x
 ⟨ox,k ox a,b⟩
def Hi(τ:DS)(hd:Nat->M D):DS:=λρ=>match τ ρ with
 |some (.ex n)=>hd n>>=λd=>ae (.rt d)
 |r=>r
abbrev qy(X:Cx)(pn:List (Addr×Obj))(E:Value->Xl->Prop):Cx:={X with pn:=pn,xe:=E}
abbrev ku(X:Cx)(ea:Addr)(E:Value->Xl->Prop):Cx:={X with A:=X.A.mark (some (.ref ea)),calm:=false,xe:=E}
section
variable{X:Cx}{f8 pn:List (Addr×Obj)}{σ:St}{H:Hp}{s:Xl}{E:Value->Xl->Prop}{ea:Addr}
theorem Gy(ok:X.Ok):(qy X pn E).Ok:=⟨ok.mod,ok.kind,ok.glob,ok.blt,ok.above,ok.inj,ok.has,ok.cab,ok.hd,ok.frames,ok.stk,ok.exf,ok.bs,ok.bsz,ok.noex,ok.exfs,ok.funs,ok.frf⟩
theorem Dz(I:Inv X f8 σ H s)(hp:X.pn=[]):Inv (qy X f8 E) [] σ H s:=
 ⟨Gy I.ok,I.os,I.bare,I.base,I.loc,I.cell,I.free,I.freeC,λp q=>I.pin p (by rw[hp];rw[X0] at q;exact q),I.hok,I.len⟩
theorem D6(ok:(qy X pn E).Ok):X.Ok:=⟨ok.mod,ok.kind,ok.glob,ok.blt,ok.above,ok.inj,ok.has,ok.cab,ok.hd,ok.frames,ok.stk,ok.exf,ok.bs,ok.bsz,ok.noex,ok.exfs,ok.funs,ok.frf⟩
theorem gM{zf:List (Addr×Obj)}(I:Inv (qy X f8 E) zf σ H s)(hp:X.pn=[]):Inv X f8 σ H s:=
 ⟨D6 I.ok,I.os,I.bare,I.base,I.loc,I.cell,I.free,I.freeC,λp q=>I.pin p (by rw[hp] at q;exact YC _ q),I.hok,I.len⟩
theorem jM(I:Inv X f8 σ H s):Inv (ku X ea E) f8 σ H s:=
 ⟨⟨I.ok.mod,I.ok.kind,I.ok.glob,I.ok.blt,I.ok.above,I.ok.inj,I.ok.has,I.ok.cab,λz=>(by cases z),I.ok.frames,I.ok.stk,I.ok.exf,I.ok.bs,I.ok.bsz,I.ok.noex,I.ok.exfs,I.ok.funs,I.ok.frf⟩,I.os,I.bare,I.base,I.loc,I.cell,I.free,I.freeC,I.pin,I.hok,I.len⟩
theorem vS(I:Inv (ku X ea E) f8 σ H s)(hd:X.calm=true->X.A.handled=none)(EB:X.A.frames=some X.stack):Inv X f8 σ H s:=
 ⟨⟨I.ok.mod,I.ok.kind,I.ok.glob,I.ok.blt,I.ok.above,I.ok.inj,I.ok.has,I.ok.cab,hd,EB,I.ok.stk,I.ok.exf,I.ok.bs,I.ok.bsz,I.ok.noex,I.ok.exfs,I.ok.funs,I.ok.frf⟩,I.os,I.bare,I.base,I.loc,I.cell,I.free,I.freeC,I.pin,I.hok,I.len⟩
theorem Az{h':Heap}{m':Str->Option Value}{tk:Nat}(I:Inv X f8 σ H s)(B0:YI X.env.locals s.heap h')(hn:h'.Ns X.env.locals m'):Inv X f8 (σ.map λ_=>none) H {s with heap:=h',toks:=tk}:=by
 have NU:∀b o,X.ad9.heap.get? b=some o->b≠X.env.locals:=λb o e=>XS (X1 (XB e) I.ok.above);refine⟨I.ok,I.os,I.bare,⟨λb o e n hb hx=>?_,λb o e n hb hx=>?_,I.base.free,λb o e hx=>?_,I.base.tups,I.base.frzs,I.base.tbls⟩,⟨m',hn,λi x v h1 h2 h3=>?_⟩,λx c e=>?_,I.free,I.freeC,λp hp=>?_,zt I.hok B0 I.free,by rw[Xh];exact I.len⟩
 ·exact(B0.2 b (NU b o e)).trans (I.base.keep b o e n hb hx)
 ·obtain⟨sl,q⟩:=I.base.slot b o e n hb hx;exact⟨sl,(B0.2 b (NU b o e)).trans q⟩
 ·obtain⟨o',q⟩:=I.base.there b o e hx;exact⟨o',(B0.2 b (NU b o e)).trans q⟩
 ·rw[Xv] at h2;cases q:σ[i]? with
  |none=>rw[q] at h2;cases h2
  |some z=>rw[q] at h2;cases h2
 ·obtain⟨v,q⟩:=I.cell x c e;exact⟨v,q.sameBut B0 (I.cne x c e)⟩
 ·obtain⟨e,n,ne,nf,d⟩:=I.pin p hp;exact⟨(B0.2 p.1 ne).trans e,n,ne,nf,d⟩
theorem DB{a:Addr}{o:HO}(I:Inv X f8 σ H s)(hn:H a=none)(h0:X.ad9.heap.get? a=none)(hl:a≠X.env.locals)(hc:∀x c,X.env.cells.lookup x=some c->c≠a)(hp:∀p∈X.pn++f8,p.1≠a)(ho:ObjOk X.prog X.w (upd H a o) s.heap a o):
 Inv X f8 σ (upd H a o) s:=by
 have ne:∀b u,H b=some u->b≠a:=λb u e=>bu e hn;have WB:∀b u,X.ad9.heap.get? b=some u->b≠a:=λb u e z=>by rw[z,h0] at e;cases e
 refine⟨I.ok,I.os,I.bare,⟨I.base.keep,I.base.slot,λb u e n hx=>?_,I.base.there,λb xs e=>?_,λb u xs e=>?_,λb ps e=>?_⟩,I.loc,I.cell,?_,λx c e=>?_,λp q=>?_,λb u e=>?_,I.len⟩
 ·rw[aA (WB b u e)];exact I.base.free b u e n hx
 ·have q:=I.base.tups b xs e;rw[aA (ne b _ q)];exact q
 ·have q:=I.base.frzs b u xs e;rw[aA (ne b _ q)];exact q
 ·obtain⟨more,q⟩:=I.base.tbls b ps e;exact⟨more,by rw[aA (ne b _ q)];exact q⟩
 ·rw[aA (Yp hl)];exact I.free
 ·rw[aA (hc x c e)];exact I.freeC x c e
 ·obtain⟨e,n,r1,r2,d⟩:=I.pin p q;exact⟨e,by rw[aA (hp p q)];exact n,r1,r2,d⟩
 ·by_cases hb:b=a
  ·subst hb;rw[aM] at e;cases e;exact ho
  ·rw[aA hb] at e;exact(I.hok b u e).stay (λ_ _ _ q=>q) (λc q=>by rw[aA (ne c _ q)];exact q) λc xs q=>by rw[aA (ne c _ q)];exact q
end
section
variable{P:XR}{w:World}{K:Xr}{mg:Str->Option Value}{base:Heap}{N:List Str}{qual:Str}{scope:Scope}{f:Addr}{cd:Value}{A:X6}{outer:List Env}{ad9:Xl}{ad8:Hp}{E:XK}{cv:Nat->Value}
theorem JT{Xw:Nat->Hp->Prop}{body Hu:List Stmt}{b₀:Stmt}{x n:Str}{np Aw pos:Pos}{i:Nat}{Cp:Addr}{τb τh:DS}{hd:Nat->M D}{cA:Nat->Addr}
 (NQ:∀k,cv k= .ref (cA k))(hN:(a9 (cW P w cv) P w K mg base N qual scope f cd A outer ad9 ad8 E).N.Nodup)(hi:(a9 (cW P w cv) P w K mg base N qual scope f cd A outer ad9 ad8 E).N[i]? =some n)(Au:(a9 (cW P w cv) P w K mg base N qual scope f cd A outer ad9 ad8 E).env.scope.names.lookup n=some .local)(hg:Gl (a9 (cW P w cv) P w K mg base N qual scope f cd A outer ad9 ad8 E) x)(hm:mg x=some (.ref Cp))(hex:∀k,aaL K (cv k) (.ref Cp)=some true)
 (hb:∀(pn:List (Addr×Obj)) (Ec:Value->Xl->Prop) (Xw':Nat->Hp->Prop),Passes (cW P w cv) (qy (a9 (cW P w cv) P w K mg base N qual scope f cd A outer ad9 ad8 E) pn Ec) (EX cv Xw')->PSDs (qy (a9 (cW P w cv) P w K mg base N qual scope f cd A outer ad9 ad8 E) pn Ec) Xw' body τb)
 (hs:∀ea,PSDs (ku (a9 (cW P w cv) P w K mg base N qual scope f cd A outer ad9 ad8 E) ea λ_ _=>False) (λ_ _=>False) (b₀::Hu) τh)(hh:∀(k:Nat) (ρ:bb),ρ.length=N.length->ρ[i]? =some (some (.fz (.exc (cA k))))->τh ρ=(hd k>>=λd=>ae (.rt d)))
 (l5:(x==("__debug__":Str))=false:=by decide):
 iq (a9 (cW P w cv) P w K mg base N qual scope f cd A outer ad9 ad8 E) Xw (.Try body [.ExceptHandler (some (.Name x np)) (some n) (b₀::Hu) Aw] [] [] pos) (Hi τb λk=>noex (hd k)):=λG₀ J₀ f8 s σ H D I ⟨F,ρ,S,wq⟩=>by
 have vP:fM (a9 (cW P w cv) P w K mg base N qual scope f cd A outer ad9 ad8 E).stack=ad9.heap.objs.size::fM outer:=rfl;have pass:Passes (cW P w cv) (qy (a9 (cW P w cv) P w K mg base N qual scope f cd A outer ad9 ad8 E) f8 λe v4=>wpAny (model P w) (a9 (cW P w cv) P w K mg base N qual scope f cd A outer ad9 ad8 E).A (noteFrame e (a9 (cW P w cv) P w K mg base N qual scope f cd A outer ad9 ad8 E).env) (λ_ u8=>wpAny (model P w) (a9 (cW P w cv) P w K mg base N qual scope f cd A outer ad9 ad8 E).A (setFlight e none) (λ_ s₃=>wpAny (model P w) (a9 (cW P w cv) P w K mg base N qual scope f cd A outer ad9 ad8 E).A (handleBy e (a9 (cW P w cv) P w K mg base N qual scope f cd A outer ad9 ad8 E).env [.ExceptHandler (some (.Name x np)) (some n) (b₀::Hu) Aw]) (SP (a9 (cW P w cv) P w K mg base N qual scope f cd A outer ad9 ad8 E) f8 D) (a9 (cW P w cv) P w K mg base N qual scope f cd A outer ad9 ad8 E).xe s₃) (a9 (cW P w cv) P w K mg base N qual scope f cd A outer ad9 ad8 E).xe u8) (a9 (cW P w cv) P w K mg base N qual scope f cd A outer ad9 ad8 E).xe v4)
  (EX cv λk H'=>∃F',Ext G₀ J₀ F' H'/\WPS K Xw G₀ J₀ (noex (hd k)>>=λd=>ae (.rt d)) D):=by
  intro zf σ' H1 s1 e s' I1 ⟨ea,nn,a0,B,H',he,OO,VD,hok,un,Dp,hB,m,OL,F',ext',w'⟩;subst he;have EB:∀b∈fM (a9 (cW P w cv) P w K mg base N qual scope f cd A outer ad9 ad8 E).stack,H' b=none:=λb hb=>by
   obtain⟨_,o,ho,_⟩:=I1.stack.mem hb;exact un.free b o ho (I1.stkFree b hb) (by simp)
  have Rl:ea∉fM (a9 (cW P w cv) P w K mg base N qual scope f cd A outer ad9 ad8 E).stack:=λhb=>by
   obtain⟨_,o,ho,m_⟩:=Dp.2.2.1.mem hb;obtain⟨oe,vs,q1,_,q2,_⟩:=Dp.first;rw[q1] at ho;cases ho;exact m_ vs q2
  have TK:B.get? ea=none:=Dp.2.1;have vM:s1.heap.get? ea=none:=by
   cases q:s1.heap.get? ea with
   |none=>rfl
   |some o=>
    obtain⟨ob,h1,_⟩:=Dp.there;have:=hB ea ob h1 (.inr (by rw[q];rfl)) Rl;rw[TK] at this;cases this
  have TN:H' ea=none:=by
   cases q:H' ea with
   |none=>rfl
   |some u=>
    obtain⟨ob,h1,_⟩:=Dp.there;have:=hB ea ob h1 (.inl (by rw[q];exact λz=>nomatch z)) Rl;rw[TK] at this;cases this
  have KZ:∀h₅,B.StaysIn h₅->s'.heap.UpToSlots h₅->Inv (a9 (cW P w cv) P w K mg base N qual scope f cd A outer ad9 ad8 E) f8 σ' H' {s' with heap:=h₅}:=λh₅ st ups=>by
   have l8:∀b o,s'.heap.get? b=some o->b∉fM (a9 (cW P w cv) P w K mg base N qual scope f cd A outer ad9 ad8 E).stack->(H' b≠none\/(s1.heap.get? b).isSome=true)->h₅.get? b=some o:=λb o e hb hc=>st b o (hB b o e hc hb);have WU:Un (fM (a9 (cW P w cv) P w K mg base N qual scope f cd A outer ad9 ad8 E).stack) [] H1 H' s1.heap h₅:=xy un (λb o e hb hc=>l8 b o e hb hc) (λb o e hb=>by
    obtain⟨_,o',l6,m_⟩:=Dp.2.2.1.mem hb;rw[e] at l6;cases l6;exact ups b o e m_)
   have RZ:HOk P w H' h₅:=qx hok EB λb o e hb hc=>l8 b o e hb (.inl hc);exact gM (I1.call' (s':={s' with heap:=h₅}) (ch:=[]) OO WU RZ VD (λb hb=>ad3 hb (by simp))) rfl
  show wpAny (model P w) (a9 (cW P w cv) P w K mg base N qual scope f cd A outer ad9 ad8 E).A (noteFrame (.ref ea) (a9 (cW P w cv) P w K mg base N qual scope f cd A outer ad9 ad8 E).env) _ _ s';refine wpAny_looks_onW (base:=B) (outer:=outer) (L:=ad9.heap.objs.size) I1.ok.frames rfl Dp λh₄ OA Qg=>?_;refine wpAny_landsW OA λh₅ LA Qh=>?_;have J5:=KZ h₅ LA.1 (Qg.trans Qh);have M5:Inv (ku (a9 (cW P w cv) P w K mg base N qual scope f cd A outer ad9 ad8 E) ea λ_ _=>False) f8 σ' H' {s' with heap:=h₅}:=jM J5;refine wpAny_handleBy_cons (codeAny_handlers_test (l_ M5 hg hm ?_ l5)) (by intro q;cases q);have LT:Looks (model P w) h₅ (typeOf (.ref ea)) (cv nn):=by
   obtain⟨ob,h1,h2⟩:=LA.there;exact h2▸(Looks.ld h1).andThen .now
  refine(PySem.W.exm_one M5.kIn LT (hex nn)).here ?_;refine codeAny_handlers_suite_as ?_;refine lands_againW LA λh₆ Og Ti=>?_;have J6:=KZ h₆ Og.1 ((Qg.trans Qh).trans Ti);have M6:Inv (ku (a9 (cW P w cv) P w K mg base N qual scope f cd A outer ad9 ad8 E) ea λ_ _=>False) f8 σ' H' {s' with heap:=h₆}:=jM J6;have D1:ea≠(a9 (cW P w cv) P w K mg base N qual scope f cd A outer ad9 ad8 E).env.locals:=λz=>Rl (by rw[vP,z];exact Xk);have K4:∀y c,(a9 (cW P w cv) P w K mg base N qual scope f cd A outer ad9 ad8 E).env.cells.lookup y=some c->c≠ea:=λy c q z=>by
   obtain⟨v,o,ho,_⟩:=I1.cell y c q;rw[z,vM] at ho;cases ho
  refine oj J6 hN hi (.inl Au) (v:= .ref ea) rfl (λs7 I7 ⟨a,sb,ha⟩=>?_) (.inr Au);have Oz:BD s7.heap ea (cA nn):=by
   obtain⟨ob,h1,h2⟩:=Og.there;refine⟨ob,(sb.2 ea ?_).trans h1,by rw[h2,NQ]⟩;rcases ha with z | z
   ·rw[z];exact D1
   ·exact Yp (K4 n a z)
  have h0:ad9.heap.get? ea=none:=by
   cases q:ad9.heap.get? ea with
   |none=>rfl
   |some o=>
    obtain⟨o',q'⟩:=I1.base.there ea o q (λz=>ad3 (show ea∈([]:List Addr) from z) (by simp));rw[vM] at q';cases q'
  have I8:Inv (ku (a9 (cW P w cv) P w K mg base N qual scope f cd A outer ad9 ad8 E) ea λ_ _=>False) f8 (σ'.set i (some (.ref ea))) (upd H' ea (Lg ea (cA nn))) s7:=
   DB (jM I7) TN h0 D1 K4 (λp q z=>by
    have hp:=I1.pin p (YC _ (show p∈f8 from q));rw[z,vM] at hp;cases hp.1) ⟨Oz,(by obtain⟨ox,h1,_⟩:=Oz;exact⟨ox,h1⟩),λh1 h2 hx k=>vT hx k⟩
  have v6:σ'.length=N.length:=I1.len;have FF:i<σ'.length:=by rw[v6];exact(Xy.mp hi).1
  have eL:=Ext.lay (o:=Lg ea (cA nn)) ext'.fh TN;have hρ:((XC σ'.length none).set i (some (Sl.fz (.exc (cA nn)))))[i]? =some (some (.fz (.exc (cA nn)))):=XN (by simpa using FF);have only:∀(j:Nat) (sl:Sl),((XC σ'.length (none:Option Sl)).set i (some (Sl.fz (.exc (cA nn)))))[j]? =some (some sl)->j=i/\sl= .fz (.exc (cA nn)):=λj sl e=>by
   by_cases hj:j=i
   ·subst hj;rw[hρ] at e;cases e;exact⟨rfl,rfl⟩
   ·rw[XF (Yp hj),YR] at e;split at e<;>cases e
  have S8:StOk K G₀ J₀ (upd F' ea (Lg ea (cA nn))) (upd H' ea (Lg ea (cA nn))) (σ'.set i (some (.ref ea))) ((XC σ'.length none).set i (some (.fz (.exc (cA nn))))):=by
   refine⟨ext'.trans eL,⟨eL.fh,λj sl e=>?_⟩,by simp,λj c a e=>?_,λj k c c' a e=>?_⟩
   ·obtain⟨rfl,rfl⟩:=only j sl e;exact⟨.ref ea,XN FF,ea,rfl,aM⟩
   ·obtain⟨_,z⟩:=only j _ e;cases z
   ·obtain⟨_,z⟩:=only j _ e;cases z
  have Vn:cA m=cA nn:=by
   have:=OL;rw[NQ,NQ] at this;exact(adB this).symm
  have w8:WPS K (λ_ _=>False) G₀ J₀ (τh ((XC σ'.length none).set i (some (.fz (.exc (cA nn)))))) {nx:=λ_ _=>False,rt:=D.rt}:=by
   rw[hh m _ (by simpa using v6) (by rw[Vn];exact hρ)];rcases(hd m).cs with q | ⟨k,q⟩ | ⟨d,q⟩
   ·rw[q] at w';exact w'.elim
   ·rw[q] at w';exact w'.elim
   ·rw[q] at w'⊢;exact w'
  refine YA (hs ea G₀ J₀ f8 s7 _ _ {nx:=λ_ _=>False,rt:=D.rt} I8 ⟨_,_,S8,w8⟩) (λfl s8 q8=>?_) λ_ _ z=>z.elim;cases fl with
  |next=>obtain⟨_,_,_,z⟩:=q8;exact z.elim
  |brk=>obtain⟨_,_,_,z⟩:=q8;exact z.elim
  |cont=>obtain⟨_,_,_,z⟩:=q8;exact z.elim
  |ret u=>
   obtain⟨v,σ9,H9,I9,rv,q9⟩:=q8;have I10:Inv (a9 (cW P w cv) P w K mg base N qual scope f cd A outer ad9 ad8 E) f8 σ9 H9 s8:=vS I9 J5.ok.hd J5.ok.frames;obtain⟨mm,NT,_⟩:=I10.loc;exact wpAny_nameGoes Au NT (by rw[show (a9 (cW P w cv) P w K mg base N qual scope f cd A outer ad9 ad8 E).env.scope.kind= .function from I10.ok.kind];rfl) λh' m' RU B0=>⟨v,_,H9,Az I10 B0 RU,rv,q9⟩
 have wb:WPS K (λk H'=>∃F',Ext G₀ J₀ F' H'/\WPS K Xw G₀ J₀ (noex (hd k)>>=λd=>ae (.rt d)) D) G₀ J₀ (τb ρ) D:=by
  unfold Hi at wq
  match τb ρ,wq with
  |none,wq=>exact wq
  |some (.ok (.nx ρ')),wq=>exact wq
  |some (.ok (.rt d)),wq=>exact wq
  |some (.ex k),wq=>exact λF' H' e=>⟨F',e,wq⟩
 refine wpAny_Try_except (YA (hb f8 _ _ pass G₀ J₀ [] s σ H D (Dz I rfl) ⟨F,ρ,S,wb⟩) (λfl s1 q1=>?_) λ_ _ z=>z);cases fl with
 |next=>obtain⟨σ1,H1,I1,q⟩:=q1;exact aaS ⟨σ1,H1,gM I1 rfl,q⟩
 |brk=>obtain⟨σ1,H1,I1,q⟩:=q1;exact⟨σ1,H1,gM I1 rfl,q⟩
 |cont=>obtain⟨σ1,H1,I1,q⟩:=q1;exact⟨σ1,H1,gM I1 rfl,q⟩
 |ret u=>obtain⟨v,σ1,H1,I1,r,q⟩:=q1;exact⟨v,σ1,H1,gM I1 rfl,r,q⟩
end
end L3
namespace L3
open PySem PySem.Spec L2 SeqAt HT
open PyProof.Rows hiding St
structure RoomH (k:Nat) (A:X6):Prop where
 dp:A.depth+3*k+5<abR
 un:A.units+16*k+200<cLine
theorem RoomH.deeper{k:Nat}{A:X6}(r:RoomH (k+1) A)(env:Env):RoomH k (A.deeper env):=
 ⟨by have:=r.dp;show A.depth+1+3*k+5<_;omega,by have:=r.un;show A.units+3+16*k+200<_;omega⟩
theorem RoomH.of{k:Nat}{A:X6}(r:Room k A)(v:Option Value):RoomH k (A.mark v):=⟨r.dp,r.un⟩
theorem RoomH.units{k:Nat}{A:X6}(r:RoomH k A):A.units+64<cLine:=by have:=r.un;omega
structure FnOkH (P:XR) (w:World) (K:Xr) (mg:Str->Option Value) (base:Heap) (k:Nat) (f:Addr) (fd:ZC) (ps:List Str) (sp:Sp):Prop where
 len:∀vs H Q E,sp vs H Q E->vs.length=ps.length
 run:∀(A:X6) (outer:List Env) (s:Xl) (H:Hp) (args:Args) (us:List Value) (vs:List V) (Q:VK) (E:XK),RoomH k A->Env0 P w K mg base A outer s H->ac3 s fd args (ps.zip us)->Vals vs us->sp vs H Q E->
  aaK (model P w) A (.call (.ref f) args) (CR NY outer P w H s Q E) s
abbrev t5(P:XR)(w:World)(K:Xr)(mg:Str->Option Value)(base:Heap)(N:List Str)(qual:Str)(scope:Scope)(f:Addr)(cd:Value)(A:X6)(outer:List Env)(s:Xl)(H:Hp):Cx:=
 {a9 NY P w K mg base N qual scope f cd A outer s H E0 with calm:=false,xe:=λ_ _=>False}
theorem AA{P:XR}{w:World}{K:Xr}{mg:Str->Option Value}{base:Heap}{N ps:List Str}{qual:Str}{scope:Scope}{f:Addr}{cd:Value}{A:X6}{outer:List Env}{s s1:Xl}{H:Hp}{us:List Value}{vs:List V}
 (S:FnScope N ps scope)(e0:Env0 P w K mg base A outer s H)(hl:vs.length=ps.length)(r:Vals vs us)
 (x:InCallC s s.heap.objs.size (bindL (Y8 qual scope s.heap.objs.size f cd).kindOf (ps.zip us) λ_=>none) (acV (s.heap.objs.size+1) scope.names []) (bindC (Y8 qual scope s.heap.objs.size f cd).kindOf (ps.zip us) λ_=>none) s1):
 Inv (t5 P w K mg base N qual scope f cd A outer s H) [] (L2.start N vs) H s1:=by
 have e1:Env0 P w K mg base {A with handled:=none} outer s H:=⟨e0.frames,e0.mod,e0.bs,e0.bsz,e0.funs,e0.frf,e0.hok,e0.bare⟩
 have J:=um (CX:=NY) (E:=E0) (A:={A with handled:=none}) S rfl e1 hl r x;exact⟨⟨J.ok.mod,J.ok.kind,J.ok.glob,J.ok.blt,J.ok.above,J.ok.inj,J.ok.has,J.ok.cab,λz=>(by cases z),ac4 e0.frames,J.ok.stk,J.ok.exf,J.ok.bs,J.ok.bsz,J.ok.noex,J.ok.exfs,J.ok.funs,J.ok.frf⟩,J.os,J.bare,J.base,J.loc,J.cell,J.free,J.freeC,J.pin,J.hok,J.len⟩
theorem LD{P:XR}{w:World}{K:Xr}{mg:Str->Option Value}{base:Heap}{k:Nat}{f:Addr}{name qual:Str}{params:Arguments}{body:List Stmt}{scope:Scope}{dV kV doc pm cg ct oc:Value}{an od:Option Addr}
 {EF:Array (Option Value)}{N ps:List Str}{sp:Sp}(lk:K.lookup f=some ⟨oc,od, .func (YN name qual params body scope dV kV doc pm an cg ct),EF⟩)(uf:ZW K cg qual=true)(S:FnScope N ps scope)
 (len:∀vs H Q E,sp vs H Q E->vs.length=ps.length)
 (iB:∀(A:X6) (outer:List Env) (s:Xl) (H:Hp) (vs:List V) (Q:VK) (E:XK),RoomH k (A.deeper (Y8 qual scope s.heap.objs.size f cg))->sp vs H Q E->
  ∃t,PSs (t5 P w K mg base N qual scope f cg A outer s H) body t/\t {nx:=λ_ H'=>Q .non H',rt:=Q} (L2.start N vs) H):
 FnOkH P w K mg base (k+1) f (YN name qual params body scope dV kV doc pm an cg ct) ps sp:=by
 refine⟨len,λA outer s H args us vs Q E hr e0 hb r uh=>?_⟩;have hl:=len _ _ _ _ uh;have KX:K.In s.heap:=e0.mod.kin.keeps λb o e=>(e0.bs b o e).1;have lim:s.heap.NoLimit:=e0.mod.nolimit.keeps λb o e=>(e0.bs b o e).1;have FG:∀y∈ps.zip us,scope.names.lookup y.1=some .local\/(scope.names.lookup y.1=some .cell/\((acV (s.heap.objs.size+1) scope.names []).lookup y.1).isSome=true):=λ⟨n,v⟩ hy=>by
  rcases S.par n (abj hy).1 with q | q
  ·exact .inl q
  ·exact .inr ⟨q,aa1 _ _ _ (.inl q)⟩
 have RC:A.depth<abR:=by have:=hr.dp;omega
 refine codeAny_call_function RC (KX _ _ lk) rfl S.co S.gen rfl (ac8 KX uf) (hb _ _ _ _ ?_);refine ac5 S.kind FG λenv he s1 x=>?_;subst he;refine⟨lim.keeps x.toInCall.keep,codeAny_func ?_⟩;obtain⟨t,ht,hq⟩:=iB A outer s H vs Q E (hr.deeper _) uh;have I:Inv (t5 P w K mg base N qual scope f cg A outer s H) [] (L2.start N vs) H s1:=AA S e0 hl r x;refine YA (ht [] s1 (L2.start N vs) H _ I hq) (λfl s' hs=>?_) λe s' hs=>hs.elim;have fin:∀{σ':St}{H':Hp}{v:V}{u:Value},Inv (t5 P w K mg base N qual scope f cg A outer s H) [] σ' H' s'->RelV v u->Q v H'->CE outer P w H s Q u s':=
  λ{σ' H' v u} J rv q=>⟨v,H',J.os,J.bare,J.base,J.hok,rv,q⟩
 cases fl with
 |ret u=>
  obtain⟨v,σ',H',J,rv,q⟩:=hs;exact fin J rv q
 |next=>
  obtain⟨σ',H',J,q⟩:=hs;exact fin (v:=V.non) (u:=Yk) J rfl q
 |brk=>
  obtain⟨_,_,_,q⟩:=hs;exact YX q
 |cont=>
  obtain⟨_,_,_,q⟩:=hs;exact YX q
theorem Hs{K:Xr}{F H:Hp}{N:List Str}{ds:List D}{vs:List V}(fh:Same F H)(hd:DenL K F ds vs):StOk K F H F H (L2.start N vs) (ds.map (λd=>some (Sl.fz d))++XC (N.length - ds.length) none):=by
 have v6:=hd.len;have get:∀(i:Nat) (sl:Sl),(ds.map (λd=>some (Sl.fz d))++XC (N.length - ds.length) none)[i]? =some (some sl)->∃d,ds[i]? =some d/\sl= .fz d:=λi sl e=>by
  by_cases hi:i<ds.length
  ·rw[Yb (by simpa using hi),Xv] at e;cases q:ds[i]? with
   |none=>rw[q] at e;cases e
   |some d=>rw[q] at e;cases e;exact⟨d,rfl,rfl⟩
  ·rw[Yg (by simpa using hi),YR] at e;split at e<;>cases e
 refine⟨Ext.refl fh,⟨fh,λi sl e=>?_⟩,?_,λi c a e=>?_,λi j c c' a e=>?_⟩
 ·obtain⟨d,q,rfl⟩:=get i sl e;obtain⟨v,e1,e2⟩:=hd.get q;have hi:=(Xy.mp q).1;refine⟨v,?_,e2⟩;unfold L2.start;rw[Yb (by simp;omega),Xv,e1];rfl
 ·unfold L2.start;simp[v6]
 ·obtain⟨d,_,z⟩:=get i _ e;cases z
 ·obtain⟨d,_,z⟩:=get i _ e;cases z
section
variable{P:XR}{w:World}{K:Xr}{mg:Str->Option Value}{base:Heap}{cv:Nat->Value}
theorem Oi{x qual:Str}{st:Stmt}{f:Addr}{fd:ZC}{N ps:List Str}{k:Nat}{τ:DS}(Fn:Fun K x qual st f fd)(S:FnScope N ps (ai st))
 (iB:∀(cg:Value) (A:X6) (outer:List Env) (s:Xl) (H:Hp),RoomH k (A.deeper (Y8 qual (ai st) s.heap.objs.size f cg))->
  PSDs (t5 P w K mg base N qual (ai st) f cg A outer s H) (λ_ _=>False) (aZ st) τ):FnOkH P w K mg base (k+1) f fd ps (EI K cv ps.length λds=>noex (bX N.length τ ds)):=by
 obtain⟨oc,od,kV,doc,pm,an,cg,ct,EF,rfl,lk,uf⟩:=Fn.ex;refine LD lk uf S (λvs H Q E ⟨_,_,_,_,hl,_⟩=>hl) λA outer s H vs Q E hr uh=>?_;obtain⟨F,ds,fh,hd,hl,hw⟩:=uh;refine⟨_,iB cg A outer s H hr F H,F,_,Hs fh hd,?_⟩;have hw:WP K (λn H'=>E (cv n) none H') F H (noex (τ (ds.map (λd=>some (Sl.fz d))++XC (N.length - ds.length) none)>>=λo=>match o with | .nx _=>ae .non | .rt d=>ae d)) Q:=hw;rcases(τ (ds.map (λd=>some (Sl.fz d))++XC (N.length - ds.length) none)).cs with e | ⟨n,e⟩ | ⟨o,e⟩
 ·rw[e] at hw;exact hw.elim
 ·rw[e] at hw;exact hw.elim
 ·rw[e] at hw⊢;cases o with
  |nx ρ'=>exact λσ' F' H' s'=>hw .non H' F' s'.ext rfl
  |rt d=>exact λv F' H' e' q=>hw v H' F' e' q
end
section
variable{X:Cx}{Xw:Nat->Hp->Prop}{cv:Nat->Value}{k m:Nat}{f:Addr}{fd:ZC}{ps:List Str}{g:List D->M D}{x:Str}{p pos:Pos}{e:Expr}{es:List Expr}{δs:DA}
theorem GI(F:FnOkH X.prog X.w X.K X.mg X.base k f fd ps (EI X.K cv m g))(hr:RoomH k X.A)(hg:Gl X x)(hm:X.mg x=some (.ref f))(hk:YV X.K (.ref f)=true)(hb:Binds X.K fd ps [])
 (ha:gV X Xw (e::es) δs)(l5:(x==("__debug__":Str))=false:=by decide)(he:Xz (e::es) X.env=(false,eval e X.env)::Xz es X.env:=by rfl)(kK:(Y9 pos (Xz es X.env)).any (·.1)=false:=by rfl):
 PD X Xw (.Call (.Name x p) (e::es) [] pos) (λρ=>δs ρ>>=λds=>if ds.length=m then noex (g ds) else ag):=by
 intro f8 s σ H Q I ⟨Fz,ρ,S,wq⟩;refine aa4 (l_ I hg hm ?_ l5);refine abu (h₀:=X.base) I.ok.mod.kin hk (cC (ha pos f8 s σ H _ I ⟨Fz,ρ,S,WP.bindL wq⟩) λus s1 ⟨vs,H1,I1,r,q⟩=>⟨I1.kIn,?_⟩) he kK;obtain⟨F1,ds,e1,q1,w1⟩:=q;split at w1
 ·rename_i FH;have uh:EI X.K cv m g vs H1 Q E0:=⟨F1,ds,e1.fh,q1,by rw[<-q1.len];exact FH,by
   rcases(g ds).cs with q | ⟨n,q⟩ | ⟨d,q⟩
   ·rw[q] at w1;exact w1.elim
   ·rw[q] at w1;exact w1.elim
   ·rw[q] at w1⊢;exact w1⟩
  have VT:us.length=ps.length:=by rw[<-r.length];exact F.len _ _ _ _ uh
  refine wpAny_call (acz (F.run X.A X.stack s1 H1 ⟨us,[]⟩ us vs Q E0 hr I1.env0 (by have:=hb s1 us I1.kIn (by rw[X0];exact VT);rwa [X0] at this) r uh) λres s' hq=>?_);cases res with
  |error e=>exact hq.elim
  |ok fl=>
   cases fl with
   |ret u=>exact I1.after hq
   |next=>exact YX hq
   |brk=>exact YX hq
   |cont=>exact YX hq
 ·exact w1.elim
end
def BQ(N:List Str)(osc scope:Scope)(tn:List Str):Bool:=
 decide (scope.kind= .function)&&scope.names.all (λy=>decide (y.2≠ .cell))&&scope.names.all (λy=>decide (y.2= .local->scope.names.lookup y.1=some .local))&&
 scope.names.all (λy=>decide (y.2= .free->(osc.names.lookup y.1=some .cell\/osc.names.lookup y.1=some .free)))&&
 ((cT tn N).zip N).all (λp=>decide (scope.names.lookup p.1=none\/(p.1=p.2/\scope.names.lookup p.1=some .free)))
theorem bA{X:Cx}{N:List Str}{osc scope:Scope}{tn:List Str}(hN:X.N=N)(ho:X.env.scope=osc)(h:BQ N osc scope tn=true):CompSc X scope tn:=by
 unfold BQ at h;simp only[XO,Yl,adZ] at h;obtain⟨⟨⟨⟨h1,h2⟩,h3⟩,h4⟩,h5⟩:=h;refine⟨h1,h2,h3,λy hy hf=>?_,?_⟩
 ·have:=h4 y hy hf;rw[<-ho] at this;exact this
 ·rw[hN];exact h5
theorem cJ{X:Cx}{x:Str}{px:Pos}{σ:St}(hN:X.N.Nodup)(h0:X.N[0]? =some x)(Au:X.env.scope.names.lookup x=some .local):CQ X (.Name x px) 0 σ:=λf8 s σ' F H d ts v u I fh hd rv q e=>by
 have e:ae [d]=ae ts:=e;have e:=gq e;subst e;refine aci (zC I hN h0 (.inl Au) rv (λs' I'=>⟨[v],?_, .cons q .nil⟩) (.inr Au));have hl:0<σ'.length:=by rw[I.len];exact(Xy.mp h0).1
 have:σ'.set 0 (some v)=[v].map some++σ:=by
  cases σ' with
  |nil=>simp at hl
  |cons a r=>
   have hd:r=σ:=by simpa using hd
   subst hd;rfl
 rw[<-this];exact I'
theorem cU{P:XR}{w:World}{cv:Nat->Value}{X:Cx}:Passes (cW P w cv) X (EX cv λ_ _=>False):=λ_ _ _ _ _ _ _ ⟨_,_,_,_,_,_,_,_,_,_,_,_,_,_,z⟩=>z.elim
def bJ(K:Xr)(mg:Str->Option Value)(x:Str)(st:Stmt)(f:Addr):Prop:=mg x=some (.ref f)/\∃fd,Fun K x x st f fd
def aw(P:XR)(w:World)(K:Xr)(mg:Str->Option Value)(base:Heap)(cv:Nat->Value)(k:Nat)(x:Str)(m:Nat)(g:List D->M D):Prop:=
 ∃f fd ps,mg x=some (.ref f)/\YV K (.ref f)=true/\Binds K fd ps []/\FnOk P w K mg base (cW P w cv) k f fd ps (EI K cv m g)
section
variable{X:Cx}{Xw:Nat->Hp->Prop}{cv:Nat->Value}{k m:Nat}{g:List D->M D}{x:Str}{p pos:Pos}{e:Expr}{es:List Expr}{δs:DA}
def az(m:Nat)(g:List D->M D)(δs:DA):DE:=λρ=>δs ρ>>=λds=>if ds.length=m then g ds else ag
theorem bH(F:aw X.prog X.w X.K X.mg X.base cv k x m g)(hr:Room k X.A)(hg:Gl X x)(hx:Passes (cW X.prog X.w cv) X (EX cv Xw))
 (ha:gV X Xw (e::es) δs)(hl:(e::es).length=m)(l5:(x==("__debug__":Str))=false:=by decide)(he:Xz (e::es) X.env=(false,eval e X.env)::Xz es X.env:=by rfl)(kK:(Y9 pos (Xz es X.env)).any (·.1)=false:=by rfl):
 PD X Xw (.Call (.Name x p) (e::es) [] pos) (az m g δs):=by
 obtain⟨f,fd,ps,h1,h2,h3,h4⟩:=F;exact JB h4 hr hg h1 h2 h3 hx ha hl l5 he kK
end
theorem aJ{P:XR}{w:World}{K:Xr}{mg:Str->Option Value}{base:Heap}{cv:Nat->Value}{k:Nat}{x:Str}{st:Stmt}{f:Addr}{N ps:List Str}{τ:DS}(T:bJ K mg x st f)(S:FnScope N ps (ai st))
 (Rw:∀(kV doc pm:Value) (an:Option Addr) (cg ct:Value) (us:List Value),us.length=ps.length->bindArgs (YN x x (eV st) (aZ st) (ai st) .none kV doc pm an cg ct) ⟨us,[]⟩=pure (ps.zip us))
 (iB:∀(cg:Value) (A:X6) (outer:List Env) (s:Xl) (H:Hp) (E:XK),Room k (A.deeper (Y8 x (ai st) s.heap.objs.size f cg))->
  PSDs (a9 (cW P w cv) P w K mg base N x (ai st) f cg A outer s H E) (λn H'=>E (cv n) none H') (aZ st) τ):aw P w K mg base cv (k+1) x ps.length (bX N.length τ):=by
 obtain⟨h1,fd,Fn⟩:=T;exact⟨f,fd,ps,h1,Fn.kp,Fn.binds Rw,Oh Fn S iB⟩
section
variable{X:Cx}{Xw:Nat->Hp->Prop}{a:Expr}{δ:DE}{pos:Pos}
def ra:D->M D
 | .int i=>ae (.int (-i))
 |_=>ag
theorem lC(ha:PD X Xw a δ):PD X Xw (.UnaryOp .USub a pos) (d1 ra δ):=PE.weak (Px NI ha) λσ H Q ⟨F,ρ,s,w⟩=>by
 refine⟨F,ρ,s,WP.mono (WP.bind w) λv H1 ⟨F1,d,e1,q,w1⟩=>?_⟩;cases d with
 |int i=>
  have q:v= .int i:=q;subst q;exact⟨i,rfl,WP.now w1 e1.fh rfl⟩
 |_=>exact w1.elim
end
section
variable{X:Cx}{Xw:Nat->Hp->Prop}{pos:Pos}
theorem JF{x z:Str}(hg:Gl X x)(h:∃t,X.mg x=some (.str z t))(hz:z.length<=lim)(l5:(x==("__debug__":Str))=false:=by decide):PD X Xw (.Name x pos) (dC (.str z)):=by
 obtain⟨t,h⟩:=h;exact wM (v:= .str z) hg h ⟨t,rfl⟩ (λ_=>⟨rfl,hz⟩) l5
theorem wN{x:Str}{i:Int}(hg:Gl X x)(h:∃t,X.mg x=some (.int i t))(l5:(x==("__debug__":Str))=false:=by decide):PD X Xw (.Name x pos) (dC (.int i)):=by
 obtain⟨t,h⟩:=h;exact wM (v:= .int i) hg h ⟨t,rfl⟩ (λ_=>rfl) l5
theorem jh{x:Str}{a:Addr}(hg:Gl X x)(h:X.mg x=some (.ref a))(l5:(x==("__debug__":Str))=false:=by decide):PD X Xw (.Name x pos) (dC (.raw (.ref a))):=
 wM (v:= .ref a) hg h rfl (λ_=>rfl) l5
end
def J2(sc osc:Scope):Scope:={sc with names:=sc.names.map λ(n,k)=>if (k== .free&&osc.kind== .function&&osc.names.lookup n==some .cell) then(n, .cell) else(n,k)}
def pU(P:XR)(w:World)(K:Xr)(mg:Str->Option Value)(base:Heap)(cv:Nat->Value)(k:Nat)(x:Str)(m:Nat)(g:List D->M D):Prop:=
 ∃f fd ps,mg x=some (.ref f)/\YV K (.ref f)=true/\Binds K fd ps []/\FnOkH P w K mg base k f fd ps (EI K cv m λds=>noex (g ds))
def EV(m:Nat)(g:List D->M D)(δs:DA):DE:=λρ=>δs ρ>>=λds=>if ds.length=m then noex (noex (g ds)) else ag
theorem Ih{X:Cx}{Xw:Nat->Hp->Prop}{cv:Nat->Value}{k m:Nat}{g:List D->M D}{x:Str}{p pos:Pos}{e:Expr}{es:List Expr}{δs:DA}(F:pU X.prog X.w X.K X.mg X.base cv k x m g)(hr:RoomH k X.A)(hg:Gl X x)
 (ha:gV X Xw (e::es) δs)(l5:(x==("__debug__":Str))=false:=by decide)(he:Xz (e::es) X.env=(false,eval e X.env)::Xz es X.env:=by rfl)(kK:(Y9 pos (Xz es X.env)).any (·.1)=false:=by rfl):
 PD X Xw (.Call (.Name x p) (e::es) [] pos) (EV m g δs):=by
 obtain⟨f,fd,ps,h1,h2,h3,h4⟩:=F;exact GI h4 hr hg h1 h2 h3 ha l5 he kK
theorem Aa{P:XR}{w:World}{K:Xr}{mg:Str->Option Value}{base:Heap}{cv:Nat->Value}{k:Nat}{x:Str}{st:Stmt}{f:Addr}{N ps:List Str}{τ:DS}(T:bJ K mg x st f)(S:FnScope N ps (ai st))
 (Rw:∀(kV doc pm:Value) (an:Option Addr) (cg ct:Value) (us:List Value),us.length=ps.length->bindArgs (YN x x (eV st) (aZ st) (ai st) .none kV doc pm an cg ct) ⟨us,[]⟩=pure (ps.zip us))
 (iB:∀(cg:Value) (A:X6) (outer:List Env) (s:Xl) (H:Hp),RoomH k (A.deeper (Y8 x (ai st) s.heap.objs.size f cg))->
  PSDs (t5 P w K mg base N x (ai st) f cg A outer s H) (λ_ _=>False) (aZ st) τ):pU P w K mg base cv (k+1) x ps.length (bX N.length τ):=by
 obtain⟨h1,fd,Fn⟩:=T;exact⟨f,fd,ps,h1,Fn.kp,Fn.binds Rw,Oi Fn S iB⟩
structure Box (p:Prop):Prop where
 out:p
section
variable{X:Cx}{Xw:Nat->Hp->Prop}
theorem fB{st:Stmt}{W1:List Stmt}{τ τ':DS}(h1:Box (iq X Xw st τ))(h2:Box (PSDs X Xw W1 τ')):Box (PSDs X Xw (st::W1) (aI τ τ')):=⟨aj h1.out h2.out⟩
theorem Lp{st:Stmt}{τ:DS}(h1:Box (iq X Xw st τ)):Box (PSDs X Xw [st] τ):=⟨ar h1.out⟩
end
theorem Qi{l:adE}{n k:Nat}{q:XR}{loose:List Str}{XP:(Str->Option Value)->Heap->Prop}{YP:World->Heap->Prop}{d:DefRec}{K:Params->Xr}{x:Str}{g:List D->M D}
 (hn:l.most=some n)(QI:n<=lim)(Oy:d.params.defaults=[])(hr:Room k acm)
 (hY:∀(w:World) (h:Heap),YP w h->(K w.params).In h)(hg:∀ns:List Int,ns.length<=n->g [.scr ns]=ae (.bl true))
 (F:∀(w:World) (mg:Str->Option Value) (fa:Addr) (h:Heap),(K w.params).In h->h.Ns XJ mg->mg d.name=some (.ref fa)->
  ∃(cv:Nat->Value) (fd:ZC),(∀(s:Xl) (u:Value),ac3 s fd ⟨[u],[]⟩ [(x,u)])/\
   ∀base:Heap,(K w.params).In base->base.Ns XJ mg->FnOk l.prog w (K w.params) mg base (cW l.prog w cv) k fa fd [x] (EI (K w.params) cv 1 g)):
 PySem.W.WalkO q loose XP YP l.row.toRowW d [] (λf vs=>adD f vs):=by
 refine Att.attach_call hn Oy λw ad9 v4 mg mb fa o pm cd doc a vs ns G Y ho hd uf LU FL hints v6 VE=>?_;have KX:=hY w _ Y;obtain⟨cv,fd,hb,hF⟩:=F w mg fa _ KX G.T.g LU;refine yC KX G.T.g G.T.b G.T.builtins G.T.nolimit VE FL hints (X2 v6 (X2 QI (Y6 d6))) hr hF hb (λH hO hS=>?_) λH e s' z=>?_
 ·refine⟨H,[.scr ns],λ_ _ e=>e,⟨_,_,rfl,⟨a,rfl,hS,X2 v6 QI⟩,rfl⟩,rfl,?_⟩;rw[hg ns v6];exact λv H' F' e q=>q
 ·obtain⟨_,_,_,_,_,_,_,_,_,_,_,_,_,_,y⟩:=z
theorem A8{K:Xr}{h:Heap}{mg:Str->Option Value}{x:Str}{C:Addr}{ms:List Value}{id:String}(hK:K.In h)(hG:h.Ns XJ mg)(at':XU K XJ x=some (some (.ref C)))
 (qq:aaU K C ms id=true):OwnCls x C ms id mg h:=OwnCls.mk (Yy hK hG at')<|by
 revert qq;unfold aaU;split<;>intro qq
 rotate_left
 ·exact Bool.noConfusion qq
 rename_i Oc Nq UB LF;split at qq
 rotate_left
 ·exact Bool.noConfusion qq
 rename_i C₁ Sz v0 v1 v2 v3 Wv v5 em es;rw[XO,XO,XO,XO,XO] at qq;rcases qq with⟨⟨⟨⟨⟨q1,q2⟩,q3⟩,q4⟩,q5⟩,q6⟩
 have q1:=eq_of_beq q1;have q2:=eq_of_beq q2;have q6:=eq_of_beq q6;have q3:Nq.hasDel=false:=by
  cases z:Nq.hasDel
  ·rfl
  ·rw[z] at q3;cases q3
 subst q1 q2;rcases Nq with⟨r1,r2,r3,r4,r5,r6,r7,r8,r9,WI,WJ⟩
 have em:r3=_:=em;have q3:WJ=false:=q3;subst em q3;have WL:UB= #[v0,v1,v2,v3,some (.builtin Wv),v5]:=by
  rcases UB with⟨y⟩
  exact ad7 Array.mk es
 subst WL;have n5:=Heap.Ns.of_isNs (PySem.W.isNs_of_in hK q5);have n6:=PySem.W.nsMap_none_of_in hK q5 q6;exact⟨Sz,r4,r1,r5,r2,r6,r7,r8,r9,WI,Oc,v0,v1,v2,v3,v5,_,hK _ _ LF,n5,n6,PySem.W.tail_of_in hK q4⟩
theorem Aj{K:Xr}{t c:Value}(h1:PySem.W.subIn K c (.type "BaseException")=some true)(h2:XD K t c=some true)(iT:(t==c)=false):aaL K t c=some true:=by
 unfold aaL;unfold XD at h2;rw[iT] at h2;rw[h1];exact h2
section
end
def IsTupRev(h:Heap)(it t:Addr)(i:Int):Prop:=∃o,h.get? it=some o/\o.cls= .type "reversed"/\o.data= .fields #[.ref t,abg i]
section
variable{s:Xl}
theorem IsTupRev.typeIs{it t:Addr}{i:Int}(x:IsTupRev s.heap it t i):s.TypeIs (.ref it) "reversed":=let ⟨o,ho,hc,_⟩:=x;⟨o,ho,hc⟩
end
section
variable{X:Cx}{Xw:Nat->Hp->Prop}{e:Expr}{es:List Expr}{δi:DE}{δs:DA}{pos:Pos}
def Py(gs:List (List D->M D))(m:Nat)(i:D)(ds:List D):M D:=match i with
 | .int k=>match L2.atI gs k with
   |some g=>if ds.length=m then g ds else ag
   |none=>ag
 |_=>ag
def Gx(gs:List (List D->M D)):D->Bool
 | .int k=>(L2.atI gs k).isSome
 |_=>false
def Kw(gs:List (List D->M D))(m:Nat)(δi:DE)(δs:DA):DE:=λρ=>δi ρ>>=λi=>if Gx gs i then δs ρ>>=λds=>Py gs m i ds else ag
theorem GO{cv:Nat->Value}{k0 k1 k2 m:Nat}{x0 x1 x2:Str}{g0 g1 g2:List D->M D}{ie:Expr}{p0 p1 p2 pl ps:Pos}
 (F0:aw X.prog X.w X.K X.mg X.base cv k0 x0 m g0)(F1:aw X.prog X.w X.K X.mg X.base cv k1 x1 m g1)(F2:aw X.prog X.w X.K X.mg X.base cv k2 x2 m g2)
 (r0:Room k0 X.A)(r1:Room k1 X.A)(r2:Room k2 X.A)(Vx:Gl X x0)(Vy:Gl X x1)(Vz:Gl X x2)(hx:Passes (cW X.prog X.w cv) X (EX cv Xw))(hi:PD X Xw ie δi)
 (ha:gV X Xw (e::es) δs)(hl:(e::es).length=m)(Vp:(x0==("__debug__":Str))=false:=by decide)(QE:(x1==("__debug__":Str))=false:=by decide)(hd2:(x2==("__debug__":Str))=false:=by decide)
 (he:Xz (e::es) X.env=(false,eval e X.env)::Xz es X.env:=by rfl)(kK:(Y9 pos (Xz es X.env)).any (·.1)=false:=by rfl)(hs:iU ie:=by intro _ _;rfl)
 (V_:eval (.Call (.Subscript (.List [.Name x0 p0, .Name x1 p1, .Name x2 p2] pl) ie ps) (e::es) [] pos) X.env=(do callWith pos (<-eval (.Subscript (.List [.Name x0 p0, .Name x1 p1, .Name x2 p2] pl) ie ps) X.env) [] (Y9 pos (Xz (e::es) X.env)) (aaP pos (ZJ [] X.env))):=by rfl):
 PD X Xw (.Call (.Subscript (.List [.Name x0 p0, .Name x1 p1, .Name x2 p2] pl) ie ps) (e::es) [] pos) (Kw [g0,g1,g2] m δi δs):=by
 obtain⟨f0,U2,WE,a0,b0,c0,d0⟩:=F0;obtain⟨f1,U3,WG,a1,b1,c1,d1⟩:=F1;obtain⟨f2,U4,WH,a2,b2,c2,d2⟩:=F2;have hf:=K_ (X:=X) (pos:=ps) vU (wR (pos:=pl) (kA (p7 (pos:=p0) Vx a0 (v:= .ref f0) rfl Vp) (kA (p7 (pos:=p1) Vy a1 (v:= .ref f1) rfl QE) (kA (p7 (pos:=p2) Vz a2 (v:= .ref f2) rfl hd2) rD)))) hi hs;intro f8 s σ H Q I ⟨F,ρ,S,w⟩;refine Call_ (cC (hf f8 s σ H (λv H1=>∃F1 kk gg f fd ps,Ext F H F1 H1/\v= .ref f/\YV X.K (.ref f)=true/\Binds X.K fd ps []/\FnOk X.prog X.w X.K X.mg X.base (cW X.prog X.w cv) kk f fd ps (EI X.K cv m gg)/\Room kk X.A/\
  WP X.K Xw F1 H1 (δs ρ>>=λds=>if ds.length=m then gg ds else ag) Q) I ?_) λv s1 ⟨x,H1,I1,r,F1,kk,gg,f,fd,ps,e1,hv,hk,hb,hF,hr,w1⟩=>?_) V_
 ·refine⟨by show 3<=XH;rw[Zw];decide,λq hq=>?_⟩;have E0:Ext F H F (upd H q (.lst [.ref f0, .ref f1, .ref f2])):=Ext.free S.fh hq;refine⟨F,ρ,S.ext E0,WP.mono (WP.bind (WP.ext E0 w)) λv H1 ⟨F1,d,e1,q1,w1⟩=>?_⟩;split at w1
  ·rename_i hok;unfold Gx at hok;split at hok
   ·rename_i k;cases (show v=_ from q1);have R5:H1 q=some (.lst [.ref f0, .ref f1, .ref f2]):=e1.hh _ _ aM;have w1:WP X.K Xw F1 H1 (δs ρ>>=λds=>match L2.atI [g0,g1,g2] k with | some g=>if ds.length=m then g ds else ag | none=>ag) Q:=w1;obtain⟨g,hg⟩:=Yj.mp hok;rw[hg] at w1;unfold L2.atI at hg;cases hj:AG 3 k with
    |none=>
     have hg:(AG 3 k).bind (λj=>[g0,g1,g2][j]?)=some g:=hg;rw[hj] at hg;cases hg
    |some j=>
     have hg:(AG 3 k).bind (λj=>[g0,g1,g2][j]?)=some g:=hg;rw[hj] at hg;have Rg:∀v,[V.ref f0, .ref f1, .ref f2][j]? =some v->L2.atI [V.ref f0, .ref f1, .ref f2] k=some v:=λv hv=>by
      show (AG 3 k).bind (λj=>[V.ref f0, .ref f1, .ref f2][j]?)=some v;rw[hj];exact hv
     have hg:[g0,g1,g2][j]? =some g:=hg
     match j,hg with
     |0,hg=>cases hg;exact⟨q,_,k, .ref f0,rfl,rfl,SqL.of R5,Rg _ rfl,F1,k0,g0,f0,U2,WE,E0.trans e1,rfl,b0,c0,d0,r0,w1⟩
     |1,hg=>cases hg;exact⟨q,_,k, .ref f1,rfl,rfl,SqL.of R5,Rg _ rfl,F1,k1,g1,f1,U3,WG,E0.trans e1,rfl,b1,c1,d1,r1,w1⟩
     |2,hg=>cases hg;exact⟨q,_,k, .ref f2,rfl,rfl,SqL.of R5,Rg _ rfl,F1,k2,g2,f2,U4,WH,E0.trans e1,rfl,b2,c2,d2,r2,w1⟩
     |n+3,hg=>cases hg
   ·cases hok
  ·exact w1.elim
 ·subst hv;cases (show v=_ from r);refine abu (h₀:=X.base) I1.ok.mod.kin hk (cC (ha pos f8 s1 σ H1 (λvs H2=>EI X.K cv m gg (vs++[]) H2 Q (EX cv Xw)) I1 ⟨F1,ρ,S.ext e1,WPL.mono (WP.bindL w1) λvs H2 ⟨F2,ds,e2,q2,w2⟩=>?_⟩) λus s2 ⟨vs,H2,I2,rr,q⟩=>⟨I2.kIn,?_⟩) he kK
  ·split at w2
   ·rename_i FH;exact⟨F2,ds,e2.fh,by simpa using q2,by rw[X0,<-q2.len];exact FH,WP.xw w2 λn H h=>⟨n,rfl,h⟩⟩
   ·exact w2.elim
  ·exact Hf hF hr hb .nil hx I2 rr q
end
def AI:D->Option Key
 | .int i=>some (.inl i)
 | .str x=>some (.inr x)
 |_=>none
def vV:List D->Option (List Key)
 |[]=>some []
 |d::ds=>match AI d,vV ds with
  |some k,some ks=>some (k::ks)
  |_,_=>none
def eR:D->Option (List Key)
 | .tup ds=>vV ds
 |_=>none
theorem qI{K:Xr}{F:Hp}{d:D}{v:V}{k:Key}(e:AI d=some k)(h:Den K F d v):v=kV k:=by
 cases d<;>first | cases e | skip
 ·exact h
 ·exact h.1
theorem iD{K:Xr}{F:Hp}:∀{ds:List D}{vs:List V}{ks:List Key},vV ds=some ks->DenL K F ds vs->vs=ks.map kV
 |[],_,_,e,h=>by cases e;exact h
 |d::ds,_,_,e,⟨v,r,h1,h2,h3⟩=>by
  unfold vV at e;split at e
  ·rename_i k ks e1 e2;cases e;subst h1;rw[Xp,qI e1 h2,iD e2 h3]
  ·cases e
section
variable{κ:Type}[DecidableEq κ]
def fZ:List κ->List D->κ->Option D
 |k'::ks,d::ds,k=>if k'=k then some d else fZ ks ds k
 |_,_,_=>none
def n9:List κ->List D->κ->D->List D
 |k'::ks,d'::ds,k,d=>(if k'=k then d else d')::n9 ks ds k d
 |_,_,_,_=>[]
theorem mU{K:Xr}{F:Hp}:∀{ks:List κ}{ds:List D}{vs:List V}(k:κ),DenL K F ds vs->ks.length=ds.length->
 (match fZ ks ds k with | some d=>∃v,mW (ks.zip vs) k=some v/\Den K F d v | none=>mW (ks.zip vs) k=none)
 |[],[],_,_,_,_=>rfl
 |k'::ks,d::ds,_,k,⟨v,r,h1,h2,h3⟩,hl=>by
  subst h1;unfold fZ;rw[YO];by_cases e:k'=k
  ·rw[adY e,mY (p:=(k',v)) e];exact⟨v,rfl,h2⟩
  ·rw[ad0 e,mX (p:=(k',v)) e];exact mU k h3 (by simpa using hl)
 |[],_::_,_,_,_,hl=>by simp at hl
 |_::_,[],_,_,_,hl=>by simp at hl
theorem kj{K:Xr}{F:Hp}{ks:List κ}{ds:List D}{vs:List V}(k:κ)(h:DenL K F ds vs)(hl:ks.length=ds.length):(mW (ks.zip vs) k).isSome=(fZ ks ds k).isSome:=by
 have:=mU k h hl;split at this
 ·rename_i d e;obtain⟨v,e1,_⟩:=this;rw[e1,e];rfl
 ·rename_i e;rw[this,e];rfl
theorem zo{K:Xr}{F:Hp}{d:D}{v:V}(hd:Den K F d v):∀{ks:List κ}{ds:List D}{vs:List V}(k:κ),DenL K F ds vs->ks.length=ds.length->
 ∃ws,(ks.zip vs).map (λkv=>if kv.1=k then(kv.1,v) else kv)=ks.zip ws/\DenL K F (n9 ks ds k d) ws
 |[],[],_,_,h,_=>⟨[],rfl,rfl⟩
 |k'::ks,d'::ds,_,k,⟨v',r,h1,h2,h3⟩,hl=>by
  subst h1;obtain⟨ws,e1,e2⟩:=zo hd k h3 (by simpa using hl);by_cases e:k'=k
  ·refine⟨v::ws,?_,?_⟩
   ·rw[YO,Xp,e1,adY e];rfl
   ·unfold n9;rw[adY e];exact .cons hd e2
  ·refine⟨v'::ws,?_,?_⟩
   ·rw[YO,Xp,e1,ad0 e];rfl
   ·unfold n9;rw[ad0 e];exact .cons h2 e2
 |[],_::_,_,_,_,hl=>by simp at hl
 |_::_,[],_,_,_,hl=>by simp at hl
theorem j6:∀(ks:List κ) (ds:List D) (k:κ) (d:D),ks.length=ds.length->(n9 ks ds k d).length=ds.length
 |[],[],_,_,_=>rfl
 |_::ks,_::ds,k,d,h=>by unfold n9;rw[Xo,Xo,j6 ks ds k d (by simpa using h)]
 |[],_::_,_,_,h=>by simp at h
 |_::_,[],_,_,h=>by simp at h
def dZ(ks:List κ)(ds:List D)(k:κ):List κ:=if (fZ ks ds k).isSome then ks else ks++[k]
def c7(ks:List κ)(ds:List D)(k:κ)(d:D):List D:=if (fZ ks ds k).isSome then n9 ks ds k d else ds++[d]
theorem wV{K:Xr}{F:Hp}{d:D}{v:V}(hd:Den K F d v){ks:List κ}{ds:List D}{vs:List V}(k:κ)(h:DenL K F ds vs)(hl:ks.length=ds.length):
 ∃ws,putK (ks.zip vs) k v=(dZ ks ds k).zip ws/\DenL K F (c7 ks ds k d) ws/\(dZ ks ds k).length=(c7 ks ds k d).length:=by
 have hs:=kj (K:=K) (F:=F) k h hl;unfold putK dZ c7;have ha:((ks.zip vs).any λkv=>decide (kv.1=k))=(mW (ks.zip vs) k).isSome:=su ..;rw[ha,hs];cases e:(fZ ks ds k).isSome with
 |true=>
  rw[adY rfl,adY rfl,adY rfl];obtain⟨ws,e1,e2⟩:=zo hd k h hl;exact⟨ws,e1,e2,by rw[j6 ks ds k d hl];exact hl⟩
 |false=>
  rw[ad0 XM,ad0 XM,ad0 XM];refine⟨vs++[v],?_,h.append (.cons hd .nil),by simp[hl]⟩;rw[List.zip_append (by rw[hl];exact h.len)];rfl
end
theorem CP{κ:Type}{K:Xr}{F:Hp}{ks:List κ}{ds:List D}{vs:List V}(h:DenL K F ds vs)(hl:ks.length=ds.length):(ks.zip vs).length=ds.length:=by
 rw[aaG,hl,<-h.len];omega
def sd(ρ:bb)(i:Nat):Option D:=match ρ[i]? with
 |some (some (.fz d))=>some d
 |some (some (.ow c))=>some c.d
 |_=>none
theorem Hm{K:Xr}{F H:Hp}{σ:St}{ρ:bb}{i:Nat}{ks:List (List Key)}{ds:List D}(s:StE K F H σ ρ)(e:sd ρ i=some (.dct ks ds)):
 ∃a vs,σ[i]? =some (some (.ref a))/\Rd H a (.dT (ks.zip vs))/\DenL K F ds vs/\ks.length=ds.length/\ds.length<=lim:=by
 unfold sd at e;split at e
 ·rename_i d e1;cases e;obtain⟨v,h1,a,ob,vs,rfl,h2,h3,h4,h5⟩:=s.den i _ e1;exact⟨a,vs,h1, .inr ⟨ob,s.fh _ _ h2⟩,h3,h4,h5⟩
 ·rename_i c e1;cases c<;>cases e
  obtain⟨v,h1,a,o,rfl,h2,_,vs,rfl,h3,h4,h5⟩:=s.den i _ e1;exact⟨a,vs,h1, .inl h2,h3,h4,h5⟩
 ·cases e
theorem Hl{K:Xr}{F H:Hp}{σ:St}{ρ:bb}{i:Nat}{ks:List Key}{ds:List D}(s:StE K F H σ ρ)(e:sd ρ i=some (.dci ks ds)):
 ∃a vs,σ[i]? =some (some (.ref a))/\Rd H a (.dK (ks.zip vs))/\DenL K F ds vs/\ks.length=ds.length/\ds.length<=lim:=by
 unfold sd at e;split at e
 ·rename_i d e1;cases e;obtain⟨v,h1,a,ob,vs,rfl,h2,h3,h4,h5⟩:=s.den i _ e1;exact⟨a,vs,h1, .inr ⟨ob,s.fh _ _ h2⟩,h3,h4,h5⟩
 ·rename_i c e1;cases c<;>cases e
  obtain⟨v,h1,a,o,rfl,h2,_,vs,rfl,h3,h4,h5⟩:=s.den i _ e1;exact⟨a,vs,h1, .inl h2,h3,h4,h5⟩
 ·cases e
def Ex:D->D->Option (Option D)
 | .dct ks ds,k=>(eR k).map (fZ ks ds)
 | .dci ks ds,k=>(AI k).map (fZ ks ds)
 |_,_=>none
theorem BI{K:Xr}{F H:Hp}{σ:St}{ρ:bb}{i:Nat}{d k:D}{y:V}{o:Option D}(s:StE K F H σ ρ)(hi:sd ρ i=some d)(hk:Den K F k y)(e:Ex d k=some o):
 ∃a ov,σ[i]? =some (some (.ref a))/\kY H a y ov/\ov.isSome=o.isSome/\∀d',o=some d'->∃v,ov=some v/\Den K F d' v:=by
 unfold Ex at e;split at e
 ·rename_i ks ds;cases q:eR k with
  |none=>rw[q] at e;cases e
  |some kk=>
   rw[q] at e;cases e;obtain⟨a,vs,h1,h2,h3,h4,h5⟩:=Hm s hi;unfold eR at q;split at q
   ·rename_i es;obtain⟨b,ws,rfl,k2,k3,_⟩:=hk;have e1:=iD q k3;subst e1;refine⟨a,_,h1, .inr ⟨_,kk,b,h2,rfl,s.fh _ _ k2,rfl⟩,kj kk h3 h4,λd' m_=>?_⟩;have:=mU (K:=K) (F:=F) kk h3 h4;rw[m_] at this;exact this
   ·cases q
 ·rename_i ks ds;cases q:AI k with
  |none=>rw[q] at e;cases e
  |some kk=>
   rw[q] at e;cases e;obtain⟨a,vs,h1,h2,h3,h4,h5⟩:=Hl s hi;have e1:=qI q hk;subst e1;refine⟨a,_,h1, .inl ⟨_,kk,h2,rfl,rfl⟩,kj kk h3 h4,λd' m_=>?_⟩;have:=mU (K:=K) (F:=F) kk h3 h4;rw[m_] at this;exact this
 ·cases e
section
variable{X:Cx}{Xw:Nat->Hp->Prop}{a e:Expr}{δ δk δv:DE}{pos p pos' M8:Pos}{x:Str}{i:Nat}
def N9(neg:Bool)(i:Nat)(δ:DE):DE:=λρ=>δ ρ>>=λk=>match sd ρ i with
 |some d=>match Ex d k with
  |some o=>ae (.bl (if neg then !o.isSome else o.isSome))
  |none=>ag
 |none=>ag
theorem Ma{neg:Bool}{σ:St}{H:Hp}{Q:VK}(h:tD X.K Xw (N9 neg i δ) σ H Q):(λσ H Q=>tD X.K Xw δ σ H λy H1=>sk i σ H1 λx H2=>∃a o,x= .ref a/\kY H2 a y o/\Q (.bl (if neg then !o.isSome else o.isSome)) H2) σ H Q:=by
 obtain⟨F,ρ,s,w⟩:=h;refine⟨F,ρ,s,WP.mono (WP.bind w) λy H1 ⟨F1,k,e1,q1,w1⟩=>?_⟩;have s1:=s.ext e1;cases hi:sd ρ i with
 |none=>rw[hi] at w1;exact w1.elim
 |some d=>
  rw[hi] at w1;have w1:WP X.K Xw F1 H1 (match Ex d k with | some o=>ae (.bl (if neg then !o.isSome else o.isSome)) | none=>ag) Q:=w1;cases he:Ex d k with
  |none=>rw[he] at w1;exact w1.elim
  |some o=>
   rw[he] at w1;obtain⟨a,ov,h1,h2,h3,_⟩:=BI s1 hi q1 he;refine⟨.ref a,h1,a,ov,rfl,h2,?_⟩;rw[h3];exact WP.now w1 e1.fh rfl
theorem SJ(hu:X.A.units+64<cLine)(ha:PD X Xw a δ)(hv:PE X (.Name x p) (sk i))(hm:Yt .In (.Name x p)=false:=by rfl):PD X Xw (.Compare a [.In] [.Name x p] pos) (N9 false i δ):=
 PE.weak (MT (MM (by omega) ha hv) hm) λσ H Q h=>Ma (neg:=false) h
def uX(i:Nat):DS:=λρ=>ae (.nx (ρ.set i (some (.ow (.dct [] [])))))
theorem j5(hN:X.N.Nodup)(hi:X.N[i]? =some x)(hx:Loc X.env.scope x)(hf:X.fn x=true\/X.env.scope.names.lookup x=some .local:=by first | exact .inl rfl | exact .inr rfl):
 iq X Xw (.Assign [.Name x pos'] (.Dict [] [] M8) pos) (uX i):=λs0 ad8=>PS.weak (wU GY (aS hN hi hx hf) rfl) λD σ H ⟨F,ρ,s,w⟩=>λq hq=>
 w _ F _ (s.setNew (c₀:= .dct [] []) hq ⟨[],rfl,rfl,rfl,Yo _⟩)
def nZ:C->D->D->Option C
 | .dct ks ds,k,d=>match eR k with
   |some kk=>if ds.length<lim then some (.dct (dZ ks ds kk) (c7 ks ds kk d)) else none
   |none=>none
 | .dci ks ds,k,d=>match AI k with
   |some kk=>if ds.length<lim then some (.dci (dZ ks ds kk) (c7 ks ds kk d)) else none
   |none=>none
 |_,_,_=>none
def A6(ρ:bb)(i:Nat):Option C:=match ρ[i]? with
 |some (some (.ow c))=>some c
 |_=>none
theorem uH{ρ:bb}{i:Nat}{c:C}(h:A6 ρ i=some c):ρ[i]? =some (some (.ow c)):=by
 unfold A6 at h;split at h
 ·rename_i c' e;cases h;exact e
 ·cases h
def iQ(i:Nat)(δk δv:DE):DS:=λρ=>match A6 ρ i with
 |some c=>δv ρ>>=λv=>δk ρ>>=λk=>match nZ c k v with
  |some c'=>ae (.nx (ρ.set i (some (.ow c'))))
  |none=>ag
 |none=>ag
theorem uP{κ:Type}[DecidableEq κ]{ks:List κ}{ds:List D}{k:κ}{d:D}(hl:ks.length=ds.length)(h:ds.length<lim):(c7 ks ds k d).length<=lim:=by
 unfold c7;split
 ·rw[j6 ks ds k d hl];omega
 ·rw[Xq];exact h
theorem G7{K:Xr}{F H:Hp}{c c':C}{k d:D}{y v:V}{o:HO}{b:Addr}(hs:Same F H)(hb:H b=some o)(hc:DenC K F c o)(hk:Den K F k y)(hd:Den K F d v)(e:nZ c k d=some c'):∃o',DPut H b y v (upd H b o')/\DenC K F c' o':=by
 have OJ:=d6;unfold nZ at e;split at e
 ·rename_i ks ds k d;obtain⟨vs,rfl,h3,h4,h5⟩:=hc;split at e
  ·rename_i kk q;split at e
   ·rename_i eM;cases e;unfold eR at q;split at q
    ·rename_i es;obtain⟨b2,ws,rfl,k2,k3,_⟩:=hk;have e1:=iD q k3;subst e1;obtain⟨us,e2,e3,e4⟩:=wV hd kk h3 h4;refine⟨_,DPut.t hb (hs _ _ k2) (by rw[CP h3 h4];omega),us,?_,e3,e4,uP h4 eM⟩;rw[e2]
    ·cases q
   ·cases e
  ·cases e
 ·rename_i ks ds k d;obtain⟨vs,rfl,h3,h4,h5⟩:=hc;split at e
  ·rename_i kk q;split at e
   ·rename_i eM;cases e;have e1:=qI q hk;subst e1;obtain⟨us,e2,e3,e4⟩:=wV hd kk h3 h4;refine⟨_,DPut.k hb (by rw[CP h3 h4];omega),us,?_,e3,e4,uP h4 eM⟩;rw[e2]
   ·cases e
  ·cases e
 ·cases e
theorem gP(hu:X.A.units+64<cLine)(hv:PE X (.Name x p) (sk i))(hk:PD X Xw a δk)(he:PD X Xw e δv)(hs:abf e (some (.Subscript (.Name x p) a pos')) pos.line X.env=pure false:=by rfl):
 iq X Xw (.Assign [.Subscript (.Name x p) a pos'] e pos) (iQ i δk δv):=λs0 ad8=>PS.weak (JR (by omega) hv hk he hs) λD σ H ⟨F,ρ,s,w⟩=>by
 unfold iQ at w;cases ho:A6 ρ i with
 |none=>rw[ho] at w;exact w.elim
 |some c=>
  rw[ho] at w;have hi:=uH ho;have w:WPS X.K Xw s0 ad8 (δv ρ>>=λv=>δk ρ>>=λk=>match nZ c k v with | some c'=>ae (.nx (ρ.set i (some (.ow c')))) | none=>ag) D:=w;refine⟨F,ρ,s.st,?_⟩;rcases(δv ρ).cs with q | ⟨n,q⟩ | ⟨dv,q⟩
  ·rw[q] at w;exact w.elim
  ·rw[q] at w⊢;exact λF' H' e'=>w F' H' (s.ext.trans e')
  ·rw[q] at w⊢;intro v H1 F1 e1 hq;have s1:=s.ext' e1;obtain⟨u,h1,b,o,rfl,h2,h3,h4⟩:=s1.st.den i _ hi;have w:WPS X.K Xw s0 ad8 (δk ρ>>=λk=>match nZ c k dv with | some c'=>ae (.nx (ρ.set i (some (.ow c')))) | none=>ag) D:=w;refine⟨.ref b,h1,F1,ρ,s1.st,?_⟩;rcases(δk ρ).cs with q2 | ⟨n,q2⟩ | ⟨dk,q2⟩
   ·rw[q2] at w;exact w.elim
   ·rw[q2] at w⊢;exact λF' H' e'=>w F' H' (s1.ext.trans e')
   ·rw[q2] at w⊢;intro y H2 F2 e2 hy;have w:WPS X.K Xw s0 ad8 (match nZ c dk dv with | some c'=>ae (.nx (ρ.set i (some (.ow c')))) | none=>ag) D:=w;cases hp:nZ c dk dv with
    |none=>rw[hp] at w;exact w.elim
    |some c'=>
     rw[hp] at w;have s2:=s1.ext' e2;obtain⟨u2,k1,b2,o2,Rv,k2,k3,k4⟩:=s2.st.den i _ hi;rw[h1] at k1;cases k1;cases Rv;obtain⟨o',g,hc⟩:=G7 s2.st.fh k2 k4 hy (Den.mono e2.ff hq) hp;exact⟨b,_,rfl,g,w σ F2 _ (s2.chg hi h1 hc)⟩
end
def eG(c:DT)(body:DS):Nat->DS
 |0,_=>ag
 |n+1,ρ=>c ρ>>=λb=>if b then body ρ>>=λo=>match o with | .nx ρ'=>eG c body n ρ' | .rt d=>ae (.rt d) else ae (.nx ρ)
def rW(c:DT)(body:DS):DS:=λρ=>eG c body lim ρ
section
variable{X:Cx}{Xw:Nat->Hp->Prop}{τ:DS}{tc:DT}{pos:Pos}
theorem kE{c:Expr}{body:List Stmt}(hp:PassesOwn (model X.prog X.w) X.A X.env X.xe)(hc:lK X Xw c tc)(hb:PSDs X Xw body τ):iq X Xw (.While c body [] pos) (rW tc τ):=λs0 ad8=>PS.weak (G1 hp hc hb.ex) λD σ H ⟨F,ρ,s,w⟩=>by
 refine⟨λm σ H=>∃F ρ,StOk X.K s0 ad8 F H σ ρ/\WPS X.K Xw s0 ad8 (eG tc τ m ρ) D,⟨lim,F,ρ,s,w⟩,?_⟩;rintro m σ H ⟨F,ρ,s,w⟩;cases m with
 |zero=>exact w.elim
 |succ m=>
  refine⟨F,ρ,s.st,?_⟩;unfold eG at w
  match tc ρ,w with
  |none,w=>exact w
  |some (.ex n),w=>exact λF' H' e'=>w F' H' (s.ext.trans e')
  |some (.ok false),w=>exact λH' F' e'=>w σ F' H' (s.ext' e')
  |some (.ok true),w=>
   intro H' F' e';have w:WPS X.K Xw s0 ad8 (τ ρ>>=λo=>match o with | .nx ρ'=>eG tc τ m ρ' | .rt d=>ae (.rt d)) D:=w;refine⟨λσ' H'=>∃F' ρ',StOk X.K s0 ad8 F' H' σ' ρ'/\WPS X.K Xw s0 ad8 (eG tc τ m ρ') D,λσ' H' h=>⟨m,ZF m,h⟩,s0,ad8,F',ρ,s.ext' e',?_⟩
   match τ ρ,w with
   |none,w=>exact w
   |some (.ok (.nx ρ')),w=>exact λσ' F' H' s'=>⟨F',ρ',s',w⟩
   |some (.ok (.rt d)),w=>exact w
   |some (.ex n),w=>exact w
end
def l9:List D->Option (List (List Key))
 |[]=>some []
 |d::ds=>match eR d,l9 ds with
  |some k,some ks=>some (k::ks)
  |_,_=>none
theorem Lx:∀{x y:D}{k k':Key}{n:Nat},AI x=some k->AI y=some k'->iZ n x y=some (decide (k=k'))
 | .int i, .int j,_,_,n,e1,e2=>by
   cases e1;cases e2;have:iZ n (.int i) (.int j)=some (i==j):=by cases n<;>rfl
   rw[this];congr 1;by_cases h:i=j
   ·subst h;simp
   ·simp[h]
 | .str x, .str y,_,_,n,e1,e2=>by
   cases e1;cases e2;have:iZ n (.str x) (.str y)=some (x==y):=by cases n<;>rfl
   rw[this];congr 1;by_cases h:x=y
   ·subst h;simp
   ·simp[h]
 | .int i, .str y,_,_,n,e1,e2=>by
   cases e1;cases e2;have:iZ n (.int i) (.str y)=some false:=by cases n<;>rfl
   rw[this];simp
 | .str x, .int j,_,_,n,e1,e2=>by
   cases e1;cases e2;have:iZ n (.str x) (.int j)=some false:=by cases n<;>rfl
   rw[this];simp
 | .non,_,_,_,_,e1,_=>by cases e1
 | .bl _,_,_,_,_,e1,_=>by cases e1
 | .raw _,_,_,_,_,e1,_=>by cases e1
 | .exc _,_,_,_,_,e1,_=>by cases e1
 | .scr _,_,_,_,_,e1,_=>by cases e1
 | .tup _,_,_,_,_,e1,_=>by cases e1
 | .lst _,_,_,_,_,e1,_=>by cases e1
 | .dct _ _,_,_,_,_,e1,_=>by cases e1
 | .dci _ _,_,_,_,_,e1,_=>by cases e1
 |_, .non,_,_,_,_,e2=>by cases e2
 |_, .bl _,_,_,_,_,e2=>by cases e2
 |_, .raw _,_,_,_,_,e2=>by cases e2
 |_, .exc _,_,_,_,_,e2=>by cases e2
 |_, .scr _,_,_,_,_,e2=>by cases e2
 |_, .tup _,_,_,_,_,e2=>by cases e2
 |_, .lst _,_,_,_,_,e2=>by cases e2
 |_, .dct _ _,_,_,_,_,e2=>by cases e2
 |_, .dci _ _,_,_,_,_,e2=>by cases e2
theorem BV{n:Nat}:∀{xs ys:List D}{k k':List Key},vV xs=some k->vV ys=some k'->oC (iZ n) xs ys=some (decide (k=k'))
 |[],[],_,_,e1,e2=>by cases e1;cases e2;rfl
 |x::xs,[],_,_,e1,e2=>by
  cases e2;unfold vV at e1;split at e1
  ·cases e1;simp[oC]
  ·cases e1
 |[],y::ys,_,_,e1,e2=>by
  cases e1;unfold vV at e2;split at e2
  ·cases e2;simp[oC]
  ·cases e2
 |x::xs,y::ys,_,_,e1,e2=>by
  unfold vV at e1 e2;split at e1
  ·rename_i k ks q1 q2;cases e1;split at e2
   ·rename_i k' ks' q3 q4;cases e2;unfold oC;rw[Lx q1 q3,BV q2 q4];simp
   ·cases e2
  ·cases e1
theorem Iv{x y:D}{k k':List Key}{n:Nat}(e1:eR x=some k)(e2:eR y=some k'):iZ (n+1) x y=some (decide (k=k')):=by
 cases x with
 |tup xs=>
  cases y with
  |tup ys=>exact BV (n:=n) e1 e2
  |_=>cases e2
 |_=>cases e1
theorem F7{K:Xr}{F:Hp}{d:D}{v:V}{k:List Key}(e:eR d=some k)(h:Den K F d v):∃a,v= .ref a/\F a=some (.tup (k.map kV)):=by
 cases d with
 |tup ds=>
  obtain⟨a,vs,rfl,h2,h3,_⟩:=h;have:=iD e h3;subst this;exact⟨a,rfl,h2⟩
 |_=>cases e
def nN(k:List Key)(ks:List (List Key)):Bool:=ks.any λk'=>decide (k'=k)
open Classical in
noncomputable def isKey(H:Hp)(k:List Key)(u:Value):Bool:=decide (∃a,u= .ref a/\H a=some (.tup (k.map kV)))
theorem DC{K:Xr}{F H:Hp}{d:D}{v:V}{u:Value}{k k':List Key}(hs:Same F H)(e:eR d=some k')(h:Den K F d v)(r:RelV v u):isKey H k u=decide (k'=k):=by
 obtain⟨a,rfl,h2⟩:=F7 e h;cases (show u=_ from r);unfold isKey;by_cases hk:k'=k
 ·subst hk;rw[ad1 rfl];exact @ad1 _ (ab6 _) ⟨a,rfl,hs _ _ h2⟩
 ·rw[ad2 hk];refine @ad2 _ (ab6 _) λ⟨b,e1,e2⟩=>hk ?_;cases e1;rw[hs _ _ h2] at e2;injection e2 with e2
  injection e2 with e2
  exact B8 e2
theorem nJ{X:Cx}{f8:List (Addr×Obj)}{σ:St}{F H:Hp}{s:Xl}{A:X6}{x:D}{v:V}{u:Value}{k:List Key}(I:Inv X f8 σ H s)(hs:Same F H)(hu:A.units+6<cLine)(ex:eR x=some k)(hx:Den X.K F x v)(rx:RelV v u):
 ∀{ys:List D}{vs:List V}{aL:List Value}{ks:List (List Key)},l9 ys=some ks->DenL X.K F ys vs->Vals vs aL->aL.any (isKey H k)=nN k ks/\∀t∈aL,EqAt A s t u (isKey H k t)
 |[],_,_,_,e,h,r=>by
  cases e;cases (show _=_ from h);cases r;exact⟨rfl,λt ht=>by cases ht⟩
 |y::ys,_,_,_,e,⟨w,ws,h1,h2,h3⟩,r=>by
  subst h1;unfold l9 at e;split at e
  ·rename_i k' ks e1 e2;cases e;cases r with
   |cons r1 r2=>
    obtain⟨Si,Sj⟩:=nJ I hs hu ex hx rx e2 h3 r2;have hk:=DC (k:=k) hs e1 h2 r1;refine⟨?_,λt ht=>?_⟩
    ·rw[aae,Si,hk];rfl
    ·rcases Xs.mp ht with rfl | ht
     ·rw[hk];exact(vH I hs 6 A y x w v t u _ hu h2 hx r1 rx (Iv e1 ex)).eq
     ·exact Sj t ht
  ·cases e
def Ap(neg:Bool):D->D->M D
 |x, .lst ys=>match eR x,l9 ys with
  |some k,some ks=>ae (.bl (if neg then !nN k ks else nN k ks))
  |_,_=>ag
 |x, .tup ys=>match eR x,l9 ys with
  |some k,some ks=>ae (.bl (if neg then !nN k ks else nN k ks))
  |_,_=>ag
 |_,_=>ag
def PQ(K:Xr)(neg:Bool):R2:=λx y H Q=>∃F dx ys vs p k ks,Same F H/\Den K F dx x/\eR dx=some k/\l9 ys=some ks/\DenL K F ys vs/\y= .ref p/\(SqL K H p vs\/SqT K H p vs)/\Q (.bl (if neg then !nN k ks else nN k ks)) H
section
variable{X:Cx}{Xw:Nat->Hp->Prop}{a b:Expr}{δa δb:DE}{pos:Pos}
theorem MD(hu:X.A.units+64<cLine):OpR X (X9 .In) (PQ X.K false):=by
 intro f8 s σ H x y v u Q I rx ry h;obtain⟨F,dx,ys,vs,p,k,ks,hs,hx,ex,ek,hd,rfl,hq,q⟩:=h;cases (show u=_ from ry);have Ue:X.A.in1.units+6<cLine:=by show X.A.units+1+6<cLine;omega
 rcases hq with hq | hq
 ·obtain⟨aL,r,pl,hz⟩:=I.list hq;obtain⟨e1,e2⟩:=nJ (A:=X.A.in1) I hs Ue ex hx rx ek hd r;refine SeqAt.in_listAt (isKey H k) pl.isList (λw hw=>e2 w (by simpa using hw)) ⟨.bl _,H,I,rfl,?_⟩;rw[show aL.toArray.any (isKey H k)=aL.any (isKey H k) by simp,e1];exact q
 ·obtain⟨aL,r,pl,hz⟩:=I.tuple hq;obtain⟨e1,e2⟩:=nJ (A:=X.A.in1) I hs Ue ex hx rx ek hd r;refine adP (isKey H k) pl (λw hw=>e2 w (by simpa using hw)) ⟨.bl _,H,I,rfl,?_⟩;rw[show aL.toArray.any (isKey H k)=aL.any (isKey H k) by simp,e1];exact q
theorem Mb{neg:Bool}{K:Xr}:u9 K (PQ K neg) (Ap neg):=λXw F H x y dx dy Q s hx hy w=>by
 unfold Ap at w;split at w
 ·rename_i ys;split at w
  ·rename_i k ks e1 e2;obtain⟨p,vs,h1,h2,h3,_⟩:=hy;exact⟨F,dx,ys,vs,p,k,ks,s,hx,e1,e2,h3,h1, .inl (SqL.of (s _ _ h2)),WP.now w s rfl⟩
  ·exact w.elim
 ·rename_i ys;split at w
  ·rename_i k ks e1 e2;obtain⟨p,vs,h1,h2,h3,_⟩:=hy;exact⟨F,dx,ys,vs,p,k,ks,s,hx,e1,e2,h3,h1, .inr (SqT.of (s _ _ h2)),WP.now w s rfl⟩
  ·exact w.elim
 ·exact w.elim
theorem Nd(hu:X.A.units+64<cLine)(ha:PD X Xw a δa)(hb:PD X Xw b δb)(hm:Yt .In b=false:=by rfl):lK X Xw (.Compare a [.In] [b] pos) (bU (d2 (Ap false) δa δb)):=dB (MD hu) Mb ha hb hm
end
end L3
namespace L3
open PySem PySem.W PyProof.Rows
def ej{α:Type}(b:Nat->Nat->Bool):KasT α->α
 | .ret a=>a
 | .ask i j k=>ej b (k (b i j))
theorem gB{α β:Type}(b:Nat->Nat->Bool)(f:α->KasT β):∀t:KasT α,ej b (t.bind f)=ej b (f (ej b t))
 | .ret _=>rfl
 | .ask i j k=>gB b f (k (b i j))
structure Lt (n:Nat) (b:Nat->Nat->Bool):Prop where
 tr:∀i j k,b i j=true->b j k=true->b i k=true
 W2:∀i j,b i j=true->b j i=false
 tot:∀i j,i<n->j<n->i≠j->b i j=true\/b j i=true
abbrev at'(p:Array Nat)(i:Nat):Nat:=p.getD i 0
def Ri(b:Nat->Nat->Bool)(p:Array Nat)(k:Nat):Prop:=∀i j,i<j->j<k->b (at' p i) (at' p j)=true
def Fa(b:Nat->Nat->Bool)(p:Array Nat)(k:Nat):Prop:=∀i j,i<j->j<k->b (at' p j) (at' p i)=true
structure PN (n:Nat) (p:Array Nat):Prop where
 sz:p.size=n
 lt:∀i,i<n->at' p i<n
 inj:∀i j,i<n->j<n->at' p i=at' p j->i=j
section
variable{n:Nat}{b:Nat->Nat->Bool}(L:Lt n b)
include L
theorem Ri.more{p:Array Nat}{k:Nat}(h:Ri b p k)(h1:1<=k)(e:b (at' p (k - 1)) (at' p k)=true):Ri b p (k+1):=λi j zU hj=>by
 by_cases hk:j<k
 ·exact h i j zU hk
 ·have:j=k:=by omega
  subst this;by_cases hi:i=j - 1
  ·subst hi;exact e
  ·exact L.tr _ _ _ (h i (j - 1) (by omega) (by omega)) e
theorem Fa.more{p:Array Nat}{k:Nat}(h:Fa b p k)(h1:1<=k)(e:b (at' p k) (at' p (k - 1))=true):Fa b p (k+1):=λi j zU hj=>by
 by_cases hk:j<k
 ·exact h i j zU hk
 ·have:j=k:=by omega
  subst this;by_cases hi:i=j - 1
  ·subst hi;exact e
  ·exact L.tr _ _ _ e (h i (j - 1) (by omega) (by omega))
theorem ve{p:Array Nat}(P:PN n p):∀(f k:Nat),1<=k->k+f<=n->Ri b p k->k<=ej b (kas_asc p f k)/\ej b (kas_asc p f k)<=k+f/\Ri b p (ej b (kas_asc p f k))/\(ej b (kas_asc p f k)<k+f->b (at' p (ej b (kas_asc p f k))) (at' p (ej b (kas_asc p f k) - 1))=true)
 |0,k,h1,hn,h=>⟨Xx _,Xx _,h,λz=>ad3 z (Yr _)⟩
 |f+1,k,h1,hn,h=>by
  have e:ej b (kas_asc p (f+1) k)=ej b (if b (at' p k) (at' p (k - 1))=true then KasT.ret k else kas_asc p f (k+1)):=rfl;rw[e];by_cases hb:b (at' p k) (at' p (k - 1))=true
  ·rw[adY hb];exact⟨Xx _,by show k<=_;omega,h,λ_=>hb⟩
  ·rw[ad0 hb];have hr:b (at' p (k - 1)) (at' p k)=true:=by
    rcases L.tot (at' p (k - 1)) (at' p k) (P.lt _ (by omega)) (P.lt _ (by omega)) (λz=>by have:=P.inj _ _ (by omega) (by omega) z;omega) with q | q
    ·exact q
    ·exact ad3 q hb
   obtain⟨a1,a2,a3,a4⟩:=ve P f (k+1) (by omega) (by omega) (Ri.more L h h1 hr);exact⟨by omega,by omega,a3,λz=>a4 (by omega)⟩
theorem yc{p:Array Nat}(P:PN n p):∀(f k:Nat),1<=k->k+f<=n->Fa b p k->∃m,ej b (kas_desc f p k 0)=(p,m,0)/\k<=m/\m<=k+f/\Fa b p m
 |0,k,h1,hn,h=>⟨k,rfl,Xx _,Xx _,h⟩
 |f+1,k,h1,hn,h=>by
  have e:ej b (kas_desc (f+1) p k 0)=ej b (if b (at' p k) (at' p (k - 1))=true then(if 0>0 then kas_desc f (kas_rev p (k - (0+1)) k) (k+1) 0 else kas_desc f p (k+1) 0)
   else .ask (p.getD (k - 1) 0) (p.getD k 0) λd=>if d=true then .ret (p,k,0) else kas_desc f p (k+1) (0+1)):=rfl
  rw[e];by_cases hb:b (at' p k) (at' p (k - 1))=true
  ·rw[adY hb,ad0 (by omega)];obtain⟨m,e1,e2,e3,e4⟩:=yc P f (k+1) (by omega) (by omega) (Fa.more L h h1 hb);exact⟨m,e1,by omega,by omega,e4⟩
  ·rw[ad0 hb];have hr:b (at' p (k - 1)) (at' p k)=true:=by
    rcases L.tot (at' p (k - 1)) (at' p k) (P.lt _ (by omega)) (P.lt _ (by omega)) (λz=>by have:=P.inj _ _ (by omega) (by omega) z;omega) with q | q
    ·exact q
    ·exact ad3 q hb
   refine⟨k,?_,Xx _,by omega,h⟩;show ej b (if b (at' p (k - 1)) (at' p k)=true then KasT.ret (p,k,0) else kas_desc f p (k+1) (0+1))=_;rw[adY hr];rfl
end
theorem f9(p:Array Nat)(k:Nat):at' p k=(p[k]?).getD 0:=by
 unfold at';rw[Array.getD_eq_getD_getElem?]
theorem Hd{p:Array Nat}{m:Nat}(hm:m<=p.size)(k:Nat):at' (kas_rev p 0 m) k=if k<m then at' p (m - 1 - k) else at' p k:=by
 have e:=getElem?_mirror_all (xs:=p) (i:=0) hm k;rw[f9];show (((mirror p 0 m ((m - 0) / 2))[k]?).getD 0)=_;rw[e];by_cases h:k<m
 ·rw[adY ⟨Yo _,h⟩,adY h,f9,abo]
 ·rw[ad0 (λz=>h z.2),ad0 h,f9]
theorem ER{p:Array Nat}{k l:Nat}(hk:k<p.size)(hl:l<=k)(j:Nat):at' (bubble p k (k - l)) j=if j=l then at' p k else if l<j/\j<=k then at' p (j - 1) else at' p j:=by
 have e:=getElem?_bubble hk (k - l) (by omega) j;have e2:k - (k - l)=l:=by omega
 rw[e2] at e;rw[f9 (bubble p k (k - l)),e,f9 p k,f9 p (j - 1),f9 p j];by_cases c1:j=l
 ·rw[adY c1,adY c1]
 ·rw[ad0 c1,ad0 c1];by_cases c2:l<j/\j<=k
  ·rw[adY c2,adY c2]
  ·rw[ad0 c2,ad0 c2]
section
variable{n:Nat}{b:Nat->Nat->Bool}
theorem PN.rev{p:Array Nat}(P:PN n p){m:Nat}(hm:m<=n):PN n (kas_rev p 0 m):=by
 have ha:=Hd (p:=p) (m:=m) (by rw[P.sz];exact hm);refine⟨(mirror_size ..).trans P.sz,λi hi=>?_,λi j hi hj e=>?_⟩
 ·rw[ha];split
  ·exact P.lt _ (by omega)
  ·exact P.lt _ hi
 ·rw[ha,ha] at e;split at e<;>split at e
  ·have:=P.inj _ _ (by omega) (by omega) e;omega
  ·have:=P.inj _ _ (by omega) hj e;omega
  ·have:=P.inj _ _ hi (by omega) e;omega
  ·exact P.inj _ _ hi hj e
theorem PN.bub{p:Array Nat}(P:PN n p){k l:Nat}(hk:k<n)(hl:l<=k):PN n (bubble p k (k - l)):=by
 have ha:=ER (p:=p) (k:=k) (l:=l) (by rw[P.sz];exact hk) hl;refine⟨(bubble_size ..).trans P.sz,λi hi=>?_,λi j hi hj e=>?_⟩
 ·rw[ha];split
  ·exact P.lt _ hk
  ·split
   ·exact P.lt _ (by omega)
   ·exact P.lt _ hi
 ·rw[ha,ha] at e;split at e
  ·split at e
   ·omega
   ·split at e
    ·have:=P.inj _ _ hk (by omega) e;omega
    ·have:=P.inj _ _ hk hj e;omega
  ·split at e
   ·split at e
    ·have:=P.inj _ _ (by omega) hk e;omega
    ·split at e
     ·have:=P.inj _ _ (by omega) (by omega) e;omega
     ·have:=P.inj _ _ (by omega) hj e;omega
   ·split at e
    ·have:=P.inj _ _ hi hk e;omega
    ·split at e
     ·have:=P.inj _ _ hi (by omega) e;omega
     ·exact P.inj _ _ hi hj e
theorem Fa.rev{p:Array Nat}(P:PN n p){m:Nat}(hm:m<=n)(h:Fa b p m):Ri b (kas_rev p 0 m) m:=λi j zU hj=>by
 have ha:=Hd (p:=p) (m:=m) (by rw[P.sz];exact hm);rw[ha,ha,adY (by omega),adY hj];exact h _ _ (by omega) (by omega)
variable(L:Lt n b)
include L
theorem HB{p:Array Nat}(P:PN n p){m:Nat}(h1:1<=m)(hm:m<=n)(h:Fa b p m):∃k q,ej b (kas_tail3 m n p)=(k,q)/\PN n q/\1<=k/\k<=n/\Ri b q k:=by
 unfold kas_tail3;rw[gB];obtain⟨a1,a2,a3,_⟩:=ve L (P.rev hm) (n - m) m h1 (by omega) (Fa.rev P hm h);exact⟨_,_,rfl,P.rev hm,by omega,by omega,a3⟩
theorem Dh{p:Array Nat}(P:PN n p)(h2:2<=n):∃k q,ej b (kas_count n p)=(k,q)/\PN n q/\1<=k/\k<=n/\Ri b q k:=by
 unfold kas_count;rw[gB];obtain⟨a1,a2,a3,a4⟩:=ve L P (n - 1) 1 (Xx _) (by omega) (λi j zU hj=>by omega);generalize ej b (kas_asc p (n - 1) 1)=m at a1 a2 a3 a4;by_cases he:m=n
 ·subst he;rw[adY (by simp)];exact⟨m,p,rfl,P,by omega,Xx _,a3⟩
 ·rw[ad0 (by simpa using he)];by_cases hg:m>1
  ·rw[adY hg];have hb:b (p.getD 0 0) (p.getD (m - 1) 0)=true:=a3 0 (m - 1) (by omega) (by omega);show∃k q,ej b (if b (p.getD 0 0) (p.getD (m - 1) 0)=true then KasT.ret (m,p) else kas_descPart m n (kas_rev p 0 m))=(k,q)/\_;rw[adY hb];exact⟨m,p,rfl,P,by omega,by omega,a3⟩
  ·rw[ad0 hg];have hm:m=1:=by omega
   subst hm;have hb:=a4 (by omega);unfold kas_descPart;rw[gB];obtain⟨m,e1,e2,e3,e4⟩:=yc L P (n - (1+1)) (1+1) (by omega) (by omega) (λi j zU hj=>by
    have hi:i=0:=by omega
    have hj:j=1:=by omega
    subst hi hj;exact hb)
   rw[e1]
   dsimp only
   rw[ad0 (by omega)];exact HB L P (by omega) (by omega) e4
theorem nX{p:Array Nat}(P:PN n p){k:Nat}(hk:k<n)(h:Ri b p k):∀(f l r:Nat),l<=r->r<=k->r - l<=f->(∀i,i<l->b (at' p i) (at' p k)=true)->(∀i,r<=i->i<k->b (at' p k) (at' p i)=true)->
 ej b (kas_place p k f l r)<=k/\(∀i,i<ej b (kas_place p k f l r)->b (at' p i) (at' p k)=true)/\∀i,ej b (kas_place p k f l r)<=i->i<k->b (at' p k) (at' p i)=true
 |0,l,r,h1,h2,h3,h4,h5=>by
  have:r=l:=by omega
  subst this;exact⟨h2,h4,h5⟩
 |f+1,l,r,h1,h2,h3,h4,h5=>by
  unfold kas_place;by_cases T9:l>=r
  ·rw[adY T9];have:r=l:=by omega
   subst this;exact⟨h2,h4,h5⟩
  ·rw[ad0 T9];have hm:(l+r) / 2<r:=by omega
   have LS:l<=(l+r) / 2:=by omega
   show ej b (if b (at' p k) (at' p ((l+r) / 2))=true then kas_place p k f l ((l+r) / 2) else kas_place p k f ((l+r) / 2+1) r)<=k/\(∀i,i<ej b (if b (at' p k) (at' p ((l+r) / 2))=true then kas_place p k f l ((l+r) / 2) else kas_place p k f ((l+r) / 2+1) r)->_)/\∀i,ej b (if b (at' p k) (at' p ((l+r) / 2))=true then kas_place p k f l ((l+r) / 2) else kas_place p k f ((l+r) / 2+1) r)<=i->_;by_cases hb:b (at' p k) (at' p ((l+r) / 2))=true
   ·rw[adY hb];refine nX P hk h f l ((l+r) / 2) LS (by omega) (by omega) h4 λi hi VH=>?_;by_cases e:i=(l+r) / 2
    ·rw[e];exact hb
    ·exact L.tr _ _ _ hb (h _ _ (by omega) VH)
   ·rw[ad0 hb];have hr:b (at' p ((l+r) / 2)) (at' p k)=true:=by
     rcases L.tot (at' p ((l+r) / 2)) (at' p k) (P.lt _ (by omega)) (P.lt _ hk) (λz=>by have:=P.inj _ _ (by omega) hk z;omega) with q | q
     ·exact q
     ·exact ad3 q hb
    refine nX P hk h f ((l+r) / 2+1) r (by omega) h2 (by omega) (λi hi=>?_) h5;by_cases e:i=(l+r) / 2
    ·rw[e];exact hr
    ·exact L.tr _ _ _ (h i ((l+r) / 2) (by omega) (by omega)) hr
theorem BM:∀(f:Nat) {p:Array Nat}{k:Nat},PN n p->k+f<=n->Ri b p k->PN n (ej b (kas_bin f p k))/\Ri b (ej b (kas_bin f p k)) (k+f)
 |0,p,k,P,_,h=>⟨P,h⟩
 |f+1,p,k,P,hn,h=>by
  have hk:k<n:=by omega
  unfold kas_bin;rw[gB];obtain⟨a1,a2,a3⟩:=nX L P hk h k 0 k (Yo _) (Xx _) (by omega) (λi hi=>by omega) (λi h1 h2=>by omega);generalize ej b (kas_place p k k 0 k)=l at a1 a2 a3;have ha:=ER (p:=p) (k:=k) (l:=l) (by rw[P.sz];exact hk) a1;have hR:Ri b (bubble p k (k - l)) (k+1):=λi j zU hj=>by
   rw[ha,ha];by_cases c1:i=l
   ·rw[adY c1,ad0 (by omega),adY ⟨by omega,by omega⟩];exact a3 _ (by omega) (by omega)
   ·rw[ad0 c1];by_cases c2:j=l
    ·rw[adY c2,ad0 (by omega)];exact a2 _ (by omega)
    ·rw[ad0 c2];by_cases c3:l<i/\i<=k
     ·rw[adY c3,adY ⟨by omega,by omega⟩];exact h _ _ (by omega) (by omega)
     ·rw[ad0 c3];by_cases c4:l<j/\j<=k
      ·rw[adY c4];exact h _ _ (by omega) (by omega)
      ·rw[ad0 c4];exact h _ _ zU (by omega)
  have:=BM f (P.bub hk a1) (by omega) hR;rw[show k+(f+1)=k+1+f by omega];exact this
theorem Ho(h2:2<=n):PN n (ej b (kas_sort n))/\Ri b (ej b (kas_sort n)) n:=by
 have P0:PN n (Y2 (XQ n)):=by
  have e:∀i,i<n->at' (Y2 (XQ n)) i=i:=λi hi=>by rw[f9];simp[hi]
  exact⟨by simp,λi hi=>by rw[e i hi];exact hi,λi j hi hj z=>by rw[e i hi,e j hj] at z;exact z⟩
 unfold kas_sort;rw[gB];obtain⟨k,q,e,P,k1,kn,hR⟩:=Dh L P0 h2;rw[e]
 dsimp only
 by_cases eM:k<n
 ·rw[adY eM];have:=BM L (n - max k 1) (k:=max k 1) P (by omega) (by rw[show max k 1=k by omega];exact hR);rw[show max k 1+(n - max k 1)=n by omega] at this;exact this
 ·rw[ad0 eM];have:k=n:=by omega
  subst this;exact⟨P,hR⟩
end
def Asks{α:Type}(n:Nat)(P:α->Prop):KasT α->Prop
 | .ret a=>P a
 | .ask i j k=>i<n/\j<n/\∀c,Asks n P (k c)
theorem Asks.bind{α β:Type}{n:Nat}{P:α->Prop}{Q:β->Prop}{f:α->KasT β}:∀{t:KasT α},Asks n P t->(∀a,P a->Asks n Q (f a))->Asks n Q (t.bind f)
 | .ret a,h,hf=>hf a h
 | .ask i j k,h,hf=>⟨h.1,h.2.1,λc=>Asks.bind (h.2.2 c) hf⟩
theorem wp_run{α:Type}{n:Nat}{P:α->Prop}{b:Nat->Nat->Bool}{cmp:Nat->Nat->(Bool->Xl->Prop)->Xl->Prop}{Q:α->Xl->Prop}{s:Xl}(hc:∀i j C,i<n->j<n->C (b i j) s->cmp i j C s):∀{t:KasT α},Asks n P t->Q (ej b t) s->t.kasWp cmp Q s
 | .ret a,_,h=>h
 | .ask i j k,ha,h=>hc i j _ ha.1 ha.2.1 (wp_run hc (ha.2.2 _) h)
def Below(n:Nat)(p:Array Nat):Prop:=∀x∈p,x<n
section
variable{n:Nat}(hn:0<n)
include hn
theorem Below.at{p:Array Nat}(h:Below n p)(i:Nat):at' p i<n:=by
 rw[f9];cases e:p[i]? with
 |none=>exact hn
 |some x=>exact h x (Array.mem_of_getElem? e)
theorem Below.rev{p:Array Nat}(h:Below n p)(i j:Nat):Below n (kas_rev p i j):=λx hx=>h x ((mirror_perm p i j ((j - i) / 2)).mem_iff.mp hx)
theorem Below.bub{p:Array Nat}(h:Below n p)(k d:Nat):Below n (bubble p k d):=λx hx=>h x ((bubble_perm p k d).mem_iff.mp hx)
theorem qc{p:Array Nat}(h:Below n p):∀f k,Asks n (λ_=>True) (kas_asc p f k)
 |0,k=>trivial
 |f+1,k=>⟨Below.at hn h _,Below.at hn h _,λc=>by
  show Asks n _ (if c=true then KasT.ret k else kas_asc p f (k+1));cases c
  ·exact qc h f (k+1)
  ·exact trivial⟩
theorem kl:∀f {p:Array Nat} k q,Below n p->Asks n (λr=>Below n r.1) (kas_desc f p k q)
 |0,p,k,q,h=>h
 |f+1,p,k,q,h=>⟨Below.at hn h _,Below.at hn h _,λc=>by
  cases c
  ·refine⟨Below.at hn h _,Below.at hn h _,λd=>?_⟩;cases d
   ·exact kl f _ _ h
   ·exact h
  ·show Asks n _ (if q>0 then kas_desc f (kas_rev p (k - (q+1)) k) (k+1) 0 else kas_desc f p (k+1) 0);split
   ·exact kl f _ _ (Below.rev hn h _ _)
   ·exact kl f _ _ h⟩
theorem tR{p:Array Nat}(h:Below n p)(m r:Nat):Asks n (λx=>Below n x.2) (kas_tail3 m r p):=Asks.bind (qc hn (Below.rev hn h 0 m) _ _) λ_ _=>Below.rev hn h 0 m
theorem qd{p:Array Nat}(h:Below n p)(m r:Nat):Asks n (λx=>Below n x.2) (kas_descPart m r p):=Asks.bind (kl hn _ _ _ h) λx hx=>by
 split
 ·exact tR hn (Below.rev hn hx _ _) _ _
 ·exact tR hn hx _ _
theorem z4{p:Array Nat}(h:Below n p)(r:Nat):Asks n (λx=>Below n x.2) (kas_count r p):=Asks.bind (qc hn h _ _) λm _=>by
 split
 ·exact h
 ·split
  ·refine⟨Below.at hn h _,Below.at hn h _,λc=>?_⟩;cases c
   ·exact qd hn (Below.rev hn h _ _) _ _
   ·exact h
  ·exact qd hn h _ _
theorem kZ{p:Array Nat}(h:Below n p)(k:Nat):∀f l r,Asks n (λ_=>True) (kas_place p k f l r)
 |0,l,r=>trivial
 |f+1,l,r=>by
  unfold kas_place;split
  ·exact trivial
  ·refine⟨Below.at hn h _,Below.at hn h _,λc=>?_⟩;cases c
   ·exact kZ h k f _ _
   ·exact kZ h k f _ _
theorem xO:∀f {p:Array Nat} k,Below n p->Asks n (λ_=>True) (kas_bin f p k)
 |0,p,k,h=>trivial
 |f+1,p,k,h=>Asks.bind (kZ hn h k _ _ _) λl _=>xO f _ (Below.bub hn h _ _)
theorem CT:Asks n (λ_=>True) (kas_sort n):=by
 have h0:Below n (Y2 (XQ n)):=λx hx=>by simpa using hx
 refine Asks.bind (z4 hn h0 n) λx hx=>?_;split
 ·exact xO hn _ _ hx
 ·exact trivial
end
def fG:List Int->List Int->Bool
 |[],[]=>false
 |[],_::_=>true
 |_::_,[]=>false
 |x::xs,y::ys=>if x=y then fG xs ys else decide (x<y)
theorem v8:∀a b c:List Int,fG a b=true->fG b c=true->fG a c=true
 |[],[],_,h,_=>by cases h
 |[],_::_,[],_,h=>by cases h
 |[],_::_,_::_,_,_=>rfl
 |_::_,[],_,h,_=>by cases h
 |_::_,_::_,[],_,h=>by cases h
 |x::a,y::b,z::c,h1,h2=>by
  unfold fG at h1 h2⊢;by_cases e1:x=y
  ·subst e1;rw[adY rfl] at h1;by_cases e2:x=z
   ·subst e2;rw[adY rfl] at h2⊢;exact v8 a b c h1 h2
   ·rw[ad0 e2] at h2⊢;exact h2
  ·rw[ad0 e1] at h1;have h1:=ad4 h1;by_cases e2:y=z
   ·subst e2;rw[ad0 e1];exact ad1 h1
   ·rw[ad0 e2] at h2;have h2:=ad4 h2;rw[ad0 (by omega)];exact ad1 (by omega)
theorem ma:∀a b:List Int,fG a b=true->fG b a=false
 |[],[],h=>by cases h
 |[],_::_,_=>rfl
 |_::_,[],h=>by cases h
 |x::a,y::b,h=>by
  unfold fG at h⊢;by_cases e:x=y
  ·subst e;rw[adY rfl] at h⊢;exact ma a b h
  ·rw[ad0 e] at h;have h:=ad4 h;rw[ad0 (λz=>e z.symm)];exact ad2 (by omega)
theorem qN:∀a b:List Int,a≠b->fG a b=true\/fG b a=true
 |[],[],h=>ad3 rfl h
 |[],_::_,_=> .inl rfl
 |_::_,[],_=> .inr rfl
 |x::a,y::b,h=>by
  unfold fG;by_cases e:x=y
  ·subst e;rw[adY rfl,adY rfl];exact qN a b λz=>h (by rw[z])
  ·rw[ad0 e,ad0 (λz=>e z.symm)];by_cases q:x<y
   ·exact .inl (ad1 q)
   ·exact .inr (ad1 (by omega))
section
variable{prog:XR}{w:World}{A:X6}{E:Value->Xl->Prop}{s:Xl}
theorem yG{Q:Bool->Xl->Prop}:∀{us vs:List Value}{xs ys:List Int}(i:Nat) {fin:Bool},YH us xs->YH vs ys->fin=decide (xs.length<ys.length)->Q (fG xs ys) s->KatLex prog w A true fin Q (us.zip vs) i s
 |_,_,_,_,i,_, .nil, .nil,e,h=>by subst e;exact kat_nil h
 |_,_,_,_,i,_, .nil, .cons y t r,e,h=>by subst e;exact kat_nil h
 |_,_,_,_,i,_, .cons x t r, .nil,e,h=>by subst e;exact kat_nil h
 |_,_,_,_,i,_, .cons (vs:=us) (ns:=xs) x t r, .cons (vs:=vs) (ns:=ys) y u r',e,h=>by
  refine kat_cons (wpAny_eqBool_int ?_);by_cases q:x=y
  ·subst q;rw[show (x==x)=true by simp];refine kat_yes (yG (i+1) r r' (by rw[e];simp) ?_);unfold fG at h;rw[adY rfl] at h;exact h
  ·rw[show (x==y)=false by simpa using q];unfold fG at h;rw[ad0 q] at h;refine kat_no ?_;by_cases hi:(i==0)=true
   ·rw[hi];exact oneLt_int h
   ·rw[show (i==0)=false by simpa using hi];exact kat_one _ _ (ab9 h)
def TupsAt(h:Heap):List Value->List (List Int)->Prop
 |[],[]=>True
 |v::vs,k::ks=>(∃a o us m,v= .ref a/\h.get? a=some o/\o.cls= .type "tuple"/\o.data= .seq (Y2 us) m/\YH us k/\k≠[])/\TupsAt h vs ks
 |_,_=>False
theorem TupsAt.len{h:Heap}:∀{vs:List Value}{ks:List (List Int)},TupsAt h vs ks->vs.length=ks.length
 |[],[],_=>rfl
 |v::vs,k::ks,t=>by rw[Xo,Xo,TupsAt.len t.2]
 |[],_::_,t=>t.elim
 |_::_,[],t=>t.elim
theorem TupsAt.get{h:Heap}:∀{vs:List Value}{ks:List (List Int)}{i:Nat},TupsAt h vs ks->i<vs.length->∃a o us m,vs.getD i Yk= .ref a/\h.get? a=some o/\o.cls= .type "tuple"/\o.data= .seq (Y2 us) m/\YH us (ks.getD i [])/\ks.getD i []≠[]
 |v::vs,k::ks,0,t,_=>t.1
 |v::vs,k::ks,i+1,t,hi=>TupsAt.get (i:=i) t.2 (by simpa using hi)
 |[],_,_,_,hi=>by simp at hi
 |_::_,[],_,t,_=>t.elim
theorem TupsAt.keep{h h':Heap}{a:Addr}(k:∀b o,b≠a->h.get? b=some o->h'.get? b=some o)(ha:∀o,h.get? a=some o->o.cls≠ .type "tuple"):∀{vs:List Value}{ks:List (List Int)},TupsAt h vs ks->TupsAt h' vs ks
 |[],[],_=>trivial
 |v::vs,x::ks,⟨⟨b,o,us,m,e1,e2,e3,e4⟩,t⟩=>⟨⟨b,o,us,m,e1,k b o (λz=>ha o (by rw[<-z];exact e2) e3) e2,e3,e4⟩,TupsAt.keep k ha t⟩
 |[],_::_,t=>t.elim
 |_::_,[],t=>t.elim
theorem qA:∀{us:List Value}{xs:List Int},YH us xs->us.length=xs.length
 |_,_, .nil=>rfl
 |_,_, .cons x t r=>by rw[Xo,Xo,qA r]
theorem TupsAt.firsts{M:Model}{h:Heap}:∀{vs:List Value}{ks:List (List Int)},TupsAt h vs ks->∃fs,KatTups h vs fs/\fs.length=vs.length/\∀v∈fs,Looks M h (typeOf v) (.type "int")
 |[],[],_=>⟨[],KatTups.nil,rfl,λ_ z=>by cases z⟩
 |v::vs,k::ks,⟨⟨a,o,us,m,e1,e2,e3,e4,e5,e6⟩,t⟩=>by
  obtain⟨fs,q1,q2,q3⟩:=TupsAt.firsts (M:=M) t;subst e1;cases e5 with
  |nil=>exact ad3 rfl e6
  |cons x t r=>
   refine⟨.int x t::fs,KatTups.cons e2 e3 e4 (by simp) q1,by simp[q2],λv hv=>?_⟩;rcases Xs.mp hv with rfl | hv
   ·exact show Looks M h (pure (abL "int")) (abL "int") from .now
   ·exact q3 v hv
 |[],_::_,t=>t.elim
 |_::_,[],t=>t.elim
theorem asked{vs:List Value}{ks:List (List Int)}(t:TupsAt s.heap vs ks)(i j:Nat)(C:Bool->Xl->Prop)(hi:i<vs.length)(hj:j<vs.length)(h:C (fG (ks.getD i []) (ks.getD j [])) s):kas_ask prog w A (tuples' true) vs i j C s:=by
 obtain⟨a,o,us,m,e1,e2,_,e4,e5,_⟩:=t.get hi;obtain⟨a',o',Xf,m',Ey,NP,_,UP,Tw,_⟩:=t.get hj;unfold kas_ask;rw[e1,Ey];refine kat_lt e2 e4 NP UP (yG 0 e5 Tw ?_ h);rw[Xu,Xu,qA e5,qA Tw]
theorem Gq{α:Type}{l:List α}(h:l.Nodup){i j:Nat}(hi:i<l.length)(hj:j<l.length)(e:l[i]=l[j]):i=j:=by
 rcases Nat.lt_trichotomy i j with q | q | q
 ·exact ad3 e (Zm.mp h i j hi hj q)
 ·exact q
 ·exact ad3 e.symm (Zm.mp h j i hj hi q)
theorem El{a:Addr}{c:Nat}{vs:List Value}{ks:List (List Int)}{P:PySem.Fin->Xl->Prop}(ho:s.heap.get? a=some (aai "list" vs.toArray c))(ht:TupsAt s.heap vs ks)(hd:ks.Nodup)(Rn:vs.length<64)
 (h:∀(p:Array Nat) (h':Heap) (c':Nat),PN vs.length p->Ri (λi j=>fG (ks.getD i []) (ks.getD j [])) p vs.length->h'.get? a=some (aai "list" (Y2 (p.toList.map λi=>vs.getD i Yk)) c')->
  (∀b o,b≠a->s.heap.get? b=some o->h'.get? b=some o)->P (.done (.ret .none)) {s with heap:=h'}):wpAny (model prog w) A (aaM.«list.sort» ⟨[.ref a],[]⟩) P E s:=by
 have Ax:XH=16777216:=Zw;have s1:=Yh s.heap a (ZI λ_=>(#[]:Array Value));obtain⟨e1,T_⟩:∃e1,(s.heap.update a (ZI λ_=>(#[]:Array Value))).get? a=some (aai "list" #[] e1):=⟨_,get?_update_seq ho λ_=> #[]⟩
 have k1:∀b o,b≠a->s.heap.get? b=some o->(((s.heap.update a (ZI λ_=>(#[]:Array Value))).push (aai "tuple" vs.toArray 0)).push (aai "list" #[] 0)).get? b=some o:=λb o hb e=>
  Xm _ (Xm _ ((s1.2 b hb).trans e))
 have RW:=Xm (aai "list" #[] 0) (Xm (aai "tuple" vs.toArray 0) T_);have t3:=ht.keep k1 (λo e z=>by rw[ho] at e;cases e;exact ad3 (Value.type.inj z) (by decide));have fin:∀(st:SortSt) (p:Array Nat),PN vs.length p->Ri (λi j=>fG (ks.getD i []) (ks.getD j [])) p vs.length->(arrOf st).map (·.2)=Y2 (p.toList.map λi=>vs.getD i Yk)->failedOf st=none->
  wpAny (model prog w) A (do
   let touched:=(<-seqEpoch a) !=e1
   Builtin.List.listUpdate (.ref a) λ_=>(arrOf st).map (·.2)
   if let some e:=failedOf st then rule "list.sort.comparison-raised";throw e
   if touched then rule "list.sort.modified";raiseError "ValueError" "list modified during sort"
   ret .none) P E {s with heap:=((s.heap.update a (ZI λ_=>(#[]:Array Value))).push (aai "tuple" vs.toArray 0)).push (aai "list" #[] 0)}:=λst p hp hr he hf=>by
  have hz:(Y2 (p.toList.map λi=>vs.getD i Yk)).size=vs.length:=by rw[Xu,Xh,XZ,hp.sz]
  rw[he,hf];refine Xg (seqEpoch_at RW rfl (Xg (listUpdate_at RW rfl ?_ (Yo _) (by rw[hz,Ax];omega))));simp only[bne_self_eq_false,Yi,if_false];have s2:=Yh (((s.heap.update a (ZI λ_=>(#[]:Array Value))).push (aai "tuple" vs.toArray 0)).push (aai "list" #[] 0)) a (ZI λ_=>Y2 (p.toList.map λi=>vs.getD i Yk));exact Xn (h p _ _ hp hr (get?_update_seq RW λ_=>Y2 (p.toList.map λi=>vs.getD i Yk)) λb o hb e=>(s2.2 b hb).trans (k1 b o hb e))
 rw[list_sort_plain];refine Xg (listItems_at ho rfl (Xg (listUpdate_at ho rfl (Xg (seqEpoch_at T_ rfl ?_)) (by rw[Xu,Ax];omega) (Yo _))));refine Xg (wpAny_newTuple (Xg (wpAny_newList (Y1 ?_) (Yo _))) (by show vs.length<=_;rw[Ax];omega));show wpAny (model prog w) A _ P E {s with heap:=((s.heap.update a (ZI λ_=>(#[]:Array Value))).push (aai "tuple" vs.toArray 0)).push (aai "list" #[] 0)}
 dsimp only
 by_cases hs:vs.toArray.size<2
 ·rw[adY hs,adY hs];have LR:vs.length<2:=by simpa using hs
  refine Xg (Xn (Xg (Xn ?_)));refine fin (SortSt.mk' general' (vs.toArray.zip vs.toArray) #[] 7 none) (Y2 (XQ vs.length)) ⟨by simp,λi hi=>?_,λi j hi hj _=>by omega⟩ (λi j zU hj=>by omega) ?_ rfl
  ·rw[f9];simp[hi]
  ·show (vs.toArray.zip vs.toArray).map (·.2)=_;apply Array.toList_inj.mp;refine List.ext_getElem (by simp) λi a1 a2=>?_;simp at a1;simp[a1]
 ·rw[ad0 hs,ad0 hs];have LR:2<=vs.length:=by
   have:¬vs.length<2:=by simpa using hs
   omega
  obtain⟨fs,q1,q2,q3⟩:=t3.firsts (M:=model prog w);refine Xg (kat_kind q1 (by omega) q3 rfl ?_);have hb:Lt vs.length (λi j=>fG (ks.getD i []) (ks.getD j [])):=⟨λi j k=>v8 _ _ _,λi j=>ma _ _,λi j hi hj zU=>qN _ _ λz=>zU (by
   rw[ht.len] at hi hj;rw[XG,XG,Xi hi,Xi hj] at z;exact Gq hd hi hj (by simpa using z))⟩
  obtain⟨r1,r2⟩:=Ho hb LR;have run:=kat_run (prog:=prog) (w:=w) (A:=A) (E:=E) (ks:=vs) (vs:=vs) (κ:=tuples' true) (Q:=λst s'=>s'={s with heap:=((s.heap.update a (ZI λ_=>(#[]:Array Value))).push (aai "tuple" vs.toArray 0)).push (aai "list" #[] 0)}/\∃p,PN vs.length p/\Ri (λi j=>fG (ks.getD i []) (ks.getD j [])) p vs.length/\(arrOf st).map (·.2)=Y2 (p.toList.map λi=>vs.getD i Yk)/\failedOf st=none)
   (G:=λp s'=>s'={s with heap:=((s.heap.update a (ZI λ_=>(#[]:Array Value))).push (aai "tuple" vs.toArray 0)).push (aai "list" #[] 0)}/\PN vs.length p/\Ri (λi j=>fG (ks.getD i []) (ks.getD j [])) p vs.length) rfl LR Rn
   (λp sf s' a1 a2 a3 a4=>⟨a4.1,p,a4.2.1,a4.2.2,kat_snds rfl a2,a3⟩)
   (wp_run (s:={s with heap:=((s.heap.update a (ZI λ_=>(#[]:Array Value))).push (aai "tuple" vs.toArray 0)).push (aai "list" #[] 0)}) (λi j C hi hj hC=>asked t3 i j C hi hj hC) (CT (by omega)) ⟨rfl,r1,r2⟩)
  refine Xg (YA run ?_ λ_ _ e=>e);rintro⟨⟨⟩,sf⟩ s' ⟨rfl,p,a1,a2,a3,a4⟩;exact fin sf p a1 a2 a3 a4
end
section
variable{prog:XR}{w:World}{A:X6}{E:Value->Xl->Prop}{s:Xl}
theorem ur{d:Addr}{od:Obj}{es:Array YL}{ep:Nat}{Q:Value->Xl->Prop}(lo:(d==YS)=false)(ho:s.heap.get? d=some od)(hx:od.ExactDict)(hd:od.data= .dict es ep)
 (hQ:Q (.ref s.heap.objs.size) {s with heap:=s.heap.push {cls:= .type "dict_keyiterator",data:= .fields #[.ref d, .int 0 0, .int es.size 0, .int ep 0]} }):wpAny (model prog w) A (pyIter (.ref d)) Q E s:=by
 have hT:s.TypeIs (.ref d) "dict":=⟨od,ho,hx.1⟩
 refine acg hT F.slot_dict_iter (YY F.slot_dict_iter hT F.entry_dict_iter ?_ (F.args_dict_iter_1 _));unfold aaM.«dict.__iter__» Builtin.Dict.dictSlotNone;refine Xg (Xg (aaD hT ?_));show wpAny _ _ (pure (XX d)) _ _ s;refine Xn ?_;show wpAny _ _ (ZD d>>=_) _ _ s;unfold ZD;rw[ad0 (by rw[lo];exact XM)];refine Xg (Xn (Xg (YE ho hd (Xg (ZE ho hd ?_)))));refine Xg (YD (Xn ⟨_,rfl,"dict_keyiterator",_,⟨_,XA _ rfl,rfl⟩,F.slot_dict_keyiterator_next.lookup,?_⟩));simpa[abg] using hQ
theorem yQ{it d:Addr}{od:Obj}{es:Array YL}{i ep:Nat}{e:YL}{Q:Option Value->Xl->Prop}(hit:s.heap.IsKeyIter it d i es.size ep)(vN:s.heap.get? d=some od)(jD:od.data= .dict es ep)(hx:es[i]? =some e)
 (hQ:∀h',h'.IsKeyIter it d (i+1) es.size ep->YI it s.heap h'->Q (some e.key) {s with heap:=h'}):wpAny (model prog w) A (aaq (.ref it)) Q E s:=by
 obtain⟨o,ho,hc,hd⟩:=id hit;have eM:i<es.size:=(acf.mp hx).1;have vO:YU "dict_keyiterator"=false:=by decide
 unfold aaq;refine Xg (ab1 (aam (name:=Y5 "__next__") hit.typeIs ZQ
  (YY ZQ hit.typeIs acy ?_ (acb _))))
 refine Xg (Xn (Xg (Xg ?_)))
 first | refine Xg (ZO hit.typeIs (Xn ?_)) | refine Xg (aah hit.typeIs (Xn ?_))
 refine Xg (abQ ho hd ?_);simp only[vO,Yi,if_false];show wpAny _ _ (if (XX d==Yk)=true then _ else _) _ _ s;rw[ad0 (show¬((XX d==Yk)=true) from XM)];refine Xg (Xn (Xg (YE vN jD ?_)));rw[ad0 (by simp)];refine Xg (Xn (Xg (ZE vN jD ?_)));rw[ad0 (by simp)];refine Xn ?_;simp only[show¬((i:Int)<0) from by omega,if_false,aa3,hx];refine Xg ?_
 first | refine Xg (ZO hit.typeIs (Xn ?_)) | refine Xg (aah hit.typeIs (Xn ?_))
 refine Xg (wpAny_isOneOf_keyiter hit.typeIs ?_);show wpAny _ _ (setField (.ref it) 1 (abg ((i:Int)+1))>>=_) _ _ s;refine Xg (adb ho hd (by simp) ?_);have IB:(s.heap.update it (Obj.mapFields (·.setIfInBounds 1 (abg ((i:Int)+1))))).IsKeyIter it d (i+1) es.size ep:=
  ⟨_,Yx _ ho (Obj.isFreed_of_fields (adQ hd _)),(Obj.cls_mapFields ..).trans hc,by rw[adQ hd];simp[abg]⟩
 refine Xg (Y1 (Xg (wpAny_isOneOf_keyiter (s:={s with heap:=s.heap.update it (Obj.mapFields (·.setIfInBounds 1 (abg ((i:Int)+1))))}) IB.typeIs ?_)));show wpAny _ _ (pure e.key) _ _ _;exact Xn (Xn ⟨_,rfl,Xn (hQ _ IB (Yh ..))⟩)
theorem ua{it d:Addr}{od:Obj}{es:Array YL}{ep i:Nat}{Q:Option Value->Xl->Prop}(hh:A.handled=none)(hit:s.heap.IsKeyIter it d i es.size ep)(hi:es.size<=i)(vN:s.heap.get? d=some od)(jD:od.data= .dict es ep)
 (hQ:∀h',adu it s.heap h'->Q none {s with heap:=h'}):wpAny (model prog w) A (aaq (.ref it)) Q E s:=by
 obtain⟨o,ho,hc,hd⟩:=id hit;have vO:YU "dict_keyiterator"=false:=by decide
 unfold aaq;refine Xg (ab1 (aam (name:=Y5 "__next__") hit.typeIs ZQ
  (YY ZQ hit.typeIs acy ?_ (acb _))))
 refine Xg (Xn (Xg (Xg ?_)))
 first | refine Xg (ZO hit.typeIs (Xn ?_)) | refine Xg (aah hit.typeIs (Xn ?_))
 refine Xg (abQ ho hd ?_);simp only[vO,Yi,if_false];show wpAny _ _ (if (XX d==Yk)=true then _ else _) _ _ s;rw[ad0 (show¬((XX d==Yk)=true) from XM)];refine Xg (Xn (Xg (YE vN jD ?_)));rw[ad0 (by simp)];refine Xg (Xn (Xg (ZE vN jD ?_)));rw[ad0 (by simp)];refine Xn ?_;simp only[show¬((i:Int)<0) from by omega,if_false,aa3,acP hi];refine Xg ?_
 first | refine Xg (ZO hit.typeIs (Xn ?_)) | refine Xg (aah hit.typeIs (Xn ?_))
 show wpAny _ _ (setField (.ref it) 0 .none>>=_) _ _ s;refine Xg (adb ho hd (by simp) ?_);show wpAny _ _ (newExc (.type "StopIteration") []>>=_) _ _ _;refine Xg ?_;simp only[newExc,newTuple];refine Xg (YD ?_ (by size_fits));refine Xg (m:=abS _ _) (acR (a:=Yk) (by first | rfl | (simp only[abS];rfl)) ?_);refine YD ?_ (by size_fits);simp only[raiseNew];refine Xg (wpAny_handled ?_);rw[show A.in1.handled=none from hh];refine Xg (Xn (wpAny_throw ?_));refine Xg (acH (T:="StopIteration") (b:=true) ⟨_,XA _ rfl,rfl⟩ isSubtype_stop ?_);exact Xn (hQ _ (((Yh ..).extBut.push _).push _))
theorem Fd{it d:Addr}{od:Obj}{es:Array YL}{ep:Nat}{Q:Option Value->Xl->Prop}(hh:A.handled=none)(hit:s.heap.IsKeyIter it d es.size es.size ep)(vN:s.heap.get? d=some od)(jD:od.data= .dict es ep)
 (hQ:∀h',adu it s.heap h'->Q none {s with heap:=h'}):wpAny (model prog w) A (aaq (.ref it)) Q E s:=ua hh hit (Xx _) vN jD hQ
def Kp(es:Array YL):Nat->Value->Prop:=λi v=>∃e,es[i]? =some e/\v=e.key
theorem Bx(hh:A.handled=none)(I d:Addr)(iT:d≠I){od:Obj}{es:Array YL}{ep:Nat}(jD:od.data= .dict es ep):
 Walks prog w A I [I,d] [I] es.size (Kp es) (λi h=>h.IsKeyIter I d i es.size ep/\h.get? d=some od) where
 sub:=λb hb=>by simp at hb;simp[hb]
 frame:=λ_ _ _ st hk=>⟨st.1.at λo e=>hk I (by simp) o e,hk d (by simp) _ st.2⟩
 item:=λi s Q E hi st hQ=>by
  have hx:es[i]? =some es[i]:=Z2 hi;exact yQ st.1 st.2 jD hx λh' IB FO=>hQ _ h' s.toks ⟨_,hx,rfl⟩ ⟨IB,(FO.2 d iT).trans st.2⟩ λb o hb e=>FO.extBut b o (λh=>hb (by simp[h])) e
 done:=λs Q E st hQ=>Fd hh st.1 st.2 jD λh' Vs=>hQ h' s.toks λb o hb e=>Vs b o (λh=>hb (by simp[h])) e
 self:=λ_ _ _ _ st hQ=>wpAny_pyIter_keyiter st.1 hQ
theorem Hq{d:Addr}{od:Obj}{es:Array YL}{ep:Nat}(lo:(d==YS)=false)(hx:od.ExactDict)(jD:od.data= .dict es ep):KdlSrc prog w "dict" d d es.size (Kp es) (λh=>h.get? d=some od) where
 type:=λ_ hm=>⟨od,hm,hx.1⟩
 there:=λ_ hm=>⟨XB hm,XB hm⟩
 keep:=λ_ _ hm hk=>hk d (.inl rfl) od hm
 notList:=by decide
 notTuple:=by decide
 hint:=λ_ _ s _ hm hq=>kdl_hint_dict ⟨od,hm,hx.1⟩ hq
 iter:=λ_ _ hh hm=>⟨_,_,(λ_ _ hq=>ur lo hm hx jD hq),Bx hh _ d (XS (XB hm)) jD,⟨⟨_,XA _ rfl,rfl,rfl⟩,Xm _ hm⟩⟩
end
end L3
namespace L3
open PySem
def insI(k:List Int):List (List Int)->List (List Int)
 |[]=>[k]
 |x::r=>if fG k x then k::x::r else x::insI k r
def sortI:List (List Int)->List (List Int)
 |[]=>[]
 |k::r=>insI k (sortI r)
def z0(l:List (List Int)):Prop:=l.Pairwise λa b=>fG a b=true
theorem qz{k x:List Int}:∀{l:List (List Int)},x∈insI k l↔x=k\/x∈l
 |[]=>by simp[insI]
 |y::r=>by
  unfold insI;split
  ·simp
  ·rw[Xs,qz,Xs];constructor
   ·rintro(h | h | h)<;>simp[h]
   ·rintro(h | h | h)<;>simp[h]
theorem ui{k:List Int}:∀{l:List (List Int)},z0 l->k∉l->z0 (insI k l)
 |[],_,_=>List.pairwise_singleton _ _
 |x::r,h,hk=>by
  have h:=YQ.mp h;unfold insI;split
  ·rename_i q;refine YQ.mpr ⟨λy hy=>?_,YQ.mpr h⟩;rcases Xs.mp hy with rfl | hy
   ·exact q
   ·exact v8 _ _ _ q (h.1 y hy)
  ·rename_i q;have hx:fG x k=true:=by
    rcases qN k x (λz=>hk (by rw[z];exact Xk ..)) with z | z
    ·exact ad3 z q
    ·exact z
   refine YQ.mpr ⟨λy hy=>?_,ui h.2 λz=>hk (Xj _ z)⟩;rcases qz.mp hy with rfl | hy
   ·exact hx
   ·exact h.1 y hy
theorem iR{x:List Int}:∀{l:List (List Int)},x∈sortI l↔x∈l
 |[]=>Iff.rfl
 |k::r=>by unfold sortI;rw[qz,iR,Xs]
theorem lJ:∀{l:List (List Int)},l.Nodup->z0 (sortI l)
 |[],_=>acv
 |k::r,h=>by
  have h:=Zb.mp h;exact ui (lJ h.2) λz=>h.1 (iR.mp z)
theorem rR:∀{a b:List (List Int)},z0 a->z0 b->(∀x,x∈a↔x∈b)->a=b
 |[],[],_,_,_=>rfl
 |[],y::b,_,_,h=>by have:=(h y).mpr (Xk ..);cases this
 |x::a,[],_,_,h=>by have:=(h x).mp (Xk ..);cases this
 |x::a,y::b,ha,hb,h=>by
  have ha:=YQ.mp ha;have hb:=YQ.mp hb;have e:x=y:=by
   rcases Xs.mp ((h x).mp (Xk ..)) with q | q
   ·exact q
   ·rcases Xs.mp ((h y).mpr (Xk ..)) with p | p
    ·exact p.symm
    ·have z1:=hb.1 x q;have z2:=ha.1 y p;rw[ma _ _ z1] at z2;cases z2
  subst e;have Ul:∀k,fG k k≠true:=λk z=>by have:=ma _ _ z;rw[z] at this;cases this
  rw[rR ha.2 hb.2 λz=>?_];constructor
  ·intro hz;rcases Xs.mp ((h z).mp (Xj _ hz)) with q | q
   ·subst q;exact ad3 (ha.1 z hz) (Ul z)
   ·exact q
  ·intro hz;rcases Xs.mp ((h z).mpr (Xj _ hz)) with q | q
   ·subst q;exact ad3 (hb.1 z hz) (Ul z)
   ·exact q
theorem Bd:∀(n:Nat) (l:List Nat),l.Nodup->(∀x∈l,x<n)->l.length=n->∀k,k<n->k∈l
 |0,_,_,_,_,k,hk=>by omega
 |n+1,l,hd,hl,hn,k,hk=>by
  by_cases h:n∈l
  ·by_cases e:k=n
   ·subst e;exact h
   ·refine List.mem_of_mem_erase (Bd n (l.erase n) (hd.erase n) (λx hx=>?_) (by rw[acN h,hn];rfl) k (by omega));have hx:=hd.mem_erase_iff.mp hx;have:=hl x hx.2;have:=hx.1;omega
  ·cases l with
   |nil=>simp at hn
   |cons x r=>
    have hd:=Zb.mp hd;have lt:∀y∈x::r,y<n:=λy hy=>by
     have:=hl y hy;have:y≠n:=λz=>h (by rw[<-z];exact hy);omega
    exact ad3 (Bd n r hd.2 (λy hy=>lt y (Xj _ hy)) (by simpa using hn) x (lt x (Xk ..))) hd.1
theorem Em{ks:List (List Int)}{p:Array Nat}(hd:ks.Nodup)(P:PN ks.length p)(R:Ri (λi j=>fG (ks.getD i []) (ks.getD j [])) p ks.length):(p.toList.map λi=>ks.getD i [])=sortI ks:=by
 have hsz:p.toList.length=ks.length:=by rw[XZ];exact P.sz
 have zT:∀i (h:i<p.toList.length),p.toList[i]=at' p i:=λi h=>by
  have h':i<p.size:=by rw[XZ] at h;exact h
  rw[f9,Z2 h'];simp
 refine rR ?_ (lJ hd) λx=>?_
 ·refine Zm.mpr λi j hi hj zU=>?_;rw[Xh] at hi hj;rw[List.getElem_map,List.getElem_map,zT i hi,zT j hj];exact R i j zU (by omega)
 ·rw[iR];constructor
  ·intro hx;obtain⟨i,hi,rfl⟩:=XE.mp hx;obtain⟨j,hj,rfl⟩:=aav.mp hi;have:=P.lt j (by omega);rw[zT j hj,XG,Xi this];exact Z3 this
  ·intro hx;obtain⟨k,hk,rfl⟩:=aav.mp hx;have OQ:k∈p.toList:=by
    have hn:p.toList.Nodup:=Zm.mpr λi j hi hj zU z=>by
     rw[zT i hi,zT j hj] at z;have:=P.inj i j (by omega) (by omega) z;omega
    exact Bd ks.length p.toList hn (λx hx=>by
     obtain⟨j,hj,rfl⟩:=aav.mp hx;rw[zT j hj];exact P.lt j (by omega)) hsz k hk
   refine XE.mpr ⟨k,OQ,?_⟩;rw[XG,Xi hk];rfl
end L3
namespace L3
open PySem PySem.Spec L2 SeqAt HT
open PyProof.Rows hiding St
def tupI(k:List Int):D:= .tup (k.map D.int)
def KY:D->Option (List Int)
 | .tup ds=>nums ds
 |_=>none
def lq:List D->Option (List (List Int))
 |[]=>some []
 |d::ds=>match KY d,lq ds with
  |some k,some ks=>some (k::ks)
  |_,_=>none
def jX(ks:List (List Int)):Bool:=decide ks.Nodup&&decide (ks.length<64)&&ks.all λk=>!k.isEmpty
def eB(H:Hp):List V->List (List Int)->Prop:=abT λv k=>∃a,v= .ref a/\H a=some (.tup (k.map V.int))
theorem uk{K:Xr}{F H:Hp}(hs:Same F H):∀{ds:List D}{vs:List V}{ks:List (List Int)},lq ds=some ks->DenL K F ds vs->eB H vs ks/\eB F vs ks
 |[],_,_,e,h=>by cases e;cases (show _=_ from h);exact⟨.nil, .nil⟩
 |d::ds,_,_,e,⟨v,r,h1,h2,h3⟩=>by
  subst h1;unfold lq at e;split at e
  ·rename_i k ks e1 e2;cases e;obtain⟨Si,Sj⟩:=uk hs e2 h3;cases d with
   |tup es=>
    obtain⟨a,ws,rfl,k2,k3,_⟩:=h2;have:=gL e1 k3;subst this;exact⟨.cons ⟨a,rfl,hs _ _ k2⟩ Si, .cons ⟨a,rfl,k2⟩ Sj⟩
   |_=>cases e1
  ·cases e
theorem zk{K:Xr}{F:Hp}:∀{ws:List V}{ks:List (List Int)},eB F ws ks->(∀k∈ks,k.length<=lim)->DenL K F (ks.map tupI) ws
 |_,_, .nil,_=>rfl
 |_,_, .cons (b:=k) h t,hl=>by
  obtain⟨a,rfl,h⟩:=h;exact .cons ⟨a,_,rfl,h,DenL.ints k,by rw[Xh];exact hl k (Xk ..)⟩ (zk t λk hk=>hl k (Xj _ hk))
theorem uU{X:Cx}{f8:List (Addr×Obj)}{σ:St}{H:Hp}{s:Xl}(I:Inv X f8 σ H s):∀{vs:List V}{aL:List Value}{ks:List (List Int)},eB H vs ks->Vals vs aL->(∀k∈ks,k≠[])->TupsAt s.heap aL ks
 |_,_,_, .nil,r,_=>by cases r;exact trivial
 |_,_,_, .cons (b:=k) h t,r,hn=>by
  obtain⟨a,rfl,h⟩:=h;cases r with
  |cons r1 r2=>
   cases (show _=_ from r1);obtain⟨us,ru,pt,_⟩:=I.tuple (SqT.of (K:=X.K) h);obtain⟨o,q1,q2,m,q3⟩:=pt;exact⟨⟨a,o,us,m,rfl,q1,q2,q3,intsAre_of ru,hn k (Xk ..)⟩,uU I t r2 λk hk=>hn k (Xj _ hk)⟩
theorem mO{H:Hp}:∀{vs:List V}{ks:List (List Int)}{i:Nat},eB H vs ks->i<vs.length->∃a,vs.getD i .non= .ref a/\H a=some (.tup ((ks.getD i []).map V.int))
 |_,_,i, .nil,hi=>by simp at hi
 |_,_,0, .cons h t,_=>h
 |_,_,i+1, .cons h t,hi=>mO (i:=i) t (by simpa using hi)
theorem mP{H:Hp}:∀{vs:List V}{ks:List (List Int)},eB H vs ks->vs.length=ks.length
 |_,_, .nil=>rfl
 |_,_, .cons h t=>by rw[Xo,Xo,mP t]
theorem uT{H:Hp}{vs:List V}{ks:List (List Int)}(h:eB H vs ks):∀{is:List Nat},(∀i∈is,i<vs.length)->eB H (is.map λi=>vs.getD i .non) (is.map λi=>ks.getD i [])
 |[],_=> .nil
 |i::is,hi=> .cons (mO h (hi i (Xk ..))) (uT h λj hj=>hi j (Xj _ hj))
theorem kF:∀{vs:List V}{us:List Value}(i:Nat),Vals vs us->i<vs.length->RelV (vs.getD i .non) (us.getD i Yk)
 |_,_,i, .nil,hi=>by simp at hi
 |_,_,0, .cons h t,_=>h
 |_,_,i+1, .cons h t,hi=>kF i t (by simpa using hi)
theorem u7{vs:List V}{us:List Value}(h:Vals vs us):∀{is:List Nat},(∀i∈is,i<vs.length)->Vals (is.map λi=>vs.getD i .non) (is.map λi=>us.getD i Yk)
 |[],_=> .nil
 |i::is,hi=> .cons (kF i h (hi i (Xk ..))) (u7 h λj hj=>hi j (Xj _ hj))
section
theorem u0:∀l:List (List Int),(sortI l).length=l.length
 |[]=>rfl
 |k::r=>by
  have ins:∀(k:List Int) (l:List (List Int)),(insI k l).length=l.length+1:=by
   intro k l;induction l with
   |nil=>rfl
   |cons x l ih=>
    unfold insI;split
    ·rfl
    ·rw[Xo,ih,Xo]
  unfold sortI;rw[ins,u0 r,Xo]
end
def qG(k:List Int):List Key:=k.map abW
def P4:List V->Hp->VK->Prop:=λxs H Q=>∃p aE ks,xs=[.ref p]/\Rd H p (.dT aE)/\aE.map (·.1)=ks.map qG/\jX ks=true/\∀(q:Addr) (ws:List V),H q=none->eB H ws (sortI ks)->Q (.ref q) (upd H q (.lst ws))
theorem uw{H:Hp}:∀{aE:List (List Key×V)}{xs:List (List Key×Addr×Value)}{ks:List (List Int)},abT (λ(p:List Key×V) (q:List Key×Addr×Value)=>p.1=q.1/\H q.2.1=some (.tup (p.1.map kV))/\RelV p.2 q.2.2) aE xs->
 aE.map (·.1)=ks.map qG->eB H (xs.map λx=>V.ref x.2.1) ks
 |_,_,[], .nil,_=> .nil
 |_,_,_::_, .nil,e=>by simp at e
 |_,_,[], .cons h t,e=>by simp at e
 |_,_,k::ks, .cons h t,e=>by
  rw[Xp,Xp] at e;injection e with e1 e2
  refine .cons ⟨_,rfl,?_⟩ (uw t e2);have hk:(qG k).map kV=k.map V.int:=by unfold qG;rw[Yn];rfl
  rw[h.2.1,e1,hk]
section
variable{X:Cx}{Xw:Nat->Hp->Prop}{e:Expr}{δs:DA}{pos p:Pos}
theorem De(hc:X.calm=true):CallR X (.builtin "sorted") P4:=by
 intro f8 s σ H xs us Q I r h;obtain⟨a,aE,ks,rfl,hH,KR,hk,q⟩:=h;obtain⟨u,rfl,r1⟩:=r.one;cases (show u=_ from r1);obtain⟨z,lo,xs,rel,o,es,ep,g1,g2,g3,g4,g5⟩:=(show ObjOk X.prog X.w H s.heap a (.dT aE) from hH.ok I.hok)
 unfold jX at hk;rw[XO,XO] at hk;have hd:ks.Nodup:=ad4 hk.1.1;have Rn:ks.length<64:=ad4 hk.1.2;have iT:∀k∈ks,k≠[]:=λk NR z=>by have:=Yl.mp hk.2 k NR;rw[z] at this;cases this
 have hr:=uw rel KR;have FH:=mP hr;rw[Xh] at FH;have T3:es.size=xs.length:=by rw[<-XZ,g4,Xh]
 have Ax:XH=16777216:=Zw;refine Calls.call_function_entry kind_sorted plain_sorted entry_sorted (args_sorted1 _) ?_;unfold aaM.«sorted»;refine Xg (m:=checkCount "sorted" 1 1 _) (Xn (Xg (PySem.W.kdu_collect (A:=X.A.in1) (Hq lo g2 g3) (I.ok.hd hc) g1 (by rw[T3,Ax];omega) λh1 tk acc O7 Fx=>?_)));have Oo:acc.toList.length=xs.length:=by rw[XZ,<-T3];exact Fx.1
 have I1:Inv X f8 σ H {s with heap:=h1,toks:=tk}:=I.kept (t':=tk) λb ob e=>O7 b ob e;have rv:Vals (xs.map λx=>V.ref x.2.1) acc.toList:=by
  have ext:∀{vs:List V}{us:List Value},vs.length=us.length->(∀(i:Nat) (v:V) (u:Value),vs[i]? =some v->us[i]? =some u->RelV v u)->Vals vs us:=by
   intro vs;induction vs with
   |nil=>intro us h _;cases us with | nil=>exact .nil | cons _ _=>simp at h
   |cons v vs ih=>
    intro us h hh;cases us with
    |nil=>simp at h
    |cons u us=>exact .cons (hh 0 v u rfl rfl) (ih (by simpa using h) λi v u h1 h2=>hh (i+1) v u h1 h2)
  refine ext (by rw[Xh,Oo]) λi v u e1 e2=>?_;rw[Zl] at e2;obtain⟨en,q1,q2⟩:=Fx.2 i u e2;rw[<-Zl,g4,Xv] at q1;rw[Xv] at e1;cases w:xs[i]? with
  |none=>rw[w] at e1;cases e1
  |some x=>
   rw[w] at e1 q1;cases e1;cases q1;exact q2
 have ht:=uU I1 hr rv iT;refine Xg (wpAny_newList ?_ (by rw[Ax];omega));have QJ:(h1.push (aai "list" acc.toList.toArray 0)).get? h1.objs.size=some (aai "list" acc.toList.toArray 0):=XA _ rfl;refine Xg (Y1 (YY slot_list_sort ⟨_,QJ,rfl⟩ entry_list_sort (El (s:={s with heap:=h1.push (aai "list" acc.toList.toArray 0),toks:=tk}) QJ
  (ht.keep (a:=h1.objs.size) (λb o _ e=>Xm _ e) (λo e=>ad3 (XB e) (Yr _))) hd (by omega) λP h' c' hP hR RK OG=>?_) (args_list_sort _)))
 have Om:∀i∈P.toList,i<(xs.map λx=>V.ref x.2.1).length:=λi hi=>by
  obtain⟨j,hj,rfl⟩:=aav.mp hi;have h':j<P.size:=by rw[XZ] at hj;exact hj
  have:=hP.lt j (by rw[hP.sz] at h';exact h');rw[f9,Z2 h'] at this;have e:P.toList[j]=P[j]:=by simp
  rw[e,Xh];have:P[j]<acc.toList.length:=this;omega
 have Vg:PN ks.length P:=by rw[<-FH,<-Oo];exact hP
 have QA:Ri (λi j=>fG (ks.getD i []) (ks.getD j [])) P ks.length:=by rw[<-FH,<-Oo];exact hR
 have QL:=Em hd Vg QA;have Uh:=uT hr Om;rw[QL] at Uh;refine⟨_,rfl,Xn ⟨_,rfl,⟨.ref h1.objs.size,_,I1.laid (a:=h1.objs.size) (t':=tk) (o:= .lst (P.toList.map λi=>(xs.map λx=>V.ref x.2.1).getD i .non)) (λb ob e=>OG b ob (XS (XB e)) (Xm _ e)) (Xx _) ?_,rfl,q _ _ (I1.hok.fresh (Xx _)) Uh⟩⟩⟩;exact⟨by rw[Xh,XZ,hP.sz,Ax];omega,_,c',u7 rv Om,RK⟩
theorem uS{F F':Hp}(e:Same F F'):∀{ws:List V}{ks:List (List Int)},eB F ws ks->eB F' ws ks
 |_,_, .nil=> .nil
 |_,_, .cons ⟨b,q1,q2⟩ t=> .cons ⟨b,q1,e _ _ q2⟩ (uS e t)
theorem zl{F H:Hp}(hs:Same F H):∀{ws:List V}{ks:List (List Int)},eB H ws ks->∃F',Ext F H F' H/\eB F' ws ks
 |_,_, .nil=>⟨F,Ext.refl hs, .nil⟩
 |_,_, .cons h t=>by
  obtain⟨a,rfl,h⟩:=h;obtain⟨F1,e1,r1⟩:=zl hs t;have e2:=Ext.tup (F:=F1) e1.fh h;refine⟨_,e1.trans e2, .cons ⟨a,rfl,aM⟩ ?_⟩;exact uS e2.ff r1
def uj:List Key->Option (List Int)
 |[]=>some []
 | .inl i::r=>(uj r).map (i:: ·)
 |_=>none
def gK:List (List Key)->Option (List (List Int))
 |[]=>some []
 |k::r=>match uj k,gK r with
  |some x,some xs=>some (x::xs)
  |_,_=>none
theorem yy:∀{k:List Key}{x:List Int},uj k=some x->k=qG x
 |[],_,e=>by cases e;rfl
 | .inl i::r,_,e=>by
   unfold uj at e;cases q:uj r with
   |none=>rw[q] at e;cases e
   |some y=>rw[q] at e;cases e;rw[yy q];rfl
 | .inr _::r,_,e=>by cases e
theorem nz:∀{kk:List (List Key)}{ks:List (List Int)},gK kk=some ks->kk=ks.map qG
 |[],_,e=>by cases e;rfl
 |k::r,_,e=>by
  unfold gK at e;split at e
  ·rename_i x xs e1 e2;cases e;rw[Xp,<-yy e1,<-nz e2]
  ·cases e
def u3:List D->M D
 |[.dct kk ds]=>match gK kk with
  |some ks=>if jX ks&&ks.all (λk=>decide (k.length<=lim)) then ae (.lst ((sortI ks).map tupI)) else ag
  |none=>ag
 |_=>ag
theorem kG{α β:Type}:∀{a:List α}{b:List β},a.length=b.length->(a.zip b).map (·.1)=a
 |[],[],_=>rfl
 |x::a,y::b,h=>by rw[YO,Xp,kG (by simpa using h)]
 |[],_::_,h=>by simp at h
 |_::_,[],h=>by simp at h
theorem Cv(hc:X.calm=true)(hg:Gl X "sorted")(hm:X.mg "sorted"=none)(hb:Yd "sorted"=some (.builtin "sorted"))(ha:gV X Xw [e] δs)(he:Xz [e] X.env=[(false,eval e X.env)]:=by rfl):PD X Xw (.Call (.Name "sorted" p) [e] [] pos) (dA u3 δs):=
 dO (De hc) (λXw F H vs ds Q s h w=>by
  unfold u3 at w;split at w
  ·rename_i kk ds;obtain⟨v,rfl,h1⟩:=h.one;obtain⟨a,ob,ws,rfl,h2,h3,h4,h5⟩:=h1;split at w
   ·rename_i ks OH;split at w
    ·rename_i hok;rw[XO] at hok;have hl:∀k∈ks,k.length<=lim:=λk hk=>ad4 (Yl.mp hok.2 k hk);have Rn:ks.length<64:=by
      have:=hok.1;unfold jX at this;rw[XO,XO] at this;exact ad4 this.1.2
     refine⟨a,_,ks,rfl, .inr ⟨ob,s _ _ h2⟩,by rw[kG (by rw[h4];exact h3.len),nz OH],hok.1,λq us hq hr=>?_⟩;obtain⟨F1,e1,r1⟩:=zl s hr;have e2:=Ext.lay (o:= .lst us) e1.fh hq;exact WP.fin w (e1.trans e2) ⟨q,_,rfl,aM,DenL.mono e2.ff (zk r1 λk hk=>hl k (iR.mp hk)),by rw[Xh,u0];unfold lim;omega⟩
    ·exact w.elim
   ·exact w.elim
  ·exact w.elim) hg hm hb ha (by decide) (by decide) he rfl
end
end L3
namespace L3
open PySem PySem.Spec L2
open PyProof.Rows hiding St
def orM{α:Type}(a b:M α):M α:=match a with
 |none=>b
 |some r=>some r
def L9(a b:DA):DA:=λρ=>orM (a ρ) (b ρ)
section
variable{X:Cx}{Xw:Nat->Hp->Prop}{e tg:Expr}{δi δi':DA}
theorem JH(h:zY X Xw tg e δi)(h':zY X Xw tg e δi'):zY X Xw tg e (L9 δi δi'):=λf8 s σ H Q I ⟨F,ρ,S,w⟩=>by
 unfold L9 orM at w;cases q:δi ρ with
 |none=>rw[q] at w;exact h' f8 s σ H Q I ⟨F,ρ,S,w⟩
 |some r=>rw[q] at w;exact h f8 s σ H Q I ⟨F,ρ,S,by rw[q];exact w⟩
end
def fgt:List Nat->bb->bb
 |[],ρ=>ρ
 |i::is,ρ=>fgt is (ρ.set i none)
def Pp(f:bb->bb):Out->M Out
 | .nx ρ=>ae (.nx (f ρ))
 | .rt d=>ae (.rt d)
def cx(is:List Nat)(τ:DS):DS:=λρ=>τ ρ>>=Pp (fgt is)
theorem StOk.fgt1{K:Xr}{s0 ad8 F H:Hp}{σ:St}{ρ:bb}(s:StOk K s0 ad8 F H σ ρ)(i:Nat):StOk K s0 ad8 F H σ (ρ.set i none):=by
 have get:∀(j:Nat) (sl:Sl),(ρ.set i none)[j]? =some (some sl)->ρ[j]? =some (some sl):=λj sl e=>by
  by_cases hj:j=i
  ·subst hj;by_cases hl:j<ρ.length
   ·rw[XN hl] at e;cases e
   ·rw[abl (by simpa using hl)] at e;cases e
  ·rw[XF (Yp hj)] at e;exact e
 exact⟨s.ext,⟨s.st.fh,λj sl e=>s.st.den j sl (get j sl e)⟩,by simp[s.len],λj c a e e'=>s.own j c a (get j _ e) e',λj k c c' a e1 e2 e3 e4=>s.sep j k c c' a (get j _ e1) (get k _ e2) e3 e4⟩
theorem StOk.fgt{K:Xr}{s0 ad8 F H:Hp}{σ:St}:∀(is:List Nat) {ρ:bb},StOk K s0 ad8 F H σ ρ->StOk K s0 ad8 F H σ (L3.fgt is ρ)
 |[],_,s=>s
 |i::is,_,s=>StOk.fgt is (s.fgt1 i)
theorem WPS.fgt{K:Xr}{Xw:Nat->Hp->Prop}{s0 ad8:Hp}{is:List Nat}{m:M Out}{Dn:Ends}(w:WPS K Xw s0 ad8 (m>>=Pp (L3.fgt is)) Dn):WPS K Xw s0 ad8 m Dn:=by
 match m,w with
 |none,w=>exact w
 |some (.ok (.nx ρ)),w=>exact λσ F H s=>w σ F H (s.fgt is)
 |some (.ok (.rt d)),w=>exact w
 |some (.ex n),w=>exact w
section
variable{X:Cx}{Xw:Nat->Hp->Prop}{UC:List Stmt}{τ:DS}{is:List Nat}
theorem aV(h:PSDs X Xw UC τ):PSDs X Xw UC (cx is τ):=λs0 ad8=>PSs.weak (h s0 ad8) λD σ H ⟨F,ρ,s,w⟩=>⟨F,ρ,s,WPS.fgt w⟩
end
def U6:Option Sl->Option Sl
 |some (.ow c)=>some (.fz c.d)
 |x=>x
def sG(ρ:bb):bb:=ρ.map U6
def refA(h:Heap)(P:Addr->Prop)[DecidablePred P](H:Hp):Hp:=λb=>if P b then(H b).map (pH ((h.get? b).getD {cls:= .none,data:= .fields #[]})) else H b
theorem Am(ob:Obj)(o:HO):pH ob o=o\/((∃k,o= .dT k)\/∃k,o= .dK k)/\pH ob o= .frz ob o:=by
 cases o<;>first | exact .inl rfl | exact .inr ⟨.inl ⟨_,rfl⟩,rfl⟩ | exact .inr ⟨.inr ⟨_,rfl⟩,rfl⟩
section
variable{X:Cx}{f8:List (Addr×Obj)}{σ:St}{H:Hp}{s:Xl}{P:Addr->Prop}[DecidablePred P]
theorem iM{h:Heap}{b:Addr}(e:H b=none):refA h P H b=none:=by
 unfold refA;split
 ·rw[e];rfl
 ·exact e
theorem uR{h:Heap}{b:Addr}{o:HO}(e:H b=some o):refA h P H b=some o\/((∃k,o= .dT k)\/∃k,o= .dK k)/\P b/\refA h P H b=some (.frz ((h.get? b).getD {cls:= .none,data:= .fields #[]}) o):=by
 unfold refA;split
 ·rename_i hp;rw[e];rcases Am ((h.get? b).getD {cls:= .none,data:= .fields #[]}) o with q | ⟨q1,q2⟩
  ·exact .inl (by show some _=_;rw[q])
  ·exact .inr ⟨q1,hp,by show some _=_;rw[q2]⟩
 ·exact .inl e
theorem iL{h:Heap}{b:Addr}{o:HO}(e:H b=some o)(n1:∀k,o≠ .dT k)(n2:∀k,o≠ .dK k):refA h P H b=some o:=by
 rcases uR (P:=P) (h:=h) e with q | ⟨⟨k,q⟩ | ⟨k,q⟩,_⟩
 ·exact q
 ·exact ad3 q (n1 k)
 ·exact ad3 q (n2 k)
theorem Inv.refA(I:Inv X f8 σ H s):Inv X f8 σ (L3.refA s.heap P H) s:=by
 have obj:∀b o,H b=some o->((∃k,o=HO.dT k)\/∃k,o= .dK k)->∃ob,s.heap.get? b=some ob:=λb o e hu=>by
  have hk:=I.hok b o e;rcases hu with⟨k,h1⟩ | ⟨k,h1⟩
  ·subst h1;obtain⟨_,_,_,_,ob,_,_,q,_⟩:=hk;exact⟨ob,q⟩
  ·subst h1;obtain⟨_,_,_,_,ob,_,_,q,_⟩:=hk;exact⟨ob,q⟩
 refine⟨I.ok,I.os,I.bare,⟨I.base.keep,I.base.slot,λb q h1 h2 h3=>iM (I.base.free b q h1 h2 h3),I.base.there,λb xs q=>iL (I.base.tups b xs q) (λ_ z=>nomatch z) (λ_ z=>nomatch z),
  λb q1 v q=>iL (I.base.frzs b q1 v q) (λ_ z=>nomatch z) (λ_ z=>nomatch z),λb ps q=>?_⟩,I.loc,I.cell,iM I.free,λx c q=>iM (I.freeC x c q),λp hp=>?_,λb v q=>?_,I.len⟩
 ·obtain⟨m,this⟩:=I.base.tbls b ps q;exact⟨m,iL this (λ_ z=>nomatch z) (λ_ z=>nomatch z)⟩
 ·obtain⟨h1,h2,h3⟩:=I.pin p hp;exact⟨h1,iM h2,h3⟩
 ·have st:∀{c:Addr}{v:HO},ObjOk X.prog X.w H s.heap c v->ObjOk X.prog X.w (L3.refA s.heap P H) s.heap c v:=λ{c v} k=>k.stay (λ_ _ _ q=>q)
   (λc' q=>iL q (λ_ z=>nomatch z) (λ_ z=>nomatch z)) λc' xs q=>iL q (λ_ z=>nomatch z) (λ_ z=>nomatch z)
  cases e:H b with
  |none=>rw[iM e] at q;cases q
  |some o=>
   rcases uR (P:=P) (h:=s.heap) e with z | ⟨hu,hp,z⟩
   ·rw[z] at q;cases q;exact st (I.hok b _ e)
   ·rw[z] at q;cases q;obtain⟨ob,OM⟩:=obj b o e hu;rw[OM];exact⟨OM,st (I.hok b o e)⟩
def unA(P:Addr->Prop)[DecidablePred P](H:Hp):Hp:=λb=>if P b then(match H b with | some (.frz _ u)=>some u | x=>x) else H b
theorem Inv.unA(I:Inv X f8 σ H s)(hP:∀b,P b->∀o u,X.ad8 b≠some (.frz o u))(hQ:∀b,P b->∀o u,H b=some (.frz o u)->(∃k,u= .dT k)\/∃k,u= .dK k):Inv X f8 σ (L3.unA P H) s:=by
 have non:∀b,H b=none->L3.unA P H b=none:=λb e=>by unfold L3.unA;rw[e];split<;>rfl
 have keep:∀b o,H b=some o->(∀q u,o≠ .frz q u)->L3.unA P H b=some o:=λb o e n=>by
  unfold L3.unA;split
  ·rw[e];cases o<;>first | rfl | exact ad3 rfl (n _ _)
  ·exact e
 refine⟨I.ok,I.os,I.bare,⟨I.base.keep,I.base.slot,λb q h1 h2 h3=>non b (I.base.free b q h1 h2 h3),I.base.there,λb xs q=>keep b _ (I.base.tups b xs q) (λ_ _ z=>nomatch z),
  λb q1 v q=>?_,λb ps q=>?_⟩,I.loc,I.cell,non _ I.free,λx c q=>non _ (I.freeC x c q),λp hp=>?_,λb v q=>?_,I.len⟩
 ·have:=I.base.frzs b q1 v q;unfold L3.unA;rw[ad0 (λhp=>hP b hp q1 v q)];exact this
 ·obtain⟨m,this⟩:=I.base.tbls b ps q;exact⟨m,keep b _ this (λ_ _ z=>nomatch z)⟩
 ·obtain⟨h1,h2,h3⟩:=I.pin p hp;exact⟨h1,non _ h2,h3⟩
 ·have st:∀{c:Addr}{v:HO},ObjOk X.prog X.w H s.heap c v->ObjOk X.prog X.w (L3.unA P H) s.heap c v:=λ{c v} k=>k.stay (λ_ _ _ q=>q)
   (λc' q=>keep c' _ q (λ_ _ z=>nomatch z)) λc' xs q=>keep c' _ q (λ_ _ z=>nomatch z)
  cases e:H b with
  |none=>rw[non b e] at q;cases q
  |some o=>
   have ko:=I.hok b o e;by_cases hf:∃ob u,o= .frz ob u
   ·obtain⟨ob,u,rfl⟩:=hf;unfold L3.unA at q;split at q
    ·rw[e] at q;cases q;obtain⟨_,k2⟩:=ko;exact st k2
    ·rw[e] at q;cases q;exact st ko
   ·rw[keep b o e (λq u z=>hf ⟨q,u,z⟩)] at q;cases q;exact st ko
end
mutual
def yi:D->Bool
 | .non=>true
 | .bl _=>true
 | .int _=>true
 | .str _=>true
 | .tup ds=>BX ds
 | .raw _=>false
 | .exc _=>false
 | .scr _=>false
 | .lst _=>false
 | .dct _ _=>false
 | .dci _ _=>false
def BX:List D->Bool
 |[]=>true
 |d::ds=>yi d&&BX ds
end
def qp(d:D):M D:=if yi d then ae d else ag
def OwnAt(σ:St)(ρ:bb)(b:Addr):Prop:=∃(i:Nat) (c:C),ρ[i]? =some (some (Sl.ow c))/\σ[i]? =some (some (V.ref b))
section
variable{K:Xr}{F H F' H':Hp}{σ:St}{ρ:bb}{h:Heap}{b:Addr}
theorem OwnAt.obj(S:StE K F H σ ρ)(p:OwnAt σ ρ b):F b=none/\∃o,H b=some o/\((∃x,o= .lst x)\/(∃x,o= .dT x)\/∃x,o= .dK x):=by
 obtain⟨i,c,h1,h2⟩:=p;obtain⟨v,h3,a,o,rfl,h4,h5,h6⟩:=S.den i _ h1;rw[h3] at h2;cases h2;refine⟨h5,o,h4,?_⟩;cases c with
 |lst ds=>obtain⟨vs,rfl,_⟩:=h6;exact .inl ⟨_,rfl⟩
 |dct ks ds=>obtain⟨vs,rfl,_⟩:=h6;exact .inr (.inl ⟨_,rfl⟩)
 |dci ks ds=>obtain⟨vs,rfl,_⟩:=h6;exact .inr (.inr ⟨_,rfl⟩)
open Classical in
noncomputable def fA(σ:St)(ρ:bb)(H1 F:Hp):Hp:=λb=>if OwnAt σ ρ b then H1 b else F b
open Classical in
theorem BW(S:StE K F H σ ρ){H1:Hp}:Same F (fA σ ρ H1 F):=λb u e=>by
 unfold fA;rw[ad0 (λp=>by rw[(OwnAt.obj S p).1] at e;cases e)];exact e
open Classical in
theorem Al(S:StE K F H σ ρ):StE K (fA σ ρ (refA h (OwnAt σ ρ) H) F) (refA h (OwnAt σ ρ) H) σ (sG ρ):=by
 refine⟨λb u e=>?_,λj sl e=>?_⟩
 ·unfold fA at e;split at e
  ·exact e
  ·rename_i hp;unfold refA;rw[ad0 hp];exact S.fh b u e
 ·unfold sG at e;rw[Xv] at e;cases q:ρ[j]? with
  |none=>rw[q] at e;cases e
  |some x=>
   rw[q] at e;cases x with
   |none=>cases e
   |some y=>
    cases y with
    |fz d=>
     cases e;obtain⟨v,h1,h2⟩:=S.den j _ q;exact⟨v,h1,Den.mono (BW S) h2⟩
    |ow c=>
     cases e;obtain⟨v,h1,a,o,rfl,h4,h5,h6⟩:=S.den j _ q;refine⟨_,h1,DenC.den (ob:=(h.get? a).getD {cls:= .none,data:= .fields #[]}) h6 (BW S) ?_⟩;have hp:OwnAt σ ρ a:=⟨j,c,q,h1⟩
     unfold fA refA;rw[adY hp,adY hp,h4];rfl
open Classical in
theorem qr(S:StE K F H σ ρ)(E:Ext (fA σ ρ (refA h (OwnAt σ ρ) H) F) (refA h (OwnAt σ ρ) H) F' H'):
 Ext F H (λb=>if OwnAt σ ρ b then none else F' b) (unA (OwnAt σ ρ) H')/\∀b,OwnAt σ ρ b->∀o u,H' b=some (.frz o u)->(∃k,u= .dT k)\/∃k,u= .dK k:=by
 have Tu:∀b,OwnAt σ ρ b->∃o,H b=some o/\H' b=some (pH ((h.get? b).getD {cls:= .none,data:= .fields #[]}) o)/\((∃x,o= .lst x)\/(∃x,o= .dT x)\/∃x,o= .dK x):=λb hp=>by
  obtain⟨_,o,h1,h2⟩:=OwnAt.obj S hp;refine⟨o,h1,E.hh b _ ?_,h2⟩;unfold refA;rw[adY hp,h1];rfl
 refine⟨⟨λb o e=>?_,λb u e=>?_,λb u e=>?_,λb hb=>?_⟩,λb hp o u e=>?_⟩
 ·unfold unA;by_cases hp:OwnAt σ ρ b
  ·obtain⟨o',h1,h2,h3⟩:=Tu b hp;rw[e] at h1;cases h1;rw[adY hp,h2];rcases h3 with⟨x,rfl⟩ | ⟨x,rfl⟩ | ⟨x,rfl⟩<;>rfl
  ·rw[ad0 hp];refine E.hh b o ?_;unfold refA;rw[ad0 hp];exact e
 ·have hp:¬OwnAt σ ρ b:=λp=>by rw[(OwnAt.obj S p).1] at e;cases e
  show (if OwnAt σ ρ b then none else F' b)=_;rw[ad0 hp];refine E.ff b u ?_;unfold fA;rw[ad0 hp];exact e
 ·have e:(if OwnAt σ ρ b then none else F' b)=some u:=e;split at e
  ·cases e
  ·rename_i hp;unfold unA;rw[ad0 hp];exact E.fh b u e
 ·show (if OwnAt σ ρ b then none else F' b)=F b\/_;by_cases hp:OwnAt σ ρ b
  ·rw[adY hp];exact .inl (OwnAt.obj S hp).1.symm
  ·rw[ad0 hp];have e1:refA h (OwnAt σ ρ) H b=H b:=by unfold refA;rw[ad0 hp]
   have e2:fA σ ρ (refA h (OwnAt σ ρ) H) F b=F b:=by unfold fA;rw[ad0 hp]
   rcases E.new b (by rw[e1];exact hb) with q | q
   ·exact .inl (q.trans e2)
   ·rw[e1] at q;exact .inr q
 ·obtain⟨o',h1,h2,h3⟩:=Tu b hp;rw[e] at h2;rcases h3 with⟨x,rfl⟩ | ⟨x,rfl⟩ | ⟨x,rfl⟩
  ·cases h2
  ·cases h2;exact .inl ⟨_,rfl⟩
  ·cases h2;exact .inr ⟨_,rfl⟩
open Classical in
mutual
theorem yk(S:StE K F H σ ρ)(E:Ext (fA σ ρ (refA h (OwnAt σ ρ) H) F) (refA h (OwnAt σ ρ) H) F' H'):∀{d:D}{v:V},yi d=true->Den K F' d v->Den K (λb=>if OwnAt σ ρ b then none else F' b) d v
 | .non,_,_,q=>q
 | .bl _,_,_,q=>q
 | .int _,_,_,q=>q
 | .str _,_,_,q=>q
 | .tup ds,_,f,⟨a,vs,h1,h2,h3,h4⟩=>by
   refine⟨a,vs,h1,?_,ub S E ?_ h3,h4⟩
   ·show (if OwnAt σ ρ a then none else F' a)=_;rw[ad0,h2];intro hp;obtain⟨_,o,k1,k2⟩:=OwnAt.obj S hp;have k3:fA σ ρ (refA h (OwnAt σ ρ) H) F a=some (pH ((h.get? a).getD {cls:= .none,data:= .fields #[]}) o):=by
     unfold fA refA;rw[adY hp,adY hp,k1];rfl
    have k4:=E.ff a _ k3;rw[h2] at k4;rcases k2 with⟨x,rfl⟩ | ⟨x,rfl⟩ | ⟨x,rfl⟩<;>cases k4
   ·exact f
 | .raw _,_,f,_=>by cases f
 | .exc _,_,f,_=>by cases f
 | .scr _,_,f,_=>by cases f
 | .lst _,_,f,_=>by cases f
 | .dct _ _,_,f,_=>by cases f
 | .dci _ _,_,f,_=>by cases f
theorem ub(S:StE K F H σ ρ)(E:Ext (fA σ ρ (refA h (OwnAt σ ρ) H) F) (refA h (OwnAt σ ρ) H) F' H'):∀{ds:List D}{vs:List V},BX ds=true->DenL K F' ds vs->DenL K (λb=>if OwnAt σ ρ b then none else F' b) ds vs
 |[],_,_,q=>q
 |d::ds,_,f,⟨v,r,h1,h2,h3⟩=>by
  unfold BX at f;rw[XO] at f;exact⟨v,r,h1,yk S E f.1 h2,ub S E f.2 h3⟩
end
end
section
variable{X:Cx}{Xw:Nat->Hp->Prop}{e:Expr}{δ:DE}{τ:DT}
theorem nS{f8:List (Addr×Obj)}{s:Xl}{F H:Hp}{σ:St}{ρ:bb}(I:Inv X f8 σ H s)(S:StE X.K F H σ ρ)(b:Addr)(p:OwnAt σ ρ b)(o:Obj)(u:HO):X.ad8 b≠some (.frz o u):=λz=>by
 obtain⟨_,o',k1,k2⟩:=OwnAt.obj S p;have:=I.base.frzs b o u z;rw[k1] at this;rcases k2 with⟨x,rfl⟩ | ⟨x,rfl⟩ | ⟨x,rfl⟩<;>cases this
theorem ly{α:Type}(m:M α):noex m=ag\/∃a,m=ae a/\noex m=ae a:=by
 rcases m.cs with h | ⟨n,h⟩ | ⟨a,h⟩
 ·subst h;exact .inl rfl
 ·subst h;exact .inl rfl
 ·subst h;exact .inr ⟨a,rfl,rfl⟩
theorem wQ(h:lK X Xw e τ):lK X Xw e (λρ=>noex (τ (sG ρ))):=λf8 s σ H Q I ⟨F,ρ,S,w⟩=>by
 classical
 rcases ly (τ (sG ρ)) with q | ⟨b,q,q2⟩
 ·have w:WPB Xw F H (noex (τ (sG ρ))) Q:=w;rw[q] at w;exact w.elim
 ·have w:WPB Xw F H (noex (τ (sG ρ))) Q:=w;rw[q2] at w;refine cC (h f8 s σ _ (λb' H'=>Q b' (unA (OwnAt σ ρ) H')/\∀c,OwnAt σ ρ c->∀o u,H' c=some (.frz o u)->(∃k,u= .dT k)\/∃k,u= .dK k) (Inv.refA (P:=OwnAt σ ρ) I) ⟨_,_,Al (h:=s.heap) S,?_⟩) λb' s' ⟨H',I',q1,q3⟩=>⟨_,Inv.unA I' (nS I S) q3,q1⟩
  rw[q];intro H' F' E;obtain⟨E1,q3⟩:=qr S E;exact⟨w _ _ E1,q3⟩
theorem K9(h:PD X Xw e δ):PD X Xw e (λρ=>noex (δ (sG ρ))>>=qp):=λf8 s σ H Q I ⟨F,ρ,S,w⟩=>by
 classical
 rcases ly (δ (sG ρ)) with q | ⟨d,q,q2⟩
 ·have w:WP X.K Xw F H (noex (δ (sG ρ))>>=qp) Q:=w;rw[q] at w;exact w.elim
 ·have w:WP X.K Xw F H (noex (δ (sG ρ))>>=qp) Q:=w;rw[q2,ay] at w;unfold qp at w;split at w
  ·rename_i hf;refine cC (h f8 s σ _ (λv H'=>Q v (unA (OwnAt σ ρ) H')/\∀c,OwnAt σ ρ c->∀o u,H' c=some (.frz o u)->(∃k,u= .dT k)\/∃k,u= .dK k) (Inv.refA (P:=OwnAt σ ρ) I) ⟨_,_,Al (h:=s.heap) S,?_⟩) λb' s' ⟨v,H',I',rv,q1,q3⟩=>⟨v,_,Inv.unA I' (nS I S) q3,rv,q1⟩
   rw[q];intro v H' F' E dn;obtain⟨E1,q3⟩:=qr S E;exact⟨w _ _ _ E1 (yk S E hf dn),q3⟩
  ·exact w.elim
end
abbrev DF:=bb->M C
def WPF(K:Xr)(Xw:Nat->Hp->Prop)(F H:Hp)(m:M C)(Q:VK):Prop:=
 match m with
 |none=>False
 |some (.ok c)=>∀a o H' F',Ext F H F' H'->H' a=some o->F' a=none->H a=none->DenC K F' c o->Q (.ref a) H'
 |some (.ex n)=>∀F' H',Ext F H F' H'->Xw n H'
def WN(K:Xr)(Xw:Nat->Hp->Prop)(δ:DF):TE:=λσ H Q=>∃F ρ,StE K F H σ ρ/\WPF K Xw F H (δ ρ) Q
def Ql(X:Cx)(Xw:Nat->Hp->Prop)(e:Expr)(δ:DF):Prop:=PE X e (WN X.K Xw δ)
def rV(i:Nat)(δ:DF):DS:=λρ=>δ ρ>>=λc=>ae (.nx (ρ.set i (some (.ow c))))
theorem StOk.setFresh{K:Xr}{s0 ad8 F H F' H':Hp}{σ:St}{ρ:bb}(s:StOk K s0 ad8 F H σ ρ){i:Nat}{a:Addr}{o:HO}{c₀:C}(E:Ext F H F' H')(ho:H' a=some o)(nF:F' a=none)(n:H a=none)(h:DenC K F' c₀ o):
 StOk K s0 ad8 F' H' (σ.set i (some (.ref a))) (ρ.set i (some (.ow c₀))):=by
 have hle:=s.len;have get:∀(j:Nat) (sl:Sl),(ρ.set i (some (.ow c₀)))[j]? =some (some sl)->(j=i/\i<ρ.length/\sl= .ow c₀)\/(j≠i/\ρ[j]? =some (some sl)):=λj sl e=>by
  by_cases hj:j=i
  ·subst hj;have hi:j<ρ.length:=by
    have:=(Xy.mp e).1;simpa using this
   rw[XN hi] at e;cases e;exact .inl ⟨rfl,hi,rfl⟩
  ·rw[XF (Yp hj)] at e;exact .inr ⟨hj,e⟩
 have old:∀(j:Nat) (c:C) (b:Addr),ρ[j]? =some (some (.ow c))->σ[j]? =some (some (.ref b))->b≠a:=λj c b e e' z=>by
  obtain⟨u,h1,b',o,h2,h3,_⟩:=s.st.den j _ e;rw[h1] at e';cases e';cases h2;rw[z,n] at h3;cases h3
 refine⟨s.ext.trans E,⟨E.fh,λj sl e=>?_⟩,by simp[hle],λj c b e e'=>?_,λj k c c' b e1 e2 e3 e4=>?_⟩
 ·rcases get j sl e with⟨rfl,hi,rfl⟩ | ⟨hj,e⟩
  ·exact⟨.ref a,by rw[XN (by omega)],a,_,rfl,ho,nF,h⟩
  ·obtain⟨u,h1,h2⟩:=s.st.den j sl e;exact⟨u,by rw[XF (Yp hj)];exact h1,h2.ext E⟩
 ·rcases get j _ e with⟨rfl,hi,_⟩ | ⟨hj,e⟩
  ·rw[XN (by omega)] at e';cases e';exact Same.free s.ext.hh n
  ·rw[XF (Yp hj)] at e';exact s.own j c b e e'
 ·rcases get j _ e1 with⟨rfl,hi,_⟩ | ⟨hj,e1⟩
  ·rw[XN (by omega)] at e3;cases e3;rcases get k _ e2 with⟨rfl,_,_⟩ | ⟨hk,e2⟩
   ·rfl
   ·rw[XF (Yp hk)] at e4;exact ad3 rfl (old k c' a e2 e4)
  ·rcases get k _ e2 with⟨RS,hi,_⟩ | ⟨hk,e2⟩
   ·rw[RS,XN (by omega)] at e4;cases e4;rw[XF (Yp hj)] at e3;exact ad3 rfl (old j c a (by assumption) e3)
   ·rw[XF (Yp hj)] at e3;rw[XF (Yp hk)] at e4;exact s.sep j k c c' b e1 e2 e3 e4
theorem WPF.mono{K:Xr}{Xw:Nat->Hp->Prop}{F H:Hp}{m:M C}{Q Q':VK}(h:WPF K Xw F H m Q)(k:∀v H',Q v H'->Q' v H'):WPF K Xw F H m Q':=by
 match m,h with
 |none,h=>exact h
 |some (.ok d),h=>exact λa o H' F' e h1 h2 h3 h4=>k _ _ (h a o H' F' e h1 h2 h3 h4)
 |some (.ex n),h=>exact h
theorem WPF.ext{K:Xr}{Xw:Nat->Hp->Prop}{F H F1 H1:Hp}{m:M C}{Q:VK}(e:Ext F H F1 H1)(h:WPF K Xw F H m Q):WPF K Xw F1 H1 m Q:=by
 match m,h with
 |none,h=>exact h
 |some (.ok d),h=>exact λa o H' F' e' h1 h2 h3 h4=>h a o H' F' (e.trans e') h1 h2 (Same.free e.hh h3) h4
 |some (.ex n),h=>exact λF2 H2 e2=>h F2 H2 (e.trans e2)
theorem WPF.bind{K:Xr}{Xw:Nat->Hp->Prop}{F H:Hp}{m:M D}{k:D->M C}{Q:VK}(h:WPF K Xw F H (m>>=k) Q):WP K Xw F H m λv H1=>∃F1 d,Ext F H F1 H1/\Den K F1 d v/\WPF K Xw F1 H1 (k d) Q:=by
 match m,h with
 |none,h=>exact h
 |some (.ok d),h=>exact λv H2 F2 e2 q=>⟨F2,d,e2,q,WPF.ext e2 (show WPF K Xw F H (k d) Q from h)⟩
 |some (.ex n),h=>exact h
theorem WPF.bindL{K:Xr}{Xw:Nat->Hp->Prop}{F H:Hp}{m:M (List D)}{k:List D->M C}{Q:VK}(h:WPF K Xw F H (m>>=k) Q):WPL K Xw F H m λv H1=>∃F1 d,Ext F H F1 H1/\DenL K F1 d v/\WPF K Xw F1 H1 (k d) Q:=by
 match m,h with
 |none,h=>exact h
 |some (.ok d),h=>exact λv H2 F2 e2 q=>⟨F2,d,e2,q,WPF.ext e2 (show WPF K Xw F H (k d) Q from h)⟩
 |some (.ex n),h=>exact h
def Sy(ds:List D):M C:=if ds.length<=lim then ae (.lst ds) else ag
section
variable{X:Cx}{Xw:Nat->Hp->Prop}{e k v a b:Expr}{es:List Expr}{δ:DF}{δs:DA}{pos pos' p:Pos}{x:Str}{i:Nat}
theorem rN(hN:X.N.Nodup)(hi:X.N[i]? =some x)(hx:Loc X.env.scope x)(he:Ql X Xw e δ)(hf:X.fn x=true\/X.env.scope.names.lookup x=some .local:=by first | exact .inl rfl | exact .inr rfl)
 (hs:adx [.Name x pos'] e pos.line X.env=pure false:=by rfl):
 iq X Xw (.Assign [.Name x pos'] e pos) (rV i δ):=λs0 ad8=>PS.weak (wU he (aS hN hi hx hf) hs) λD σ H ⟨F,ρ,s,w⟩=>by
 refine⟨F,ρ,s.st,?_⟩;unfold rV at w
 match δ ρ,w with
 |none,w=>exact w
 |some (.ok c),w=>exact λa o H' F' E h1 h2 h3 h4=>w _ F' H' (s.setFresh E h1 h2 h3 h4)
 |some (.ex n),w=>exact λF' H' e'=>w F' H' (s.ext.trans e')
theorem Ext.fresh{F H:Hp}{p:Addr}{o:HO}(s:Same F H)(hp:H p=none):Ext F H F (upd H p o)/\F p=none:=⟨Ext.free s hp,Same.free s hp⟩
theorem JG(h:gV X Xw es δs):Ql X Xw (.List es pos) (λρ=>δs ρ>>=Sy):=PE.weak (wR h) λσ H Q ⟨F,ρ,s,w⟩=>by
 refine⟨F,ρ,s,WPL.mono (WPF.bindL w) λvs H1 ⟨F1,ds,e1,q1,w1⟩=>?_⟩;unfold Sy at w1;split at w1
 ·rename_i hl;have hv:=q1.len;refine⟨by have:=d6;omega,λp hp=>?_⟩;obtain⟨E,nF⟩:=Ext.fresh (o:= .lst vs) e1.fh hp;exact w1 p _ _ F1 E aM nF hp ⟨vs,rfl,q1,hl⟩
 ·exact w1.elim
theorem Ob{f8:List (Addr×Obj)}{σ:St}{H H':Hp}{s:Xl}{a:Addr}{y v:V}{u r:Value}{A:X6}{E:Value->Xl->Prop}{Q:Unit->Xl->Prop}(hu:A.units+1<cLine)(I:Inv X f8 σ H s)(g:DPut H a y v H')(ry:RelV y u)(rv:RelV v r)(h:∀s',Inv X f8 σ H' s'->Q () s'):
 wpAny (model X.prog X.w) A (dictSet a u r) Q E s:=by
 rcases g with⟨aE,k,e,ey,l,eH⟩ | ⟨aE,k,b,e,ey,eb,l,eH⟩
 ·subst ey eH;obtain⟨z,hd,vs,rel,dd⟩:=Ky I.hok e;have hz:vs.length<=XH:=by rw[<-rel.length];exact z
  have hl:(putK aE k v).length<=XH:=by have:=fX aE k v;omega
  refine wpAny_dictSet_pairs (hsz:=hz) (oF ry) dd λh' Dk hs=>h _ ?_;have he:∃q,h'.get? a=some q:=let ⟨q,_,_,hq,_⟩:=Dk;⟨q,hq⟩
  exact lT I (by rw[e];exact Zs) hs he (E_ hl hd (rel.put k rv) Dk)
 ·subst ey eH;cases (show u=XX b from ry);obtain⟨z,hd,xs,rel,dd⟩:=Fb I.hok e;have hz:xs.length<=XH:=by rw[<-Zg rel];exact z
  have hl:(putK aE k v).length<=XH:=by have:=fX aE k v;omega
  refine wpAny_dictSet_heap (knd:=Zh (a6 X.prog X.w)) (hsz:=hz) (by exact(show A.units<cLine by omega)) (i_ I.hok eb) dd λh' Dk hs=>h _ ?_;obtain⟨q,es,ep,hq,h2,h3,h4,_,h5⟩:=Dk;refine lT I (by rw[e];exact Zs) hs ⟨q,hq⟩ ⟨hl,hd,_,(rel.put k eb rv).keeps λc ys ec=>?_,q,es,ep,hq,h2,h3,h4,h5⟩;rw[aA (Gk ec e (λz=>nomatch z))];exact ec
end
section
variable{X:Cx}{Xw:Nat->Hp->Prop}{e k v a b:Expr}{es:List Expr}{δk δv δa δb:DE}{pos p:Pos}{x:Str}{i:Nat}
theorem E9{o0:HO}{put:Hp->Addr->V->V->Hp->Prop}(hu:X.A.units+1<cLine)(h0:∀(H:Hp) (h:Heap),YS<h.objs.size->ObjOk X.prog X.w H (h.push {cls:= .type "dict",data:= .dict #[]}) h.objs.size o0){tk tv:TE}(hk:PE X k tk)(hv:PE X v tv):
 PE X (.Dict [some k] [v] pos) (λσ H Q=>∀p,H p=none->tk σ (upd H p o0) λy H1=>tv σ H1 λz H2=>∃H3,DPut H2 p y z H3/\Q (.ref p) H3):=by
 intro f8 s σ H Q I q;have hn:=I.hok.fresh (Xx s.heap.objs.size);have I1:=I.laid (a:=s.heap.objs.size) (o:=o0) (h':=s.heap.push {cls:= .type "dict",data:= .dict #[]}) (t':=s.toks) (λ_ _ q=>Xm _ q) (Xx _) (h0 _ s.heap I.big);refine wpAny_Dict_any rfl rfl (by simp) (by simp) (cC (G0 hk hv JO f8 _ σ _ (λps H2=>∃y z H3,ps=[(y,z)]/\DPut H2 s.heap.objs.size y z H3/\Q (.ref s.heap.objs.size) H3) I1 ?_) λws s2 ⟨ps,H2,I2,rel,y,z,H3,ep,g,q2⟩=>?_)
 ·refine ?_;have:=q _ hn;show tk σ _ λy H1=>tv σ H1 λz H2=>∃y' z' H3,[(y,z)]=[(y',z')]/\DPut H2 s.heap.objs.size y' z' H3/\Q (.ref s.heap.objs.size) H3;have e:(λ(y:V) (H1:Hp)=>tv σ H1 λz H2=>∃y' z' H3,[(y,z)]=[(y',z')]/\DPut H2 s.heap.objs.size y' z' H3/\Q (.ref s.heap.objs.size) H3)=(λy H1=>tv σ H1 λz H2=>∃H3,DPut H2 s.heap.objs.size y z H3/\Q (.ref s.heap.objs.size) H3):=by
   funext y H1;congr 1;funext z H2;refine propext ⟨λ⟨y',z',H3,ee,r⟩=>?_,λ⟨H3,r⟩=>⟨y,z,H3,rfl,r⟩⟩;cases ee;exact⟨H3,r⟩
  rw[e];exact this
 ·subst ep;cases rel with
  | @cons a b as bs h t=>
    cases t;obtain⟨r1,r2⟩:=h;unfold storeAll;rw[ab_];refine Xg (Xg (Ob hu I2 g r1 r2 λs3 I3=>?_));refine Xn ?_;show wpAny _ _ (forIn ([]:List (Value×Value)) aaj _) _ _ _;rw[List.forIn_nil];exact Xn ⟨V.ref s.heap.objs.size,_,I3,rfl,q2⟩
def t_(k v:D):M C:=match eR k with
 |some kk=>ae (.dct [kk] [v])
 |none=>ag
theorem Eb(hu:X.A.units+64<cLine)(hk:PD X Xw k δk)(hv:PD X Xw v δv):Ql X Xw (.Dict [some k] [v] pos) (λρ=>δk ρ>>=λx=>δv ρ>>=λy=>t_ x y):=
 PE.weak (E9 (o0:= .dT []) (put:=DPut) (by omega) (λH h hb=>yf h hb) hk hv) λσ H Q ⟨F,ρ,s,w⟩ q hq=>by
  have e0:=Ext.free (o:= .dT []) s.fh hq;refine⟨F,ρ,s.ext e0,?_⟩;have w:WPF X.K Xw F H (δk ρ>>=λx=>δv ρ>>=λy=>t_ x y) Q:=w
  match NR:δk ρ,w with
  |none,w=>exact w
  |some (.ex n),w=>exact λF' H' e'=>w F' H' (e0.trans e')
  |some (.ok kd),w=>
   intro y H1 F1 e1 q1;refine⟨F1,ρ,(s.ext e0).ext e1,?_⟩;have w:WPF X.K Xw F H (δv ρ>>=λy=>t_ kd y) Q:=w
   match Sa:δv ρ,w with
   |none,w=>exact w
   |some (.ex n),w=>exact λF' H' e'=>w F' H' (e0.trans (e1.trans e'))
   |some (.ok vd),w=>
    intro z H2 F2 e2 q2;have w3:WPF X.K Xw F H (t_ kd vd) Q:=w;clear w;unfold t_ at w3;cases KR:eR kd with
    |none=>rw[KR] at w3;exact w3.elim
    |some kk=>
     rw[KR] at w3;have E:=e1.trans e2;have R1:H2 q=some (.dT []):=E.hh _ _ aM;have TM:F2 q=none:=by
      have:=E.old (a:=q) (o:= .dT []) aM (λ_ z=>nomatch z);rw[this];exact Same.free s.fh hq
     unfold eR at KR;split at KR
     ·rename_i es;obtain⟨b,ws,rfl,k2,k3,_⟩:=Den.mono e2.ff q1;have e5:=iD KR k3;subst e5;refine⟨_,DPut.t (k:=kk) R1 (e2.fh _ _ k2) (by rw[Zw];decide),?_⟩;refine w3 q (.dT (putK [] kk z)) _ F2 ⟨λc u hc=>?_,(e0.trans E).ff,λc u hc=>?_,(e0.trans E).new⟩ aM TM hq ⟨[z],rfl, .cons q2 .nil,rfl,show 1<=lim by decide⟩
      ·rw[aA (λzz=>by rw[zz,hq] at hc;cases hc)];exact(e0.trans E).hh c u hc
      ·rw[aA (λzz=>by rw[zz,TM] at hc;cases hc)];exact e2.fh c u hc
     ·cases KR
theorem vf{K:Xr}{F H:Hp}{d k:D}{x y:V}{o:Option D}(s:Same F H)(hd:Den K F d x)(hk:Den K F k y)(e:Ex d k=some o):
 ∃a ov,x= .ref a/\kY H a y ov/\ov.isSome=o.isSome/\∀d',o=some d'->∃v,ov=some v/\Den K F d' v:=by
 obtain⟨a,ov,h1,h2,h3,h4⟩:=BI (σ:=[some x]) (ρ:=[some (.fz d)]) (i:=0) (H:=H) ⟨s,λi sl q=>by
  match i,q with
  |0,q=>cases q;exact⟨x,rfl,hd⟩
  |i+1,q=>simp at q⟩ rfl hk e
 cases h1;exact⟨a,ov,rfl,h2,h3,h4⟩
def lj(neg:Bool)(k d:D):M D:=match Ex d k with
 |some o=>ae (.bl (if neg then !o.isSome else o.isSome))
 |none=>ag
def Nm(neg:Bool):R2:=λy x H Q=>∃a o,x= .ref a/\kY H a y o/\Q (.bl (if neg then !o.isSome else o.isSome)) H
theorem MC(hu:X.A.units+64<cLine):OpR X (X9 .In) (Nm false):=λf8 s σ H y x v u Q I ry rx ⟨a,o,ex,g,q⟩=>by
 subst ex;obtain rfl:u=XX a:=rx;exact Oa (by omega) I g ry λs' I'=>⟨.bl o.isSome,_,I',rfl,q⟩
theorem D9(hu:X.A.units+64<cLine):OpR X (X9 .NotIn) (Nm true):=λf8 s σ H y x v u Q I ry rx ⟨a,o,ex,g,q⟩=>by
 subst ex;obtain rfl:u=XX a:=rx;exact Im (by omega) I g ry λs' I'=>⟨.bl (!o.isSome),_,I',rfl,q⟩
theorem Cm{K:Xr}{neg:Bool}:u9 K (Nm neg) (lj neg):=λXw F H y x dk dd Q s hk hd w=>by
 unfold lj at w;cases he:Ex dd dk with
 |none=>rw[he] at w;exact w.elim
 |some o=>
  rw[he] at w;obtain⟨a,ov,h1,h2,h3,_⟩:=vf s hd hk he;refine⟨a,ov,h1,h2,?_⟩;rw[h3];exact WP.now w s rfl
theorem Nb(hu:X.A.units+64<cLine)(ha:PD X Xw a δa)(hb:PD X Xw b δb)(hm:Yt .In b=false:=by rfl):lK X Xw (.Compare a [.In] [b] pos) (bU (d2 (lj false) δa δb)):=dB (MC hu) Cm ha hb hm
theorem uO(hu:X.A.units+64<cLine)(ha:PD X Xw a δa)(hb:PD X Xw b δb)(hm:Yt .NotIn b=false:=by rfl):lK X Xw (.Compare a [.NotIn] [b] pos) (bU (d2 (lj true) δa δb)):=dB (D9 hu) Cm ha hb hm
def ft(d k:D):M D:=match Ex d k with
 |some (some v)=>ae v
 |_=>ag
theorem gO(hu:X.A.units+64<cLine)(ha:PD X Xw a δa)(hb:PD X Xw b δb)(hs:Lh b:=by intro _ _;rfl):PD X Xw (.Subscript a b pos) (d2 ft δa δb):=
 PE.weak (JM (by omega) ha hb hs) λσ H Q ⟨F,ρ,s,w⟩=>by
  refine⟨F,ρ,s,WP.mono (WP.bind w) λx H1 ⟨F1,d,e1,q1,w1⟩=>?_⟩;refine⟨F1,ρ,s.ext e1,WP.mono (WP.bind w1) λy H2 ⟨F2,k,e2,q2,w2⟩=>?_⟩;unfold ft at w2;cases he:Ex d k with
  |none=>rw[he] at w2;exact w2.elim
  |some o=>
   cases o with
   |none=>rw[he] at w2;exact w2.elim
   |some d'=>
    rw[he] at w2;obtain⟨a,ov,h1,h2,h3,h4⟩:=vf e2.fh (Den.mono e2.ff q1) q2 he;obtain⟨v,rfl,hd⟩:=h4 d' rfl;exact⟨a,v,h1,h2,WP.now w2 e2.fh hd⟩
end
section
variable{X:Cx}{f8:List (Addr×Obj)}{σ:St}{H:Hp}{s:Xl}{h':Heap}
theorem Inv.turnedLaid{t':Nat}{ch:List Addr}{a:Addr}{o:HO}(I:Inv X f8 σ H s)(k:∀b q,b∉ch->s.heap.get? b=some q->h'.get? b=some q)(hf:∀b∈ch,sI X f8 H b)(hp:s.heap.objs.size<=a)(new:ObjOk X.prog X.w (upd H a o) h' a o):
 Inv X f8 σ (upd H a o) {s with heap:=h',toks:=t'}:=by
 have hn:=I.hok.fresh hp;have K5:∀b u,H b=some u->b∉ch:=λb u e z=>by rw[(hf b z).1] at e;cases e
 refine I.step (g':=s.gens) (d':=s.drawn) (ch:=ch) (λb hb=>?_) (λb q _ _ hc e _=>k b q hc e) (λb q _ _ hc e _=>⟨q.slots,k b q hc e⟩) (λb q hc e n=>?_)
  (λb q hc e=>⟨q,k b q hc e⟩) (λb xs e=>?_) (λb q u e=>?_) (λb ps e=>⟨#[],?_⟩) (λm hm=>?_) (λb u e=>?_) I.bare
 ·obtain⟨f0,f1,f2,f3,f4,f5⟩:=hf b hb;exact⟨f3,f1,f4,f5⟩
 ·rw[aA (λz=>by rw[z] at e;exact ad3 (XB e) (Nat.not_lt.mpr hp))];exact n
 ·rw[aA (bu e hn)];exact e
 ·rw[aA (bu e hn)];exact e
 ·rw[aA (bu e hn),e];simp
 ·obtain⟨q,es,ep,ho,r⟩:=hm;exact⟨q,es,ep,k _ q (λz=>(hf _ z).2.1 rfl) ho,r⟩
 ·by_cases hb:b=a
  ·subst hb;rw[aM] at e;cases e;exact new
  ·rw[aA hb] at e;refine(I.hok b u e).stay (λc v hc q=>k c v ?_ q) (λc q=>by rw[aA (bu q hn)];exact q) λc xs q=>by rw[aA (bu q hn)];exact q
   rcases hc with z | z
   ·rw[z];exact K5 b u e
   ·exact K5 c _ z
theorem Inv.turnedL{t':Nat}{ch:List Addr}(I:Inv X f8 σ H s)(k:∀b q,b∉ch->s.heap.get? b=some q->h'.get? b=some q)(hf:∀b∈ch,sI X f8 H b):Inv X f8 σ H {s with heap:=h',toks:=t'}:=by
 have K5:∀b u,H b=some u->b∉ch:=λb u e z=>by rw[(hf b z).1] at e;cases e
 refine I.step (g':=s.gens) (d':=s.drawn) (ch:=ch) (λb hb=>?_) (λb q _ _ hc e _=>k b q hc e) (λb q _ _ hc e _=>⟨q.slots,k b q hc e⟩) (λb q hc e n=>n)
  (λb q hc e=>⟨q,k b q hc e⟩) (λb xs e=>e) (λb q u e=>e) (λb ps e=>⟨#[],by rw[e];simp⟩) (λm hm=>?_) (λb u e=>?_) I.bare
 ·obtain⟨f0,f1,f2,f3,f4,f5⟩:=hf b hb;exact⟨f3,f1,f4,f5⟩
 ·obtain⟨q,es,ep,ho,r⟩:=hm;exact⟨q,es,ep,k _ q (λz=>(hf _ z).2.1 rfl) ho,r⟩
 ·refine(I.hok b u e).stay (λc v hc q=>k c v ?_ q) (λc q=>q) λc xs q=>q;rcases hc with z | z
  ·rw[z];exact K5 b u e
  ·exact K5 c _ z
end
def Tp(K:Xr)(a:Addr):It:=
 ⟨λi H=>∃xs x,SqL K H a xs/\xs[i]? =some x,λi H x H'=>∃p,x= .ref p/\H p=none/\∃v,(∀xs,SqL K H a xs->xs[i]? =some v)/\H'=upd H p (.tup [.int (i:Int),v]),λi H=>∃xs,SqL K H a xs/\xs.length<=i⟩
theorem Eo{P:XR}{w:World}{K:Xr}{es:List Expr}{x1}{tp:Pos}(l e it:Addr)(T2:e≠it):
 Turn P w K (.Tuple es x1 tp) (Tp K l) [e,it] e (λi h=>∃old,IsEnum h e it (i:Int) old/\h.IsListIter it l i) where
 mem:=by simp
 obj:=λi h ⟨old,u4,xM⟩ b hb=>by
  rcases Xs.mp hb with z | z
  ·subst z;exact⟨_,u4,λv z=>nomatch z⟩
  ·have z:b=it:=by simpa using z
   subst z;obtain⟨o,e1,c,d⟩:=xM;exact⟨o,e1,λv z=>by rw[d] at z;cases z⟩
 keep:=λi h h' ⟨old,u4,xM⟩ k=>⟨old,k e (by simp) _ u4,xM.at λo q=>k it (by simp) o q⟩
 item:=by
  intro X hP hw hK hc i f8 s σ H E I hf st hg;subst hP hw hK;obtain⟨old,u4,xM⟩:=st;obtain⟨xs,x,hq,hx⟩:=hg;obtain⟨aL,rv,p,hz⟩:=I.list hq;obtain⟨u,hu,ru⟩:=rv.get hx;refine wpAny_pyNext_enum_item u4 xM p.isList (x:=u) (by simpa using hu) T2 λh1 k1 k2 k3 k4 k5=>?_;refine⟨_,rfl,wpAny_letOwnedTupleGo_enum k1 λh2 m1 m2=>?_⟩;have iT:s.heap.objs.size≠e:=YJ (XB u4);have NG:h2.get? s.heap.objs.size=some {cls:= .type "tuple",data:= .seq #[.int i s.toks,u]}:=(m2.2 _ iT).trans k3;have keep:∀b q,b∉[e,it]->s.heap.get? b=some q->h2.get? b=some q:=λb q hb e1=>by
   have Ot:b≠e:=λz=>hb (by simp[z]);have Rv:b≠it:=λz=>hb (by simp[z]);exact(m2.2 b Ot).trans (k5 b q Ot Rv e1)
  have I2:Inv X f8 σ (upd H s.heap.objs.size (.tup [.int (i:Int),x])) {s with heap:=h2,toks:=s.toks+1}:=by
   refine Inv.turnedLaid (s:=s) I keep hf (Xx _) ⟨?_,[.int i s.toks,u], .cons ⟨_,rfl⟩ (.cons ru .nil),_,NG,rfl,_,rfl⟩;rw[Zw];show 2<=_;decide
  refine⟨.ref s.heap.objs.size,_,I2,rfl,⟨_,rfl,I.hok.fresh (Xx _),x,λys hy=>by rw[I.list_inj hy hq];exact hx,rfl⟩,⟨u,?_,?_⟩,λb hb=>?_⟩
  ·have:((i+1:Nat):Int)=(i:Int)+1:=by push_cast;rfl
   rw[this];exact m1
  ·exact k2.at λo q=>(m2.2 it (Yp T2)).trans q
  ·rw[aA (λz=>by
    rcases Xs.mp hb with y | y
    ·exact ad3 (XB u4) (by rw[<-y,z];exact Yr _)
    ·have y:b=it:=by simpa using y
     obtain⟨o,q1,_⟩:=id xM;exact ad3 (XB q1) (by rw[<-y,z];exact Yr _))]
   exact(hf b hb).1
 done:=by
  intro X hP hw hK hc i f8 s σ H E I hf st hg;subst hP hw hK;obtain⟨old,u4,xM⟩:=st;obtain⟨xs,hq,hx⟩:=hg;obtain⟨aL,rv,p,hz⟩:=I.list hq;have hl:=rv.length;exact wpAny_pyNext_enum_end (I.ok.hd hc) u4 xM p.isList (by simp;omega) λh' eb=>⟨rfl,Inv.turnedL (t':=s.toks) (ch:=[it]) I (λb q hb e1=>eb b q (λz=>hb (by simp[z])) e1) λb hb=>hf b (Xj _ hb)⟩
 self:=λA i s Q E st h=>by
  obtain⟨old,u4,xM⟩:=st;exact wpAny_pyIter_enum u4 h
theorem FW{K:Xr}{F:Hp}{a:Addr}{vs:List V}{ds:List D}(h:SqL K F a vs)(hd:DenL K F ds vs):ItD K F (Tp K a) (ds.mapIdx λi d=> .tup [.int (i:Int),d]):=λF' H' i s1 s2=>by
 have hs:=Same.seq s2 (Same.seq s1 h);refine⟨λd e=>?_,λhl=>⟨vs,hs,by rw[List.length_mapIdx,hd.len] at hl;exact hl⟩⟩;rw[adj] at e;cases q:ds[i]? with
 |none=>rw[q] at e;cases e
 |some d0=>
  rw[q] at e;cases e;obtain⟨v,e1,q1⟩:=hd.get q;refine⟨⟨vs,v,hs,e1⟩,λx H'' ⟨p,y1,y2,u,y3,y4⟩=>?_⟩;subst y1 y4;have:=y3 vs hs;rw[e1] at this;cases this;have E:=Ext.lay (o:= .tup [.int (i:Int),v]) s2 y2;exact⟨_,E,p,_,rfl,aM, .cons rfl (.cons (Den.mono E.ff (Den.mono s1 q1)) .nil),by show 2<=lim;decide⟩
section
variable{X:Cx}{Xw:Nat->Hp->Prop}{e:Expr}{es:List Expr}{δs:DA}{pos p tp:Pos}{x1:Nat}
def oB:List D->M (List D)
 |[.lst ds]=>ae (ds.mapIdx λi d=> .tup [.int (i:Int),d])
 |_=>ag
theorem rH(hg:Gl X "enumerate")(hm:X.mg "enumerate"=none)(ha:gV X Xw [e] δs)(hs:Xz [e] X.env=[(false,eval e X.env)]:=by rfl):zY X Xw (.Tuple es x1 tp) (.Call (.Name "enumerate" p) [e] [] pos) (λρ=>δs ρ>>=oB):=by
 intro f8 s σ H R I ⟨F,ρ,S,w⟩;refine Call_ (nK I hg hm (show Yd "enumerate"=some (.type "enumerate") from rfl) (Zz (cC (ha pos f8 s σ H (λvs H1=>∃F1 ds,Ext F H F1 H1/\DenL X.K F1 ds vs/\WPI X.K Xw F1 H1 (oB ds) R) I ⟨F,ρ,S,WPI.bindL w⟩) λus s1 ⟨vs,H1,I1,r1,F1,ds,e1,q1,w1⟩=>?_) hs rfl));unfold oB at w1;split at w1
 ·rename_i ds;obtain⟨v,rfl,h1⟩:=q1.one;obtain⟨a,xs,rfl,h2,h3,h4⟩:=h1;obtain⟨u,rfl,r2⟩:=r1.one;cases (show u=_ from r2);obtain⟨aL,rv,pl,hz⟩:=I1.list (SqL.of (K:=X.K) (e1.fh _ _ h2));refine call_enumerate_list pl.isList λh' k1 k2 k3 k4=>?_;refine wpAny_pyIter_enum k1 ?_;refine⟨s1.heap.objs.size+1,[s1.heap.objs.size+1,s1.heap.objs.size],_,_,H1,rfl,I1.kept (t':=s1.toks) λb o e=>k4 b o e,Eo a _ _ (YJ (ZF _)),⟨.none,k1,k2⟩,λb hb=>?_,w1 _ _ _ (Ext.refl e1.fh) (FW (SqL.of h2) h3)⟩;have e:s1.heap.objs.size<=b:=by
   rcases Xs.mp hb with z | z
   ·rw[z];exact acs _
   ·have z:b=s1.heap.objs.size:=by simpa using z
    rw[z];exact Xx _
  exact I1.fpOk e (I1.hok.fresh e)
 ·exact w1.elim
end
def IU:Key->D
 | .inl i=> .int i
 | .inr x=> .str x
def Ko(H:Hp)(d:Addr)(od:Obj)(i:Nat)(x:V):Prop:=
 (∃aE k b,H d=some (.frz od (.dT aE))/\(aE.map (·.1))[i]? =some k/\x= .ref b/\H b=some (.tup (k.map kV)))\/
 ∃aE k,H d=some (.frz od (.dK aE))/\(aE.map (·.1))[i]? =some k/\x=kV k
def To(d:Addr)(od:Obj):It:=
 ⟨λi H=>(∃aE,H d=some (.frz od (.dT aE))/\i<aE.length)\/∃aE,H d=some (.frz od (.dK aE))/\i<aE.length,λi H x H'=>H'=H/\Ko H d od i x,
  λi H=>(∃aE,H d=some (.frz od (.dT aE))/\aE.length<=i)\/∃aE,H d=some (.frz od (.dK aE))/\aE.length<=i⟩
theorem o9{α β γ:Type}{R:α->β->Prop}{f:α->γ}{g:β->γ}(h:∀a b,R a b->f a=g b):∀{l:List α}{m:List β},abT R l m->l.map f=m.map g
 |_,_, .nil=>rfl
 |_,_, .cons r t=>by rw[Xp,Xp,h _ _ r,o9 h t]
theorem jf{α β:Type}{R:α->β->Prop}:∀{l:List α}{m:List β}{i:Nat}{a:α},abT R l m->l[i]? =some a->∃b,m[i]? =some b/\R a b
 |_,_,i,_, .nil,e=>by simp at e
 |_,_,0,_, .cons r t,e=>by simp at e;subst e;exact⟨_,rfl,r⟩
 |_,_,i+1,_, .cons r t,e=>by
  obtain⟨b,e1,e2⟩:=jf (i:=i) t (by simpa using e);exact⟨b,by simpa using e1,e2⟩
theorem Ea{prog:XR}{w:World}{κ:Type}[DecidableEq κ]{knd:KeyKind prog w κ}:∀{es:List YL}{aE:List (κ×Value)}{i:Nat}{kv:κ×Value},Pairs knd es aE->aE[i]? =some kv->∃e,es[i]? =some e/\knd.is kv.1 e.key=true:=by
 intro es aE i kv h e;induction h generalizing i with
 |nil=>simp at e
 | @cons en Xe Fi Wx h1 h2 h3 ih=>
   cases i with
   |zero=>simp at e;subst e;exact⟨en,rfl,h1⟩
   |succ i=>
    obtain⟨q,e1,e2⟩:=ih (i:=i) (by simpa using e);exact⟨q,by simpa using e1,e2⟩
theorem Mk{k:Key}{u:Value}(h:qH k u=true):RelV (kV k) u:=by
 rcases cq h with⟨i,t,rfl,rfl⟩ | ⟨x,t,rfl,rfl⟩
 ·exact⟨t,rfl⟩
 ·exact⟨t,rfl⟩
theorem qo{X:Cx}{f8:List (Addr×Obj)}{σ:St}{H:Hp}{s:Xl}{d:Addr}{od:Obj}{n:Nat}(I:Inv X f8 σ H s)
 (h:(∃aE,H d=some (.frz od (.dT aE))/\n=aE.length)\/∃aE,H d=some (.frz od (.dK aE))/\n=aE.length):
 ∃es ep,(d==YS)=false/\s.heap.get? d=some od/\od.ExactDict/\od.data= .dict es ep/\es.size=n/\∀i,i<n->∃e x,es[i]? =some e/\RelV x e.key/\Ko H d od i x:=by
 rcases h with⟨aE,e,rfl⟩ | ⟨aE,e,rfl⟩
 ·obtain⟨ho,z,lo,xs,rel,o,es,ep,h1,h2,h3,h4,h5⟩:=(show ObjOk X.prog X.w H s.heap d (.frz od (.dT aE)) from I.hok d _ e)
  rw[ho] at h1;cases h1;have hl:es.size=aE.length:=by
   rw[<-XZ,h4,Xh];exact(Zg rel).symm
  refine⟨es,ep,lo,ho,h2,h3,hl,λi hi=>?_⟩;obtain⟨q,e1,e2,e3,e4⟩:=jf rel (Xi hi);refine⟨ack (Zh (a6 X.prog X.w)) q, .ref q.2.1,?_,rfl, .inl ⟨aE,aE[i].1,q.2.1,e,?_,rfl,e3⟩⟩
  ·rw[<-Zl,h4,Xv,e1];rfl
  ·rw[Xv,Xi hi];rfl
 ·obtain⟨ho,z,lo,vs,rel,o,es,ep,h1,h2,h3,h4,h5,h6⟩:=(show ObjOk X.prog X.w H s.heap d (.frz od (.dK aE)) from I.hok d _ e)
  rw[ho] at h1;cases h1;have hl:es.size=aE.length:=by
   rw[<-XZ,h5.length];exact(Zg rel).symm
  refine⟨es,ep,lo,ho,h2,h3,hl,λi hi=>?_⟩;obtain⟨q,e1,e2,e3⟩:=jf rel (Xi hi);obtain⟨en,e4,e5⟩:=Ea h5 e1;refine⟨en,kV aE[i].1,by rw[<-Zl];exact e4,?_, .inr ⟨aE,aE[i].1,e,by rw[Xv,Xi hi];rfl,rfl⟩⟩;rw[e2];exact Mk e5
theorem Ep{P:XR}{w:World}{K:Xr}{tg:Expr}(d it:Addr)(od:Obj)(es:Array YL)(ep:Nat)(jD:od.data= .dict es ep):
 Turn P w K tg (To d od) [it] it (λi h=>h.IsKeyIter it d i es.size ep) where
 mem:=by simp
 obj:=λi h st b hb=>by
  have e:b=it:=by simpa using hb
  subst e;obtain⟨o,e,c,dd⟩:=st;exact⟨o,e,λv z=>by rw[dd] at z;cases z⟩
 keep:=λi h h' st k=>st.at λo e=>k it (by simp) o e
 item:=by
  intro X hP hw hK hc i f8 s σ H E I hf st hg;subst hP hw hK;obtain⟨n,hn,hi⟩:∃n,((∃aE,H d=some (.frz od (.dT aE))/\n=aE.length)\/∃aE,H d=some (.frz od (.dK aE))/\n=aE.length)/\i<n:=by
   rcases hg with⟨aE,e,hi⟩ | ⟨aE,e,hi⟩
   ·exact⟨_, .inl ⟨aE,e,rfl⟩,hi⟩
   ·exact⟨_, .inr ⟨aE,e,rfl⟩,hi⟩
  obtain⟨Fi,Ff,lo,ho,hx,m_,hsz,hk⟩:=qo I hn;rw[jD] at m_;cases m_;obtain⟨en,x,e1,rx,ka⟩:=hk i hi;obtain⟨f0,f1,f2,f3,f4,f5⟩:=hf it (by simp);refine yQ st ho jD e1 λh' sf sb=>?_;have I1:Inv X f8 σ H {s with heap:=h'}:=I.turned (t':=s.toks) (λb o hb e=>(sb.2 b hb).trans e) f0 f1 f3 f4 f5;obtain⟨o,e2,c,dd⟩:=id sf;exact⟨_,rfl,ue (s:={s with heap:=h'}) e2 c dd (by decide) ⟨x,H,I1,rx,⟨rfl,ka⟩,sf,λb hb=>(hf b hb).1⟩⟩
 done:=by
  intro X hP hw hK hc i f8 s σ H E I hf st hg;subst hP hw hK;obtain⟨n,hn,hi⟩:∃n,((∃aE,H d=some (.frz od (.dT aE))/\n=aE.length)\/∃aE,H d=some (.frz od (.dK aE))/\n=aE.length)/\n<=i:=by
   rcases hg with⟨aE,e,hi⟩ | ⟨aE,e,hi⟩
   ·exact⟨_, .inl ⟨aE,e,rfl⟩,hi⟩
   ·exact⟨_, .inr ⟨aE,e,rfl⟩,hi⟩
  obtain⟨Fi,Ff,lo,ho,hx,m_,hsz,hk⟩:=qo I hn;rw[jD] at m_;cases m_;obtain⟨f0,f1,f2,f3,f4,f5⟩:=hf it (by simp);exact ua (I.ok.hd hc) st (by omega) ho jD λh' eb=>⟨rfl,I.turned (t':=s.toks) (λb o hb e=>eb b o hb e) f0 f1 f3 f4 f5⟩
 self:=λ_ _ _ _ _ st h=>wpAny_pyIter_keyiter st h
def tupK(k:List Key):D:= .tup (k.map IU)
def oV:Key->Bool
 | .inl _=>true
 | .inr x=>decide (x.length<=lim)
def oG:D->M (List D)
 | .dct ks _=>if ks.all (λk=>decide (k.length<=lim)&&k.all oV) then ae (ks.map tupK) else ag
 | .dci ks _=>if ks.all oV then ae (ks.map IU) else ag
 |_=>ag
theorem yA{K:Xr}{F:Hp}{k:Key}(h:oV k=true):Den K F (IU k) (kV k):=by
 cases k with
 |inl i=>exact rfl
 |inr x=>exact⟨rfl,ad4 h⟩
theorem nH{K:Xr}{F:Hp}:∀{k:List Key},k.all oV=true->DenL K F (k.map IU) (k.map kV)
 |[],_=>rfl
 |x::k,h=>by
  rw[aaC,XO] at h;exact .cons (yA h.1) (nH h.2)
theorem FX{K:Xr}{F:Hp}{a:Addr}{ob:Obj}{d:D}{ds:List D}(hd:Den K F d (.ref a))(hF:∃u,F a=some (.frz ob u))(e:oG d=ae ds):ItD K F (To a ob) ds:=λF' H' i s1 s2=>by
 unfold oG at e;split at e
 ·rename_i ks es;split at e
  ·rename_i hok;obtain rfl:=gq e;obtain⟨a',WC,vs,z,h2,h3,h4,h5⟩:=hd;cases z;obtain⟨u,hu⟩:=hF;rw[h2] at hu;cases hu;have hh:=s2 _ _ (s1 _ _ h2);have hz:=kG (a:=ks) (b:=vs) (by rw[h4];exact h3.len);have hl:(ks.zip vs).length=ks.length:=by rw[<-Xh (f:=(·.1)),hz]
   refine⟨λd e=>?_,λhle=> .inl ⟨_,hh,by rw[hl];simpa using hle⟩⟩;rw[Xv] at e;cases q:ks[i]? with
   |none=>rw[q] at e;cases e
   |some k=>
    rw[q] at e;cases e;have hi:=(Xy.mp q).1;refine⟨.inl ⟨_,hh,by rw[hl];exact hi⟩,λx H'' ⟨y1,y2⟩=>?_⟩;subst y1;have hk:=Yl.mp hok k (Ye q);rw[XO] at hk;rcases y2 with⟨aE,k',b,q1,q2,rfl,q3⟩ | ⟨aE,k',q1,q2,rfl⟩
    ·rw[hh] at q1;cases q1;rw[hz,q] at q2;cases q2;have E:=Ext.tup (F:=F') s2 q3;exact⟨_,E,b,_,rfl,aM,nH hk.2,by rw[Xh];exact ad4 hk.1⟩
    ·rw[hh] at q1;cases q1
  ·exact(gU e).elim
 ·rename_i ks es;split at e
  ·rename_i hok;obtain rfl:=gq e;obtain⟨a',WC,vs,z,h2,h3,h4,h5⟩:=hd;cases z;obtain⟨u,hu⟩:=hF;rw[h2] at hu;cases hu;have hh:=s2 _ _ (s1 _ _ h2);have hz:=kG (a:=ks) (b:=vs) (by rw[h4];exact h3.len);have hl:(ks.zip vs).length=ks.length:=by rw[<-Xh (f:=(·.1)),hz]
   refine⟨λd e=>?_,λhle=> .inr ⟨_,hh,by rw[hl];simpa using hle⟩⟩;rw[Xv] at e;cases q:ks[i]? with
   |none=>rw[q] at e;cases e
   |some k=>
    rw[q] at e;cases e;have hi:=(Xy.mp q).1;refine⟨.inr ⟨_,hh,by rw[hl];exact hi⟩,λx H'' ⟨y1,y2⟩=>?_⟩;subst y1;have hk:=Yl.mp hok k (Ye q);rcases y2 with⟨aE,k',b,q1,q2,rfl,q3⟩ | ⟨aE,k',q1,q2,rfl⟩
    ·rw[hh] at q1;cases q1
    ·rw[hh] at q1;cases q1;rw[hz,q] at q2;cases q2;exact⟨F',Ext.refl s2,yA hk⟩
  ·exact(gU e).elim
 ·exact(gU e).elim
section
variable{X:Cx}{Xw:Nat->Hp->Prop}{tg l:Expr}{δ:DE}
theorem GR(h:PD X Xw l δ):zY X Xw tg l (λρ=>δ ρ>>=oG):=by
 intro f8 s σ H R I ⟨F,ρ,S,w⟩;refine cC (h f8 s σ H (λv H1=>∃F1 d,Ext F H F1 H1/\Den X.K F1 d v/\WPI X.K Xw F1 H1 (oG d) R) I ⟨F,ρ,S,WPI.bind w⟩) λu s1 ⟨v,H1,I1,r1,F1,d,e1,q1,w1⟩=>?_;rcases(oG d).cs with z | ⟨n,z⟩ | ⟨ds,z⟩
 ·rw[z] at w1;exact w1.elim
 ·exfalso
  unfold oG at z;split at z
  ·split at z<;>cases z
  ·split at z<;>cases z
  ·cases z
 ·rw[z] at w1;obtain⟨a,ob,u',rfl,hF,hn⟩:∃a ob u',v= .ref a/\F1 a=some (.frz ob u')/\∃n,((∃aE,H1 a=some (.frz ob (.dT aE))/\n=aE.length)\/∃aE,H1 a=some (.frz ob (.dK aE))/\n=aE.length):=by
   unfold oG at z;split at z
   ·obtain⟨a,ob,vs,e,h2,_⟩:=q1;exact⟨a,ob,_,e,h2,_, .inl ⟨_,e1.fh _ _ h2,rfl⟩⟩
   ·obtain⟨a,ob,vs,e,h2,_⟩:=q1;exact⟨a,ob,_,e,h2,_, .inr ⟨_,e1.fh _ _ h2,rfl⟩⟩
   ·exact(gU z).elim
  obtain⟨n,hn⟩:=hn;cases (show u=_ from r1);obtain⟨es,ep,lo,ho,hx,hd,hsz,hk⟩:=qo I1 hn;refine ur lo ho hx hd ?_;refine⟨s1.heap.objs.size,[s1.heap.objs.size],_,_,H1,rfl,I1.kept (t':=s1.toks) λb o e=>Xm _ e,Ep a _ ob es ep hd,⟨_,XA _ rfl,rfl,rfl⟩,λb hb=>?_,w1 _ _ _ (Ext.refl e1.fh) (FX q1 ⟨_,hF⟩ z)⟩;have e:b=s1.heap.objs.size:=by simpa using hb
  subst e;exact I1.fpOk (Xx _) (I1.hok.fresh (Xx _))
end
end L3
namespace L3
open PySem
section
variable{prog:XR}{w:World}{K:Type}[DecidableEq K]{knd:HeapKind prog w K}{A:X6}{E:Value->Xl->Prop}{s:Xl}
theorem r_{d a:Addr}{xs:List (K×Addr×Value)}{k:K}{v:Value}{Q:Unit->Xl->Prop}(hu:knd.room A)(IC:knd.is s.heap k a)(hm:s.heap.DictOfH knd d xs)(hsz:xs.length<=XH)
 (hQ:∀h',h'.DictOfH knd d (aaJ xs k a v)->YI d s.heap h'->Q () {s with heap:=h'}):wpAny (model prog w) A (ab3 d (.ref a) (knd.hash k) v) Q E s:=by
 obtain⟨o,es,ep,ho,hc,hd,he,RP,hn⟩:=hm;unfold ab3;refine Y1 (Xg (wpAny_dictFind_heap hu IC ho hd he RP hn (λFK=>?_) λj p hj=>?_))
 ·have e0:=atKey_none_of_get FK;have hz:es.size<=XH:=by rw[acU he];exact hsz
  refine Xg (wpAny_rule (wpAny_updateDictKeys (hz:=hz) ho hd (hQ _ ?_ (Yh ..))));rw[storedH_new e0];refine⟨_,_,ep+1,Yx _ ho (abA (aaz hd _)),hc.mapDictKeys _,aaz hd _,by simp[he,ack],λx hx=>?_,?_⟩
  ·rcases X4.mp hx with hx | hx
   ·exact knd.keeps (RP x hx) ho hd (Yh ..)
   ·obtain rfl:x=(k,a,v):=by simpa using hx
    exact knd.keeps IC ho hd (Yh ..)
  ·rw[Yv];refine ZU.mpr ⟨hn,by simp,λx hx y hy z=>?_⟩;have hy:y=k:=by simpa using hy
   exact not_mem_keys_of_get FK (by rw[<-hy,<-z];exact hx)
 ·have e0:=atKey_of_get hn hj;refine Xg (wpAny_rule (Xg (wpAny_updateDict ho hd (wpAny_point (hQ _ ?_ (Yh ..))))));rw[storedH_old e0];refine⟨_,_,ep,Yx _ ho (abA (Obj.data_mapDict hd _)),hc.mapDict _,Obj.data_mapDict hd _,?_,λx hx=>?_,by rw[keys_map_putAt];exact hn⟩
  ·have:=modify_map_putAt (ack knd) (λe:YL=>{e with val:=v}) k v (λ_ _=>rfl) hn hj;rw[<-he] at this;obtain⟨l⟩:=es;simpa using this
  ·obtain⟨y,hy,rfl⟩:=XE.mp hx;unfold putAt;split<;>exact knd.keeps (RP y hy) ho hd (Yh ..)
def bS(xs ys:List (K×Addr×Value)):List (K×Addr×Value):=ys.foldl (λacc y=>aaJ acc y.1 y.2.1 y.2.2) xs
theorem zD(xs:List (K×Addr×Value))(k:K)(a:Addr)(v:Value):(aaJ xs k a v).length<=xs.length+1:=by
 unfold aaJ;split<;>simp
theorem jQ:∀(ys xs:List (K×Addr×Value)),(bS xs ys).length<=xs.length+ys.length
 |[],xs=>Xx _
 |y::ys,xs=>by
  have h1:=jQ ys (aaJ xs y.1 y.2.1 y.2.2);have h2:=zD xs y.1 y.2.1 y.2.2;show (bS (aaJ xs y.1 y.2.1 y.2.2) ys).length<=_;rw[Xo];omega
theorem me{xs ys:List (K×Addr×Value)}{i:Nat}{y:K×Addr×Value}(h:ys[i]? =some y):bS xs (ys.take (i+1))=aaJ (bS xs (ys.take i)) y.1 y.2.1 y.2.2:=by
 rw[List.take_add_one,h];unfold bS;rw[adU];rfl
theorem jR:∀(ys acc:List (K×Addr×Value)),((acc++ys).map (·.1)).Nodup->bS acc ys=acc++ys
 |[],acc,_=>by simp[bS]
 |y::ys,acc,hn=>by
  show bS (aaJ acc y.1 y.2.1 y.2.2) ys=_;have RV:y.1∉acc.map (·.1):=λh=>by
   rw[Yv] at hn;exact(ZU.mp hn).2.2 _ h _ (by simp) rfl
  have e0:atKey acc y.1=none:=atKey_none_of_get λj p hj=>RV (XE.mpr ⟨_,Ye hj,rfl⟩);rw[storedH_new e0,jR ys (acc++[(y.1,y.2.1,y.2.2)]) (by simpa using hn)];simp
theorem vE{id:String}{o:Addr}{ob:Obj}{es:Array YL}{ep:Nat}{Q:Array YL->Xl->Prop}(ho:s.heap.get? o=some ob)(hd:ob.data= .dict es ep)
 (hq:∀e∈es.toList,∃a,e.key= .ref a/\s.TypeIs (.ref a) "tuple")(hh:∀e∈es.toList,(es.filter (·.hash==e.hash)).size<=1)(h:Q es s):wpAny (model prog w) A (abv id o) Q E s:=by
 unfold abv;refine Xg (YE ho hd ?_);rw[<-Array.forIn_toList];refine Xg (abq _ (λW1 _ s'=>s'=s/\∀e∈W1,e∈es.toList) _ ?_ ?_ _ _ ⟨rfl,λ_ h=>h⟩)
 ·rintro e W1 b s' ⟨rfl,hr⟩;obtain⟨a,ea,ta⟩:=hq e (hr e (Xk ..));have hf:=hh e (hr e (Xk ..));have eM:¬((es.filter (·.hash==e.hash)).size>1):=by omega
  rw[ea];unfold Builtin.Dict.quietEq;refine Xg (Xg (acQ ta F.slot_tuple_eq.lookup (Xn ?_)));simp only[eM,if_false];have:(some (aaa "tuple.__eq__")==some (aaa "object.__eq__"))=false:=by decide
  simp only[this,acG,if_true];exact Xn ⟨rfl,λx hx=>hr x (Xj _ hx)⟩
 ·rintro b s' ⟨rfl,_⟩;exact Xn h
theorem qU{nm:String}{d o:Addr}{xs ys:List (K×Addr×Value)}{Q:Unit->Xl->Prop}(hu:knd.room A)(TZ:d≠o)(V5:(o==YS)=false)(hd:s.heap.DictOfH knd d xs)(ho:s.heap.DictOfH knd o ys)
 (VO:∀{h:Heap}{k:K}{a:Addr},knd.is h k a->∃ob,h.get? a=some ob/\ob.cls= .type "tuple")(hh:xs=[]->(ys.map λy=>knd.hash y.1).Nodup)(hsz:xs.length+ys.length<=XH)
 (hQ:∀h',h'.DictOfH knd d (bS xs ys)->YI d s.heap h'->Q () {s with heap:=h'}):wpAny (model prog w) A (abZ nm d o) Q E s:=by
 obtain⟨od,UU,UR,vN,uf,jD,Vu,W6,FJ⟩:=id hd;obtain⟨oo,Ah,US,ON,W5,Dt,EA,RO,FK⟩:=id ho;have v6:=acU EA;unfold abZ;rw[ad0 (by simpa using TZ)];unfold ZD;rw[ad0 (by rw[V5];exact XM)];refine Xg (Xn (Xg (YE ON Dt ?_)));have loop:∀(body:Nat->PUnit->Sem (ForInStep PUnit)),body=(λi (_:PUnit)=>(do
       let l'<-dictEntries o
       match l'[i]? with
        |some e=>do
         holding [e.key,e.val] (ab3 d e.key e.hash e.val)
         let Ff<-dictEpoch o
         if (Ff !=US)=true then do (unsupported (aax nm++aax ":source-changed-during-callback"):Sem PUnit);pure (YB aaj) else pure (YB aaj)
        |_=>do
         (unsupported "internal:dict-merge":Sem PUnit)
         pure (YB aaj):Sem (ForInStep PUnit)))->wpAny (model prog w) A (forIn [:Ah.size] aaj body) (λ_ s'=>Q () s') E s:=by
  rintro _ rfl;rw[Std.Legacy.Range.forIn_eq_forIn_range'];simp only[Std.Legacy.Range.size,Nat.sub_zero,Nat.add_sub_cancel,Nat.div_one];refine abq _ (λW1 _ s'=>∃h' i,s'={s with heap:=h'}/\W1=Yu i (Ah.size - i)/\i<=Ah.size/\h'.DictOfH knd d (bS xs (ys.take i))/\h'.get? o=some oo/\YI d s.heap h') _ ?_ ?_ _ _
   ⟨s.heap,0,rfl,by simp,Yo _,by simpa[bS] using hd,ON,acE _ _⟩
  ·rintro x W1 b s' ⟨h',i,rfl,hr,hi,m_,LW,FO⟩;have eM:i<Ah.size:=by
    by_cases h:i<Ah.size
    ·exact h
    ·rw[show Ah.size - i=0 by omega] at hr;simp at hr
   rw[show Ah.size - i=(Ah.size - (i+1))+1 by omega,aa_] at hr;injection hr with h1 h2
   subst h1;refine Xg (YE LW Dt ?_);obtain⟨y,hy⟩:∃y,ys[x]? =some y:=⟨_,Xi (by omega)⟩
   rw[entry_at EA x,hy];have V0:(bS xs (ys.take x)).length<=XH:=by
    have e1:=jQ (ys.take x) xs;rw[abb] at e1;omega
   have VP:knd.is h' y.1 y.2.1:=knd.keeps (RO y (Ye hy)) vN jD FO;refine Xg (Y1 (r_ hu VP m_ V0 λTH RB OR=>?_));have KU:TH.get? o=some oo:=(OR.2 o (Yp TZ)).trans LW;refine Xg (ZE KU Dt ?_);rw[ad0 (by simp)];exact Xn ⟨TH,x+1,rfl,h2,eM,by rw[me hy];exact RB,KU,FO.trans OR⟩
  ·rintro b s' ⟨h',i,rfl,hr,hi,m_,LW,FO⟩;have qw:i=Ah.size:=by
    by_cases h:i<Ah.size
    ·rw[show Ah.size - i=(Ah.size - (i+1))+1 by omega,aa_] at hr;exact nomatch hr
    ·omega
   refine hQ h' ?_ FO;rw[qw,v6,ab0] at m_;exact m_
 have go:wpAny (model prog w) A (do
  let Od<-dictEpoch o
  let l<-dictEntries o
  forIn [:l.size] aaj λi (_:PUnit)=>(do
   let l'<-dictEntries o
   match l'[i]? with
    |some e=>do
     holding [e.key,e.val] (ab3 d e.key e.hash e.val)
     let Ff<-dictEpoch o
     if (Ff !=Od)=true then do (unsupported (aax nm++aax ":source-changed-during-callback"):Sem PUnit);pure (YB aaj) else pure (YB aaj)
    |_=>do
     (unsupported "internal:dict-merge":Sem PUnit)
     pure (YB aaj):Sem (ForInStep PUnit))
  pure ()) Q E s:=by
  refine Xg (ZE ON Dt (Xg (YE ON Dt (Xg ?_))));exact YA (loop _ rfl) (λ_ _ h=>Xn h) λ_ _ h=>h
 dsimp only
 split
 ·refine Xg (YE vN jD ?_);split
  ·rename_i RD;have OY:xs=[]:=by
    have h0:UU= #[]:=adM.mp RD;have:=acU Vu;rw[h0] at this;exact aa7.mp (by simpa using this.symm)
   subst OY;have V1:=hh rfl;refine Xg (vE ON Dt (λe he=>?_) (λe he=>?_) ?_)
   ·rw[EA] at he;obtain⟨y,hy,rfl⟩:=XE.mp he;obtain⟨ob,h1,h2⟩:=VO (RO y hy);exact⟨y.2.1,rfl,ob,h1,h2⟩
   ·have:(Ah.filter (·.hash==e.hash)).size=((ys.map λy=>knd.hash y.1).filter (· ==e.hash)).length:=by
     rw[<-XZ,Array.toList_filter,EA,List.filter_map,List.filter_map,Xh,Xh];rfl
    rw[this];have hc:=List.nodup_iff_count.mp V1 e.hash;rw[List.count_eq_countP,aaB] at hc;exact hc
   ·have hm:bS ([]:List (K×Addr×Value)) ys=ys:=by
     rw[jR ys [] (by simpa using FK)];rfl
    rw[hm] at hQ;split
    ·have Wc:Ah.size<=XH+1:=by simp at hsz;omega
     refine Xg (wpAny_updateDictKeysTo vN jD (Xn (hQ _ ⟨_,_,UR+1,Yx _ vN (abA (aaz jD _)),uf.mapDictKeys _,aaz jD _,EA,λx hx=>?_,FK⟩ (Yh ..))) Wc);exact knd.keeps (RO x hx) vN jD (Yh ..)
    ·rename_i iT;have h0:Ah= #[]:=adM.mp (by simpa using iT);have VX:ys=[]:=aa7.mp (by rw[<-v6,h0];rfl);subst VX;exact Xn (hQ _ hd (acE _ _))
  ·exact go
 ·exact go
end
end L3
namespace L3
open PySem PySem.Spec L2
open PyProof.Rows hiding St
theorem Km{P:XR}{w:World}{h:Heap}{k:List Key}{a:Addr}(h1:(Zh (a6 P w)).is h k a):∃ob,h.get? a=some ob/\ob.cls= .type "tuple":=by
 obtain⟨ob,aL,n,q1,q2,_⟩:=h1;exact⟨ob,q1,q2⟩
def jP(aE more:List (List Key×V)):List (List Key×V):=more.foldl (λacc kv=>putK acc kv.1 kv.2) aE
theorem Cc{H:Hp}:∀{more:List (List Key×V)}{ys:List (List Key×Addr×Value)},KT H more ys->∀{aE:List (List Key×V)}{xs:List (List Key×Addr×Value)},KT H aE xs->KT H (jP aE more) (bS xs ys)
 |_,_, .nil,_,_,q=>q
 |_,_, .cons h t,aE,xs,r=>by
  refine Cc t ?_;have:=KT.put r _ h.2.1 h.2.2;rw[h.1] at this;show KT H (putK aE _ _) (aaJ xs _ _ _);rw[h.1];exact this
theorem qM:∀(more aE:List (List Key×V)),(jP aE more).length<=aE.length+more.length
 |[],aE=>Xx _
 |p::r,aE=>by
  have h1:=qM r (putK aE p.1 p.2);have h2:=fX aE p.1 p.2;show (jP (putK aE p.1 p.2) r).length<=_;rw[Xo];omega
def gY(k:List Int):Int:=reduceHash (abC (k.map hashInt))
theorem FA{P:XR}{w:World}(k:List Int):(Zh (a6 P w)).hash (qG k)=gY k:=by
 show reduceHash (abC ((qG k).map (O8 w)))=_;unfold gY qG;rw[Yn];rfl
section
variable{X:Cx}{f8:List (Addr×Obj)}{σ:St}{H:Hp}{s:Xl}{a b:Addr}{A:X6}{E:Value->Xl->Prop}
theorem E7{aE more:List (List Key×V)}{ks:List (List Int)}{Q:Value->Xl->Prop}(hu:A.units+2<cLine)(I:Inv X f8 σ H s)(ha:H a=some (.dT aE))(hb:Rd H b (.dT more))(LN:a≠b)(hk:more.map (·.1)=ks.map qG)
 (hh:aE=[]->(ks.map gY).Nodup)(hz:aE.length+more.length<=XH)(h:∀s',Inv X f8 σ (upd H a (.dT (jP aE more))) s'->Q .none s'):
 wpAny (model X.prog X.w) A (call (.builtin "dict.update") [.ref a, .ref b]) Q E s:=by
 obtain⟨z1,lo1,xs,P5,Qp⟩:=Fb I.hok ha;obtain⟨z2,Wz,ys,J2,t7⟩:=lU I.hok hb;have l1:=Zg P5;have l2:=Zg J2;have hT:=Qp.typeIs;refine YY ab8 hT PySem.F.entry_dict_update ?_ (PySem.F.args_dict_update_2 _ _);unfold aaM.«dict.update»;refine Xg ?_;unfold abO;refine Xg (aaD hT ?_);show wpAny _ _ (pure (a,[XX b])) _ _ s;refine Xn ?_;show wpAny _ _ (ZZ "dict.update" a (.ref b) [] .none) _ _ s;unfold ZZ;refine Xg (wpAny_typeOf t7.typeIs ?_);rw[ad0 (by decide)];refine Xg ?_;unfold Builtin.Dict.merge;refine Xg ?_;unfold Builtin.Dict.readDirectly;refine Xg (acH t7.typeIs isSubtype_dict_dict ?_);simp only[Bool.not_true,Yi,if_false];refine Xg (acQ t7.typeIs PySem.F.slot_dict_iter.lookup (Xn ?_));simp only[beq_self_eq_true,if_true];refine Xg (Xn ?_);refine qU (knd:=Zh (a6 X.prog X.w)) (show A.in1.units<cLine by show A.units+1<cLine;omega) LN Wz Qp t7 Km (λe0=>?_) (by omega) λh' Dk FO=>?_
 ·have e1:aE=[]:=aa7.mp (by rw[l1,e0];rfl);have:=hh e1;have e2:(ys.map λy=>(Zh (a6 X.prog X.w)).hash y.1)=ks.map gY:=by
   have e3:more.map (·.1)=ys.map (·.1):=o9 (λ_ _ r=>r.1) J2;rw[show (λy:List Key×Addr×Value=>(Zh (a6 X.prog X.w)).hash y.1)=(Zh (a6 X.prog X.w)).hash∘(·.1) from rfl,<-Yn,<-e3,hk,Yn];exact ZA λk _=>FA k
  rw[e2];exact this
 ·show wpAny _ _ (abP a []>>=_) _ _ _;refine Xg (Xn (Xn ⟨.none,rfl,h _ ?_⟩));obtain⟨q,es,ep,hq,h2,h3,h4,_,h5⟩:=Dk;have hl:(jP aE more).length<=XH:=by have:=qM more aE;omega
  refine lT I (t':=s.toks) (by rw[ha];exact Zs) FO ⟨q,hq⟩ ⟨hl,lo1,_,(Cc J2 P5).keeps λc ys ec=>?_,q,es,ep,hq,h2,h3,h4,h5⟩;rw[aA (Gk ec ha (λz=>nomatch z))];exact ec
end
def cN(ks:List (List Key))(ds:List D):List (List Key)->List D->List (List Key)×List D
 |k::ks',d::ds'=>cN (dZ ks ds k) (c7 ks ds k d) ks' ds'
 |_,_=>(ks,ds)
def HG(ks:List (List Key))(ds:List D):D->Option C
 | .dct ks' ds'=>match gK ks' with
   |some ns=>if ds.length+ds'.length<=lim/\(ks.isEmpty=true->(ns.map gY).Nodup) then some (.dct (cN ks ds ks' ds').1 (cN ks ds ks' ds').2) else none
   |none=>none
 |_=>none
theorem qS{K:Xr}{F:Hp}:∀{ks':List (List Key)}{ds':List D}{vs':List V}{ks:List (List Key)}{ds:List D}{vs:List V},DenL K F ds' vs'->ks'.length=ds'.length->DenL K F ds vs->ks.length=ds.length->
 ∃ws,jP (ks.zip vs) (ks'.zip vs')=(cN ks ds ks' ds').1.zip ws/\DenL K F (cN ks ds ks' ds').2 ws/\(cN ks ds ks' ds').1.length=(cN ks ds ks' ds').2.length
 |[],[],vs',ks,ds,vs,h',_,h,hl=>⟨vs,rfl,h,hl⟩
 |k::ks',d::ds',vs',ks,ds,vs,⟨v,r,e,h1,h2⟩,EC,h,hl=>by
  subst e;obtain⟨ws,e1,e2,e3⟩:=wV (K:=K) (F:=F) h1 k h hl;obtain⟨us,q1,q2,q3⟩:=qS (ks':=ks') (ds':=ds') (vs':=r) h2 (by simpa using EC) e2 e3;refine⟨us,?_,q2,q3⟩;show jP (putK (ks.zip vs) k v) (ks'.zip r)=_;rw[e1];exact q1
 |[],_::_,_,_,_,_,_,EC,_,_=>by simp at EC
 |_::_,[],_,_,_,_,_,EC,_,_=>by simp at EC
theorem G9{κ:Type}[DecidableEq κ]{ks:List κ}{ds:List D}{k:κ}{d:D}(hl:ks.length=ds.length):(c7 ks ds k d).length<=ds.length+1:=by
 unfold c7;split
 ·rw[j6 ks ds k d hl];omega
 ·simp
theorem G_{κ:Type}[DecidableEq κ]{ks:List κ}{ds:List D}{k:κ}{d:D}(hl:ks.length=ds.length):(dZ ks ds k).length=(c7 ks ds k d).length:=by
 unfold c7 dZ;split
 ·rw[j6 ks ds k d hl];exact hl
 ·simp[hl]
theorem qT:∀{ks':List (List Key)}{ds':List D}{ks:List (List Key)}{ds:List D},ks.length=ds.length->(cN ks ds ks' ds').2.length<=ds.length+ds'.length
 |[],ds',ks,ds,_=>by show ds.length<=_;omega
 |_::_,[],ks,ds,_=>by show ds.length<=_;simp
 |k::ks',d::ds',ks,ds,hl=>by
  have h1:=qT (ks':=ks') (ds':=ds') (ks:=dZ ks ds k) (ds:=c7 ks ds k d) (G_ hl);have h2:=G9 (k:=k) (d:=d) hl;show (cN (dZ ks ds k) (c7 ks ds k d) ks' ds').2.length<=_;rw[Xo];omega
section
variable{X:Cx}{Xw:Nat->Hp->Prop}{o e:Expr}{δ:DE}{pos p P3 a7:Pos}{x:Str}{i:Nat}
def Hj(i:Nat)(δ:DE):DS:=λρ=>match A6 ρ i with
 |some (.dct ks ds)=>δ ρ>>=λd=>match HG ks ds d with
  |some c'=>ae (.nx (ρ.set i (some (.ow c'))))
  |none=>ag
 |_=>ag
theorem M0{td ty:TE}(hu:X.A.units+2<cLine)(ho:PE X o td)(he:PE X e ty)(m:M1 X o "update" P3 e a7):
 PE X (.Call (.Attribute o "update" P3) [e] [] a7) (λσ H Q=>td σ H λx H1=>∃a,x= .ref a/\NZ H1 a/\ty σ H1 λy H2=>∃(b:Addr) (aE more:List (List Key×V)) (ks:List (List Int)),y= .ref b/\H2 a=some (.dT aE)/\Rd H2 b (.dT more)/\a≠b/\more.map (·.1)=ks.map qG/\(aE=[]->(ks.map gY).Nodup)/\aE.length+more.length<=XH/\Q .non (upd H2 a (.dT (jP aE more)))):=by
 intro f8 s σ H Q I h;refine acj m.base m.few m.line Z6 ab8 (by rfl) (cC (ho f8 s σ H _ I h) λu s1 ⟨x,H1,I1,rx,a,ex,d,q1⟩=>?_);subst ex;obtain rfl:u=XX a:=rx;obtain⟨t1,t2,_⟩:=AB I1 d;refine⟨t1,t2,?_⟩;rw[m.trees];refine ZG rfl (ZY (aab (cC (he f8 s1 σ H1 _ I1 q1) λiv s2 ⟨y,H2,I2,ry,b,aE,more,ks,ey,k1,k2,k3,k4,k5,k6,q2⟩=>aaX ?_)));subst ey;obtain rfl:iv=XX b:=ry;exact E7 hu I2 k1 k2 k3 k4 k5 k6 λs3 I3=>⟨.non,_,I3,rfl,q2⟩
theorem JU(hu:X.A.units+64<cLine)(hv:PE X (.Name x p) (sk i))(he:PD X Xw e δ)(m:M1 X (.Name x p) "update" P3 e a7)(hs:abf (.Call (.Attribute (.Name x p) "update" P3) [e] [] a7) none pos.line X.env=pure false:=by rfl):
 iq X Xw (.Expr (.Call (.Attribute (.Name x p) "update" P3) [e] [] a7) pos) (Hj i δ):=λs0 ad8=>PS.weak (p8 (M0 (by omega) hv he m) hs) λD σ H ⟨F,ρ,s,w⟩=>by
 unfold Hj at w;split at w
 ·rename_i ks ds QK;have hi:=uH QK;obtain⟨v,Sa,a,oh,rfl,hH,hF,vs,rfl,hd,hl,hz⟩:=s.st.den i _ hi;refine⟨.ref a,Sa,a,rfl, .inr ⟨_, .inl hH⟩,F,ρ,s.st,?_⟩;rcases(δ ρ).cs with q | ⟨n,q⟩ | ⟨d,q⟩
  ·rw[q] at w;exact w.elim
  ·rw[q] at w⊢;exact λF' H' e'=>w F' H' (s.ext.trans e')
  ·rw[q] at w⊢;intro u H1 F1 e1 hq;have w:WPS X.K Xw s0 ad8 (match HG ks ds d with | some c'=>ae (.nx (ρ.set i (some (.ow c')))) | none=>ag) D:=w;cases d with
   |dct ks' ds'=>
    obtain⟨b,ob,vs',rfl,k2,k3,k4,k5⟩:=hq;cases hc:HG ks ds (.dct ks' ds') with
    |none=>rw[hc] at w;exact w.elim
    |some c'=>
     rw[hc] at w;have hc:(match gK ks' with | some ns=>if ds.length+ds'.length<=lim/\(ks.isEmpty=true->(ns.map gY).Nodup) then some (C.dct (cN ks ds ks' ds').1 (cN ks ds ks' ds').2) else none | none=>none)=some c':=hc;cases hn:gK ks' with
     |none=>rw[hn] at hc;cases hc
     |some ns=>
      rw[hn] at hc;have hc:(if ds.length+ds'.length<=lim/\(ks.isEmpty=true->(ns.map gY).Nodup) then some (C.dct (cN ks ds ks' ds').1 (cN ks ds ks' ds').2) else none)=some c':=hc;split at hc
      ·rename_i Ox;cases hc;have QE:=DenL.mono e1.ff hd;have l1:=QE.len;have l2:=k3.len;have LN:a≠b:=λz=>by
        have:=e1.old hH (λ_ z=>nomatch z);rw[hF,z,k2] at this;cases this
       obtain⟨ws,m1,m2,m3⟩:=qS k3 k4 QE hl;refine⟨b,ks.zip vs,ks'.zip vs',ns,rfl,e1.hh _ _ hH, .inr ⟨ob,e1.fh _ _ k2⟩,LN,by rw[kG (by rw[k4];exact l2),nz hn],λz=>Ox.2 ?_,?_,?_⟩
       ·have:=kG (a:=ks) (b:=vs) (by rw[hl];exact l1);rw[z] at this;rw[<-this];rfl
       ·rw[aaG,aaG];have:=d6;omega
       ·rw[m1];exact w σ F1 _ ((s.ext' e1).chg (c₀:= .dct (cN ks ds ks' ds').1 (cN ks ds ks' ds').2) hi Sa ⟨ws,rfl,m2,m3,by have:=qT (ks':=ks') (ds':=ds') hl;omega⟩)
      ·cases hc
   |_=>exact w.elim
 ·exact w.elim
end
section
variable{X:Cx}{Xw:Nat->Hp->Prop}{o e f:Expr}{δo δe δf:DE}{P3 a7:Pos}{x:Str}
def FU:D->Bool
 | .dct _ _=>true
 | .dci _ _=>true
 |_=>false
theorem B3{K:Xr}{F H:Hp}{d:D}{x:V}(s:Same F H)(hd:Den K F d x)(e:FU d=true):∃a,x= .ref a/\NZ H a:=by
 cases d with
 |dct ks ds=>obtain⟨a,ob,vs,rfl,h2,_⟩:=hd;exact⟨a,rfl, .inr ⟨_, .inr ⟨ob,s _ _ h2⟩⟩⟩
 |dci ks ds=>obtain⟨a,ob,vs,rfl,h2,_⟩:=hd;exact⟨a,rfl, .inl ⟨_, .inr ⟨ob,s _ _ h2⟩⟩⟩
 |_=>cases e
def getM(d k v:D):M D:=match Ex d k with
 |some (some x)=>ae x
 |some none=>ae v
 |none=>ag
def N8(δo δe:DE):DE:=λρ=>δo ρ>>=λd=>if FU d then δe ρ>>=λk=>getM d k .non else ag
def lQ(δo δe δf:DE):DE:=λρ=>δo ρ>>=λd=>if FU d then δe ρ>>=λk=>δf ρ>>=λv=>getM d k v else ag
theorem yr{F H:Hp}{d k v:D}{a:Addr}{y z:V}{Q:VK}(s:Same F H)(q1:Den X.K F d (.ref a))(q2:Den X.K F k y)(q3:Den X.K F v z)(w:WP X.K Xw F H (getM d k v) Q):∃ov,kY H a y ov/\Q (ov.getD z) H:=by
 unfold getM at w;cases zT:Ex d k with
 |none=>rw[zT] at w;exact w.elim
 |some o'=>
  rw[zT] at w;obtain⟨a',ov,zz,h2,h3,h4⟩:=vf s q1 q2 zT;cases zz;refine⟨ov,h2,?_⟩;cases o' with
  |none=>
   cases ov with
   |none=>exact WP.now w s q3
   |some _=>cases h3
  |some d'=>
   obtain⟨v,rfl,hv⟩:=h4 d' rfl;exact WP.now w s hv
theorem QT(hu:X.A.units+64<cLine)(ho:PD X Xw o δo)(he:PD X Xw e δe)(m:M1 X o "get" P3 e a7):PD X Xw (.Call (.Attribute o "get" P3) [e] [] a7) (N8 δo δe):=
 PE.weak (GW (by omega) ho he m) λσ H Q ⟨F,ρ,s,w⟩=>by
  refine⟨F,ρ,s,WP.mono (WP.bind w) λx H1 ⟨F1,d,e1,q1,w1⟩=>?_⟩;split at w1
  ·rename_i hd;obtain⟨a,rfl,Sm⟩:=B3 e1.fh q1 hd;refine⟨a,rfl,Sm,F1,ρ,s.ext e1,WP.mono (WP.bind w1) λy H2 ⟨F2,k,e2,q2,w2⟩=>?_⟩;exact yr (v:= .non) (z:= .non) e2.fh (Den.mono e2.ff q1) q2 (show V.non=V.non from rfl) w2
  ·exact w1.elim
theorem Cs(hu:X.A.units+64<cLine)(ho:PD X Xw o δo)(he:PD X Xw e δe)(hf:PD X Xw f δf)(m:M2 X o "get" P3 e f a7):PD X Xw (.Call (.Attribute o "get" P3) [e,f] [] a7) (lQ δo δe δf):=
 PE.weak (GX (by omega) ho he hf m) λσ H Q ⟨F,ρ,s,w⟩=>by
  refine⟨F,ρ,s,WP.mono (WP.bind w) λx H1 ⟨F1,d,e1,q1,w1⟩=>?_⟩;split at w1
  ·rename_i hd;obtain⟨a,rfl,Sm⟩:=B3 e1.fh q1 hd;refine⟨a,rfl,Sm,F1,ρ,s.ext e1,WP.mono (WP.bind w1) λy H2 ⟨F2,k,e2,q2,w2⟩=>?_⟩;refine⟨F2,ρ,(s.ext e1).ext e2,WP.mono (WP.bind w2) λz H3 ⟨F3,v,e3,q3,w3⟩=>?_⟩;exact yr e3.fh (Den.mono e3.ff (Den.mono e2.ff q1)) (Den.mono e3.ff q2) q3 w3
  ·exact w1.elim
end
section
variable{X:Cx}{Xw:Nat->Hp->Prop}{a b:Expr}{δa δb:DE}{pos:Pos}
def vI(neg:Bool):D->D->M D
 | .raw _,_=>ag
 | .non, .non=>ae (.bl (!neg))
 |_, .non=>ae (.bl neg)
 |_,_=>ag
theorem B4{K:Xr}{neg:Bool}{g:V->Bool}(hg:∀v,g v=if neg then !decide (v= .non) else decide (v= .non)):u9 K (λx y H Q=>y= .non/\Q (.bl (g x)) H) (vI neg):=λXw F H x y dx dy Q s hx hy w=>by
 unfold vI at w;split at w
 ·exact w.elim
 ·refine⟨hy,?_⟩;cases (show x=_ from hx);rw[hg];cases neg<;>exact WP.now w s rfl
 ·rename_i h1 h2;refine⟨hy,?_⟩;have FP:x≠ .non:=by
   rintro rfl;cases dx with
   |raw v=>exact h1 v rfl
   |non=>exact h2 rfl
   |bl _=>cases (show _=_ from hx)
   |int _=>cases (show _=_ from hx)
   |str _=>cases (show _=_ from hx.1)
   |exc _=>obtain⟨_,z,_⟩:=hx;cases z
   |scr _=>obtain⟨_,z,_⟩:=hx;cases z
   |tup _=>obtain⟨_,_,z,_⟩:=hx;cases z
   |lst _=>obtain⟨_,_,z,_⟩:=hx;cases z
   |dct _ _=>obtain⟨_,_,_,z,_⟩:=hx;cases z
   |dci _ _=>obtain⟨_,_,_,z,_⟩:=hx;cases z
  rw[hg,ad2 FP];cases neg<;>exact WP.now w s rfl
 ·exact w.elim
theorem Nf(ha:PD X Xw a δa)(hb:PD X Xw b δb):lK X Xw (.Compare a [.Is] [b] pos) (bU (d2 (vI false) δa δb)):=dB ME (B4 λ_=>rfl) ha hb
theorem Cy(ha:PD X Xw a δa)(hb:PD X Xw b δb):lK X Xw (.Compare a [.IsNot] [b] pos) (bU (d2 (vI true) δa δb)):=dB Jt (B4 λ_=>rfl) ha hb
end
def vJ:List Nat->Kq
 |[]=>Ol
 |i::is=>KI (Fq i) (vJ is)
def Bi:List Nat->List D->bb->bb
 |i::is,d::ds,ρ=>Bi is ds (ρ.set i (some (.fz d)))
 |_,_,ρ=>ρ
def jy(is:List Nat):D->bb->Option bb
 | .tup ds,ρ=>if ds.length=is.length then some (Bi is ds ρ) else none
 |_,_=>none
theorem uY{K:Xr}{s0 ad8 F H:Hp}{Q:St->Hp->Prop}:∀(is:List Nat) (ds:List D) (vs:List V) (σ:St) (ρ:bb),ds.length=is.length->StOk K s0 ad8 F H σ ρ->DenL K F ds vs->(∀σ',StOk K s0 ad8 F H σ' (Bi is ds ρ)->Q σ' H)->vJ is vs σ H Q
 |[],[],vs,σ,ρ,_,s,h,k=>⟨h,k σ s⟩
 |i::is,d::ds,vs,σ,ρ,hl,s,⟨v,r,e,h1,h2⟩,k=>by
  subst e;exact⟨v,r,rfl,uY is ds r _ _ (by simpa using hl) (s.set h1) h2 k⟩
 |[],_::_,_,_,_,hl,_,_,_=>by simp at hl
 |_::_,[],_,_,_,hl,_,_,_=>by simp at hl
theorem mL{K:Xr}{is:List Nat}:EJ K (LJ K is.length (vJ is)) (jy is):=λs0 ad8 F H σ ρ ρ' d v Q s q e k=>by
 unfold jy at e;split at e
 ·rename_i ds;split at e
  ·rename_i hl;cases e;obtain⟨a,vs,rfl,hs,hd,_⟩:=q;exact⟨a,vs,rfl,SqT.of (s.st.fh _ _ hs),by rw[<-hd.len];exact hl,uY is ds vs σ ρ hl s hd k⟩
  ·cases e
 ·cases e
theorem Kb:∀{σ' σ:St},1<σ'.length->σ'.drop 2=σ->∀v1 v2:V,(σ'.set 0 (some v1)).set 1 (some v2)=[v1,v2].map some++σ
 |x1::x2::r,_,_,hd,v1,v2=>by subst hd;rfl
 |[],_,h,_,_,_=>by simp at h
 |[_],_,h,_,_,_=>by simp at h
theorem Ja:∀{ds:List D},ds.length=2->∃a b,ds=[a,b]
 |[a,b],_=>⟨a,b,rfl⟩
 |[],h=>by simp at h
 |[_],h=>by simp at h
 |_::_::_::_,h=>by simp at h
theorem NC{X:Cx}{x y:Str}{px py pt:Pos}{x1:Nat}{σ:St}(hN:X.N.Nodup)(h0:X.N[0]? =some x)(h1:X.N[1]? =some y)(hx:X.env.scope.names.lookup x=some .local)(hy:X.env.scope.names.lookup y=some .local)(hc:X.calm=true)
 (hn:(ZP [acd x px, .Name y py] X.env).length=2:=by rfl)(sH:(ZP [acd x px, .Name y py] X.env).findIdx? (·.1)=none:=by rfl)
 (hs:(ZP [acd x px, .Name y py] X.env).map (·.2)=assign (.Name x px) X.env::(ZP [acd y py] X.env).map (·.2):=by rfl)(IF:(ZP [acd y py] X.env).map (·.2)=assign (.Name y py) X.env::(ZP [] X.env).map (·.2):=by rfl):CQ X (.Tuple [.Name x px, .Name y py] x1 pt) 2 σ:=λf8 s σ' F H d ts v u I fh hd rv q e=>by
 cases d with
 |tup ds=>
  have e:(if ds.length=2 then ae ds else ag)=ae ts:=e;split at e
  ·rename_i hl;obtain rfl:=gq e;obtain⟨d1,d2,rfl⟩:=Ja hl
   ·obtain⟨a,vs,rfl,FO,m_,_⟩:=q;obtain⟨v1,v2,rfl,q1,q2⟩:=m_.two;have G:PG X (.Tuple [.Name x px, .Name y py] x1 pt) (LJ X.K 2 (vJ [0,1])):=nW hc (df (aS hN h0 (.inl hx) (.inr hx)) (df (aS hN h1 (.inl hy) (.inr hy)) kD IF) hs) hn sH;refine cC (G f8 s σ' H (.ref a) u (λσ2 H2=>H2=H/\σ2=(σ'.set 0 (some v1)).set 1 (some v2)) I rv ⟨a,[v1,v2],rfl,SqT.of (fh _ _ FO),rfl,v1,[v2],rfl,v2,[],rfl,rfl,rfl,rfl⟩) λ_ s2 ⟨σ2,H2,I2,e1,e2⟩=>?_;subst e1 e2;refine⟨[v1,v2],?_, .cons q1 (.cons q2 .nil)⟩;have hl:1<σ'.length:=by rw[I.len];exact(Xy.mp h1).1
    have:=Kb hl (show σ'.drop 2=σ from hd) v1 v2;rw[<-this];exact I2
  ·exact(gU e).elim
 |_=>exact(gU e).elim
section
variable{prog:XR}{w:World}{A:X6}{E:Value->Xl->Prop}{s:Xl}
theorem DY{a b:Value}{r:Bool}{I T S:Addr}{good:Heap->Prop}{R:adn->Xl->Prop}(hh:A.handled=none)(iT:T≠I)(Ez:S≠I)(Vk:S≠T)
 (hg:∀h h',(∀c o,c≠I->c≠S->h.get? c=some o->h'.get? c=some o)->good h->good h')
 (As:∀(h':Heap) (tk:Nat) (Q':Value->Xl->Prop) (E':Value->Xl->Prop),good h'->Q' (.bool r) {s with heap:=h',toks:=tk}->wpAny (model prog w) A.in1 (aas .Lt b a) Q' E' {s with heap:=h',toks:=tk})
 (hR:∀h' tk,good h'->R (.ok (.ret (if r then b else a))) {s with heap:=h',toks:=tk}){h0:Heap}{t0 c:Nat}(g0:good h0)(sH:h0.IsTupleIter I T 0/\h0.IsTuple T #[a,b])
 (hS:h0.get? S=some {cls:= .type "list",dict:=none,data:= .seq #[] c,slots:= #[]}):
 aaK (model prog w) A (.builtin "min.loop" ⟨[.ref I, .none, .ref S],[]⟩) R {s with heap:=h0,toks:=t0}:=by
 have jL:(aax "min"++aax ".loop":String)="min.loop":=by decide
 have W:=Walks.tuple (prog:=prog) (w:=w) (A:=A.in1) hh I T iT #[a,b];have nI:∀{c:Addr},c≠I->c∉[I]:=λq z=>q (Yc.mp z);have fr:∀{i:Nat}{h:Heap}{f:Obj->Obj},(h.IsTupleIter I T i/\h.IsTuple T #[a,b])->((h.update S f).IsTupleIter I T i/\(h.update S f).IsTuple T #[a,b]):=λ{i h f} q=>W.frame _ _ _ q λc hc o e=>(YT _ _ (λz:S=c=>by
  subst z;rcases Xs.mp hc with z | z
  ·exact Ez z
  ·exact Vk (Yc.mp z))).trans e
 have up:∀{h:Heap}{f:Obj->Obj},good h->good (h.update S f):=λq=>hg _ _ (λc o _ hc e=>(YT _ _ (Yp hc)).trans e) q;refine Zi Z8 ?_;rw[YM Ym _];show wpAny _ A.in1 (ab2 (.ref S)>>=_) _ _ _;refine Xg (Z_ hS rfl ?_);show wpAny _ A.in1 (abn (aaq (.ref I)) _>>=_) _ _ _;refine Xg (Zv (W.item 0 _ _ _ (by simp) sH λv h1 t1 hP u4 k1=>?_));have hv:v=a:=(XT hP).symm;subst hv;have S1:=k1 S _ (nI Ez) hS;have g1:good h1:=hg _ _ (λc o hc _ e=>k1 c o (nI hc) e) g0;show wpAny _ A.in1 (updateSeq S (λ_=> #[v,v])>>=_) _ _ _;refine Xg ?_;refine aak S1 rfl ?_;rw[jL];refine Xn ⟨Zp Ym _,?_⟩;refine Zi Z8 ?_;rw[YM Ym _];show wpAny _ A.in1 (ab2 (.ref S)>>=_) _ _ _;refine Xg (Z_ (Yx _ S1 rfl) rfl ?_);show wpAny _ A.in1 (abn (aaq (.ref I)) _>>=_) _ _ _;refine Xg (Zv (W.item 1 _ _ _ (by simp) (fr u4) λu h2 t2 Qy xM k2=>?_));have hu:u=b:=(XT Qy).symm;subst hu;have S2:=k2 S _ (nI Ez) (Yx _ S1 rfl);have g2:good h2:=hg _ _ (λc o hc _ e=>k2 c o (nI hc) e) (up g1);show wpAny _ A.in1 (abn (holding [u,u] (aas .Lt u v>>=_)) _>>=_) _ _ _;refine Xg (Zv (Y1 (Xg (As _ _ _ _ g2 ?_))));refine Xg (Y1 (YK ?_));refine Xg (aag (Xn ?_));have last:∀{h3:Heap}{t3 c3:Nat}{x y:Value},x=(if r then u else v)->good h3->(h3.IsTupleIter I T 2/\h3.IsTuple T #[v,u])->h3.get? S=some {cls:= .type "list",dict:=none,data:= .seq #[x,y] c3,slots:= #[]}->
  aaK (model prog w) A (.builtin "min.loop" ⟨[.ref I, .none, .ref S],[]⟩) R {s with heap:=h3,toks:=t3}:=λ{h3 t3 c3 x y} ex g3 Lc S3=>by
  refine Zi Z8 ?_;rw[YM Ym _];show wpAny _ A.in1 (ab2 (.ref S)>>=_) _ _ _;refine Xg (Z_ S3 rfl ?_);show wpAny _ A.in1 (abn (aaq (.ref I)) _>>=_) _ _ _;refine Xg (Zv (W.done _ _ _ Lc λh4 t4 k4=>?_));have S4:=k4 S _ (nI Ez) S3;show wpAny _ A.in1 (updateSeq S (λ_=> #[])>>=_) _ _ _;refine Xg ?_;refine aak S4 rfl (Xg (aag (Xn ?_)));rw[ex];exact hR _ _ (up (hg _ _ (λc o hc _ e=>k4 c o (nI hc) e) g3))
 cases hr:r with
 |true=>
  simp only[if_true];refine Xg ?_;refine aak S2 rfl (Xg (aag ?_));rw[jL];exact Xn ⟨Zp Ym _,last (by rw[hr];rfl) (up g2) (fr xM) (Yx _ S2 rfl)⟩
 |false=>
  simp only[Yi,if_false];refine Xg (aag ?_);rw[jL];exact Xn ⟨Zp Ym _,last (by rw[hr];rfl) g2 xM S2⟩
theorem yL{a b:Value}{r:Bool}{Q:Value->Xl->Prop}(hh:A.handled=none)
 (As:∀(h':Heap) (tk:Nat) (Q':Value->Xl->Prop) (E':Value->Xl->Prop),(∀c o,s.heap.get? c=some o->h'.get? c=some o)->Q' (.bool r) {s with heap:=h',toks:=tk}->wpAny (model prog w) A.in1 (aas .Lt b a) Q' E' {s with heap:=h',toks:=tk})
 (h:∀h' tk,(∀c o,s.heap.get? c=some o->h'.get? c=some o)->Q (if r then b else a) {s with heap:=h',toks:=tk}):
 wpAny (model prog w) A (call (.builtin "min") [a,b]) Q E s:=by
 have jL:(aax "min"++aax ".loop":String)="min.loop":=by decide
 have hT:(s.heap.push {cls:= .type "tuple",data:= .seq #[a,b]}).IsTuple s.heap.objs.size #[a,b]:=⟨_,XA _ rfl,rfl,0,rfl⟩
 have hsz:(s.heap.push {cls:= .type "tuple",data:= .seq #[a,b]}).objs.size=s.heap.objs.size+1:=Y4 ..;refine call_function_tree F.kind_min F.plain_min F.entry_min (F.args_min2 _ _) ?_;show wpAny _ A.in1 (Zu "min" ["key","default"] 0 ⟨[],[]⟩>>=_) _ _ s;refine Xg (acR (show Zu "min" ["key","default"] 0 ⟨[],[]⟩=pure [none,none] from rfl) ?_);show wpAny _ A.in1 (newTuple [a,b]>>=_) _ _ s;refine Xg (YD ?_);refine Xg (wpAny_pyIter_tuple hT ?_);refine Xg (YD ?_);rw[jL];refine Xn ⟨Zp Ym _,?_⟩;have Ut:∀{c:Addr}{o:Obj},s.heap.get? c=some o->c<s.heap.objs.size:=λe=>XB e;refine DY (s:=s) (r:=r) (good:=λh'=>∀c o,s.heap.get? c=some o->h'.get? c=some o) hh (T:=s.heap.objs.size) ?_ ?_ ?_ (λh1 h2 k g c o e=>k c o ?_ ?_ (g c o e)) As (λh' tk g=>h h' tk g) (λc o e=>Xm _ (Xm _ (Xm _ e))) ⟨?_,?_⟩ (XA _ rfl)
 ·rw[hsz];exact XS (ZF _)
 ·rw[Y4];exact YJ (ZF _)
 ·rw[Y4,hsz];exact YJ (Zy (ZF _))
 ·have:=Ut e;rw[hsz];exact XS (Zy this)
 ·have:=Ut e;rw[Y4,hsz];exact XS (Zy (Zy this))
 ·exact⟨_,Xm _ (XA _ rfl),rfl,rfl⟩
 ·exact(hT.push _).push _
end
theorem v9:abF (.type "list") "keys"=pure none:=by rw[typeLookup_type,builtinLookup_eq_fast];kernel_rfl
theorem eW:entryFor table "dict.update.loop"=some aaM.«dict.update.loop» :=entryFor_of_tree (by kernel_rfl)
theorem cp:plainId "dict.update.loop"=true:=by decide+kernel
theorem sU:(abL "list" !=abL "dict")=true:=by decide
section
variable{prog:XR}{w:World}{A:X6}{E:Value->Xl->Prop}{s:Xl}
theorem vW{a:Addr}{o:Obj}{xs:Array Value}{k:Nat}{Q:Option Value->Xl->Prop}(hx:s.heap.get? a=some o)(hc:o.cls= .type "list")(vK:o.data= .seq xs k)(hd:o.dict=none)(hA:A.handled=none)
 (h:∀h' tk,(∀b ob,s.heap.get? b=some ob->h'.get? b=some ob)->Q none {s with heap:=h',toks:=tk}):wpAny (model prog w) A (getAttr? (.ref a) "keys") Q E s:=by
 obtain⟨c,dct,dat,sl⟩:=o;simp only at hc vK hd;subst hc vK hd;obtain⟨hp,g,d,tk,os⟩:=s;have hT:∀ND,(⟨hp,g,d,ND,os⟩:Xl).TypeIs (.ref a) "list":=λ_=>⟨_,hx,rfl⟩
 have f1:=sub_AttributeError;have f3:=F.slot_list_getattribute.lookup;have f4:=F.slot_list_getattribute.bind (.ref a);have f5:=am_list_getattr_none;unfold getAttr? getAttrBy? getAttrBy
 repeat (any_goals (first | assumption | exact hT _ | ((with_reducible show wpAny _ _ (call (aaa "list.__getattribute__") _ _) _ _ _);refine aaR F.slot_list_getattribute (hT _) am_entry_list_getattribute (F.args_list_getattribute_2 _ _) (meets_getattribute_miss_list a xs k sl "keys" _ v9 (by decide) (by size_fits)) ⟨hx,hA,λh' ND e FP=>?_⟩) | wp_step))
 obtain⟨t',u',he⟩:=FP.there;show wpAny _ _ (getattributeRaised _ _ _ _ _ _ _) _ _ _;unfold getattributeRaised
 repeat (any_goals (first | assumption | wp_step))
 exact h _ _ λb ob e=>FP.keeps b ob e
abbrev IV(prog:XR)(w:World):HeapKind prog w (List Key):=Zh (a6 prog w)
theorem DictOfH.at'{h h':Heap}{d:Addr}{xs:List (List Key×Addr×Value)}(x:h.DictOfH (IV prog w) d xs)(k:∀c o,h.get? c=some o->(c=d\/∃y∈xs,y.2.1=c)->h'.get? c=some o):h'.DictOfH (IV prog w) d xs:=by
 obtain⟨o,es,ep,h1,h2,h3,h4,h5,h6⟩:=x;refine⟨o,es,ep,k _ _ h1 (.inl rfl),h2,h3,h4,λy hy=>?_,h6⟩;obtain⟨oa,items,n,a1,a2⟩:=h5 y hy;exact⟨oa,items,n,k _ _ a1 (.inr ⟨y,hy,rfl⟩),a2⟩
theorem xr{xs:List (List Key×Addr×Value)}{k:List Key}{a:Addr}{v:Value}{x:List Key×Addr×Value}(h:x∈aaJ xs k a v):(∃z∈xs,z.2.1=x.2.1)\/x.2.1=a:=by
 unfold aaJ at h;split at h
 ·obtain⟨z,hz,rfl⟩:=XE.mp h;refine .inl ⟨z,hz,?_⟩;unfold putAt;split<;>rfl
 ·rcases X4.mp h with h | h
  ·exact .inl ⟨x,h,rfl⟩
  ·rw[Yc.mp h];exact .inr rfl
theorem md:∀(ys acc:List (List Key×Addr×Value)) {x:List Key×Addr×Value},x∈bS acc ys->(∃z∈acc,z.2.1=x.2.1)\/∃z∈ys,z.2.1=x.2.1
 |[],acc,x,h=> .inl ⟨x,h,rfl⟩
 |y::ys,acc,x,h=>by
  rcases md ys (aaJ acc y.1 y.2.1 y.2.2) h with⟨z,hz,e⟩ | ⟨z,hz,e⟩
  ·rcases xr hz with⟨q,hq,e2⟩ | e2
   ·exact .inl ⟨q,hq,e2.trans e⟩
   ·exact .inr ⟨y,Xk ..,e2.symm.trans e⟩
  ·exact .inr ⟨z,Xj _ hz,e⟩
theorem zd{D I L:Addr}{vs:List Value}{ys:List (List Key×Addr×Value)}{old:Heap}{R:adn->Xl->Prop}(hh:A.handled=none)(hu:A.units+1<cLine)(Qw:L≠I)(Rr:D≠I)(Vd:old.get? I=none)(Va:old.get? D=none)(hL:old.IsList L vs.toArray)
 (pairs:∀i,i<vs.length->∃p y,vs[i]? =some (.ref p)/\ys[i]? =some y/\old.IsTuple p #[.ref y.2.1,y.2.2]/\adt (a6 prog w) old y.1 y.2.1)(hsz:ys.length<=XH)(hl:ys.length=vs.length)
 (hR:∀h' tk,(∀c o,old.get? c=some o->h'.get? c=some o)->h'.DictOfH (IV prog w) D (bS [] ys)->R (.ok (.ret .none)) {s with heap:=h',toks:=tk}):
 ∀(r i:Nat) (h:Heap) (tk:Nat) (j:Int) (tj:Tok),vs.length - i=r->i<=vs.length->(∀c o,old.get? c=some o->h.get? c=some o)->h.IsListIter I L i->h.DictOfH (IV prog w) D (bS [] (ys.take i))->
  aaK (model prog w) A (.builtin "dict.update.loop" ⟨[.ref D, .ref I, .int j tj, .none],[]⟩) R {s with heap:=h,toks:=tk}:=by
 have W:=acB (prog:=prog) (w:=w) (A:=A.in1) hh I L Qw vs.toArray;have OS:vs.toArray.size=vs.length:=Xu ..;have nI:∀{c:Addr},c≠I->c∉[I]:=λq z=>q (Yc.mp z);have Jp:∀{c:Addr}{o:Obj},old.get? c=some o->c≠I:=λe z=>by rw[z,Vd] at e;cases e
 have SE:∀{c:Addr}{o:Obj},old.get? c=some o->c≠D:=λe z=>by rw[z,Va] at e;cases e
 have listAt:∀{h:Heap},(∀c o,old.get? c=some o->h.get? c=some o)->h.IsList L vs.toArray:=λ{h} k=>by
  obtain⟨o,e,q⟩:=hL;exact⟨o,k _ _ e,q⟩
 have SF:∀y∈ys,∃o,old.get? y.2.1=some o:=λy hy=>by
  obtain⟨i,hi,rfl⟩:=Zc hy;obtain⟨p,y,_,ey,_,⟨o,_,_,e,_⟩⟩:=pairs i (by omega);rw[Xi hi] at ey;cases ey;exact⟨o,e⟩
 have Pl:∀{i:Nat}(x:List Key×Addr×Value),x∈bS [] (ys.take i)->∃o,old.get? x.2.1=some o:=λ{i} x hx=>by
  rcases md _ _ hx with⟨z,hz,_⟩ | ⟨z,hz,e⟩
  ·cases hz
  ·rw[<-e];exact SF z (List.mem_of_mem_take hz)
 intro r;induction r with
 |zero=>
  intro i h tk j tj hr hi k it dd;have qw:i=vs.length:=by omega
  refine Zi eW ?_;rw[YM cp _];show wpAny _ A.in1 (aaq (.ref I)>>=_) _ _ _;refine Xg (W.done _ _ _ ⟨by rw[OS,<-qw];exact it,listAt k⟩ λh1 t1 k1=>?_);show wpAny _ A.in1 (abP D []>>=_) _ _ _;refine Xg (Xn (Xn ?_));have Dk:h.DictOfH (IV prog w) D (bS [] ys):=by
   rw[qw,<-hl,ab0] at dd;exact dd
  refine hR _ _ (λc o e=>k1 c o (nI (Jp e)) (k c o e)) (DictOfH.at' Dk λc o e hc=>k1 c o (nI ?_) e);rcases hc with rfl | ⟨x,hx,rfl⟩
  ·exact Rr
  ·exact Pl (i:=ys.length) x (by rw[ab0];exact hx) |>.elim λo e=>Jp e
 |succ r ih=>
  intro i h tk j tj hr hi k it dd;have eM:i<vs.length:=by omega
  obtain⟨p,y,ep,ey,tp,ky⟩:=pairs i eM;refine Zi eW ?_;rw[YM cp _];show wpAny _ A.in1 (aaq (.ref I)>>=_) _ _ _;refine Xg (W.item i _ _ _ (by rw[OS];exact eM) ⟨it,listAt k⟩ λv h1 t1 hP u4 k1=>?_);have hv:v= .ref p:=by
   have:vs[i]? =some v:=by simpa using hP
   rw[ep] at this;exact(XT this).symm
  subst hv;have O9:∀c o,old.get? c=some o->h1.get? c=some o:=λc o e=>k1 c o (nI (Jp e)) (k c o e);show wpAny _ A.in1 (holding [XX p] (abn (abY (.ref p)) _>>=_)>>=_) _ _ _;have Qp:h1.DictOfH (IV prog w) D (bS [] (ys.take i)):=DictOfH.at' dd λc o e hc=>k1 c o (nI (by
   rcases hc with rfl | ⟨x,hx,rfl⟩
   ·exact Rr
   ·obtain⟨o',e'⟩:=Pl x hx;exact Jp e')) e
  obtain⟨op,eo,Vo,np,Vq⟩:=tp;have UA:=O9 _ _ eo;refine Xg (Y1 (Xg (Zv ?_)));unfold abY;refine Xg (wpAny_typeOf ⟨op,UA,Vo⟩ ?_);rw[adY (by decide)];refine Xg (Z_ UA Vq (Xn ?_));show wpAny _ A.in1 (holding [XX y.2.1,y.2.2] (dictSet D (.ref y.2.1) y.2.2)) _ _ _;have Wy:adt (a6 prog w) h1 y.1 y.2.1:=by
   obtain⟨oa,items,n,a1,a2⟩:=ky;exact⟨oa,items,n,O9 _ _ a1,a2⟩
  have hz:(bS [] (ys.take i)).length<=XH:=by
   have:=jQ (ys.take i) ([]:List (List Key×Addr×Value));rw[abb] at this;have h3:min i ys.length<=ys.length:=Nat.min_le_right ..;simp only[X5] at this;omega
  refine Y1 (wpAny_dictSet_heap (knd:=IV prog w) (hsz:=hz) (show A.in1.units<cLine from hu) Wy Qp λh2 t7 IF=>?_);show wpAny _ A.in1 (pure (Fin.again (.builtin "dict.update.loop" ⟨[.ref D, .ref I,abg (j+1), .none],[]⟩))) _ _ _;refine Xn ⟨Zp cp _,?_⟩;rw[<-me ey] at t7;refine ih (i+1) h2 _ _ _ (by omega) (by omega) (λc o e=>?_) ?_ t7
  ·rw[IF.2 c (SE e)];exact O9 c o e
  ·obtain⟨oI,eI,q⟩:=u4.1;exact⟨oI,by rw[IF.2 I (Yp Rr)];exact eI,q⟩
theorem pF{L:Addr}{o:Obj}{n:Nat}{vs:List Value}{ys:List (List Key×Addr×Value)}{Q:Value->Xl->Prop}(hA:A.handled=none)(hu:A.units+8<cLine)(hx:s.heap.get? L=some o)(hc:o.cls= .type "list")(vK:o.data= .seq vs.toArray n)(hd:o.dict=none)
 (pairs:∀i,i<vs.length->∃p y,vs[i]? =some (.ref p)/\ys[i]? =some y/\s.heap.IsTuple p #[.ref y.2.1,y.2.2]/\adt (a6 prog w) s.heap y.1 y.2.1)(hsz:ys.length<=XH)(hl:ys.length=vs.length)
 (h:∀h' tk,(∀c o,s.heap.get? c=some o->h'.get? c=some o)->h'.DictOfH (IV prog w) s.heap.objs.size (bS [] ys)->Q (.ref s.heap.objs.size) {s with heap:=h',toks:=tk}):
 wpAny (model prog w) A (call (.type "dict") [.ref L]) Q E s:=by
 refine callType_codes (Q₁:=λobj v4=>obj= .ref s.heap.objs.size/\v4={s with heap:=s.heap.push {cls:= .type "dict",data:= .dict #[]} }) F.kt_called_dict (F.kt_typeCall_dict_1 _) F.entry_dict_init (kt_code_dict_new _ ⟨rfl,rfl⟩) ?_;rintro obj v4 ⟨rfl,rfl⟩;have vM:(s.heap.push {cls:= .type "dict",data:= .dict #[]}).DictOfH (IV prog w) s.heap.objs.size []:=⟨_,#[],0,XA _ rfl,⟨rfl,rfl,rfl⟩,rfl,rfl,λx hx=>(by cases hx),aan⟩
 have hT:({s with heap:=s.heap.push {cls:= .type "dict",data:= .dict #[]} }:Xl).TypeIs (.ref s.heap.objs.size) "dict":=⟨_,XA _ rfl,rfl⟩
 refine⟨hT,F.args_dict_init_2 _ _,?_⟩;have FP:(s.heap.push {cls:= .type "dict",data:= .dict #[]}).get? L=some o:=Xm _ hx;unfold aaM.«dict.__init__»;refine Xg ?_;unfold abO;refine Xg (aaD hT ?_);show wpAny _ _ (pure (s.heap.objs.size,[XX L])) _ _ _;refine Xn ?_;show wpAny _ _ (ZZ "dict.__init__" s.heap.objs.size (.ref L) [] .none) _ _ _;unfold ZZ;refine Xg (wpAny_typeOf ⟨o,FP,hc⟩ ?_);rw[adY sU];refine Xg (vW FP hc vK hd (by exact hA) λh1 t1 k1=>?_);show wpAny _ _ (rule _>>=_) _ _ _;refine Xg (wpAny_rule ?_);have Vf:h1.IsList L vs.toArray:=⟨o,k1 _ _ FP,hc,n,vK⟩
 refine Xg (abe Vf ?_);refine Xn ⟨Zp cp _,?_⟩;have O9:∀c ob,s.heap.get? c=some ob->h1.get? c=some ob:=λc ob e=>k1 c ob (Xm _ e);have Cg:∀{c:Addr},s.heap.objs.size<=c->s.heap.get? c=none:=λ{c} hc=>by
  cases e:s.heap.get? c with
  |none=>rfl
  |some ob=>exact ad3 (XB e) (Nat.not_lt.mpr hc)
 have nD:s.heap.get? s.heap.objs.size=none:=Cg (Xx _);have FH:L<h1.objs.size:=XB (k1 _ _ FP);have Uu:s.heap.objs.size<h1.objs.size:=XB (k1 _ _ (XA _ rfl));refine zd (A:=A.in1) (s:=s) (old:=s.heap) (vs:=vs) (ys:=ys) (R:=wants (λr u8=>r=Yk/\Q (XX s.heap.objs.size) u8) E) (by exact hA) (by show A.units+1+1<cLine;omega) (XS FH) (XS Uu) (Cg (Y6 Uu)) nD ⟨o,hx,hc,n,vK⟩ pairs hsz hl (λh' tk k dd=>⟨rfl,h h' tk k dd⟩) vs.length 0 _ _ _ _ rfl (Yo _) (λc ob e=>Xm _ (O9 c ob e)) ⟨_,XA _ rfl,rfl,rfl⟩ ?_;refine DictOfH.at' vM λc ob e hc=>Xm _ (k1 c ob e)
end
def Ms:D->D->Option Bool
 | .tup xs, .tup ys=>match nums xs,nums ys with
   |some a,some b=>some (HT.lexLt a b)
   |_,_=>none
 |_,_=>none
def Aq(x y:D):M D:=match Ms x y with | some b=>ae (.bl b) | none=>ag
def yK:List D->M D
 |[x,y]=>match Ms y x with | some b=>ae (if b then y else x) | none=>ag
 |_=>ag
section
variable{X:Cx}{Xw:Nat->Hp->Prop}{a b e e2:Expr}{δa δb:DE}{δs:DA}{p pos:Pos}
theorem v_{K:Xr}{F:Hp}{x y:D}{v u:V}{r:Bool}(e:Ms x y=some r)(hx:Den K F x v)(hy:Den K F y u):∃a b ns ms,v= .ref a/\u= .ref b/\F a=some (.tup (ns.map V.int))/\F b=some (.tup (ms.map V.int))/\r=HT.lexLt ns ms:=by
 unfold Ms at e;split at e
 ·rename_i xs ys;obtain⟨a,vs,rfl,h2,h3,h4⟩:=hx;obtain⟨b,us,rfl,k2,k3,k4⟩:=hy;split at e
  ·rename_i ns ms e1 e2;cases gL e1 h3;cases gL e2 k3;cases e;exact⟨a,b,ns,ms,rfl,rfl,h2,k2,rfl⟩
  ·cases e
 ·cases e
theorem Jz{K:Xr}:u9 K (PY K) Aq:=λXw F H x y dx dy Q s hx hy w=>by
 unfold Aq at w;split at w
 ·rename_i r e;obtain⟨a,b,ns,ms,rfl,rfl,h1,h2,rfl⟩:=v_ e hx hy;exact⟨a,b,ns,ms,rfl,rfl,SqT.of (s _ _ h1),SqT.of (s _ _ h2),WP.now w s rfl⟩
 ·exact w.elim
theorem Ng(hu:X.A.units+64<cLine)(ha:PD X Xw a δa)(hb:PD X Xw b δb):lK X Xw (.Compare a [.Lt] [b] pos) (bU (d2 Aq δa δb)):=dB (MF (by omega)) Jz ha hb
def PZ(K:Xr):List V->Hp->VK->Prop:=λxs H Q=>∃a b ns ms,xs=[.ref a, .ref b]/\SqT K H a (ns.map V.int)/\SqT K H b (ms.map V.int)/\Q (if HT.lexLt ms ns then .ref b else .ref a) H
theorem Dd(hc:X.calm=true)(hu:X.A.units+64<cLine):CallR X (.builtin "min") (PZ X.K):=by
 intro f8 s σ H xs us Q I r h;obtain⟨a,b,ns,ms,rfl,ha,hb,q⟩:=h;obtain⟨u,w',rfl,rx,ry⟩:=vals2 r;cases rx;cases ry;obtain⟨aL,r1,p1,_⟩:=I.tuple ha;obtain⟨e7,r2,p2,_⟩:=I.tuple hb;have i1:YH aL.toArray.toList ns:=intsAre_of r1;have i2:YH e7.toArray.toList ms:=intsAre_of r2;refine yL (r:=HT.lexLt ms ns) (I.ok.hd hc) (λh' tk Q' E' k hq=>?_) λh' tk k=>⟨_,H,I.kept k,?_,q⟩
 ·obtain⟨o1,e1,q1⟩:=p1;obtain⟨o2,e2,q2⟩:=p2;exact HT.lt_tupInts (s:={s with heap:=h',toks:=tk}) ⟨o2,k _ _ e2,q2⟩ ⟨o1,k _ _ e1,q1⟩ i2 i1 (by show X.A.units+1<cLine;omega) hq
 ·cases HT.lexLt ms ns<;>rfl
theorem JE(hu:X.A.units+64<cLine)(hc:X.calm=true)(hg:Gl X "min")(hm:X.mg "min"=none)(hb:Yd "min"=some (.builtin "min"))(ha:gV X Xw [e,e2] δs)(he:Xz [e,e2] X.env=(false,eval e X.env)::Xz [e2] X.env:=by rfl)
 (kK:(Y9 pos (Xz [e2] X.env)).any (·.1)=false:=by rfl):PD X Xw (.Call (.Name "min" p) [e,e2] [] pos) (dA yK δs):=
 dO (Dd hc hu) (λXw F H vs ds Q s h w=>by
  unfold yK at w;split at w
  ·rename_i x y;obtain⟨v,v',rfl,h1,h2⟩:=h.two;split at w
   ·rename_i r e;obtain⟨b,a,ms,ns,rfl,rfl,k1,k2,rfl⟩:=v_ e h2 h1;refine⟨a,b,ns,ms,rfl,SqT.of (s _ _ k2),SqT.of (s _ _ k1),?_⟩;cases hl:HT.lexLt ms ns with
    |true=>rw[hl] at w;exact WP.now w s h2
    |false=>rw[hl] at w;exact WP.now w s h1
   ·exact w.elim
  ·exact w.elim) hg hm hb ha (by decide) (by decide) he kK
def lz:List D->Option (List (List Key)×List D)
 |[]=>some ([],[])
 | .tup [k,v]::r=>match eR k,lz r with
   |some kk,some q=>some (kk::q.1,v::q.2)
   |_,_=>none
 |_=>none
def BS:List D->M C
 |[.lst ds]=>match lz ds with
  |some q=>if q.1.Nodup/\q.2.length<=lim then ae (.dct q.1 q.2) else ag
  |none=>ag
 |_=>ag
def Nl:List V->Hp->VK->Prop:=λxs H Q=>∃(a:Addr) (ps:List (Addr×List Key×Addr×V)),xs=[.ref a]/\H a=some (.lst (ps.map λp=>V.ref p.1))/\(∀p∈ps,H p.1=some (.tup [.ref p.2.2.1,p.2.2.2])/\H p.2.2.1=some (.tup (p.2.1.map kV)))/\
 (ps.map (·.2.1)).Nodup/\ps.length<=XH/\∀q,H q=none->Q (.ref q) (upd H q (.dT (ps.map λp=>(p.2.1,p.2.2.2))))
theorem pairs_at{P:XR}{w:World}{H:Hp}{h:Heap}(ok:HOk P w H h):∀(ps:List (Addr×List Key×Addr×V)) (us:List Value),Vals (ps.map λp=>V.ref p.1) us->(∀p∈ps,H p.1=some (.tup [.ref p.2.2.1,p.2.2.2])/\H p.2.2.1=some (.tup (p.2.1.map kV)))->
 ∃ys:List (List Key×Addr×Value),ys.length=us.length/\ys.map (·.1)=ps.map (·.2.1)/\(∀i,i<us.length->∃p y,us[i]? =some (.ref p)/\ys[i]? =some y/\h.IsTuple p #[.ref y.2.1,y.2.2]/\adt (a6 P w) h y.1 y.2.1)/\
  abT (λ(p:List Key×V) (q:List Key×Addr×Value)=>p.1=q.1/\H q.2.1=some (.tup (p.1.map kV))/\RelV p.2 q.2.2) (ps.map λp=>(p.2.1,p.2.2.2)) ys
 |[],_, .nil,_=>⟨[],rfl,rfl,λi hi=>ad3 hi (Nat.not_lt_zero _), .nil⟩
 |p::ps,u::us, .cons r rs,hp=>by
  obtain⟨ys,l1,l2,l3,l4⟩:=pairs_at ok ps us rs λq hq=>hp q (Xj _ hq);obtain⟨e1,e2⟩:=hp p (Xk ..);have hr:u= .ref p.1:=r;obtain⟨_,aL,rv,o,h1,h2,n,h3⟩:=(show ObjOk P w H h p.1 (.tup [.ref p.2.2.1,p.2.2.2]) from ok _ _ e1)
  obtain⟨x,y,rfl,rx,ry⟩:=vals2 rv;have hx:x= .ref p.2.2.1:=rx;subst hx;refine⟨(p.2.1,p.2.2.1,y)::ys,by simp[l1],by simp[l2],λi hi=>?_, .cons ⟨rfl,e2,ry⟩ l4⟩;cases i with
  |zero=>exact⟨p.1,_,by rw[hr];rfl,rfl,⟨o,h1,h2,n,h3⟩,i_ ok e2⟩
  |succ i=>
   obtain⟨q,y',a1,a2,a3⟩:=l3 i (by simpa using hi);exact⟨q,y',by simpa using a1,by simpa using a2,a3⟩
theorem Ab(hc:X.calm=true)(hu:X.A.units+64<cLine):CallR X (.type "dict") Nl:=by
 intro f8 s σ H xs us Q I r h;obtain⟨a,ps,rfl,ha,hp,hn,hz,q⟩:=h;obtain⟨u,rfl,rx⟩:=vals1 r;cases rx;obtain⟨_,aL,n,rv,e⟩:=(show ObjOk X.prog X.w H s.heap a (.lst _) from I.hok _ _ ha)
 obtain⟨ys,l1,l2,l3,l4⟩:=pairs_at I.hok ps aL rv hp;have QH:ys.length=ps.length:=by
  have:=ad7 adq l2;simpa using this
 have FJ:(ys.map (·.1)).Nodup:=by rw[l2];exact hn
 refine pF (vs:=aL) (ys:=ys) (I.ok.hd hc) (by omega) e rfl rfl rfl l3 (by omega) l1 λh' tk k dd=>?_;rw[jR ys [] (by simpa using FJ),XW] at dd;obtain⟨o,es,ep,d1,d2,d3,d4,_,d5⟩:=dd;refine⟨.ref s.heap.objs.size,_,I.laid (t':=tk) k (Xx _) (o:= .dT (ps.map λp=>(p.2.1,p.2.2.2))) ⟨by rw[Xh];exact hz,?_,ys,?_,o,es,ep,d1,d2,d3,d4,d5⟩,rfl,q _ (I.hok.fresh (Xx _))⟩
 ·have:=I.big;exact beq_false_of_ne (YJ this)
 ·refine Paired.mapP l4 λx y z=>⟨z.1,?_,z.2.2⟩
  rw[aA (λzz=>?_)]
  ·exact z.2.1
  ·have:=I.hok.fresh (a:=s.heap.objs.size) (Xx _);rw[<-zz,z.2.1] at this;cases this
theorem uJ{K:Xr}{F:Hp}:∀{ds:List D}{vs:List V}{q:List (List Key)×List D},lz ds=some q->DenL K F ds vs->∃ps:List (Addr×List Key×Addr×V),vs=ps.map (λp=>V.ref p.1)/\(∀p∈ps,F p.1=some (.tup [.ref p.2.2.1,p.2.2.2])/\F p.2.2.1=some (.tup (p.2.1.map kV)))/\
 ps.map (·.2.1)=q.1/\DenL K F q.2 (ps.map (·.2.2.2))/\q.1.length=q.2.length
 |[],_,_,e,h=>by
  cases e;cases (show _=_ from h);exact⟨[],rfl,(λp hp=>(by cases hp)),rfl,rfl,rfl⟩
 |d::ds,_,q,e,⟨v,r,h1,h2,h3⟩=>by
  unfold lz at e;split at e
  ·cases ‹_::_=[]›
  ·rename_i k x r' heq;cases heq;split at e
   ·rename_i kk q' e1 e2;cases e;obtain⟨ps,i1,i2,i3,i4,i5⟩:=uJ e2 h3;obtain⟨b,ws,rfl,b2,b3,b4⟩:=h2;obtain⟨kv,r1,rfl,k1,r2⟩:=b3;obtain⟨xv,r3,rfl,x1,r4⟩:=r2;cases (show _=_ from r4);unfold eR at e1;split at e1
    ·obtain⟨c,ws,rfl,c2,c3,c4⟩:=k1;have e5:=iD e1 c3;subst e5;refine⟨(b,kk,c,xv)::ps,by rw[h1,i1];rfl,λp hp=>?_,by simp[i3],⟨xv,_,rfl,x1,i4⟩,by simp[i5]⟩;rcases Xs.mp hp with rfl | hp
     ·exact⟨b2,c2⟩
     ·exact i2 p hp
    ·cases e1
   ·cases e
  ·cases e
theorem sx{α β γ:Type}(f:α->β)(g:α->γ):∀l:List α,(l.map f).zip (l.map g)=l.map λx=>(f x,g x)
 |[]=>rfl
 |a::l=>by rw[Xp,Xp,YO,sx f g l];rfl
theorem GQ(hu:X.A.units+64<cLine)(hc:X.calm=true)(hg:Gl X "dict")(hm:X.mg "dict"=none)(hb:Yd "dict"=some (.type "dict"))(ha:gV X Xw [e] δs)(he:Xz [e] X.env=[(false,eval e X.env)]:=by rfl):
 Ql X Xw (.Call (.Name "dict" p) [e] [] pos) (λρ=>δs ρ>>=BS):=
 PE.weak (uN (Ab hc hu) hg hm hb ha (by decide) (by decide) he rfl) λσ H Q ⟨F,ρ,s,w⟩=>by
  refine⟨F,ρ,s,WPL.mono (WPF.bindL w) λvs H1 ⟨F1,ds,e1,q1,w1⟩=>?_⟩;unfold BS at w1;split at w1
  ·rename_i ds;obtain⟨v,rfl,h1⟩:=q1.one;obtain⟨a,ws,rfl,h2,h3,h4⟩:=h1;split at w1
   ·rename_i q eq;split at w1
    ·rename_i hq;obtain⟨ps,rfl,i2,i3,i4,i5⟩:=uJ eq h3;have v6:ps.length=q.2.length:=by rw[<-i5,<-i3,Xh]
     refine⟨a,ps,rfl,e1.fh _ _ h2,λp hp=>⟨e1.fh _ _ (i2 p hp).1,e1.fh _ _ (i2 p hp).2⟩,by rw[i3];exact hq.1,?_,λr hr=>?_⟩
     ·have:=d6;have:=hq.2;omega
     obtain⟨E,nF⟩:=Ext.fresh (o:= .dT (ps.map λp=>(p.2.1,p.2.2.2))) e1.fh hr;refine w1 r _ _ F1 E aM nF hr ⟨ps.map (·.2.2.2),?_,i4,i5,hq.2⟩;rw[<-i3,sx]
    ·exact w1.elim
   ·exact w1.elim
  ·exact w1.elim
end
mutual
def t8:D->Bool
 | .non=>true
 | .bl _=>true
 | .int _=>true
 | .str _=>true
 | .tup ds=>qm ds
 | .lst ds=>qm ds
 | .raw _=>false
 | .exc _=>false
 | .scr _=>false
 | .dct _ _=>false
 | .dci _ _=>false
def qm:List D->Bool
 |[]=>true
 |d::ds=>t8 d&&qm ds
end
def E8(d:D):M D:=if t8 d then ae d else ag
def mw(ρ:bb):Bool:=ρ.all λx=>match x with
 |some (.ow (.lst _))=>false
 |_=>true
theorem GG{ρ:bb}{i:Nat}{ds:List D}(h:mw ρ=true)(e:ρ[i]? =some (some (.ow (.lst ds)))):False:=by
 have:=Yl.mp h _ (Ye e);cases this
def N_(δ:DE):DE:=λρ=>if mw ρ then noex (δ (sG ρ))>>=E8 else ag
section
variable{K:Xr}{F H F' H':Hp}{σ:St}{ρ:bb}{h:Heap}{b:Addr}
theorem OwnAt.dict(S:StE K F H σ ρ)(hd:mw ρ=true)(p:OwnAt σ ρ b):∃o,H b=some o/\((∃x,o= .dT x)\/∃x,o= .dK x):=by
 obtain⟨i,c,h1,h2⟩:=p;obtain⟨v,h3,a,o,rfl,h4,h5,h6⟩:=S.den i _ h1;rw[h3] at h2;cases h2;refine⟨o,h4,?_⟩;cases c with
 |lst ds=>exact(GG hd h1).elim
 |dct ks ds=>obtain⟨vs,rfl,_⟩:=h6;exact .inl ⟨_,rfl⟩
 |dci ks ds=>obtain⟨vs,rfl,_⟩:=h6;exact .inr ⟨_,rfl⟩
open Classical in
theorem Ci(S:StE K F H σ ρ)(hd:mw ρ=true)(E:Ext (fA σ ρ (refA h (OwnAt σ ρ) H) F) (refA h (OwnAt σ ρ) H) F' H'){a:Addr}{o:HO}(e:F' a=some o)(iT:∀q u,o≠ .frz q u):(if OwnAt σ ρ a then none else F' a)=some o:=by
 rw[ad0,e];intro hp;obtain⟨o',k1,k2⟩:=OwnAt.dict S hd hp;have k3:fA σ ρ (refA h (OwnAt σ ρ) H) F a=some (pH ((h.get? a).getD {cls:= .none,data:= .fields #[]}) o'):=by
  unfold fA refA;rw[adY hp,adY hp,k1];rfl
 have k4:=E.ff a _ k3;rw[e] at k4;rcases k2 with⟨x,rfl⟩ | ⟨x,rfl⟩<;>cases k4<;>exact iT _ _ rfl
open Classical in
mutual
theorem yb(S:StE K F H σ ρ)(hd:mw ρ=true)(E:Ext (fA σ ρ (refA h (OwnAt σ ρ) H) F) (refA h (OwnAt σ ρ) H) F' H'):∀{d:D}{v:V},t8 d=true->Den K F' d v->Den K (λb=>if OwnAt σ ρ b then none else F' b) d v
 | .non,_,_,q=>q
 | .bl _,_,_,q=>q
 | .int _,_,_,q=>q
 | .str _,_,_,q=>q
 | .tup ds,_,f,⟨a,vs,h1,h2,h3,h4⟩=>⟨a,vs,h1,Ci S hd E h2 (λ_ _ z=>nomatch z),nr S hd E f h3,h4⟩
 | .lst ds,_,f,⟨a,vs,h1,h2,h3,h4⟩=>⟨a,vs,h1,Ci S hd E h2 (λ_ _ z=>nomatch z),nr S hd E f h3,h4⟩
 | .raw _,_,f,_=>by cases f
 | .exc _,_,f,_=>by cases f
 | .scr _,_,f,_=>by cases f
 | .dct _ _,_,f,_=>by cases f
 | .dci _ _,_,f,_=>by cases f
theorem nr(S:StE K F H σ ρ)(hd:mw ρ=true)(E:Ext (fA σ ρ (refA h (OwnAt σ ρ) H) F) (refA h (OwnAt σ ρ) H) F' H'):∀{ds:List D}{vs:List V},qm ds=true->DenL K F' ds vs->DenL K (λb=>if OwnAt σ ρ b then none else F' b) ds vs
 |[],_,_,q=>q
 |d::ds,_,f,⟨v,r,h1,h2,h3⟩=>by
  unfold qm at f;rw[XO] at f;exact⟨v,r,h1,yb S hd E f.1 h2,nr S hd E f.2 h3⟩
end
end
section
variable{X:Cx}{Xw:Nat->Hp->Prop}{e:Expr}{δ:DE}
theorem Pt(h:PD X Xw e δ):PD X Xw e (N_ δ):=λf8 s σ H Q I ⟨F,ρ,S,w⟩=>by
 classical
 have w:WP X.K Xw F H (if mw ρ then noex (δ (sG ρ))>>=E8 else ag) Q:=w;by_cases hd:mw ρ=true
 ·rw[adY hd] at w;rcases ly (δ (sG ρ)) with q | ⟨d,q,q2⟩
  ·rw[q] at w;exact w.elim
  ·rw[q2,ay] at w;unfold E8 at w;split at w
   ·rename_i hf;refine cC (h f8 s σ _ (λv H'=>Q v (unA (OwnAt σ ρ) H')/\∀c,OwnAt σ ρ c->∀o u,H' c=some (.frz o u)->(∃k,u= .dT k)\/∃k,u= .dK k) (Inv.refA (P:=OwnAt σ ρ) I) ⟨_,_,Al (h:=s.heap) S,?_⟩) λu s' ⟨v,H',I',r,q1,q3⟩=>⟨v,_,Inv.unA I' (nS I S) q3,r,q1⟩
    rw[q];intro v H' F' E k;obtain⟨E1,q3⟩:=qr S E;exact⟨w _ _ _ E1 (yb S hd E hf k),q3⟩
   ·exact w.elim
 ·rw[ad0 hd] at w;exact w.elim
end
def NO(δ:DE):DE:=λρ=>noex (δ (sG ρ))>>=qp
def Kk(τ:DT):DT:=λρ=>noex (τ (sG ρ))
def Nr(is:List Nat)(τ:DS):DS:=λρ=>τ (fgt is ρ)
section
variable{X:Cx}{Xw:Nat->Hp->Prop}{st:Stmt}{τ:DS}{is:List Nat}
theorem Cw(h:iq X Xw st τ):iq X Xw st (Nr is τ):=λs0 ad8=>PS.weak (h s0 ad8) λD σ H ⟨F,ρ,s,w⟩=>⟨F,_,s.fgt is,w⟩
end
section
variable{a b:Expr}
theorem Kf{x y:Str}(h:x.cps.toList=y.cps.toList):x=y:=by
 obtain⟨⟨a⟩⟩:=x;obtain⟨⟨b⟩⟩:=y;cases (show a=b from h);rfl
end
def Md(x:Int):List Int->List Int
 |[]=>[x]
 |y::r=>if x<=y then x::y::r else y::Md x r
theorem Dy(x:Int):∀l,(Md x l).Perm (x::l)
 |[]=>ads _
 |y::r=>by
  unfold Md;split
  ·exact ads _
  ·exact((Dy x r).cons y).trans (List.Perm.swap ..)
section
theorem t9{K:Xr}{F:Hp}:∀{xs:List Int},DenL K F (xs.map D.int) (xs.map V.int)
 |[]=> .nil
 |x::r=> .cons rfl t9
end
section
variable{a:Expr}
end
section
end
end L3
namespace L3
open PySem PySem.SetTable
def iK(m b:Nat):Nat->Nat×Nat
 |0=>(b % (m+1),b)
 |k+1=>leap m (iK m b k).1 (iK m b k).2
def NW(m i:Nat):Nat:=(i*5+1) % (m+1)
def it(m:Nat):Nat->Nat->Nat
 |0,x=>x
 |n+1,x=>NW m (it m n x)
theorem qD(m:Nat):∀a b x,it m (a+b) x=it m a (it m b x)
 |0,b,x=>by rw[abo];rfl
 |a+1,b,x=>by rw[adR];show NW m _=NW m _;rw[qD m a b x]
theorem O1(m b:Nat):∀k,(iK m b k).2=b / 32 ^ k
 |0=>by simp[iK]
 |k+1=>by
  show (iK m b k).2 / 32=_;rw[O1 m b k,ac9,Nat.pow_succ]
theorem B1{m b:Nat}(hb:b<2 ^ 64):∀k,(iK m b (k+13)).1=it m k (iK m b 13).1
 |0=>by rw[abo];rfl
 |k+1=>by
  rw[adR];have hq:(iK m b (k+13)).2 / 32=0:=by
   rw[O1];refine Nat.div_eq_of_lt ?_;refine abM (m:=b / 32 ^ 13) ?_ ?_
   ·rw[Nat.pow_add,adh,<-ac9];exact Nat.div_le_self ..
   ·have:b / 32 ^ 13<1:=Nat.div_lt_of_lt_mul (by omega);omega
  show ((iK m b (k+13)).1*5+1+(iK m b (k+13)).2 / 32) % (m+1)=NW m _;rw[hq,B1 hb k];rfl
def Q4(m:Nat):Prop:=m=7\/m=31\/m=127
def SH(m:Nat):Nat->Nat->List Nat
 |0,_=>[]
 |n+1,x=>x::SH m n (NW m x)
theorem A5(m:Nat):∀(n x j:Nat),j∈SH m n x->∃a,a<n/\it m a x=j
 |0,x,j,h=>by cases h
 |n+1,x,j,h=>by
  rcases Xs.mp h with rfl | h
  ·exact⟨0,by omega,rfl⟩
  ·obtain⟨a,ha,e⟩:=A5 m n (NW m x) j h;exact⟨a+1,by omega,by rw[qD m a 1 x];exact e⟩
theorem JA{m:Nat}(hm:Q4 m):(∀j,j<m+1->j∈SH m (m+1) 0)/\it m (m+1) 0=0:=by
 rcases hm with rfl | rfl | rfl
 ·exact⟨by decide+kernel,by decide+kernel⟩
 ·exact⟨by decide+kernel,by decide+kernel⟩
 ·exact⟨by decide+kernel,by decide+kernel⟩
theorem UM{m:Nat}(hm:Q4 m){i j:Nat}(hi:i<m+1)(hj:j<m+1):∃n,n<=m/\it m n i=j:=by
 obtain⟨h1,h2⟩:=JA hm;obtain⟨a,ha,rfl⟩:=A5 m _ 0 i (h1 i hi);obtain⟨b,hb,rfl⟩:=A5 m _ 0 j (h1 j hj);by_cases h:a<=b
 ·exact⟨b - a,by omega,by rw[<-qD,Nat.sub_add_cancel h]⟩
 ·refine⟨m+1 - a+b,by omega,?_⟩;rw[<-qD,show m+1 - a+b+a=b+(m+1) by omega,qD,h2]
theorem O0(m b k:Nat):(iK m b k).1<m+1:=by
 cases k with
 |zero=>exact Nat.mod_lt _ (by omega)
 |succ k=>exact Nat.mod_lt _ (by omega)
theorem reach{m b:Nat}(hm:Q4 m)(hb:b<2 ^ 64){j:Nat}(hj:j<m+1):∃k,k<=m+13/\(iK m b k).1=j:=by
 obtain⟨n,hn,e⟩:=UM hm (O0 m b 13) hj;exact⟨n+13,by omega,by rw[B1 hb,e]⟩
def vals(o:Array (Option Nat))(n:Nat):List Nat:=(XQ n).filterMap λj=>o.getD j none
end L3
namespace L3
open PySem PySem.Spec L2 HT
open PyProof.Rows hiding St
theorem items_int{P:XR}{w:World}:∀{us:List Value}{ns:List Int},YH us ns->ItemsAre (intKind P w) ns us
 |_,_, .nil=> .nil
 |_,_, .cons n t h=> .cons (intKind_is _ _ _ _) (items_int h)
end L3
namespace L3
open PySem PySem.SetTable PySem.W PyProof.Rows
def IsSI(h:Heap)(it a:Addr)(sl k n ep:Nat):Prop:=∃o,h.get? it=some o/\o.cls= .type "set_iterator"/\o.data= .fields #[abg sl,abg k, .ref a,abg n,abg ep]
theorem IsSI.typeIs{s:Xl}{it a:Addr}{sl k n ep:Nat}(x:IsSI s.heap it a sl k n ep):s.TypeIs (.ref it) "set_iterator":=let ⟨o,ho,hc,_⟩:=x;⟨o,ho,hc⟩
end L3
namespace L3
open PySem PySem.Spec L2 HT
open PyProof.Rows hiding St
def qP:List Int->Int
 |[]=>0
 |[x]=>x
 |x::r=>max x (qP r)
def dX:List Int->Int
 |[]=>0
 |[x]=>x
 |x::r=>min x (dX r)
theorem uC:∀{l:List Int},0<l.length->qP l∈l/\∀a∈l,a<=qP l
 |[x],_=>⟨by simp[qP],λa h=>by rw[Yc.mp h];exact Int.le_refl _⟩
 |x::y::r,_=>by
  obtain⟨h1,h2⟩:=uC (l:=y::r) (adg _);have e:qP (x::y::r)=max x (qP (y::r)):=rfl;rw[e];refine⟨?_,λa ha=>?_⟩
  ·rcases Int.le_total x (qP (y::r)) with q | q
   ·rw[Int.max_eq_right q];exact Xj _ h1
   ·rw[Int.max_eq_left q];exact Xk ..
  ·rcases Xs.mp ha with q | q
   ·rw[q];exact Int.le_max_left ..
   ·exact Int.le_trans (h2 a q) (Int.le_max_right ..)
theorem nP:∀{l:List Int},0<l.length->dX l∈l/\∀a∈l,dX l<=a
 |[x],_=>⟨by simp[dX],λa h=>by rw[Yc.mp h];exact Int.le_refl _⟩
 |x::y::r,_=>by
  obtain⟨h1,h2⟩:=nP (l:=y::r) (adg _);have e:dX (x::y::r)=min x (dX (y::r)):=rfl;rw[e];refine⟨?_,λa ha=>?_⟩
  ·rcases Int.le_total x (dX (y::r)) with q | q
   ·rw[Int.min_eq_left q];exact Xk ..
   ·rw[Int.min_eq_right q];exact Xj _ h1
  ·rcases Xs.mp ha with q | q
   ·rw[q];exact Int.min_le_left ..
   ·exact Int.le_trans (Int.min_le_right ..) (h2 a q)
section
variable{X:Cx}{Xw:Nat->Hp->Prop}{e:Expr}{δs:DA}{pos p:Pos}
def Uv:List D->M D
 |[.lst ds]=>match nums ds with
  |some ns=>if 0<ns.length then ae (.int (qP ns)) else ag
  |none=>ag
 |_=>ag
def kL:List D->M D
 |[.lst ds]=>match nums ds with
  |some ns=>if 0<ns.length then ae (.int (dX ns)) else ag
  |none=>ag
 |_=>ag
theorem qE{aL:List Value}{ns:List Int}(hi:YH aL ns):∃xs:Array (Int×Tok),aL.toArray=intItems xs/\xs.size=ns.length/\∀i,i<xs.size->numAt xs i∈ns/\ns[i]? =some (numAt xs i):=by
 obtain⟨xs,hx⟩:=hi.allInts.items;have e1:ns=xs.toList.map (·.1):=by
  rw[<-nums_intItems,<-hx];exact(show numsOf aL.toArray.toList=ns from hi.numsOf).symm
 refine⟨xs,hx,by rw[e1];simp,λi h=>?_⟩;have:ns[i]? =some (numAt xs i):=by
  rw[e1,Xv,Zl];unfold numAt;rw[Z2 h];rfl
 exact⟨Ye this,this⟩
theorem NM(hc:X.calm=true):CallR X (.builtin "max") (λxs H Q=>∃(p:Addr) (ns:List Int),xs=[.ref p]/\SqL X.K H p (ns.map V.int)/\0<ns.length/\Q (.int (qP ns)) H):=by
 intro f8 s σ H xs us Q I r h;obtain⟨a,ns,rfl,hq,h0,q⟩:=h;obtain⟨u,rfl,r1⟩:=r.one;cases (show u=_ from r1);obtain⟨aL,rv,pl,hz⟩:=I.list hq;have hi:YH aL ns:=by simpa using intsAre_of rv
 obtain⟨xs,hx,hsz,zT⟩:=qE hi;obtain⟨g1,g2⟩:=argBest_gt (numAt xs) (xs.size - 1);refine max_intList (I.ok.hd hc) (show s.heap.IsList a (intItems xs) from hx▸pl.isList) (by omega) λv h' tk hv hk=>?_;obtain⟨t,rfl⟩:=intItems_at hv;have hM:=zT (Zn (λi j=>decide (numAt xs i>numAt xs j)) (xs.size - 1)) (by omega);obtain⟨m1,m2⟩:=uC h0;have e:numAt xs (Zn (λi j=>decide (numAt xs i>numAt xs j)) (xs.size - 1))=qP ns:=by
  refine Int.le_antisymm (m2 _ hM.1) ?_;obtain⟨j,hj,e⟩:=Zc m1;have h2:=(zT j (by omega)).2;rw[Xi hj,e] at h2;rw[XT h2];exact g2 j (by omega)
 rw[e];exact⟨.int (qP ns),H,I.kept hk,⟨_,rfl⟩,q⟩
theorem Dc(hc:X.calm=true):CallR X (.builtin "min") (λxs H Q=>∃(p:Addr) (ns:List Int),xs=[.ref p]/\SqL X.K H p (ns.map V.int)/\0<ns.length/\Q (.int (dX ns)) H):=by
 intro f8 s σ H xs us Q I r h;obtain⟨a,ns,rfl,hq,h0,q⟩:=h;obtain⟨u,rfl,r1⟩:=r.one;cases (show u=_ from r1);obtain⟨aL,rv,pl,hz⟩:=I.list hq;have hi:YH aL ns:=by simpa using intsAre_of rv
 obtain⟨xs,hx,hsz,zT⟩:=qE hi;obtain⟨g1,g2⟩:=argBest_lt (numAt xs) (xs.size - 1);refine min_intList (I.ok.hd hc) (show s.heap.IsList a (intItems xs) from hx▸pl.isList) (by omega) λv h' tk hv hk=>?_;obtain⟨t,rfl⟩:=intItems_at hv;have hM:=zT (Zn (λi j=>decide (numAt xs i<numAt xs j)) (xs.size - 1)) (by omega);obtain⟨m1,m2⟩:=nP h0;have e:numAt xs (Zn (λi j=>decide (numAt xs i<numAt xs j)) (xs.size - 1))=dX ns:=by
  refine Int.le_antisymm ?_ (m2 _ hM.1);obtain⟨j,hj,e⟩:=Zc m1;have h2:=(zT j (by omega)).2;rw[Xi hj,e] at h2;rw[XT h2];exact g2 j (by omega)
 rw[e];exact⟨.int (dX ns),H,I.kept hk,⟨_,rfl⟩,q⟩
theorem Cu(hc:X.calm=true)(hg:Gl X "min")(hm:X.mg "min"=none)(hb:Yd "min"=some (.builtin "min"))(ha:gV X Xw [e] δs)(he:Xz [e] X.env=[(false,eval e X.env)]:=by rfl):PD X Xw (.Call (.Name "min" p) [e] [] pos) (dA kL δs):=
 dO (Dc hc) (λXw F H vs ds Q s h w=>by
  unfold kL at w;split at w
  ·rename_i ds;obtain⟨v,rfl,h1⟩:=h.one;obtain⟨a,ws,rfl,h2,h3,h4⟩:=h1;split at w
   ·rename_i ns NT;split at w
    ·rename_i h0;have e:=gL NT h3;subst e;exact⟨a,ns,rfl,SqL.of (s _ _ h2),h0,WP.now w s rfl⟩
    ·exact w.elim
   ·exact w.elim
  ·exact w.elim) hg hm hb ha (by decide) (by decide) he rfl
end
end L3
namespace L3
open PySem PySem.Spec L2
open PyProof.Rows hiding St
section
variable{X:Cx}{Xw:Nat->Hp->Prop}{a b:Expr}{δa δb:DE}{pos:Pos}
theorem PB(ha:PD X Xw a δa)(hb:PD X Xw b δb):lK X Xw (.Compare a [.GtE] [b] pos) (bU (d2 Qt δa δb)):=dB Pn (uG λ_ _ _=>rfl) ha hb
end
section
end
end L3
namespace L3
open PySem PySem.Spec L2 SeqAt HT
open PyProof.Rows hiding St
section
variable{X:Cx}{Xw:Nat->Hp->Prop}{a e o:Expr}{δo:DE}{δs:DA}{p P3 a7:Pos}
def Sk(n:Int):Value->Bool
 | .int i _=>i==n
 |_=>false
def yw:D->List D->M D
 | .lst ds,[.int n]=>match nums ds with
   |some ns=>if ns.contains n then ae (.int (ns.idxOf n)) else ag
   |none=>ag
 |_,_=>ag
def PO(K:Xr):V->List V->Hp->VK->Prop:=λx vs H Q=>∃(a:Addr) (ns:List Int) (n:Int),x= .ref a/\vs=[.int n]/\H a=some (.lst (ns.map V.int))/\ns.contains n=true/\Q (.int (ns.idxOf n)) H
theorem Jj:NK X "list.index" (PO X.K):=by
 intro f8 s σ H x vs v us Q I rx rv h;obtain⟨a,ns,n,rfl,rfl,hH,hc,q⟩:=h;cases rx;obtain⟨u,rfl,r1⟩:=rv.one;obtain⟨t,rfl⟩:=r1;obtain⟨z,aL,m,r,hl,e⟩:=I.lstM hH;have v6:=r.length;rw[Xh] at v6;have at':∀i (h:i<aL.length),∃t,aL[i]= .int (ns[i]'(by omega)) t:=λi h=>by
  have q:=kF i r (by rw[Xh];omega);rw[XG,Xv,Xi (by omega:i<ns.length),XG,Xi h] at q;exact q
 have hm:n∈ns:=by simpa using hc
 have eM:ns.idxOf n<ns.length:=aa0.mpr hm;have hz:ns.length<=XH:=by simpa using z
 have hs:XH=16777216:=Zw;refine aaR F.slot_list_index ⟨_,e,rfl⟩ F.entry_list_index (F.args_list_index_2 _ _) (list_indexAt a _ m none #[] (.int n t) (Sk n) (ns.idxOf n) (by simp;omega) (by omega) ?_ ?_) ⟨e,λy hy=>?_,?_⟩
 ·obtain⟨t',e1⟩:=at' (ns.idxOf n) (by omega);have:ns[ns.idxOf n]=n:=abK eM;simp[Sk,e1,this]
 ·intro k NR Dw;have VL:k<aL.length:=by simpa using NR
  obtain⟨t',e1⟩:=at' k VL;have:ns[k]'(by omega)≠n:=λz=>by
   have:=ac1 (p:=(· ==n)) (xs:=ns) (i:=k) Dw;rw[z] at this;simp at this
  simp[Sk,e1,this]
 ·have hy:y∈aL:=by simpa using hy
  obtain⟨i,hi,rfl⟩:=Zc hy;obtain⟨t',e1⟩:=at' i hi;rw[e1];exact EqAt.int_int _ _ _ _
 ·exact⟨.int (ns.idxOf n),H,I.tok _,⟨_,rfl⟩,q⟩
theorem JC(ho:PD X Xw o δo)(ha:gV X Xw [e] δs)(fV:Ze o "index" X.env (eval o X.env)=eval o X.env:=by rfl)
 (ll:((Y9 a7 (Xz [e] X.env)).all (λx=>!x.1)&&(aaP a7 (ZJ [] X.env)).all (λx=>x.1.isSome)&&decide ([e].length+([]:List ZR).length+(if ([]:List ZR).isEmpty then 0 else 1)<30))=true:=by rfl)
 (fW:(P3.endLine==a7.line)=true:=by rfl)(sH:Xz [e] X.env=[(false,eval e X.env)]:=by rfl):PD X Xw (.Call (.Attribute o "index" P3) [e] [] a7) (dM iC yw δo δs):=
 Cq Zx acp aco Jj qC (λXw F H x vs d ds Q s hx hv w=>by
  unfold yw at w;split at w
  ·rename_i ds n;obtain⟨v,rfl,h1⟩:=hv.one;cases (show _=_ from h1);obtain⟨a,ws,rfl,h2,h3,_⟩:=hx;split at w
   ·rename_i ns hb;split at w
    ·rename_i hc;exact⟨a,ns,n,rfl,rfl,by rw[<-gL hb h3];exact s _ _ h2,hc,WP.now w s rfl⟩
    ·exact w.elim
   ·exact w.elim
  ·exact w.elim) ho ha fV ll fW sH rfl
end
section
variable{prog:XR}{w:World}{A:X6}{E:Value->Xl->Prop}{s:Xl}
theorem Gg{items:Array Value}{bt:Nat->Nat->Bool}{I L S:Addr}{good:Heap->Prop}{R:adn->Xl->Prop}(hh:A.handled=none)(iT:L≠I)(Ez:S≠I)(QB:S≠L)
 (hg:∀h h',(∀c o,c≠I->c≠S->h.get? c=some o->h'.get? c=some o)->good h->good h')
 (As:∀(i j:Nat) (x y:Value) (h':Heap) (tk:Nat) (Q':Value->Xl->Prop) (E':Value->Xl->Prop),items[i]? =some x->items[j]? =some y->good h'->(∀ND,Q' (.bool (bt i j)) {s with heap:=h',toks:=ND})->wpAny (model prog w) A.in1 (aas .Lt x y) Q' E' {s with heap:=h',toks:=tk})
 (hR:∀v h' tk,items[Zn bt (items.size - 1)]? =some v->good h'->R (.ok (.ret v)) {s with heap:=h',toks:=tk}):
 ∀(k j:Nat) (h:Heap) (tk:Nat) (vb:Value) (c:Nat),items.size - (j+1)=k->j+1<=items.size->good h->(h.IsListIter I L (j+1)/\h.IsList L items)->items[Zn bt j]? =some vb->
  h.get? S=some {cls:= .type "list",dict:=none,data:= .seq #[vb,vb] c,slots:= #[]}->aaK (model prog w) A (.builtin "min.loop" ⟨[.ref I, .none, .ref S],[]⟩) R {s with heap:=h,toks:=tk}:=by
 have jL:(aax "min"++aax ".loop":String)="min.loop":=by decide
 have W:=acB (prog:=prog) (w:=w) (A:=A.in1) hh I L iT items;have nI:∀{c:Addr},c≠I->c∉[I]:=λq z=>q (Yc.mp z);have fr:∀{i:Nat}{h:Heap}{f:Obj->Obj},(h.IsListIter I L i/\h.IsList L items)->((h.update S f).IsListIter I L i/\(h.update S f).IsList L items):=λ{i h f} q=>W.frame _ _ _ q λc hc o e=>(YT _ _ (λz:S=c=>by
  subst z;rcases Xs.mp hc with z | z
  ·exact Ez z
  ·exact QB (Yc.mp z))).trans e
 have up:∀{h:Heap}{f:Obj->Obj},good h->good (h.update S f):=λq=>hg _ _ (λc o _ hc e=>(YT _ _ (Yp hc)).trans e) q;intro k;induction k with
 |zero=>
  intro j h tk vb c hk hj g st hb hS;have qw:j+1=items.size:=by omega
  refine Zi Z8 ?_;rw[YM Ym _];show wpAny _ A.in1 (ab2 (.ref S)>>=_) _ _ _;refine Xg (Z_ hS rfl ?_);show wpAny _ A.in1 (abn (aaq (.ref I)) _>>=_) _ _ _;refine Xg (Zv (W.done _ _ _ (by rw[<-qw];exact st) λh4 t4 k4=>?_));have S4:=k4 S _ (nI Ez) hS;show wpAny _ A.in1 (updateSeq S (λ_=> #[])>>=_) _ _ _;refine Xg ?_;refine aak S4 rfl (Xg (aag (Xn ?_)));exact hR vb _ _ (by rw[<-qw];exact hb) (up (hg _ _ (λc o hc _ e=>k4 c o (nI hc) e) g))
 |succ k ih=>
  intro j h tk vb c hk hj g st hb hS;have eM:j+1<items.size:=by omega
  refine Zi Z8 ?_;rw[YM Ym _];show wpAny _ A.in1 (ab2 (.ref S)>>=_) _ _ _;refine Xg (Z_ hS rfl ?_);show wpAny _ A.in1 (abn (aaq (.ref I)) _>>=_) _ _ _;refine Xg (Zv (W.item (j+1) _ _ _ eM st λv h1 t1 hP u4 k1=>?_));have S1:=k1 S _ (nI Ez) hS;have g1:good h1:=hg _ _ (λc o hc _ e=>k1 c o (nI hc) e) g;show wpAny _ A.in1 (abn (holding [v,v] (aas .Lt v vb>>=_)) _>>=_) _ _ _;refine Xg (Zv (Y1 (Xg (As (j+1) (Zn bt j) v vb _ _ _ _ hP hb g1 λND=>?_))));refine Xg (Y1 (YK ?_));refine Xg (aag (Xn ?_));cases QC:bt (j+1) (Zn bt j) with
  |true=>
   simp only[if_true];refine Xg ?_;refine aak S1 rfl (Xg (aag ?_));rw[jL];exact Xn ⟨Zp Ym _,ih (j+1) _ _ v _ (by omega) eM (up g1) (fr u4) (by simp only[Zn,QC,if_true];exact hP) (Yx _ S1 rfl)⟩
  |false=>
   simp only[Yi,if_false];refine Xg (aag ?_);rw[jL];exact Xn ⟨Zp Ym _,ih (j+1) _ _ vb c (by omega) eM g1 u4 (by simp only[Zn,QC,Yi,if_false];exact hb) S1⟩
theorem wc{L:Addr}{items:Array Value}{bt:Nat->Nat->Bool}{Q:Value->Xl->Prop}(hh:A.handled=none)(hL:s.heap.IsList L items)(hn:0<items.size)
 (As:∀(i j:Nat) (x y:Value) (h':Heap) (tk:Nat) (Q':Value->Xl->Prop) (E':Value->Xl->Prop),items[i]? =some x->items[j]? =some y->(∀c o,s.heap.get? c=some o->h'.get? c=some o)->(∀ND,Q' (.bool (bt i j)) {s with heap:=h',toks:=ND})->wpAny (model prog w) A.in1 (aas .Lt x y) Q' E' {s with heap:=h',toks:=tk})
 (h:∀v h' tk,items[Zn bt (items.size - 1)]? =some v->(∀c o,s.heap.get? c=some o->h'.get? c=some o)->Q v {s with heap:=h',toks:=tk}):
 wpAny (model prog w) A (call (.builtin "min") [.ref L]) Q E s:=by
 have jL:(aax "min"++aax ".loop":String)="min.loop":=by decide
 refine call_function_tree F.kind_min F.plain_min F.entry_min (F.args_min1 _) ?_;show wpAny _ A.in1 (Zu "min" ["key","default"] 0 ⟨[],[]⟩>>=_) _ _ s;refine Xg (acR (show Zu "min" ["key","default"] 0 ⟨[],[]⟩=pure [none,none] from rfl) ?_);refine Xg (Xn ?_);refine Xg (abe hL ?_);refine Xg (YD ?_);rw[jL];refine Xn ⟨Zp Ym _,?_⟩;have lL:L<s.heap.objs.size:=by obtain⟨o,e,_⟩:=hL;exact XB e
 have hsz:(s.heap.push {cls:= .type "list_iterator",data:= .fields #[.ref L, .int 0 0]}).objs.size=s.heap.objs.size+1:=Y4 ..;have Qw:L≠s.heap.objs.size:=XS lL;have Ez:(s.heap.push {cls:= .type "list_iterator",data:= .fields #[.ref L, .int 0 0]}).objs.size≠s.heap.objs.size:=by rw[hsz];exact YJ (ZF _)
 have QB:(s.heap.push {cls:= .type "list_iterator",data:= .fields #[.ref L, .int 0 0]}).objs.size≠L:=by rw[hsz];exact YJ (Zy lL)
 have W:=acB (prog:=prog) (w:=w) (A:=A.in1) (by simp[hh]) s.heap.objs.size L Qw items;have nI:∀{c:Addr},c≠s.heap.objs.size->c∉[s.heap.objs.size]:=λq z=>q (Yc.mp z);have gd:∀h h':Heap,(∀c o,c≠s.heap.objs.size->c≠(s.heap.push {cls:= .type "list_iterator",data:= .fields #[.ref L, .int 0 0]}).objs.size->h.get? c=some o->h'.get? c=some o)->(∀c o,s.heap.get? c=some o->h.get? c=some o)->∀c o,s.heap.get? c=some o->h'.get? c=some o:=λh h' k g c o e=>by
  have:=XB e;exact k c o (XS this) (by rw[hsz];exact XS (Zy this)) (g c o e)
 generalize hS:(s.heap.push {cls:= .type "list_iterator",data:= .fields #[.ref L, .int 0 0]}).objs.size=S at*;have TV:((s.heap.push {cls:= .type "list_iterator",data:= .fields #[.ref L, .int 0 0]}).push {cls:= .type "list",data:= .seq #[]}).get? S=some {cls:= .type "list",dict:=none,data:= .seq #[] 0,slots:= #[]}:=by rw[<-hS];exact XA _ rfl
 have k0:∀c o,s.heap.get? c=some o->((s.heap.push {cls:= .type "list_iterator",data:= .fields #[.ref L, .int 0 0]}).push {cls:= .type "list",data:= .seq #[]}).get? c=some o:=λc o e=>Xm _ (Xm _ e);have WM:((s.heap.push {cls:= .type "list_iterator",data:= .fields #[.ref L, .int 0 0]}).push {cls:= .type "list",data:= .seq #[]}).IsListIter s.heap.objs.size L 0:=⟨_,Xm _ (XA _ rfl),rfl,rfl⟩
 have Ve:((s.heap.push {cls:= .type "list_iterator",data:= .fields #[.ref L, .int 0 0]}).push {cls:= .type "list",data:= .seq #[]}).IsList L items:=by
  obtain⟨o,e,q⟩:=hL;exact⟨o,k0 _ _ e,q⟩
 generalize ((s.heap.push {cls:= .type "list_iterator",data:= .fields #[.ref L, .int 0 0]}).push {cls:= .type "list",data:= .seq #[]})=h0 at*;refine Zi Z8 ?_;rw[YM Ym _];show wpAny _ A.in1 (ab2 (.ref S)>>=_) _ _ _;refine Xg (Z_ TV rfl ?_);show wpAny _ A.in1 (abn (aaq (.ref s.heap.objs.size)) _>>=_) _ _ _;refine Xg (Zv (W.item 0 _ _ _ hn ⟨WM,Ve⟩ λv h1 t1 hP u4 k1=>?_));have S1:=k1 S _ (nI Ez) TV;show wpAny _ A.in1 (updateSeq S (λ_=> #[v,v])>>=_) _ _ _;refine Xg ?_;refine aak S1 rfl ?_;rw[jL];refine Xn ⟨Zp Ym _,?_⟩;have g1:∀c o,s.heap.get? c=some o->(h1.update S (·.mapSeq λ_=> #[v,v])).get? c=some o:=λc o e=>by
  have:=XB e;have Vm:c≠S:=by rw[<-hS,Y4];exact XS (Zy this)
  exact(YT _ _ (Yp Vm)).trans (k1 c o (nI (XS this)) (k0 c o e))
 refine Gg (A:=A) (s:=s) (bt:=bt) (I:=s.heap.objs.size) (L:=L) (S:=S) (good:=λh'=>∀c o,s.heap.get? c=some o->h'.get? c=some o) (by simp[hh]) Qw Ez QB gd (λi j x y h' tk Q' E' a1 a2 a3 a4=>?_) (λv h' tk q g=>h v h' tk q g) (items.size - 1) 0 _ _ v _ (by omega) hn g1 ?_ hP (Yx _ S1 rfl)
 ·exact As i j x y h' tk Q' E' a1 a2 a3 a4
 ·exact W.frame _ _ _ u4 λc hc o e=>(YT _ _ (λz:S=c=>by
   subst z;rcases Xs.mp hc with z | z
   ·exact Ez z
   ·exact QB (Yc.mp z))).trans e
end
section
variable{X:Cx}{Xw:Nat->Hp->Prop}{a e:Expr}{δs:DA}{pos p:Pos}
def dG(ks:List (List Int)):Nat:=Zn (λi j=>HT.lexLt (ks.getD i []) (ks.getD j [])) (ks.length - 1)
def wa:List D->M D
 |[.lst ds]=>match lq ds with
  |some ks=>if 0<ks.length/\(ks.getD (dG ks) []).length<=lim then ae (tupI (ks.getD (dG ks) [])) else ag
  |none=>ag
 |_=>ag
theorem iV(bt:Nat->Nat->Bool):∀k,Zn bt k<=k
 |0=>Xx _
 |k+1=>by
  have:=iV bt k;simp only[Zn];split<;>omega
theorem Ac(hc:X.calm=true)(hu:X.A.units+64<cLine):CallR X (.builtin "min") (λxs H Q=>∃(p:Addr) (ws:List V) (ks:List (List Int)),xs=[.ref p]/\SqL X.K H p ws/\eB H ws ks/\0<ks.length/\Q (ws.getD (dG ks) .non) H):=by
 intro f8 s σ H xs us Q I r h;obtain⟨a,ws,ks,rfl,hq,hr,h0,q⟩:=h;obtain⟨u,rfl,r1⟩:=r.one;cases (show u=_ from r1);obtain⟨aL,rv,pl,hz⟩:=I.list hq;have h1:=mP hr;have h2:=rv.length;have hsz:aL.toArray.size=ks.length:=by rw[Xu];omega
 have at':∀(i:Nat) (x:Value),aL.toArray[i]? =some x->∃ad us,ws.getD i .non= .ref ad/\x= .ref ad/\YH us (ks.getD i [])/\s.heap.IsTuple ad us.toArray:=λi x hx=>by
  have hi:i<aL.length:=by simpa using (acf.mp hx).1
  obtain⟨ad,e1,e2⟩:=mO hr (i:=i) (by omega);have r:=kF i rv (by omega);rw[e1] at r;have r:aL.getD i Yk= .ref ad:=r;obtain⟨us,ru,pt,_⟩:=I.tuple (SqT.of (K:=X.K) e2);refine⟨ad,us,e1,?_,by simpa using intsAre_of ru,pt⟩;rw[ada] at hx;rw[XG,hx] at r;exact r
 refine wc (bt:=λi j=>HT.lexLt (ks.getD i []) (ks.getD j [])) (I.ok.hd hc) pl.isList (by omega) (λi j x y h' tk Q' E' hx hy k LX=>?_) λv h' tk hv k=>?_
 ·obtain⟨d1,u1,_,rfl,i1,t1⟩:=at' i x hx;obtain⟨d2,u2,_,rfl,i2,t2⟩:=at' j y hy;obtain⟨o1,e1,q1⟩:=t1;obtain⟨o2,e2,q2⟩:=t2;exact HT.lt_tupInts (s:={s with heap:=h',toks:=tk}) ⟨o1,k _ _ e1,q1⟩ ⟨o2,k _ _ e2,q2⟩ (by simpa using i1) (by simpa using i2) (by show X.A.units+1<cLine;omega) (LX tk)
 ·rw[hsz] at hv;obtain⟨ad,us,e1,rfl,_,_⟩:=at' _ v hv;exact⟨_,H,I.kept k,(by rw[show dG ks=Zn (λi j=>HT.lexLt (ks.getD i []) (ks.getD j [])) (ks.length - 1) from rfl,e1];rfl),q⟩
theorem GN(hu:X.A.units+64<cLine)(hc:X.calm=true)(hg:Gl X "min")(hm:X.mg "min"=none)(hb:Yd "min"=some (.builtin "min"))(ha:gV X Xw [e] δs)(he:Xz [e] X.env=[(false,eval e X.env)]:=by rfl):PD X Xw (.Call (.Name "min" p) [e] [] pos) (dA wa δs):=
 dO (Ac hc hu) (λXw F H vs ds Q s h w=>by
  unfold wa at w;split at w
  ·rename_i ds;obtain⟨v,rfl,h1⟩:=h.one;obtain⟨a,ws,rfl,h2,h3,h4⟩:=h1;split at w
   ·rename_i ks OH;split at w
    ·rename_i h0;obtain⟨r1,r2⟩:=uk s OH h3;have eM:dG ks<ks.length:=by
      have:=iV (λi j=>HT.lexLt (ks.getD i []) (ks.getD j [])) (ks.length - 1);have:dG ks<=ks.length - 1:=this;omega
     obtain⟨ad,e1,e2⟩:=mO r2 (i:=dG ks) (by rw[mP r2];exact eM);refine⟨a,ws,ks,rfl,SqL.of (s _ _ h2),r1,h0.1,WP.now w s ?_⟩;rw[e1];exact⟨ad,_,rfl,e2,t9,by rw[Xh];exact h0.2⟩
    ·exact w.elim
   ·exact w.elim
  ·exact w.elim) hg hm hb ha (by decide) (by decide) he rfl
end
end L3
namespace L3
open PySem PySem.Spec L2
open PyProof.Rows hiding St
section
variable{prog:XR}{w:World}{A:X6}{E:Value->Xl->Prop}{s:Xl}
theorem Bw{d:Addr}{od:Obj}{es:Array YL}{ep:Nat}{Q:Value->Xl->Prop}(lo:(d==YS)=false)(ho:s.heap.get? d=some od)(hx:od.ExactDict)(hd:od.data= .dict es ep)
 (hQ:Q (.ref s.heap.objs.size) {s with heap:=s.heap.push {cls:= .type "dict_items",data:= .fields #[.ref d]} }):wpAny (model prog w) A (call (.builtin "dict.items") [.ref d]) Q E s:=by
 have hT:s.TypeIs (.ref d) "dict":=⟨od,ho,hx.1⟩
 refine YY F.slot_dict_items hT F.entry_dict_items ?_ (F.args_dict_items_1 _);unfold aaM.«dict.items»;refine Xg ?_;unfold Builtin.Dict.noArgs;refine Xg (aaD hT ?_);show wpAny _ _ (pure d) _ _ s;refine Xn ?_;show wpAny _ _ (ZD d>>=_) _ _ s;unfold ZD;rw[ad0 (by rw[lo];exact XM)];refine Xg (Xn ?_);exact Xg (YD (Xn ⟨_,rfl,hQ⟩))
theorem AF{v d:Addr}{od:Obj}{es:Array YL}{ep:Nat}{Q:Value->Xl->Prop}(hv:s.heap.IsItemsView v d)(ho:s.heap.get? d=some od)(vK:od.data= .dict es ep)
 (hQ:Q (.ref s.heap.objs.size) {s with heap:=s.heap.push {cls:= .type "dict_itemiterator",data:= .fields #[.none, .bool false, .ref d, .int 0 0, .int es.size 0, .int ep 0, .none, .none]} }):
 wpAny (model prog w) A (pyIter (.ref v)) Q E s:=by
 obtain⟨ov,V7,NQ,Vr⟩:=id hv;refine acg hv.typeIs adv (YY adv hv.typeIs F.entry_dict_items_iter ?_ (F.args_dict_items_iter_1 _));unfold aaM.«dict_items.__iter__»;refine Xg (Xn ?_);refine Xg ?_;unfold Builtin.Dict_items.dictOf;refine Xg (acS V7 Vr (x:= .ref d) rfl (Xn ?_));refine Xg ?_;unfold Builtin.Dict_items.newIterator;refine Xg (YE ho vK ?_);refine Xg (ZE ho vK ?_);have vO:YU "dict_itemiterator"=true:=by decide
 simp only[vO,if_true];refine YD (Xn ⟨_,rfl,"dict_itemiterator",_,⟨_,XA _ rfl,rfl⟩,F.slot_dict_itemiterator_next.lookup,?_⟩)
  (by simp only[sizeOk,aaO,Xu,Xq,Xo,X5,Zw];omega)
 simpa[abg,aaO] using hQ
theorem next_item{it d:Addr}{od:Obj}{es:Array YL}{i ep:Nat}{e:YL}{ok ov:Value}{Q:Option Value->Xl->Prop}(hit:aaw s.heap it d i es.size ep ok ov)(vN:s.heap.get? d=some od)(jD:od.data= .dict es ep)(hx:es[i]? =some e)
 (hQ:∀h',adK h' it d (i+1) es.size ep e.key e.val s.heap.objs.size->h'.get? s.heap.objs.size=some {cls:= .type "tuple",data:= .seq #[e.key,e.val]}->h'.objs.size=s.heap.objs.size+1->
  (∀b o,b≠it->s.heap.get? b=some o->h'.get? b=some o)->Q (some (.ref s.heap.objs.size)) {s with heap:=h'}):
 wpAny (model prog w) A (aaq (.ref it)) Q E s:=by
 obtain⟨hp,g,dr,tk,os⟩:=s;have hT:Shared.TypeIs ⟨hp,g,dr,tk,os⟩ (.ref it) "dict_itemiterator":=⟨_,hit,rfl⟩
 unfold aaq;refine Xg (ab1 (aam (name:=Y5 "__next__") hT ZN
  (YY ZN hT aca ?_ (ab5 _))))
 refine Xg (Xn ?_);refine Xg ?_;refine Xg ?_
 first | refine Xg (ZH hT (Xn ?_)) | refine Xg (Z9 hT (Xn ?_))
 refine Xg (abQ hit rfl ?_);have vO:YU "dict_itemiterator"=true:=by decide
 simp only[vO,if_true];show wpAny _ _ (if (XX d==Yk)=true then _ else _) _ _ _;rw[ad0 (show¬((XX d==Yk)=true) from XM)];refine Xg (Xn ?_);refine Xg (YE vN jD ?_);rw[ad0 (by simp)];refine Xg (Xn ?_);refine Xg (ZE vN jD ?_);rw[ad0 (by simp)];refine Xn ?_;simp only[show¬((i:Int)<0) from by omega,if_false,aa3,hx];refine Xg ?_
 first | refine Xg (ZH hT (Xn ?_)) | refine Xg (Z9 hT (Xn ?_))
 refine Xg (abt hT ?_);show wpAny _ _ (setField (.ref it) 3 (abg ((i:Int)+1))>>=_) _ _ ⟨hp,g,dr,tk,os⟩;refine Xg (aal hit (by simp) λh₁ OC OT=>?_)
 replace OT:YI it hp h₁:=OT
 replace OC:aaw h₁ it d (i+1) es.size ep ok ov:=by
  have e:((i+1:Nat):Int)=(i:Int)+1:=by omega
  unfold aaw;rw[e];simpa[abg] using OC
 have Ru:Shared.TypeIs ⟨h₁,g,dr,tk,os⟩ (.ref it) "dict_itemiterator":=⟨_,OC,rfl⟩
 refine Xg (Y1 ?_);refine Xg (abt Ru ?_);refine Xg (abt Ru ?_);show wpAny _ _ (aaY (.ref it) 6 e.key e.val) _ _ ⟨h₁,g,dr,tk,os⟩;unfold aaY;refine Xg (wpAny_newTuple ?_);have OD:aaw (h₁.push {cls:= .type "tuple",data:= .seq #[e.key,e.val]}) it d (i+1) es.size ep ok ov:=Xm _ OC;generalize QF:h₁.push {cls:= .type "tuple",data:= .seq #[e.key,e.val]}=h₂ at OD;have QO:h₁.objs.size=hp.objs.size:=OT.1;have FF:it<hp.objs.size:=XB hit;have Wg:h₂.get? hp.objs.size=some {cls:= .type "tuple",data:= .seq #[e.key,e.val]}:=by rw[<-QF,<-QO];exact XA _ rfl
 have Wt:h₂.objs.size=hp.objs.size+1:=by rw[<-QF,Y4,QO]
 have VQ:∀b o,b≠it->hp.get? b=some o->h₂.get? b=some o:=λb o hb e=>by rw[<-QF];exact Xm _ (OT.extBut b o hb e)
 show wpAny _ _ (aaN (.ref it)>>=_) _ _ ⟨h₂,g,dr,tk,os⟩;rw[QO];clear QF OC OT Ru QO h₁;refine Xg ?_;unfold aaN;refine Xg (acS OD rfl (x:= .none) rfl (Xn ?_));simp only[if_true];refine Xg (acS OD rfl (x:=ok) rfl ?_);refine Xg (acS OD rfl (x:=ov) rfl ?_);refine Xg (aal OD (by simp) λh₃ RE L4=>?_)
 replace L4:YI it h₂ h₃:=L4
 replace RE:aaw h₃ it d (i+1) es.size ep e.key ov:=RE
 refine Xg (aal RE (by simp) λh₄ RF OU=>?_)
 replace OU:YI it h₃ h₄:=OU
 replace RF:aaw h₄ it d (i+1) es.size ep e.key e.val:=RF
 refine Xg (aal RF (by simp) λh₅ RG OV=>?_)
 replace OV:YI it h₄ h₅:=OV
 replace RG:adK h₅ it d (i+1) es.size ep e.key e.val hp.objs.size:=RG
 refine Xg (aal RG (by simp) λh₆ RH OW=>?_)
 replace OW:YI it h₅ h₆:=OW
 replace RH:adK h₆ it d (i+1) es.size ep e.key e.val hp.objs.size:=RH
 refine Xg (aag (Xn (Xn ⟨_,rfl,Xn (hQ h₆ RH ?_ ?_ ?_)⟩)))
 ·exact OW.extBut _ _ (YJ FF) (OV.extBut _ _ (YJ FF) (OU.extBut _ _ (YJ FF) (L4.extBut _ _ (YJ FF) Wg)))
 ·show h₆.objs.size=hp.objs.size+1;rw[OW.1,OV.1,OU.1,L4.1,Wt]
 ·exact λb o hb e=>OW.extBut b o hb (OV.extBut b o hb (OU.extBut b o hb (L4.extBut b o hb (VQ b o hb e))))
theorem Dl{it d:Addr}{od:Obj}{es:Array YL}{i ep:Nat}{ok ov:Value}{Q:Option Value->Xl->Prop}(hh:A.handled=none)(hit:aaw s.heap it d i es.size ep ok ov)(VC:es.size<=i)(vN:s.heap.get? d=some od)(jD:od.data= .dict es ep)
 (hQ:∀h',adu it s.heap h'->Q none {s with heap:=h'}):wpAny (model prog w) A (aaq (.ref it)) Q E s:=by
 have hT:s.TypeIs (.ref it) "dict_itemiterator":=⟨_,hit,rfl⟩
 unfold aaq;refine Xg (ab1 (aam (name:=Y5 "__next__") hT ZN
  (YY ZN hT aca ?_ (ab5 _))))
 refine Xg (Xn ?_);refine Xg ?_;refine Xg ?_
 first | refine Xg (ZH hT (Xn ?_)) | refine Xg (Z9 hT (Xn ?_))
 refine Xg (abQ hit rfl ?_);have vO:YU "dict_itemiterator"=true:=by decide
 simp only[vO,if_true];show wpAny _ _ (if (XX d==Yk)=true then _ else _) _ _ s;rw[ad0 (show¬((XX d==Yk)=true) from XM)];refine Xg (Xn ?_);refine Xg (YE vN jD ?_);rw[ad0 (by simp)];refine Xg (Xn ?_);refine Xg (ZE vN jD ?_);rw[ad0 (by simp)];refine Xn ?_;simp only[show¬((i:Int)<0) from by omega,if_false,aa3,acP VC];refine Xg ?_
 first | refine Xg (ZH hT (Xn ?_)) | refine Xg (Z9 hT (Xn ?_))
 show wpAny _ _ (setField (.ref it) 2 .none>>=_) _ _ s;refine Xg (adb hit rfl (by simp) ?_);show wpAny _ _ (newExc (.type "StopIteration") []>>=_) _ _ _;refine Xg ?_;simp only[newExc,newTuple];refine Xg (YD ?_ (by size_fits));refine Xg (m:=abS _ _) (acR (a:=Yk) (by first | rfl | (simp only[abS];rfl)) ?_);refine YD ?_ (by size_fits);simp only[raiseNew];refine Xg (wpAny_handled ?_);rw[show A.in1.handled=none from hh];refine Xg (Xn (wpAny_throw ?_));refine Xg (acH (T:="StopIteration") (b:=true) ⟨_,XA _ rfl,rfl⟩ isSubtype_stop ?_);exact Xn (hQ _ (((Yh ..).extBut.push _).push _))
theorem sQ:entryFor table "dict_itemiterator.__iter__"=some aaM.«dict_keyiterator.__iter__» :=entryFor_alias (id':="dict_keyiterator.__iter__") (by kernel_rfl) rfl (by decide+kernel) (by kernel_rfl)
theorem Bh{it d:Addr}{i n ep:Nat}{ok ov:Value}{Q:Value->Xl->Prop}(hit:aaw s.heap it d i n ep ok ov)(h:Q (.ref it) s):wpAny (model prog w) A (pyIter (.ref it)) Q E s:=by
 have hT:s.TypeIs (.ref it) "dict_itemiterator":=⟨_,hit,rfl⟩
 refine acg hT acx (YY acx hT sQ ?_ (F.args_dict_itemiterator_iter_1 _));show wpAny _ _ (ret (.ref it)) _ _ s;exact Xn ⟨_,rfl,"dict_itemiterator",_,hT,F.slot_dict_itemiterator_next.lookup,h⟩
end
def Tq(d:Addr)(od:Obj):It:=
 ⟨λi H=>∃aE,H d=some (.frz od (.dT aE))/\i<aE.length,λi H x H'=>∃p aE k v b,x= .ref p/\H p=none/\H d=some (.frz od (.dT aE))/\aE[i]? =some (k,v)/\H b=some (.tup (k.map kV))/\H'=upd H p (.tup [.ref b,v]),
  λi H=>∃aE,H d=some (.frz od (.dT aE))/\aE.length<=i⟩
theorem nv{X:Cx}{f8:List (Addr×Obj)}{σ:St}{H:Hp}{s:Xl}{d:Addr}{od:Obj}{aE:List (List Key×V)}(I:Inv X f8 σ H s)(h:H d=some (.frz od (.dT aE))):
 ∃es ep,(d==YS)=false/\s.heap.get? d=some od/\od.ExactDict/\od.data= .dict es ep/\es.size=aE.length/\∀(i:Nat) (k:List Key) (v:V),aE[i]? =some (k,v)->∃(e:YL) (b:Addr),es[i]? =some e/\e.key= .ref b/\H b=some (.tup (k.map kV))/\RelV v e.val:=by
 obtain⟨ho,z,lo,xs,rel,o,es,ep,h1,h2,h3,h4,h5⟩:=(show ObjOk X.prog X.w H s.heap d (.frz od (.dT aE)) from I.hok d _ h)
 rw[ho] at h1;cases h1;have hl:es.size=aE.length:=by
  rw[<-XZ,h4,Xh];exact(Zg rel).symm
 refine⟨es,ep,lo,ho,h2,h3,hl,λi k v hi=>?_⟩;obtain⟨q,e1,e2,e3,e4⟩:=jf rel hi;refine⟨ack (Zh (a6 X.prog X.w)) q,q.2.1,?_,rfl,e3,e4⟩;rw[<-Zl,h4,Xv,e1];rfl
theorem Br{P:XR}{w:World}{K:Xr}{ts:List Expr}{x1}{tp:Pos}(d it:Addr)(od:Obj)(es:Array YL)(ep:Nat)(jD:od.data= .dict es ep):
 Turn P w K (.Tuple ts x1 tp) (Tq d od) [it] it (λi h=>∃ok ov,aaw h it d i es.size ep ok ov) where
 mem:=by simp
 obj:=λi h ⟨ok,ov,st⟩ b hb=>by
  have e:b=it:=by simpa using hb
  subst e;exact⟨_,st,λv z=>nomatch z⟩
 keep:=λi h h' ⟨ok,ov,st⟩ k=>⟨ok,ov,k it (by simp) _ st⟩
 item:=by
  intro X hP hw hK hc i f8 s σ H E I hf st hg;subst hP hw hK;obtain⟨ok,ov,st⟩:=st;obtain⟨aE,e,hi⟩:=hg;obtain⟨Fi,Ff,lo,ho,hx,m_,hsz,hk⟩:=nv I e;rw[jD] at m_;cases m_;obtain⟨en,b,e1,e2,e3,e4⟩:=hk i aE[i].1 aE[i].2 (Xi hi);refine next_item st ho jD e1 λh1 k1 k2 k3 k4=>?_;refine⟨_,rfl,wpAny_letOwnedTupleGo_items k1 λh2 m1 m2=>?_⟩;have iT:s.heap.objs.size≠it:=YJ (XB st);have NG:h2.get? s.heap.objs.size=some {cls:= .type "tuple",data:= .seq #[en.key,en.val]}:=(m2.2 _ iT).trans k2;have keep:∀b q,b∉[it]->s.heap.get? b=some q->h2.get? b=some q:=λb q hb e1=>by
   have Ot:b≠it:=λz=>hb (by simp[z]);exact(m2.2 b Ot).trans (k4 b q Ot e1)
  have I2:Inv X f8 σ (upd H s.heap.objs.size (.tup [.ref b,aE[i].2])) {s with heap:=h2,toks:=s.toks}:=by
   refine Inv.turnedLaid (s:=s) I keep hf (Xx _) ⟨?_,[en.key,en.val], .cons (by rw[e2];rfl) (.cons e4 .nil),_,NG,rfl,_,rfl⟩;rw[Zw];show 2<=_;decide
  refine⟨.ref s.heap.objs.size,_,I2,rfl,⟨_,aE,aE[i].1,aE[i].2,b,rfl,I.hok.fresh (Xx _),e,Xi hi,e3,rfl⟩,⟨_,_,m1⟩,λc hc=>?_⟩;rw[aA (λz=>by
   have hc:c=it:=by simpa using hc
   exact iT (z▸hc).symm.symm)]
  exact(hf c hc).1
 done:=by
  intro X hP hw hK hc i f8 s σ H E I hf st hg;subst hP hw hK;obtain⟨ok,ov,st⟩:=st;obtain⟨aE,e,hi⟩:=hg;obtain⟨Fi,Ff,lo,ho,hx,m_,hsz,hk⟩:=nv I e;rw[jD] at m_;cases m_;obtain⟨f0,f1,f2,f3,f4,f5⟩:=hf it (by simp);exact Dl (I.ok.hd hc) st (by omega) ho jD λh' eb=>⟨rfl,I.turned (t':=s.toks) (λb o hb e=>eb b o hb e) f0 f1 f3 f4 f5⟩
 self:=λ_ _ _ _ _ ⟨_,_,st⟩ h=>Bh st h
def nE:D->M (List D)
 | .dct ks ds=>if ks.all (λk=>decide (k.length<=lim)&&k.all oV) then ae ((ks.zip ds).map λq=> .tup [tupK q.1,q.2]) else ag
 |_=>ag
theorem zip_get{α β:Type}{a:List α}{b:List β}{i:Nat}{x:α}{y:β}(h:(a.zip b)[i]? =some (x,y)):a[i]? =some x/\b[i]? =some y:=acC.mp h
theorem DI{K:Xr}{F:Hp}{a:Addr}{ob:Obj}{ks:List (List Key)}{ds:List D}{vs:List V}(hF:F a=some (.frz ob (.dT (ks.zip vs))))(hd:DenL K F ds vs)(hl:ks.length=ds.length)(hok:ks.all (λk=>decide (k.length<=lim)&&k.all oV)=true):ItD K F (Tq a ob) ((ks.zip ds).map λq=> .tup [tupK q.1,q.2]):=λF' H' i s1 s2=>by
 have hh:=s2 _ _ (s1 _ _ hF);have W_:=hd.len;have l1:(ks.zip ds).length=ks.length:=by rw[aaG];omega
 have l2:(ks.zip vs).length=ks.length:=by rw[aaG];omega
 refine⟨λd e=>?_,λhle=>⟨_,hh,by rw[Xh,l1] at hle;omega⟩⟩;rw[Xv] at e;cases q:(ks.zip ds)[i]? with
 |none=>rw[q] at e;cases e
 |some kd=>
  rw[q] at e;cases e;obtain⟨q1,q2⟩:=zip_get (x:=kd.1) (y:=kd.2) q;have hi:=(Xy.mp q1).1;refine⟨⟨_,hh,by rw[l2];exact hi⟩,λx H'' ⟨p,aE,k,v,b,y1,y2,y3,y4,y5,y6⟩=>?_⟩;subst y1 y6;rw[hh] at y3;cases y3;obtain⟨z1,z2⟩:=zip_get y4;rw[q1] at z1;cases z1;obtain⟨v',e1,dv⟩:=hd.get q2;rw[z2] at e1;cases e1;have hk:=Yl.mp hok kd.1 (Ye q1);rw[XO] at hk;have E1:=Ext.tup (F:=F') s2 y5;have E2:=Ext.lay (o:= .tup [.ref b,v]) E1.fh y2;refine⟨_,E1.trans E2,p,_,rfl,aM, .cons ⟨b,_,rfl,?_,nH hk.2,by rw[Xh];exact ad4 hk.1⟩ (.cons (Den.mono (E1.trans E2).ff (Den.mono s1 dv)) .nil),by show 2<=lim;decide⟩;exact E2.ff _ _ aM
section
variable{X:Cx}{Xw:Nat->Hp->Prop}{o:Expr}{ts:List Expr}{δ:DE}{tp P3 a7:Pos}{x1:Nat}
theorem Ed(h:PD X Xw o δ)(fV:Ze o "items" X.env (eval o X.env)=eval o X.env:=by rfl)(fW:(P3.endLine==a7.line)=true:=by rfl):zY X Xw (.Tuple ts x1 tp) (.Call (.Attribute o "items" P3) [] [] a7) (λρ=>δ ρ>>=nE):=by
 intro f8 s σ H R I ⟨F,ρ,S,w⟩;refine wpAny_Call_method0_late fV fW (cC (h f8 s σ H (λv H1=>∃F1 d,Ext F H F1 H1/\Den X.K F1 d v/\WPI X.K Xw F1 H1 (nE d) R) I ⟨F,ρ,S,WPI.bind w⟩) λu s1 ⟨v,H1,I1,r1,F1,d,e1,q1,w1⟩=>?_);unfold nE at w1;split at w1
 ·rename_i ks ds;split at w1
  ·rename_i hok;obtain⟨a,ob,vs,rfl,h2,h3,h4,h5⟩:=q1;cases (show u=_ from r1);obtain⟨es,ep,lo,ho,hx,hd,hsz,hk⟩:=nv I1 (e1.fh _ _ h2);refine⟨"dict","dict.items",Z6,PySem.F.slot_dict_items,PySem.F.type_dict_items,⟨ob,ho,hx.1⟩,?_,?_⟩
   ·rintro _ ⟨⟩;exact⟨ob,ho,hx.2.1⟩
   ·refine ZG rfl (PySem.evalArgs_none ?_);refine Bw lo ho hx hd ?_;refine AF ⟨_,XA _ rfl,rfl,rfl⟩ (Xm _ ho) hd ?_;refine⟨_,[_],_,_,H1,rfl,I1.kept (t':=s1.toks) λb o e=>Xm _ (Xm _ e),Br a _ ob es ep hd,⟨_,_,XA _ rfl⟩,λb hb=>?_,w1 _ _ _ (Ext.refl e1.fh) (DI h2 h3 h4 hok)⟩;have e:b=(s1.heap.push {cls:= .type "dict_items",data:= .fields #[.ref a]}).objs.size:=by simpa using hb
    subst e;exact I1.fpOk (by rw[Y4];exact acs _) (I1.hok.fresh (by rw[Y4];exact acs _))
  ·exact w1.elim
 ·exact w1.elim
end
section
variable{X:Cx}{Xw:Nat->Hp->Prop}{a b:Expr}{δa δb:DE}{pos:Pos}
theorem Nc(ha:PD X Xw a δa)(hb:PD X Xw b δb)(hm:Yt .In b=false:=by rfl):lK X Xw (.Compare a [.In] [b] pos) (bU (d2 (Ao false) δa δb)):=dB D7 FQ ha hb hm
end
end L3
namespace L3
open PySem PySem.Spec L2 HT
open PyProof.Rows hiding St
section
open PySem.SeqAt
open PySem.AutoSeq1 (wpAny_loadPart')
open PySem.MeetsSeq PySem.MeetsSeq2 PySem.MeetsSeq3
theorem Hb(A:X6)(s:Xl)(a:Int)(t:Tok)(c:Int)(u:Tok)(prog:XR)(w:World)(E:Value->Xl->Prop)(Q:Value->Xl->Prop)(h:Q (.bool (decide (a>c))) s):
 wpAny (model prog w) A (aas .Gt (.int a t) (.int c u)) Q E s:=
 (PyProof.Rows.gt_int h:wpAny (model prog w) A (X9 .Gt (.int a t) (.int c u)) Q E s)
theorem tL(l b:Addr)(items cM:Array Value)(n n2:Nat)(dd t7:Option Addr)(sl EH:Array (Option Value))(ns ms:List Int)(hi:YH items.toList ns)(hj:YH cM.toList ms):
 Meets (aaM.«tuple.__gt__» ⟨[.ref l, .ref b],[]⟩)
  (λ_ R s=>s.heap.get? l=some {cls:= .type "tuple",dict:=dd,data:= .seq items n,slots:=sl}/\s.heap.get? b=some {cls:= .type "tuple",dict:=t7,data:= .seq cM n2,slots:=EH}/\
   R (.ok (.ret (.bool (lexLt ms ns)))) s):=
 .of_wp λprog w A R s h=>by
  obtain⟨hp,g,d,tk,os⟩:=s;obtain⟨hl,hb,h⟩:=h;have f2:=ab7;have z1:items.size=ns.length:=by rw[<-hi.length];simp
  have z2:cM.size=ms.length:=by rw[<-hj.length];simp
  wp_walk using wpAny_loadPart' hl,wpAny_loadPart' hb,abq _ (λW1 b s'=>b.1=none/\s'=⟨hp,g,d,tk,os⟩/\∃(vs ws:List Value) (D2 DZ:List Int),W1=vs.zip ws/\
   YH vs D2/\YH ws DZ/\D2.length+cM.size=DZ.length+items.size/\R (.ok (.ret (.bool (lexLt DZ D2)))) ⟨hp,g,d,tk,os⟩) _
  case turn=>
   rintro⟨y,x⟩ W1 b s' ⟨xJ,rfl,vs,ws,D2,DZ,hz,L5,IH,v6,hR⟩;cases L5 with
   |nil=>rw[adT] at hz;cases hz
   |cons a t L6=>
    cases IH with
    |nil=>rw[adI] at hz;cases hz
    |cons c u L7=>
     rw[YO] at hz;injection hz with Sf FN
     injection Sf with hy hx
     subst hy hx;rw[lexLt_cons] at hR;simp only[Xo] at v6;obtain⟨e,he,FE⟩:=eqAt_int A.in1 ⟨hp,g,d,tk,os⟩ a t c u;refine Xg (he prog w _ _ ?_);cases e with
     |true=>
      rw[adY (FE.mp rfl).symm] at hR
      wp_walk
      exact⟨rfl,rfl,_,_,_,_,FN,L6,L7,by omega,hR⟩
     |false=>
      rw[ad0 (λq=>ad3 (FE.mpr q.symm) XM)] at hR;have R6:=Hb A.in1 ⟨hp,g,d,tk,os⟩ a t c u prog w
      wp_walk using R6
      exact⟨_,rfl,by simpa using hR⟩
  case fin=>
   rintro⟨b1,b2⟩ s' ⟨xJ,rfl,vs,ws,D2,DZ,hz,L5,IH,v6,hR⟩;simp only at xJ;subst xJ;have hv:lexLt DZ D2=decide (items.size>cM.size):=by
    cases L5 with
    |nil=>
     cases IH with
     |nil=>
      simp only[X5] at v6;rw[lexLt_nil_nil];exact(ad2 (by omega)).symm
     |cons c u hw=>
      simp only[X5,Xo] at v6;rw[lexLt_cons_nil];exact(ad2 (by omega)).symm
    |cons a t hv=>
     cases IH with
     |nil=>
      simp only[X5,Xo] at v6;rw[lexLt_nil_cons];exact(ad1 (by omega)).symm
     |cons c u hw=>
      rw[YO] at hz;cases hz
   rw[hv] at hR
   wp_walk
   exact⟨_,rfl,by simpa[abi] using hR⟩
  case h=>
   exact⟨rfl,rfl,items.toList,cM.toList,ns,ms,rfl,hi,hj,by omega,h⟩
end
section
variable{prog:XR}{w:World}{A:X6}{E:Value->Xl->Prop}{s:Xl}
theorem Ar{l b:Addr}{items cM:Array Value}{ns ms:List Int}{Q:Value->Xl->Prop}(hl:IsTup s.heap l items)(hb:IsTup s.heap b cM)(hi:YH items.toList ns)(hj:YH cM.toList ms)
 (hu:A.units<cLine)(h:Q (.bool (lexLt ms ns)) s):wpAny (model prog w) A (X9 .Gt (.ref l) (.ref b)) Q E s:=by
 obtain⟨⟨cls,dd,data,sl⟩,ho,hc,n,hd⟩:=id hl;obtain⟨⟨Lr,t7,data2,EH⟩,Dx,BZ,n2,hd2⟩:=id hb;simp only at hc hd BZ hd2;subst hc hd BZ hd2;exact adO (op:= .Gt) ⟨_,ho,rfl⟩ ⟨_,Dx,rfl⟩ PySem.F.slot_tuple_gt PySem.F.entry_tuple_gt (PySem.F.args_tuple_gt_2 _ _) (tL l b items cM n n2 dd t7 sl EH ns ms hi hj)
  ⟨ho,Dx,show Zq (lexLt ms ns)≠ac6/\Q (.bool (lexLt ms ns)) s from⟨(λx=>nomatch x),h⟩⟩ hu
end
section
variable{X:Cx}
def PM(K:Xr):R2:=λx y H Q=>∃a b ns ms,x= .ref a/\y= .ref b/\SqT K H a (ns.map V.int)/\SqT K H b (ms.map V.int)/\Q (.bl (HT.lexLt ms ns)) H
theorem MB(hu:X.A.units<cLine):OpR X (X9 .Gt) (PM X.K):=by
 intro f8 s σ H x y v u Q I rx ry h;obtain⟨a,b,ns,ms,rfl,rfl,ha,hb,q⟩:=h;cases rx;cases ry;obtain⟨aL,r1,p1,_⟩:=I.tuple ha;obtain⟨e7,r2,p2,_⟩:=I.tuple hb;have i1:YH aL.toArray.toList ns:=intsAre_of r1;have i2:YH e7.toArray.toList ms:=intsAre_of r2;exact Ar p1 p2 i1 i2 hu ⟨.bl (HT.lexLt ms ns),H,I,rfl,q⟩
end
def An(x y:D):M D:=match Ms y x with | some b=>ae (.bl b) | none=>ag
section
variable{X:Cx}{Xw:Nat->Hp->Prop}{a b:Expr}{δa δb:DE}{pos:Pos}
theorem Ju{K:Xr}:u9 K (PM K) An:=λXw F H x y dx dy Q s hx hy w=>by
 unfold An at w;split at w
 ·rename_i r e;obtain⟨a,b,ns,ms,rfl,rfl,h1,h2,rfl⟩:=v_ e hy hx;exact⟨b,a,ms,ns,rfl,rfl,SqT.of (s _ _ h2),SqT.of (s _ _ h1),WP.now w s rfl⟩
 ·exact w.elim
theorem Na(hu:X.A.units+64<cLine)(ha:PD X Xw a δa)(hb:PD X Xw b δb):lK X Xw (.Compare a [.Gt] [b] pos) (bU (d2 An δa δb)):=dB (MB (by omega)) Ju ha hb
end
section
variable{X:Cx}{Xw:Nat->Hp->Prop}{δa:DE}{δs:DA}{es Fi:List Expr}{k:Nat}{p:Pos}
theorem BO{a:Expr}(ha:Box (PD X Xw a δa))(hr:Box (gV X Xw es δs))(hs:Xz (a::es) X.env=(false,eval a X.env)::Xz es X.env):Box (gV X Xw (a::es) (aC δa δs)):=⟨aa ha.1 hr.1 hs⟩
theorem ir(ha:Box (PD X Xw (.Tuple Fi k p) δa))(hr:Box (gV X Xw es δs)):Box (gV X Xw (.Tuple Fi k p::es) (aC δa δs)):=BO ha hr (by rfl)
theorem k8:Box (gV X Xw [] aN):=⟨ah⟩
theorem k9(h:Box (gV X Xw es δs)):Box (PD X Xw (.Tuple es k p) (dA aY δs)):=⟨bQ h.1⟩
theorem fU{x:Str}{j:Nat}{q:Pos}(hr:Box (gV X Xw es δs))(h:x.length<=lim:=by decide):Box (gV X Xw (.Constant (.str x) j q::es) (aC (dC (.str x)) δs)):=BO ⟨dP h⟩ hr (by rfl)
end
end L3
namespace L3
open PySem PySem.Spec L2 SeqAt HT
open PyProof.Rows hiding St
abbrev W0:=List (Key×List Key)
def Tt(ρ:bb):Bool:=ρ.all λx=>match x with | some (.ow _)=>false | _=>true
end L3
namespace L3
def SX(n:Nat)(δs:DA):DS:=λρ=>δs ρ>>=λds=>if ds.length<=lim then bR n else ag
end L3
namespace K1
open PySem PySem.Spec L2 L3
open PyProof.Rows hiding St
def NV:Nat->Nat
 |1=>1
 |4=>4
 |_=>0
def cB(cA:Nat->Addr)(n:Nat):Addr:=cA (NV n)
def vh(cA:Nat->Addr):List Addr:=[cA 0,cA 1,cA 4]
def KP(k:Nat):M D:=ae (.tup [.str "refused", .int ((NV k:Nat):Int)])
def Bz:DS:=(bI (gb (dA lr (aC (dV 0) (aC (dC (.raw (.ty "int"))) aN))) (Ku (dA lr (aC (dV 0) (aC (dC (.raw (.ty "bool"))) aN))))))
def fF:List D->M D:=bX 1 (Bz)
def zM:DS:=(bI (gb (dA lr (aC (dV 0) (aC (dC (.raw (.ty "str"))) aN))) (gb (d2 iz (dA bq (aC (dV 0) aN)) (dC (.int 1))) (d2 (Fm false) (dV 0) (dC (.str "abcdef"))))))
def dI:List D->M D:=bX 1 (zM)
def sy:DS:=(bI (bB 0 (λρ=>(aC (dA bq (aC (d2 aU (dV 0) (dC (.int 0))) aN)) aN) ρ>>=eO) ck (dA aY (aC (dV 2) (aC (dV 0) aN)))))
def bK:List D->M D:=bX 2 (sy)
def zQ:DS:=(bI (d2 jK (d2 aU (dV 0) (d2 aU (dV 1) (dC (.int 0)))) (d2 aU (dV 1) (dC (.int 1)))))
def bh:List D->M D:=bX 2 (zQ)
def By:DS:=(aI (bg 3 (dA nh (aC (d2 jz (d2 aU (dV 0) (dC (.int 0))) (d2 aU (dV 1) (dC (.int 0)))) aN))) (aI (bg 4 (dA nh (aC (d2 jz (d2 aU (dV 0) (dC (.int 1))) (d2 aU (dV 1) (dC (.int 1)))) aN))) (aI (iP (bU (d2 iz (dV 2) (dC (.int 4)))) (bI (d2 iz (d2 dN (dV 3) (dV 4)) (dC (.int 1)))) dE) (bI (d2 iz (dA AN (aC (dV 3) (aC (dV 4) aN))) (dC (.int 1)))))))
def eC:List D->M D:=bX 5 (By)
def Kn:DS:=(aI (uX 1) (aI (λρ=>noex ((cV (putN 2) (L9 (dD (dV 0)) (λρ=>(dV 0) ρ>>=oG)) (cx [2] (iQ 1 (dV 2) (dC (.bl true))))) ρ)) (xK 1 (bI (dV 1)))))
def i7:List D->M D:=bX 3 (Kn)
def sC:DS:=(aI (iP (bU (d2 iz (dV 0) (dA b7 aN))) (bI (d2 i8 (dC (.int 7)) (dV 1))) dE) (bI (d2 dN (d2 Fo (dV 0) (d2 lZ (dV 1) (dA bq (aC (dV 0) aN)))) (d2 i8 (dC (.int 6553)) (d2 sR (dV 1) (dA bq (aC (dV 0) aN)))))))
def gG:List D->M D:=bX 2 (sC)
def zN:DS:=(aI (iP (lS (fE (dR (dA lr (aC (dV 0) (aC (dC (.raw (.ty "str"))) aN))))) (fE (bU (zS (λi j=>decide (i<=j)) (λi j=>decide (i<=j)) (dC (.int 1)) (dA bq (aC (dV 0) aN)) (dC (.int 8)))))) (bI (dC (.bl false))) dE) (bI (dA allM (aC (bB 0 (λρ=>(dV 0) ρ>>=Nv) ck (az 1 dI (aC (dV 0) aN))) aN))))
def gF:List D->M D:=bX 1 (zN)
def zR:DS:=(iP (lS (fE (dR (az 1 fF (aC (dV 0) aN)))) (bU (d2 (Ao true) (dV 0) (dA aY (aC (dC (.int 4)) (aC (dC (.int 8)) aN)))))) (SX 1 (aC (dC (.str "ways are 4 or 8")) aN)) dE)
def gX:List D->M D:=bX 1 (zR)
def zK:DS:=(aI (rT 1) (aI (λρ=>noex ((cV (putN 2) (λρ=>(aC (dA bq (aC (dV 0) aN)) aN) ρ>>=eO) (cx [2] (Hg 1 (az 2 bK (aC (dV 0) (aC (dV 2) aN)))))) ρ)) (xK 1 (bI (dV 1)))))
def cX:List D->M D:=bX 3 (zK)
def xG:DS:=(aI (rT 3) (aI (λρ=>noex ((cV (putN 4) (λρ=>(aC (dA AN (aC (d2 jz (d2 aU (dV 1) (dC (.int 0))) (dC (.int 1))) (aC (dC (.int 0)) aN))) (aC (dA DX (aC (d2 dN (d2 aU (dV 1) (dC (.int 0))) (dC (.int 2))) (aC (dA bq (aC (dV 0) aN)) aN))) aN)) ρ>>=uW) (cx [4,5] (cV (putN 5) (λρ=>(aC (dA AN (aC (d2 jz (d2 aU (dV 1) (dC (.int 1))) (dC (.int 1))) (aC (dC (.int 0)) aN))) (aC (dA DX (aC (d2 dN (d2 aU (dV 1) (dC (.int 1))) (dC (.int 2))) (aC (dA bq (aC (d2 aU (dV 0) (dC (.int 0))) aN)) aN))) aN)) ρ>>=uW) (cx [5] (iP (dR (az 3 eC (aC (dV 1) (aC (dA aY (aC (dV 4) (aC (dV 5) aN))) (aC (dV 2) aN))))) (jC 3 (dA aY (aC (dV 4) (aC (dV 5) aN)))) dE))))) ρ)) (xK 3 (bI (dV 3)))))
def bM:List D->M D:=bX 6 (xG)
def pe:DS:=(aI (bg 3 (d2 lZ (d2 dN (d2 i8 (d2 lZ (az 2 gG (aC (dV 0) (aC (dV 1) aN))) (dC (.int 2147483563))) (dC (.int 69069))) (d2 i8 (dC (.int 104723)) (d2 dN (dV 1) (dC (.int 1))))) (dC (.int 2147483563)))) (aI (bg 3 (d2 lZ (d2 dN (d2 i8 (dV 3) (dV 3)) (d2 sR (dV 3) (dC (.int 3)))) (dC (.int 2147483399)))) (bI (d2 lZ (d2 sR (d2 lZ (d2 dN (d2 i8 (dV 3) (dV 3)) (d2 sR (dV 3) (dC (.int 7)))) (dC (.int 2147483647))) (dC (.int 11))) (dV 2)))))
def aP:List D->M D:=bX 4 (pe)
def sA:DS:=(aI (iP (lS (fE (dR (dA lr (aC (dV 0) (aC (dC (.raw (.ty "tuple"))) aN))))) (fE (bU (zS (λi j=>decide (i<=j)) (λi j=>decide (i<=j)) (dC (.int 1)) (dA bq (aC (dV 0) aN)) (dC (.int 8)))))) (bI (dC (.bl false))) dE) (aI (iP (fE (dR (dA allM (aC (bB 0 (nq (dV 0)) ck (az 1 gF (aC (dV 0) aN))) aN)))) (bI (dC (.bl false))) dE) (bI (dA allM (aC (bB 0 (nq (dV 0)) ck (d2 iz (dA bq (aC (dV 0) aN)) (dA bq (aC (d2 aU (dV 1) (dC (.int 0))) aN)))) aN)))))
def i6:List D->M D:=bX 1 (sA)
def xD:DS:=(aI (bg 3 (az 2 bh (aC (dV 0) (aC (dV 1) aN)))) (bI (bB 0 (dD (az 3 bM (aC (dV 0) (aC (dV 1) (aC (dV 2) aN))))) (bU (d2 iz (az 2 bh (aC (dV 1) (aC (dV 0) aN))) (dV 4))) (dV 0))))
def da:List D->M D:=bX 4 (xD)
def Tj:DE:=bB 0 (λρ=>(aC (dV 4) aN) ρ>>=eO) ck (d2 jK (dV 6) (az 3 aP (aC (dV 1) (aC (d2 dN (d2 dN (d2 dN (dV 2) (dC (.int 3))) (d2 i8 (dC (.int 7)) (dV 8))) (dV 0)) (aC (dA bq (aC (dV 6) aN)) aN)))))
def Tn:DS:=bg 6 (d2 yp (dV 6) (dA aY (aC (dM ED joinM (dC (.str "")) (aC (dV 8) aN)) aN)))
def zO:DS:=(aI (bg 3 (d2 dN (dC (.int 1)) (az 3 aP (aC (dV 0) (aC (dV 1) (aC (dV 2) aN)))))) (aI (bg 4 (d2 dN (dC (.int 1)) (az 3 aP (aC (dV 0) (aC (d2 dN (dV 1) (dC (.int 1))) (aC (dV 2) aN)))))) (aI (bg 5 (d2 cE (dA b7 (aC (dC (.str "ab")) (aC (dC (.str "abc")) (aC (dC (.str "aab")) (aC (dC (.str "fa")) aN))))) (az 3 aP (aC (dV 0) (aC (d2 dN (dV 1) (dC (.int 2))) (aC (dC (.int 4)) aN)))))) (aI (bg 6 (dA aY aN)) (aI (λρ=>noex ((cV (putN 7) (λρ=>(aC (dV 3) aN) ρ>>=eO) (cx [7,8] (aI (bg 8 (Tj)) (Tn)))) ρ)) (bI (dV 6)))))))
def dJ:List D->M D:=bX 9 (zO)
def xF:DS:=(iP (fE (dR (az 1 i6 (aC (dV 0) aN)))) (SX 0 (aC (dC (.str "a tuple of 1 to 8 texts of 1 to 8 letters, all as long, is asked for")) aN)) dE)
def eZ:List D->M D:=bX 1 (xF)
def J9:DS:=cx [7] (iP (Kk (bU (d2 (lj true) (dV 7) (dV 3)))) (aI (iQ 3 (dV 7) (dV 6)) (jC 5 (dV 7))) dE)
def xI:DS:=(aI (rV 3 (λρ=>(dV 1) ρ>>=λx=>(dC .non) ρ>>=λy=>t_ x y)) (aI (bg 4 (dA b7 (aC (dV 1) aN))) (aI (λρ=>noex ((rW (dR (dV 4)) (cx [5,6,7] (aI (rT 5) (aI (cV (putN 6) (dD (dV 4)) (cx [6,7] (cV (putN 7) (dD (az 3 da (aC (dV 0) (aC (dV 6) (aC (dV 2) aN))))) (J9)))) (xK 5 (bg 4 (dV 5))))))) ρ)) (xK 3 (bI (dV 3))))))
def dW:List D->M D:=bX 8 (xI)
def xH:DS:=(aI (uX 1) (aI (λρ=>noex ((cV (jy [2,3]) (λρ=>(aC (dV 0) aN) ρ>>=oB) (cx [2,3,4] (cV (putN 4) (dD (dV 3)) (cx [4] (iQ 1 (dV 4) (dV 2)))))) ρ)) (xK 1 (bI (dV 1)))))
def gh:List D->M D:=bX 5 (xH)
def zP:DS:=(aI (bg 1 (dA b7 aN)) (aI (λρ=>noex ((cV (putN 2) (λρ=>(aC (dA bq (aC (dV 0) aN)) aN) ρ>>=eO) (cx [2] (bg 1 (d2 jw (dV 1) (bB 0 (λρ=>(aC (dA bq (aC (d2 aU (dV 0) (dC (.int 0))) aN)) aN) ρ>>=eO) ck (dA aY (aC (dV 3) (aC (dV 0) aN)))))))) ρ)) (bI (dV 1))))
def cZ:List D->M D:=bX 3 (zP)
def ES:DS:=(cx [5,6,7,8] (aI (bg 6 (d2 dN (d2 aU (dV 1) (dC (.int 0))) (dV 4))) (aI (bg 7 (d2 dN (d2 aU (dV 1) (dC (.int 1))) (dV 5))) (aI (bg 8 (gb (zS (λi j=>decide (i<=j)) (λi j=>decide (i<j)) (dC (.int 0)) (dV 6) (dA bq (aC (dV 0) aN))) (zS (λi j=>decide (i<=j)) (λi j=>decide (i<j)) (dC (.int 0)) (dV 7) (dA bq (aC (d2 aU (dV 0) (dC (.int 0))) aN))))) (iP (lg (dR (dV 8)) (lg (bU (d2 ny (dA aY (aC (dV 4) (aC (dV 5) aN))) (dA aY (aC (dC (.int 0)) (aC (dC (.int 0)) aN))))) (lS (bU (d2 iz (dV 2) (dC (.int 8)))) (bU (d2 iz (d2 i8 (dV 4) (dV 5)) (dC (.int 0))))))) (jC 3 (dA aY (aC (dV 6) (aC (dV 7) aN)))) dE)))))
def xA:DS:=(aI (rT 3) (aI (λρ=>noex ((cV (putN 4) (nq (dA aY (aC (d1 ra (dC (.int 1))) (aC (dC (.int 0)) (aC (dC (.int 1)) aN))))) (cx [4,5,6,7,8] (cV (putN 5) (nq (dA aY (aC (d1 ra (dC (.int 1))) (aC (dC (.int 0)) (aC (dC (.int 1)) aN))))) ES))) ρ)) (xK 3 (bI (dV 3)))))
def dU:List D->M D:=bX 9 (xA)
def fS(K:Xr)(cA:Nat->Addr):DS:=(aI (bg 1 (dA b7 (aC (dA (nB K (vh cA)) (aC (dV 0) (aC (dC (.raw (.ref (cA 0)))) aN))) (aC (dA (nB K (vh cA)) (aC (dV 0) (aC (dC (.raw (.ref (cA 1)))) aN))) (aC (dA (nB K (vh cA)) (aC (dV 0) (aC (dC (.raw (.ref (cA 2)))) aN))) aN))))) (aI (bg 1 (d2 jw (dV 1) (dA b7 (aC (dA (nB K (vh cA)) (aC (dV 0) (aC (dC (.raw (.ref (cA 3)))) aN))) (aC (dA (nB K (vh cA)) (aC (dV 0) (aC (dC (.raw (.ref (cA 4)))) aN))) (aC (dA (nB K (vh cA)) (aC (dV 0) (aC (dC (.raw (.ref (cA 5)))) aN))) aN)))))) (aI (bg 1 (d2 jw (dV 1) (dA b7 (aC (dA (nB K (vh cA)) (aC (dV 0) (aC (dC (.raw (.ref (cA 6)))) aN))) aN)))) (aI (iP (lS (bU (d2 ny (dM iC Df (dV 1) (aC (dC (.bl true)) aN)) (dC (.int 1)))) (fE (dR (dA (nB K (vh cA)) (aC (dV 0) (aC (dC (.raw (.ty "ValueError"))) aN)))))) (bI (dA aY (aC (dC (.str "refused")) (aC (d1 ra (dC (.int 1))) aN)))) dE) (bI (dA aY (aC (dC (.str "refused")) (aC (dM iC L_ (dV 1) (aC (dC (.bl true)) aN)) aN))))))))
def bV(K:Xr)(cA:Nat->Addr):List D->M D:=bX 2 (fS K cA)
def sF:DS:=(aI (bg 3 (az 1 i7 (aC (dV 1) aN))) (aI (rT 4) (aI (λρ=>noex ((cV (putN 5) (λρ=>(aC (dA bq (aC (dV 0) aN)) aN) ρ>>=eO) (cx [5,6] (aI (bg 6 (az 2 bK (aC (dV 0) (aC (dV 5) aN)))) (jC 4 (dM ED joinM (dC (.str "")) (aC (bB 0 (dD (dV 6)) ck (HM (bU (d2 (lj false) (dV 0) (dV 4))) (dV 3) (az 2 bh (aC (dV 1) (aC (dV 0) aN))))) aN)))))) ρ)) (xK 4 (bI (dA HE (aC (dV 4) aN)))))))
def cS:List D->M D:=bX 7 (sF)
def Sq:DS:=(cx [8,9,10] (iP (Kk (bU (d2 ny (d2 ft (dV 2) (dV 8)) (d2 ft (dV 2) (dV 9))))) (aI (bg 10 (NO (dA yK (aC (d2 ft (dV 2) (dV 8)) (aC (d2 ft (dV 2) (dV 9)) aN))))) (aI (iQ 2 (dV 8) (dV 10)) (aI (iQ 2 (dV 9) (dV 10)) (bg 7 (dC (.bl true)))))) dE))
def QU:DS:=(cx [5,6] (aI (bg 6 (d2 jK (d2 aU (dV 0) (d2 aU (dV 4) (dC (.int 0)))) (d2 aU (dV 4) (dC (.int 1))))) (iP (lg (bU (d2 Aq (dV 4) (dV 5))) (bU (d2 iz (dV 6) (d2 jK (d2 aU (dV 0) (d2 aU (dV 5) (dC (.int 0)))) (d2 aU (dV 5) (dC (.int 1))))))) (jC 3 (dA aY (aC (dV 4) (aC (dV 5) aN)))) dE)))
def Sr:DS:=(cx [8,9,10] (aI (bg 7 (dC (.bl false))) (xK 3 (cV (jy [8,9]) (dD (dV 3)) Sq))))
def xB:DS:=(aI (rV 2 (λρ=>(aC (bB 0 (dD (az 1 cZ (aC (dV 0) aN))) ck (dA aY (aC (dV 0) (aC (dV 0) aN)))) aN) ρ>>=BS)) (aI (rT 3) (aI (λρ=>noex ((cV (putN 4) (dD (az 1 cZ (aC (dV 0) aN))) (cx [4,5,6] (cV (putN 5) (dD (az 3 dU (aC (dV 0) (aC (dV 4) (aC (dV 1) aN))))) QU))) ρ)) (aI (bg 7 (dC (.bl true))) (aI (λρ=>noex ((rW (dR (dV 7)) Sr) ρ)) (xK 2 (bI (dV 2))))))))
def gf:List D->M D:=bX 11 (xB)
def QX:DS:=(cx [5,6] (iP (bU (d2 HQ (d2 ft (dV 2) (dV 4)) (d2 ft (dV 2) (dV 5)))) (aI (bg 6 (dA aY (aC (d2 ft (dV 2) (dV 4)) (aC (d2 ft (dV 2) (dV 5)) aN)))) (iQ 3 (dV 6) (NO (d2 dN (lQ (dV 3) (dV 6) (dC (.int 0))) (dC (.int 1)))))) dE))
def sE:DS:=(aI (bg 2 (az 1 gh (aC (dV 1) aN))) (aI (uX 3) (aI (λρ=>noex ((cV (putN 4) (dD (az 1 cX (aC (dV 0) aN))) (cx [4,5,6] (cV (putN 5) (dD (az 3 bM (aC (dV 0) (aC (dV 4) (aC (dC (.int 4)) aN))))) QX))) ρ)) (xK 3 (bI (dV 3))))))
def cR:List D->M D:=bX 7 (sE)
def Sv:DS:=(cx [4] (iQ 3 (d2 ft (dV 2) (dV 4)) (N_ (d2 jw (lQ (dV 3) (d2 ft (dV 2) (dV 4)) (dA b7 aN)) (dA b7 (aC (dV 4) aN))))))
def tN:DS:=(aI (bg 2 (az 2 gf (aC (dV 0) (aC (dV 1) aN)))) (aI (uX 3) (aI (λρ=>noex ((cV (putN 4) (dD (az 1 cZ (aC (dV 0) aN))) Sv) ρ)) (xK 3 (bI (bB 0 (dD (dA u3 (aC (dV 3) aN))) ck (d2 ft (dV 4) (dV 0))))))))
def dh:List D->M D:=bX 5 (tN)
def Sx:DS:=(cx [4,5,6] (iP (bU (d2 (Ao false) (dV 2) (dV 4))) (aI (bg 6 (d2 jz (d2 dN (d2 aU (dV 4) (dC (.int 0))) (d2 aU (dV 4) (dC (.int 1)))) (dV 2))) (jC 3 (dA aY (aC (d1 ra (dV 5)) (aC (d1 ra (dA bq (aC (d2 cE (dV 1) (dV 6)) aN))) (aC (dV 6) aN)))))) dE))
def xE:DS:=(aI (rT 3) (aI (λρ=>noex ((cV (jy [4,5]) (λρ=>(az 2 cR (aC (dV 0) (aC (dV 1) aN))) ρ>>=nE) Sx) ρ)) (xK 3 (bI (d2 aU (dA wa (aC (dV 3) aN)) (dC (.int 2)))))))
def eY:List D->M D:=bX 7 (xE)
def Rc:DS:=(cx [4,5] (iP (Kk (bU (d2 (lj true) (dV 4) (dV 3)))) (aI (bg 5 (dA u3 (aC (az 3 dW (aC (dV 0) (aC (dV 4) (aC (dV 1) aN)))) aN))) (aI (jC 2 (dV 5)) (Hj 3 (az 1 i7 (aC (dV 5) aN))))) dE))
def tM:DS:=(aI (rT 2) (aI (uX 3) (aI (λρ=>noex ((cV (putN 4) (dD (az 1 cX (aC (dV 0) aN))) Rc) ρ)) (xK 2 (bI (dV 2))))))
def d_:List D->M D:=bX 6 (tM)
def sD:DS:=(aI (rS (az 1 eZ (aC (dV 0) aN))) (aI (rS (az 1 gX (aC (dV 1) aN))) (iP (lS (fE (dR (az 1 fF (aC (dV 2) aN)))) (fE (bU (zS (λi j=>decide (i<=j)) (λi j=>decide (i<=j)) (dC (.int 1)) (dV 2) (dC (.int 64)))))) (SX 4 (aC (dC (.str "a least number of cells from 1 to 64 is asked for")) aN)) dE)))
def a_:List D->M D:=bX 3 (sD)
def zJ:DS:=(aI (bg 3 (az 2 d_ (aC (dV 0) (aC (dV 1) aN)))) (aI (bg 4 (bB 0 (dD (dV 3)) ck (dA bq (aC (dV 0) aN)))) (aI (iP (lS (bU (d2 iz (dA bq (aC (dV 3) aN)) (dC (.int 1)))) (bU (d2 Qt (dA kL (aC (dV 4) aN)) (dV 2)))) (bI (dC .non)) dE) (aI (bg 5 (dM iC yw (dV 4) (aC (dA kL (aC (dV 4) aN)) aN))) (aI (bg 6 (az 3 eY (aC (dV 0) (aC (dV 3) (aC (dV 5) aN))))) (bI (az 3 cS (aC (dV 0) (aC (d2 cE (dV 3) (dV 5)) (aC (az 2 bh (aC (dV 0) (aC (d2 cE (d2 cE (dV 3) (dV 6)) (dC (.int 0))) aN))) aN))))))))))
def bw:List D->M D:=bX 7 (zJ)
def Rf:DS:=(aI (jC 3 (dV 4)) (bg 4 (az 3 bw (aC (dV 4) (aC (dV 1) (aC (dV 2) aN))))))
def zL:DS:=(aI (rT 3) (aI (bg 4 (dV 0)) (aI (λρ=>noex ((rW (bU (d2 (vI true) (dV 4) (dC .non))) Rf) ρ)) (xK 3 (bI (dV 3))))))
def cY:List D->M D:=bX 5 (zL)
def tP:DS:=(aI (rS (az 3 a_ (aC (dV 0) (aC (dV 1) (aC (dV 2) aN))))) (bI (az 3 bw (aC (dV 0) (aC (dV 1) (aC (dV 2) aN))))))
def cK:List D->M D:=bX 3 (tP)
def HI:DS:=(aI (rS (az 3 a_ (aC (dV 0) (aC (dV 1) (aC (dV 2) aN))))) (bI (d2 cE (az 3 cY (aC (dV 0) (aC (dV 1) (aC (dV 2) aN)))) (d1 ra (dC (.int 1))))))
def gH:List D->M D:=bX 3 (HI)
def BB:DS:=(aI (rS (az 3 a_ (aC (dV 0) (aC (dV 1) (aC (dV 2) aN))))) (bI (az 3 cY (aC (dV 0) (aC (dV 1) (aC (dV 2) aN))))))
def eD:List D->M D:=bX 3 (BB)
def Sw:DS:=(cx [3,4] (bg 2 (d2 dN (dV 2) (dA bq (aC (bB 0 (dD (dV 1)) (bU (d2 iz (d2 dN (dA nh (aC (d2 jz (d2 aU (dV 0) (dC (.int 0))) (dV 4)) aN)) (dA nh (aC (d2 jz (d2 aU (dV 0) (dC (.int 1))) (dV 5)) aN))) (dC (.int 1)))) (dV 0)) aN)))))
def xC:DS:=(aI (bg 2 (dC (.int 0))) (aI (λρ=>noex ((cV (jy [3,4]) (dD (dV 0)) Sw) ρ)) (bI (dV 2))))
def eX:List D->M D:=bX 5 (xC)
def SI:DS:=(cx [6] (iP (bU (d2 HQ (dA bq (aC (d2 cE (dV 3) (dV 6)) aN)) (dA bq (aC (d2 cE (dV 3) (dV 5)) aN)))) (bg 5 (dV 6)) dE))
def Qo:DS:=(cx [6,8,9] (aI (bg 9 (dA aY (aC (az 2 eX (aC (d2 cE (dV 3) (dV 5)) (aC (dV 8) aN))) (aC (dA bq (aC (dV 8) aN)) aN)))) (iP (lg (bU (d2 ny (dV 6) (dV 5))) (lg (bU (d2 Qu (d2 aU (dV 9) (dC (.int 0))) (dC (.int 0)))) (lS (bU (d2 (vI false) (dV 7) (dC .non))) (bU (d2 An (dV 9) (d2 aU (dV 7) (dC (.int 0)))))))) (bg 7 (dA aY (aC (dV 9) (aC (dV 6) aN)))) dE)))
def SV:DS:=(cx [8,13] (aI (bg 13 (bB 0 (λρ=>(aC (dA bq (aC (d2 aU (dV 0) (dC (.int 0))) aN)) aN) ρ>>=eO) ck (HM (bU (d2 (Ap false) (dA aY (aC (dV 9) (aC (dV 0) aN))) (d2 cE (dV 4) (dV 6)))) (dV 12) (d2 jK (d2 aU (dV 1) (dV 9)) (dV 0))))) (bg 12 (d2 yp (dV 12) (dA aY (aC (dM ED joinM (dC (.str "")) (aC (dV 13) aN)) aN))))))
def BA:DS:=(aI (bg 3 (az 2 dh (aC (dV 0) (aC (dV 1) aN)))) (aI (bg 4 (bB 2 (λρ=>(aC (dV 3) aN) ρ>>=oB) (bU (d2 HQ (dA bq (aC (dV 1) aN)) (dV 4))) (dV 0))) (aI (iP (lS (bU (d2 iz (dV 4) (dA b7 aN))) (bU (d2 iz (dA bq (aC (dV 3) aN)) (dC (.int 1))))) (bI (dC .non)) dE) (aI (bg 5 (d2 cE (dV 4) (dC (.int 0)))) (aI (λρ=>noex ((cV (putN 6) (dD (dV 4)) SI) ρ)) (aI (bg 7 (dC .non)) (aI (Nr [6] (λρ=>noex ((cV (jy [6,8]) (λρ=>(aC (dV 3) aN) ρ>>=oB) Qo) ρ))) (aI (bg 10 (d2 cE (d2 cE (dV 3) (d2 aU (dV 7) (dC (.int 1)))) (dC (.int 0)))) (aI (bg 11 (d2 jK (d2 aU (dV 0) (d2 aU (dV 10) (dC (.int 0)))) (d2 aU (dV 10) (dC (.int 1))))) (aI (bg 12 (dA aY aN)) (aI (Nr [8] (λρ=>noex ((cV (putN 8) (λρ=>(aC (dA bq (aC (dV 0) aN)) aN) ρ>>=eO) SV) ρ))) (bI (dV 12)))))))))))))
def bL:List D->M D:=bX 14 (BA)
def tO:DS:=(Hi (bI (Kw [cK,gH,eD] 3 (dV 0) (aC (dV 1) (aC (dV 2) (aC (dV 3) aN))))) λk=>noex (KP k))
def aH:List D->M D:=bX 5 (tO)
def pf:DS:=(bg 1 (az 3 dJ (aC (dV 0) (aC (dC (.int 0)) (aC (dC (.int 4)) aN)))))
def ph:DS:=(bg 2 (d2 cE (dA b7 (aC (dC (.int 4)) (aC (dC (.int 8)) aN))) (az 3 aP (aC (dV 0) (aC (dC (.int 50)) (aC (dC (.int 2)) aN))))))
def pj:DS:=(bg 3 (d2 dN (dC (.int 1)) (az 3 aP (aC (dV 0) (aC (dC (.int 51)) (aC (d2 cE (dA b7 (aC (dC (.int 3)) (aC (dC (.int 6)) (aC (dC (.int 64)) aN)))) (az 3 aP (aC (dV 0) (aC (dC (.int 52)) (aC (dC (.int 3)) aN))))) aN))))))
def pk:DS:=(rV 4 (λρ=>(aC (dV 1) aN) ρ>>=Sy))
def pq:DS:=(bg 5 (az 3 bL (aC (dV 1) (aC (dV 2) (aC (dV 3) aN)))))
def pw:DS:=(iP (bU (d2 ny (az 4 aH (aC (dC (.int 0)) (aC (dV 1) (aC (dV 2) (aC (dV 3) aN))))) (dV 5))) (bI (dC (.bl false))) dE)
def UI:DS:=(aI (jC 4 (dV 5)) (bg 5 (az 3 bL (aC (dV 5) (aC (dV 2) (aC (dV 3) aN))))))
def pz:DS:=(λρ=>noex ((rW (bU (d2 (vI true) (dV 5) (dC .non))) UI) ρ))
def pA:DS:=(iP (Kk (bU (d2 ny (bB 0 (nq (dA aY (aC (dC (.int 1)) (aC (dC (.int 2)) aN)))) ck (az 4 aH (aC (dV 0) (aC (dV 2) (aC (dV 3) (aC (dV 4) aN)))))) (dA b7 (aC (d2 cE (dV 4) (d1 ra (dC (.int 1)))) (aC (dV 4) aN)))))) (bI (dC (.bl false))) dE)
def Rh:DS:=(cx [6] (iP (bU (d2 ny (az 4 aH (aC (dC (.int 0)) (aC (dV 6) (aC (dV 2) (aC (dC (.int 2)) aN))))) (az 3 bL (aC (dV 6) (aC (dV 2) (aC (dC (.int 2)) aN)))))) (bI (dC (.bl false))) dE))
def pB:DS:=(λρ=>noex ((cV (putN 6) (nq (dA aY (aC (dA aY (aC (dC (.str "aabccc")) aN)) (aC (dA aY (aC (dC (.str "cccbaa")) aN)) (aC (dA aY (aC (dC (.str "aabcc")) aN)) (aC (dA aY (aC (dC (.str "abacc")) aN)) (aC (dA aY (aC (dC (.str "aabb")) (aC (dC (.str "acbb")) aN))) (aC (dA aY (aC (dC (.str "bbaa")) (aC (dC (.str "bbca")) aN))) aN)))))))) Rh) ρ))
def pC:DS:=(bg 7 (d2 cE (dA b7 (aC (dC (.int 0)) (aC (dC (.int 65)) (aC (dC .non) (aC (dC (.bl true)) (aC (dC (.str "2")) aN)))))) (az 3 aP (aC (dV 0) (aC (dC (.int 53)) (aC (dC (.int 5)) aN))))))
def m6:DS:=(iP (bU (d2 ny (bB 0 (λρ=>(aC (dC (.int 3)) aN) ρ>>=eO) ck (az 4 aH (aC (dV 0) (aC (dV 2) (aC (dV 3) (aC (dV 8) aN)))))) (d2 Fs (dA b7 (aC (dA aY (aC (dC (.str "refused")) (aC (dC (.int 4)) aN))) aN)) (dC (.int 3))))) (bI (dC (.bl false))) dE)
def m7:DS:=(bg 8 (d2 cE (dA b7 (aC (dC (.int 0)) (aC (dC (.int 5)) (aC (dC .non) (aC (dC (.bl true)) aN))))) (az 3 aP (aC (dV 0) (aC (dC (.int 54)) (aC (dC (.int 4)) aN))))))
def m8:DS:=(iP (bU (d2 ny (bB 0 (λρ=>(aC (dC (.int 3)) aN) ρ>>=eO) ck (az 4 aH (aC (dV 0) (aC (dV 2) (aC (dV 9) (aC (dV 8) aN)))))) (d2 Fs (dA b7 (aC (dA aY (aC (dC (.str "refused")) (aC (dC (.int 1)) aN))) aN)) (dC (.int 3))))) (bI (dC (.bl false))) dE)
def m9:DS:=(bI (d2 iz (bB 0 (λρ=>(aC (dC (.int 3)) aN) ρ>>=eO) ck (az 4 aH (aC (dV 0) (aC (dA Ga (aC (dV 2) aN)) (aC (dV 9) (aC (dV 8) aN)))))) (d2 Fs (dA b7 (aC (dA aY (aC (dC (.str "refused")) (aC (dC (.int 0)) aN))) aN)) (dC (.int 3)))))
def ou:DS:=(aI pf (aI ph (aI pj (aI pk (aI pq (aI pw (aI pz (aI pA (aI pB (aI pC (aI m6 (aI m7 (aI m8 m9)))))))))))))
def kq:List D->M D:=bX 9 ou
def Rj:List Str:=["NoBoard","NoWays","NoCell","NoLetter","NoNumber","NoFit","Nothing"]
structure Bl (K:Xr) (mg:Str->Option Value) (base:Heap) (cv:Nat->Value) (cA:Nat->Addr) (Cp:Addr):Prop where
 len:mg "len"=none
 isinstance:mg "isinstance"=none
 all:mg "all"=none
 abs:mg "abs"=none
 max:mg "max"=none
 min:mg "min"=none
 range:mg "range"=none
 str:mg "str"=none
 int:mg "int"=none
 bool:mg "bool"=none
 tuple:mg "tuple"=none
 list:mg "list"=none
 dict:mg "dict"=none
 sorted:mg "sorted"=none
 enumerate:mg "enumerate"=none
 ValueError:mg "ValueError"=none
 LETTERS:∃t,mg "LETTERS"=some (.str "abcdef" t)
 MOST_ROWS:∃t,mg "MOST_ROWS"=some (.int 8 t)
 MOST_COLUMNS:∃t,mg "MOST_COLUMNS"=some (.int 8 t)
 GREATEST_LEAST:∃t,mg "GREATEST_LEAST"=some (.int 64 t)
 cls:∀n x,Rj[n]? =some x->mg x=some (.ref (cA n))
 own0:OwnCls "NoBoard" (cA 0) [.type "ValueError", .type "Exception", .type "BaseException", .type "object"] "ValueError.__new__" mg base
 own1:OwnCls "NoWays" (cA 1) [.type "ValueError", .type "Exception", .type "BaseException", .type "object"] "ValueError.__new__" mg base
 own4:OwnCls "NoNumber" (cA 4) [.type "ValueError", .type "Exception", .type "BaseException", .type "object"] "ValueError.__new__" mg base
 cvE:∀n,cv n= .ref (cB cA n)
 top:mg "PatchError"=some (.ref Cp)
 exm:∀n,aaL K (cv n) (.ref Cp)=some true
 exs:∀C∈vh cA,ExcC K C
 kit:∀n m,n∈[0,1,4]->m<7->XD K (.ref (cA n)) (.ref (cA m))=some (decide (n=m))
 kitV:∀n,n∈[0,1,4]->XD K (.ref (cA n)) (.type "ValueError")=some true
section
variable{P:XR}{w:World}{K:Xr}{mg:Str->Option Value}{base:Heap}{cv:Nat->Value}{cA:Nat->Addr}{Cp:Addr}{f:Addr}
abbrev lG:Stmt:=top 13
def qX:List Str:=["thing"]
def rq:List Str:=["thing"]
theorem mR{j k:Nat}{A:X6}(r:Room k A)(h:j<=k:=by decide):Room j A:=r.mono h
theorem dm{N Q:List Str}{sc:Scope}(k:sc.kind= .function:=by rfl)(c:sc.isCoroutine=false:=by rfl)(g:sc.isGenerator=false:=by rfl)(p:N.take Q.length=Q:=by rfl)(h:N.Nodup/\(∀x∈Q,sc.names.lookup x=some .local\/sc.names.lookup x=some .cell)/\∀y∈sc.names,y.2≠ .free:=by decide+kernel):FnScope N Q sc:=⟨k,c,g,h.1,p,h.2.1,h.2.2⟩
theorem zw:FnScope qX rq (ai lG):=dm
theorem y7(B:Bl K mg base cv cA Cp)(T:bJ K mg "is_whole" lG f):aw P w K mg base cv 1 "is_whole" 1 (fF):=
 aJ (N:=qX) (ps:=rq) T zw (λ_ _ _ _ _ _ us hl=>match us,hl with | [_],_=>rfl) λ_ _ _ _ _ _ hr=>
  (ar (aK (wK (rG rfl B.isinstance rfl (aa (af (pv 0)) (aa (uM rfl B.int rfl) ah))) (Bb (MR (rG rfl B.isinstance rfl (aa (af (pv 0)) (aa (uM rfl B.bool rfl) ah))))))))
abbrev j_:Stmt:=top 14
def oK:List Str:=["thing"]
def o3:List Str:=["thing"]
theorem w9:FnScope oK o3 (ai j_):=dm
theorem wA(B:Bl K mg base cv cA Cp)(T:bJ K mg "is_letter" j_ f):aw P w K mg base cv 1 "is_letter" 1 (dI):=
 aJ (N:=oK) (ps:=o3) T w9 (λ_ _ _ _ _ _ us hl=>match us,hl with | [_],_=>rfl) λ_ _ _ _ _ _ hr=>
  (ar (aK (wK (rG rfl B.isinstance rfl (aa (af (pv 0)) (aa (uM rfl B.str rfl) ah))) (wK (ze hr.units (bP rfl B.len (aa (af (pv 0)) ah)) aq) (Bb (MP (af (pv 0)) (JF rfl B.LETTERS (by decide))))))))
abbrev fj:Stmt:=top 19
def e_:List Str:=["board","row"]
def jY:List Str:=["board","row"]
theorem pP:FnScope e_ jY (ai fj):=dm
theorem pJ(B:Bl K mg base cv cA Cp)(T:bJ K mg "cells_of_row" fj f):aw P w K mg base cv 1 "cells_of_row" 2 (bK):=
 aJ (N:=e_) (ps:=jY) T pP (λ_ _ _ _ _ _ us hl=>match us,hl with | [_,_],_=>rfl) λ_ _ _ _ _ _ hr=>
  (ar (aK (dz (tn:=["column"]) (n:=0) (bA (N:=e_) (osc:=(ai fj)) rfl rfl (by decide+kernel)) rfl rfl (cf rfl B.range (aa (bP rfl B.len (aa (bf (af (pv 0)) aq) ah)) ah)) (λ_ _ _ _ _ _ _=>cJ (show YF (((["column"]:List Str))++cT ["column"] e_) by decide+kernel) rfl rfl) (λ_ _ _ _ _ _=>cz) (λ_ _ _ _ _ _=>(bQ (aa (af (pv 2)) (aa (af (pv 0)) ah)))))))
abbrev ke:Stmt:=top 21
def oN:List Str:=["board","cell"]
def o7:List Str:=["board","cell"]
theorem w_:FnScope oN o7 (ai ke):=dm
theorem wF(B:Bl K mg base cv cA Cp)(T:bJ K mg "letter_of" ke f):aw P w K mg base cv 1 "letter_of" 2 (bh):=
 aJ (N:=oN) (ps:=o7) T w_ (λ_ _ _ _ _ _ us hl=>match us,hl with | [_,_],_=>rfl) λ_ _ _ _ _ _ hr=>
  (ar (aK (nU (bf (af (pv 0)) (bf (af (pv 1)) aq)) (bf (af (pv 1)) aq))))
abbrev lF:Stmt:=top 22
def qW:List Str:=["one","other","ways","down","along"]
def ro:List Str:=["one","other","ways"]
theorem kg:FnScope qW ro (ai lF):=dm
theorem yZ(B:Bl K mg base cv cA Cp)(T:bJ K mg "are_next" lF f):aw P w K mg base cv 1 "are_next" 3 (eC):=
 aJ (N:=qW) (ps:=ro) T kg (λ_ _ _ _ _ _ us hl=>match us,hl with | [_,_,_],_=>rfl) λ_ _ _ _ _ _ hr=>
  (aj (aF kg.nd rfl (.inl rfl) (wJ rfl B.abs (aa (lD (bf (af (pv 0)) aq) (bf (af (pv 1)) aq)) ah) rfl)) (aj (aF kg.nd rfl (.inl rfl) (wJ rfl B.abs (aa (lD (bf (af (pv 0)) aq) (bf (af (pv 1)) aq)) ah) rfl)) (aj (b6 (kW hr.units (af (pv 2)) aq) (ar (aK (ze hr.units (cG (af (pv 3)) (af (pv 4))) aq))) bz) (ar (aK (ze hr.units (Ba rfl rfl B.max rfl (aa (af (pv 3)) (aa (af (pv 4)) ah))) aq))))))
abbrev w6:Stmt:=top 24
def Cf:List Str:=["things","found","thing"]
def Co:List Str:=["things"]
theorem rY:FnScope Cf Co (ai w6):=dm
theorem Gz(B:Bl K mg base cv cA Cp)(T:bJ K mg "keyed" w6 f):aw P w K mg base cv 1 "keyed" 1 (i7):=
 aJ (N:=Cf) (ps:=Co) T rY (λ_ _ _ _ _ _ us hl=>match us,hl with | [_],_=>rfl) λ_ _ _ _ _ _ hr=>
  (aj (j5 rY.nd rfl (.inl rfl)) (aj (bT (bx XI rfl (JH (bN (af (pv 0))) (GR (af (pv 0)))) (aS rY.nd rfl (.inl rfl)) bC (aV (ar (gP hr.units (pv 1) (af (pv 2)) gc))))) (ar (de (i:=1) (aK (af (pv 1)))))))
abbrev jr:Stmt:=top 30
def mn:List Str:=["found","numbers","number","patch","cell"]
def mF:List Str:=["found"]
theorem et:FnScope mn mF (ai jr):=dm
theorem tB(B:Bl K mg base cv cA Cp)(T:bJ K mg "numbers_of" jr f):aw P w K mg base cv 1 "numbers_of" 1 (gh):=
 aJ (N:=mn) (ps:=mF) T et (λ_ _ _ _ _ _ us hl=>match us,hl with | [_],_=>rfl) λ_ _ _ _ _ _ hr=>
  (aj (j5 et.nd rfl (.inl rfl)) (aj (bT (bx XI rfl (rH rfl B.enumerate (aa (af (pv 0)) ah)) (nW rfl (df (aS et.nd rfl (.inl rfl)) (df (aS et.nd rfl (.inl rfl)) kD))) (mL (is:=[2,3])) (aV (ar (bx XI rfl (bN (af (pv 3))) (aS et.nd rfl (.inl rfl)) bC (aV (ar (gP hr.units (pv 1) (af (pv 4)) (af (pv 2)))))))))) (ar (de (i:=1) (aK (af (pv 1)))))))
abbrev lH:Stmt:=top 43
def qY:List Str:=["_law_script","_law_k"]
def rA:List Str:=["_law_script","_law_k"]
theorem zx:FnScope qY rA (ai lH):=dm
theorem y8(B:Bl K mg base cv cA Cp)(T:bJ K mg "_law_cell" lH f):aw P w K mg base cv 1 "_law_cell" 2 (gG):=
 aJ (N:=qY) (ps:=rA) T zx (λ_ _ _ _ _ _ us hl=>match us,hl with | [_,_],_=>rfl) λ_ _ _ _ _ _ hr=>
  (aj (b6 (kW hr.units (af (pv 0)) (du ah)) (ar (aK (j4 aq (af (pv 1))))) bz) (ar (aK (cG (MQ (af (pv 0)) (nV (af (pv 1)) (bP rfl B.len (aa (af (pv 0)) ah)))) (j4 aq (wL (af (pv 1)) (bP rfl B.len (aa (af (pv 0)) ah))))))))
abbrev h9:Stmt:=top 46
def g9:List Str:=["_law_board_here","_law_found","_law_row"]
def o5:List Str:=["_law_board_here"]
theorem gy:FnScope g9 o5 (ai h9):=dm
theorem wC(B:Bl K mg base cv cA Cp)(T:bJ K mg "_law_cells" h9 f):aw P w K mg base cv 1 "_law_cells" 1 (cZ):=
 aJ (N:=g9) (ps:=o5) T gy (λ_ _ _ _ _ _ us hl=>match us,hl with | [_],_=>rfl) λ_ _ _ _ _ _ hr=>
  (aj (aF gy.nd rfl (.inl rfl) (du ah)) (aj (bT (bx XI rfl (cf rfl B.range (aa (bP rfl B.len (aa (af (pv 0)) ah)) ah)) (aS gy.nd rfl (.inr rfl)) bC (aV (ar (aF gy.nd rfl (.inl rfl) (p6 (af (pv 1)) (dz (tn:=["_law_column"]) (n:=0) (bA (N:=g9) (osc:=(ai h9)) rfl rfl (by decide+kernel)) rfl rfl (cf rfl B.range (aa (bP rfl B.len (aa (bf (af (pv 0)) aq) ah)) ah)) (λ_ _ _ _ _ _ _=>cJ (show YF (((["_law_column"]:List Str))++cT ["_law_column"] g9) by decide+kernel) rfl rfl) (λ_ _ _ _ _ _=>cz) (λ_ _ _ _ _ _=>(bQ (aa (af (pv 3)) (aa (af (pv 0)) ah))))))))))) (ar (aK (af (pv 1))))))
abbrev jl:Stmt:=top 47
def mh:List Str:=["_law_board_here","_law_cell_here","_law_ways","_law_found","_law_down","_law_right","_law_row","_law_column","_law_inside"]
def mx:List Str:=["_law_board_here","_law_cell_here","_law_ways"]
theorem cO:FnScope mh mx (ai jl):=dm
theorem s_(B:Bl K mg base cv cA Cp)(T:bJ K mg "_law_beside" jl f):aw P w K mg base cv 1 "_law_beside" 3 (dU):=
 aJ (N:=mh) (ps:=mx) T cO (λ_ _ _ _ _ _ us hl=>match us,hl with | [_,_,_],_=>rfl) λ_ _ _ _ _ _ hr=>
  (aj (gp cO.nd rfl (.inl rfl)) (aj (bT (bx XI rfl (kC (bQ (aa (lC aq) (aa aq (aa aq ah))))) (aS cO.nd rfl (.inl rfl)) bC (aV (ar (bx XI rfl (kC (bQ (aa (lC aq) (aa aq (aa aq ah))))) (aS cO.nd rfl (.inl rfl)) bC (aV (aj (aF cO.nd rfl (.inl rfl) (cG (bf (af (pv 1)) aq) (af (pv 4)))) (aj (aF cO.nd rfl (.inl rfl) (cG (bf (af (pv 1)) aq) (af (pv 5)))) (aj (aF cO.nd rfl (.inl rfl) (wK (GJ oW GD aq (af (pv 6)) (bP rfl B.len (aa (af (pv 0)) ah))) (Bb (GJ oW GD aq (af (pv 7)) (bP rfl B.len (aa (bf (af (pv 0)) aq) ah)))))) (ar (b6 (PDW.t (mH (fg (af (pv 8))) (mH (mJ hr.units (bQ (aa (af (pv 4)) (aa (af (pv 5)) ah))) (bQ (aa aq (aa aq ah)))) (rK (PDW.t (jj (kW hr.units (af (pv 2)) aq) (gm (kW hr.units (j4 (af (pv 4)) (af (pv 5))) aq)))))))) (ar (gn (pv 3) (bQ (aa (af (pv 6)) (aa (af (pv 7)) ah))))) bz))))))))))) (ar (de (i:=3) (aK (af (pv 3)))))))
abbrev ik:Stmt:=top 50
def kN:List Str:=["_law_e","_law_flags"]
def kS:List Str:=["_law_e"]
theorem fq:FnScope kN kS (ai ik):=dm
theorem rl(B:Bl K mg base cv cA Cp)(T:bJ K mg "_law_refused" ik f):pU P w K mg base cv 1 "_law_refused" 1 (bV K cA):=
 Aa (N:=kN) (ps:=kS) T fq (λ_ _ _ _ _ _ us hl=>match us,hl with | [_],_=>rfl) λcg A outer s H hr=>
  (aj (aF fq.nd rfl (.inl rfl) (du (aa (j3 B.exs rfl B.isinstance rfl (aa (af (pv 0)) (aa (jh rfl (B.cls 0 "NoBoard" rfl)) ah))) (aa (j3 B.exs rfl B.isinstance rfl (aa (af (pv 0)) (aa (jh rfl (B.cls 1 "NoWays" rfl)) ah))) (aa (j3 B.exs rfl B.isinstance rfl (aa (af (pv 0)) (aa (jh rfl (B.cls 2 "NoCell" rfl)) ah))) ah))))) (aj (aF fq.nd rfl (.inl rfl) (p6 (af (pv 1)) (du (aa (j3 B.exs rfl B.isinstance rfl (aa (af (pv 0)) (aa (jh rfl (B.cls 3 "NoLetter" rfl)) ah))) (aa (j3 B.exs rfl B.isinstance rfl (aa (af (pv 0)) (aa (jh rfl (B.cls 4 "NoNumber" rfl)) ah))) (aa (j3 B.exs rfl B.isinstance rfl (aa (af (pv 0)) (aa (jh rfl (B.cls 5 "NoFit" rfl)) ah))) ah)))))) (aj (aF fq.nd rfl (.inl rfl) (p6 (af (pv 1)) (du (aa (j3 B.exs rfl B.isinstance rfl (aa (af (pv 0)) (aa (jh rfl (B.cls 6 "Nothing" rfl)) ah))) ah)))) (aj (b6 (PDW.t (jj (mJ hr.units (MN (af (pv 1)) (aa gc ah)) aq) (gm (fP (fg (j3 B.exs rfl B.isinstance rfl (aa (af (pv 0)) (aa (uM rfl B.ValueError rfl) ah)))))))) (ar (aK (bQ (aa dP (aa (lC aq) ah))))) bz) (ar (aK (bQ (aa dP (aa (MO (af (pv 1)) (aa gc ah)) ah)))))))))
abbrev gu:Stmt:=top 52
def gj:List Str:=["_law_one","_law_other","_law_found","_law_row","_law_column"]
def mz:List Str:=["_law_one","_law_other"]
theorem el:FnScope gj mz (ai gu):=dm
theorem th(B:Bl K mg base cv cA Cp)(T:bJ K mg "_law_shared" gu f):aw P w K mg base cv 1 "_law_shared" 2 (eX):=
 aJ (N:=gj) (ps:=mz) T el (λ_ _ _ _ _ _ us hl=>match us,hl with | [_,_],_=>rfl) λ_ _ _ _ _ _ hr=>
  (aj (aF el.nd rfl (.inl rfl) aq) (aj (bT (bx XI rfl (bN (af (pv 0))) (nW rfl (df (aS el.nd rfl (.inr rfl)) (df (aS el.nd rfl (.inr rfl)) kD))) (mL (is:=[3,4])) (aV (ar (aF el.nd rfl (.inl rfl) (cG (af (pv 2)) (bP rfl B.len (aa (dz (tn:=["_law_cell_here"]) (n:=0) (bA (N:=gj) (osc:=(ai gu)) rfl rfl (by decide+kernel)) rfl rfl (bN (af (pv 1))) (λ_ _ _ _ _ _ _=>cJ (show YF (((["_law_cell_here"]:List Str))++cT ["_law_cell_here"] gj) by decide+kernel) rfl rfl) (λ_ _ _ _ _ _=>(sq (kW hr.units (cG (wJ rfl B.abs (aa (lD (bf (af (pv 0)) aq) (af (pv 4))) ah) rfl) (wJ rfl B.abs (aa (lD (bf (af (pv 0)) aq) (af (pv 5))) ah) rfl)) aq))) (λ_ _ _ _ _ _=>(af (pv 0)))) ah)))))))) (ar (aK (af (pv 2))))))
abbrev mT:Stmt:=top 15
def mf:List Str:=["thing"]
def zb:List Str:=["thing"]
theorem Ei:FnScope mf zb (ai mT):=dm
theorem D4(B:Bl K mg base cv cA Cp)(xV:aw P w K mg base cv 1 "is_letter" 1 dI)(T:bJ K mg "is_row" mT f):aw P w K mg base cv 2 "is_row" 1 (gF):=
 aJ (N:=mf) (ps:=zb) T Ei (λ_ _ _ _ _ _ us hl=>match us,hl with | [_],_=>rfl) λ_ _ _ _ _ _ hr=>
  (aj (b6 (PDW.t (jj (fP (fg (rG rfl B.isinstance rfl (aa (af (pv 0)) (aa (uM rfl B.str rfl) ah))))) (gm (fP (Be oW oW aq (bP rfl B.len (aa (af (pv 0)) ah)) (wN rfl B.MOST_COLUMNS)))))) (ar (aK gc)) bz) (ar (aK (A_ rfl rfl B.all rfl (aa (dz (tn:=["sign"]) (n:=0) (bA (N:=mf) (osc:=(ai mT)) rfl rfl (by decide+kernel)) rfl rfl (JI (af (pv 0))) (λ_ _ _ _ _ _ _=>cJ (show YF (((["sign"]:List Str))++cT ["sign"] mf) by decide+kernel) rfl rfl) (λ_ _ _ _ _ _=>cz) (λ_ _ _ _ _ _=>(bH xV (mR hr) rfl cU (aa (af (pv 0)) ah) rfl))) ah)))))
abbrev kf:Stmt:=top 18
def oO:List Str:=["thing"]
def o8:List Str:=["thing"]
theorem xa:FnScope oO o8 (ai kf):=dm
theorem wG(B:Bl K mg base cv cA Cp)(k_:aw P w K mg base cv 1 "is_whole" 1 fF)(T:bJ K mg "need_ways" kf f):aw P w K mg base cv 2 "need_ways" 1 (gX):=
 aJ (N:=oO) (ps:=o8) T xa (λ_ _ _ _ _ _ us hl=>match us,hl with | [_],_=>rfl) λ_ _ _ _ _ _ hr=>
  (ar (b6 (PDW.t (jj (fP (fg (bH k_ (mR hr) rfl b9 (aa (af (pv 0)) ah) rfl))) (gm (Eg (af (pv 0)) (bQ (aa aq (aa aq ah))))))) (ar (nY B.own1 aaE rfl rfl (B.cvE 1) Gd (aa dP ah))) bz))
abbrev j8:Stmt:=top 20
def oH:List Str:=["board","found","row"]
def oY:List Str:=["board"]
theorem jt:FnScope oH oY (ai j8):=dm
theorem wy(B:Bl K mg base cv cA Cp)(gE:aw P w K mg base cv 1 "cells_of_row" 2 bK)(T:bJ K mg "all_cells" j8 f):aw P w K mg base cv 2 "all_cells" 1 (cX):=
 aJ (N:=oH) (ps:=oY) T jt (λ_ _ _ _ _ _ us hl=>match us,hl with | [_],_=>rfl) λ_ _ _ _ _ _ hr=>
  (aj (gp jt.nd rfl (.inl rfl)) (aj (bT (bx XI rfl (cf rfl B.range (aa (bP rfl B.len (aa (af (pv 0)) ah)) ah)) (aS jt.nd rfl (.inl rfl)) bC (aV (ar (JS (pv 1) (bH gE (mR hr) rfl cU (aa (af (pv 0)) (aa (af (pv 2)) ah)) rfl)))))) (ar (de (i:=1) (aK (af (pv 1)))))))
abbrev jq:Stmt:=top 23
def ml:List Str:=["board","cell","ways","found","row","column"]
def mE:List Str:=["board","cell","ways"]
theorem fR:FnScope ml mE (ai jq):=dm
theorem tw(B:Bl K mg base cv cA Cp)(z7:aw P w K mg base cv 1 "are_next" 3 eC)(T:bJ K mg "next_cells" jq f):aw P w K mg base cv 2 "next_cells" 3 (bM):=
 aJ (N:=ml) (ps:=mE) T fR (λ_ _ _ _ _ _ us hl=>match us,hl with | [_,_,_],_=>rfl) λ_ _ _ _ _ _ hr=>
  (aj (gp fR.nd rfl (.inl rfl)) (aj (bT (bx XI rfl (rJ rfl B.range (aa (Ba rfl rfl B.max rfl (aa (lD (bf (af (pv 1)) aq) aq) (aa aq ah))) (aa (GL rfl rfl B.min rfl (aa (cG (bf (af (pv 1)) aq) aq) (aa (bP rfl B.len (aa (af (pv 0)) ah)) ah))) ah))) (aS fR.nd rfl (.inl rfl)) bC (aV (ar (bx XI rfl (rJ rfl B.range (aa (Ba rfl rfl B.max rfl (aa (lD (bf (af (pv 1)) aq) aq) (aa aq ah))) (aa (GL rfl rfl B.min rfl (aa (cG (bf (af (pv 1)) aq) aq) (aa (bP rfl B.len (aa (bf (af (pv 0)) aq) ah)) ah))) ah))) (aS fR.nd rfl (.inl rfl)) bC (aV (ar (b6 (fg (bH z7 (mR hr) rfl cU (aa (af (pv 1)) (aa (bQ (aa (af (pv 4)) (aa (af (pv 5)) ah))) (aa (af (pv 2)) ah))) rfl)) (ar (gn (pv 3) (bQ (aa (af (pv 4)) (aa (af (pv 5)) ah))))) bz)))))))) (ar (de (i:=3) (aK (af (pv 3)))))))
abbrev fk:Stmt:=top 25
def fb:List Str:=["board","some","letter","marked","told","row","places"]
def j1:List Str:=["board","some","letter"]
theorem dg:FnScope fb j1 (ai fk):=dm
theorem pM(B:Bl K mg base cv cA Cp)(vi:aw P w K mg base cv 1 "keyed" 1 i7)(gE:aw P w K mg base cv 1 "cells_of_row" 2 bK)(eJ:aw P w K mg base cv 1 "letter_of" 2 bh)(T:bJ K mg "with_letters" fk f):aw P w K mg base cv 2 "with_letters" 3 (cS):=
 aJ (N:=fb) (ps:=j1) T dg (λ_ _ _ _ _ _ us hl=>match us,hl with | [_,_,_],_=>rfl) λ_ _ _ _ _ _ hr=>
  (aj (aF dg.nd rfl (.inr rfl) (bH vi (mR hr) rfl b9 (aa (af (pv 1)) ah) rfl)) (aj (gp dg.nd rfl (.inl rfl)) (aj (bT (bx XI rfl (cf rfl B.range (aa (bP rfl B.len (aa (af (pv 0)) ah)) ah)) (aS dg.nd rfl (.inl rfl)) bC (aV (aj (aF dg.nd rfl (.inl rfl) (bH gE (mR hr) rfl cU (aa (af (pv 0)) (aa (af (pv 5)) ah)) rfl)) (ar (gn (pv 4) (wO dP (aa (dz (tn:=["cell"]) (n:=0) (bA (N:=fb) (osc:=(ai fk)) rfl rfl (by decide+kernel)) rfl rfl (bN (af (pv 6))) (λ_ _ _ _ _ _ _=>cJ (show YF (((["cell"]:List Str))++cT ["cell"] fb) by decide+kernel) rfl rfl) (λ_ _ _ _ _ _=>cz) (λ_ _ _ _ _ _=>(K8 (Nb hr.units (af (pv 0)) (af (pv 4))) (af (pv 3)) (bH eJ (mR hr) rfl cU (aa (af (pv 1)) (aa (af (pv 0)) ah)) rfl)))) ah)))))))) (ar (de (i:=4) (aK (GP rfl B.tuple rfl (aa (af (pv 4)) ah))))))))
abbrev kc:Stmt:=top 44
def oM:List Str:=["_law_script","_law_k","_law_many","_law_cell_here"]
def o6:List Str:=["_law_script","_law_k","_law_many"]
theorem ju:FnScope oM o6 (ai kc):=dm
theorem wD(B:Bl K mg base cv cA Cp)(z9:aw P w K mg base cv 1 "_law_cell" 2 gG)(T:bJ K mg "_law_drawn" kc f):aw P w K mg base cv 2 "_law_drawn" 3 (aP):=
 aJ (N:=oM) (ps:=o6) T ju (λ_ _ _ _ _ _ us hl=>match us,hl with | [_,_,_],_=>rfl) λ_ _ _ _ _ _ hr=>
  (aj (aF ju.nd rfl (.inl rfl) (nV (cG (j4 (nV (bH z9 (mR hr) rfl b9 (aa (af (pv 0)) (aa (af (pv 1)) ah)) rfl) aq) aq) (j4 aq (cG (af (pv 1)) aq))) aq)) (aj (aF ju.nd rfl (.inl rfl) (nV (cG (j4 (af (pv 3)) (af (pv 3))) (wL (af (pv 3)) aq)) aq)) (ar (aK (nV (wL (nV (cG (j4 (af (pv 3)) (af (pv 3))) (wL (af (pv 3)) aq)) aq) aq) (af (pv 2)))))))
abbrev gr:Stmt:=top 48
def gi:List Str:=["_law_board_here","_law_ways","_law_found","_law_pairs","_law_cell_here","_law_there","_law_mine","_law_changed","_law_one","_law_other","_law_least"]
def my:List Str:=["_law_board_here","_law_ways"]
theorem bp:FnScope gi my (ai gr):=dm
theorem tf(B:Bl K mg base cv cA Cp)(gW:aw P w K mg base cv 1 "_law_cells" 1 cZ)(vj:aw P w K mg base cv 1 "_law_beside" 3 dU)(T:bJ K mg "_law_labels" gr f):aw P w K mg base cv 2 "_law_labels" 2 (gf):=
 aJ (N:=gi) (ps:=my) T bp (λ_ _ _ _ _ _ us hl=>match us,hl with | [_,_],_=>rfl) λ_ _ _ _ _ _ hr=>
  (aj (rN bp.nd rfl (.inl rfl) (GQ hr.units rfl rfl B.dict rfl (aa (dz (tn:=["_law_cell_here"]) (n:=0) (bA (N:=gi) (osc:=(ai gr)) rfl rfl (by decide+kernel)) rfl rfl (bN (bH gW (mR hr) rfl b9 (aa (af (pv 0)) ah) rfl)) (λ_ _ _ _ _ _ _=>cJ (show YF (((["_law_cell_here"]:List Str))++cT ["_law_cell_here"] gi) by decide+kernel) rfl rfl) (λ_ _ _ _ _ _=>cz) (λ_ _ _ _ _ _=>(bQ (aa (af (pv 0)) (aa (af (pv 0)) ah))))) ah))) (aj (gp bp.nd rfl (.inl rfl)) (aj (bT (bx XI rfl (bN (bH gW (mR hr) rfl cU (aa (af (pv 0)) ah) rfl)) (aS bp.nd rfl (.inl rfl)) bC (aV (ar (bx XI rfl (bN (bH vj (mR hr) rfl cU (aa (af (pv 0)) (aa (af (pv 4)) (aa (af (pv 1)) ah))) rfl)) (aS bp.nd rfl (.inl rfl)) bC (aV (aj (aF bp.nd rfl (.inl rfl) (nU (bf (af (pv 0)) (bf (af (pv 4)) aq)) (bf (af (pv 4)) aq))) (ar (b6 (PDW.t (mH (Ng hr.units (af (pv 4)) (af (pv 5))) (rK (kW hr.units (af (pv 6)) (nU (bf (af (pv 0)) (bf (af (pv 5)) aq)) (bf (af (pv 5)) aq)))))) (ar (gn (pv 3) (bQ (aa (af (pv 4)) (aa (af (pv 5)) ah))))) bz))))))))) (aj (aF bp.nd rfl (.inl rfl) gc) (aj (bT (kE XI (fg (af (pv 7))) (aV (aj (aF bp.nd rfl (.inl rfl) gc) (ar (de (i:=3) (bx XI rfl (bN (af (pv 3))) (nW rfl (df (aS bp.nd rfl (.inl rfl)) (df (aS bp.nd rfl (.inl rfl)) kD))) (mL (is:=[8,9])) (aV (ar (b6 (wQ (mJ hr.units (gO hr.units (af (pv 2)) (af (pv 8))) (gO hr.units (af (pv 2)) (af (pv 9))))) (aj (aF bp.nd rfl (.inl rfl) (K9 (JE hr.units rfl rfl B.min rfl (aa (gO hr.units (af (pv 2)) (af (pv 8))) (aa (gO hr.units (af (pv 2)) (af (pv 9))) ah))))) (aj (gP hr.units (pv 2) (af (pv 8)) (af (pv 10))) (aj (gP hr.units (pv 2) (af (pv 9)) (af (pv 10))) (ar (aF bp.nd rfl (.inl rfl) gc))))) bz)))))))))) (ar (de (i:=2) (aK (af (pv 2))))))))))
abbrev gQ:Stmt:=top 16
def fJ:List Str:=["thing"]
def rp:List Str:=["thing"]
theorem zv:FnScope fJ rp (ai gQ):=dm
theorem y0(B:Bl K mg base cv cA Cp)(ET:aw P w K mg base cv 2 "is_row" 1 gF)(T:bJ K mg "is_board" gQ f):aw P w K mg base cv 3 "is_board" 1 (i6):=
 aJ (N:=fJ) (ps:=rp) T zv (λ_ _ _ _ _ _ us hl=>match us,hl with | [_],_=>rfl) λ_ _ _ _ _ _ hr=>
  (aj (b6 (PDW.t (jj (fP (fg (rG rfl B.isinstance rfl (aa (af (pv 0)) (aa (uM rfl B.tuple rfl) ah))))) (gm (fP (Be oW oW aq (bP rfl B.len (aa (af (pv 0)) ah)) (wN rfl B.MOST_ROWS)))))) (ar (aK gc)) bz) (aj (b6 (fP (fg (A_ rfl rfl B.all rfl (aa (dz (tn:=["row"]) (n:=0) (bA (N:=fJ) (osc:=(ai gQ)) rfl rfl (by decide+kernel)) rfl rfl (kC (af (pv 0))) (λ_ _ _ _ _ _ _=>cJ (show YF (((["row"]:List Str))++cT ["row"] fJ) by decide+kernel) rfl rfl) (λ_ _ _ _ _ _=>cz) (λ_ _ _ _ _ _=>(bH ET (mR hr) rfl cU (aa (af (pv 0)) ah) rfl))) ah)))) (ar (aK gc)) bz) (ar (aK (A_ rfl rfl B.all rfl (aa (dz (tn:=["row"]) (n:=0) (bA (N:=fJ) (osc:=(ai gQ)) rfl rfl (by decide+kernel)) rfl rfl (kC (af (pv 0))) (λ_ _ _ _ _ _ _=>cJ (show YF (((["row"]:List Str))++cT ["row"] fJ) by decide+kernel) rfl rfl) (λ_ _ _ _ _ _=>cz) (λ_ _ _ _ _ _=>(ze hr.units (bP rfl B.len (aa (af (pv 0)) ah)) (bP rfl B.len (aa (bf (af (pv 1)) aq) ah))))) ah))))))
abbrev gw:Stmt:=top 27
def gk:List Str:=["board","cell","ways","letter"]
def mB:List Str:=["board","cell","ways"]
theorem kX:FnScope gk mB (ai gw):=dm
theorem tm(B:Bl K mg base cv cA Cp)(eJ:aw P w K mg base cv 1 "letter_of" 2 bh)(iY:aw P w K mg base cv 2 "next_cells" 3 bM)(T:bJ K mg "like_cells" gw f):aw P w K mg base cv 3 "like_cells" 3 (da):=
 aJ (N:=gk) (ps:=mB) T kX (λ_ _ _ _ _ _ us hl=>match us,hl with | [_,_,_],_=>rfl) λ_ _ _ _ _ _ hr=>
  (aj (aF kX.nd rfl (.inr rfl) (bH eJ (mR hr) rfl b9 (aa (af (pv 0)) (aa (af (pv 1)) ah)) rfl)) (ar (aK (dz (tn:=["near"]) (n:=0) (bA (N:=gk) (osc:=(ai gw)) rfl rfl (by decide+kernel)) rfl rfl (bN (bH iY (mR hr) rfl b9 (aa (af (pv 0)) (aa (af (pv 1)) (aa (af (pv 2)) ah))) rfl)) (λ_ _ _ _ _ _ _=>cJ (show YF (((["near"]:List Str))++cT ["near"] gk) by decide+kernel) rfl rfl) (λ_ _ _ _ _ _=>(sq (kW hr.units (bH eJ (mR hr) rfl cU (aa (af (pv 1)) (aa (af (pv 0)) ah)) rfl) (af (pv 4))))) (λ_ _ _ _ _ _=>(af (pv 0)))))))
abbrev gT:Stmt:=top 32
def jT:List Str:=["board","found","numbers","shared","cell","near","pair"]
def j0:List Str:=["board","found"]
theorem cH:FnScope jT j0 (ai gT):=dm
theorem pL(B:Bl K mg base cv cA Cp)(vq:aw P w K mg base cv 1 "numbers_of" 1 gh)(jF:aw P w K mg base cv 2 "all_cells" 1 cX)(iY:aw P w K mg base cv 2 "next_cells" 3 bM)(T:bJ K mg "shared_sides" gT f):aw P w K mg base cv 3 "shared_sides" 2 (cR):=
 aJ (N:=jT) (ps:=j0) T cH (λ_ _ _ _ _ _ us hl=>match us,hl with | [_,_],_=>rfl) λ_ _ _ _ _ _ hr=>
  (aj (aF cH.nd rfl (.inl rfl) (bH vq (mR hr) rfl b9 (aa (af (pv 1)) ah) rfl)) (aj (j5 cH.nd rfl (.inl rfl)) (aj (bT (bx XI rfl (bN (bH jF (mR hr) rfl cU (aa (af (pv 0)) ah) rfl)) (aS cH.nd rfl (.inl rfl)) bC (aV (ar (bx XI rfl (bN (bH iY (mR hr) rfl cU (aa (af (pv 0)) (aa (af (pv 4)) (aa aq ah))) rfl)) (aS cH.nd rfl (.inl rfl)) bC (aV (ar (b6 (G4 (gO hr.units (af (pv 2)) (af (pv 4))) (gO hr.units (af (pv 2)) (af (pv 5)))) (aj (aF cH.nd rfl (.inl rfl) (bQ (aa (gO hr.units (af (pv 2)) (af (pv 4))) (aa (gO hr.units (af (pv 2)) (af (pv 5))) ah)))) (ar (gP hr.units (pv 3) (af (pv 6)) (K9 (cG (Cs hr.units (af (pv 3)) (af (pv 6)) aq ⟨rfl,rfl,rfl,rfl⟩) aq))))) bz)))))))) (ar (de (i:=3) (aK (af (pv 3))))))))
abbrev h7:Stmt:=top 45
def g8:List Str:=["_law_script","_law_at","_law_most","_law_rows","_law_wide","_law_alphabet","_law_found","_law_row","_law_signs"]
def o4:List Str:=["_law_script","_law_at","_law_most"]
theorem cI:FnScope g8 o4 (ai h7):=dm
theorem wB(B:Bl K mg base cv cA Cp)(aX:aw P w K mg base cv 2 "_law_drawn" 3 aP)(T:bJ K mg "_law_board" h7 f):aw P w K mg base cv 3 "_law_board" 3 (dJ):=
 aJ (N:=g8) (ps:=o4) T cI (λ_ _ _ _ _ _ us hl=>match us,hl with | [_,_,_],_=>rfl) λ_ _ _ _ _ _ hr=>
  (aj (aF cI.nd rfl (.inl rfl) (cG aq (bH aX (mR hr) rfl b9 (aa (af (pv 0)) (aa (af (pv 1)) (aa (af (pv 2)) ah))) rfl))) (aj (aF cI.nd rfl (.inl rfl) (cG aq (bH aX (mR hr) rfl b9 (aa (af (pv 0)) (aa (cG (af (pv 1)) aq) (aa (af (pv 2)) ah))) rfl))) (aj (aF cI.nd rfl (.inr rfl) (dq (du (aa dP (aa dP (aa dP (aa dP ah))))) (bH aX (mR hr) rfl b9 (aa (af (pv 0)) (aa (cG (af (pv 1)) aq) (aa aq ah))) rfl))) (aj (aF cI.nd rfl (.inl rfl) (bQ ah)) (aj (bT (bx XI rfl (cf rfl B.range (aa (af (pv 3)) ah)) (aS cI.nd rfl (.inr rfl)) bC (aV (aj (g_ (tn:=["_law_k"]) (n:=0) cI.nd rfl (.inl rfl) (bA (N:=g8) (osc:=(ai h7)) rfl rfl (by decide+kernel)) rfl rfl (cf rfl B.range (aa (af (pv 4)) ah)) (λ_ _ _ _ _ _ _=>cJ (show YF (((["_law_k"]:List Str))++cT ["_law_k"] g8) by decide+kernel) rfl rfl) (λ_ _ _ _ _ _=>cz) (λ_ _ _ _ _ _=>(nU (af (pv 6)) (bH aX (mR hr) rfl cU (aa (af (pv 1)) (aa (cG (cG (cG (af (pv 2)) aq) (j4 aq (af (pv 8)))) (af (pv 0))) (aa (bP rfl B.len (aa (af (pv 6)) ah)) ah))) rfl)))) (ar (aF cI.nd rfl (.inl rfl) (Cr (af (pv 6)) (bQ (aa (wO dP (aa (af (pv 8)) ah)) ah))))))))) (ar (aK (af (pv 6)))))))))
abbrev fQ:Stmt:=top 49
def fO:List Str:=["_law_board_here","_law_ways","_law_labels_here","_law_rows","_law_cell_here"]
def kR:List Str:=["_law_board_here","_law_ways"]
theorem fo:FnScope fO kR (ai fQ):=dm
theorem rk(B:Bl K mg base cv cA Cp)(vk:aw P w K mg base cv 2 "_law_labels" 2 gf)(gW:aw P w K mg base cv 1 "_law_cells" 1 cZ)(T:bJ K mg "_law_patches" fQ f):aw P w K mg base cv 3 "_law_patches" 2 (dh):=
 aJ (N:=fO) (ps:=kR) T fo (λ_ _ _ _ _ _ us hl=>match us,hl with | [_,_],_=>rfl) λ_ _ _ _ _ _ hr=>
  (aj (aF fo.nd rfl (.inl rfl) (bH vk (mR hr) rfl b9 (aa (af (pv 0)) (aa (af (pv 1)) ah)) rfl)) (aj (j5 fo.nd rfl (.inr rfl)) (aj (bT (bx XI rfl (bN (bH gW (mR hr) rfl cU (aa (af (pv 0)) ah) rfl)) (aS fo.nd rfl (.inl rfl)) bC (aV (ar (gP hr.units (pv 3) (gO hr.units (af (pv 2)) (af (pv 4))) (Pt (p6 (Cs hr.units (af (pv 3)) (gO hr.units (af (pv 2)) (af (pv 4))) (du ah) ⟨rfl,rfl,rfl,rfl⟩) (du (aa (af (pv 4)) ah))))))))) (ar (de (i:=3) (aK (dz (tn:=["_law_first"]) (n:=0) (bA (N:=fO) (osc:=(ai fQ)) rfl rfl (by decide+kernel)) rfl rfl (bN (Cv rfl rfl B.sorted rfl (aa (af (pv 3)) ah))) (λ_ _ _ _ _ _ _=>cJ (show YF (((["_law_first"]:List Str))++cT ["_law_first"] fO) by decide+kernel) rfl rfl) (λ_ _ _ _ _ _=>cz) (λ_ _ _ _ _ _=>(gO hr.units (af (pv 4)) (af (pv 0)))))))))))
abbrev jo:Stmt:=top 17
def mj:List Str:=["thing"]
def mD:List Str:=["thing"]
theorem tF:FnScope mj mD (ai jo):=dm
theorem tu(B:Bl K mg base cv cA Cp)(z8:aw P w K mg base cv 3 "is_board" 1 i6)(T:bJ K mg "need_board" jo f):aw P w K mg base cv 4 "need_board" 1 (eZ):=
 aJ (N:=mj) (ps:=mD) T tF (λ_ _ _ _ _ _ us hl=>match us,hl with | [_],_=>rfl) λ_ _ _ _ _ _ hr=>
  (ar (b6 (fP (fg (bH z8 (mR hr) rfl b9 (aa (af (pv 0)) ah) rfl))) (ar (nY B.own0 aaE rfl rfl (B.cvE 0) Gd (aa dP ah))) bz))
abbrev js:Stmt:=top 28
def mq:List Str:=["board","start","ways","back","ring","further","cell","near"]
def mG:List Str:=["board","start","ways"]
theorem cQ:FnScope mq mG (ai js):=dm
theorem tE(B:Bl K mg base cv cA Cp)(vn:aw P w K mg base cv 3 "like_cells" 3 da)(T:bJ K mg "steps_back" js f):aw P w K mg base cv 4 "steps_back" 3 (dW):=
 aJ (N:=mq) (ps:=mG) T cQ (λ_ _ _ _ _ _ us hl=>match us,hl with | [_,_,_],_=>rfl) λ_ _ _ _ _ _ hr=>
  (aj (rN cQ.nd rfl (.inl rfl) (Eb hr.units (af (pv 1)) ji)) (aj (aF cQ.nd rfl (.inl rfl) (du (aa (af (pv 1)) ah))) (aj (bT (kE XI (fg (af (pv 4))) (aV (aj (gp cQ.nd rfl (.inl rfl)) (aj (bx XI rfl (bN (af (pv 4))) (aS cQ.nd rfl (.inl rfl)) bC (aV (ar (bx XI rfl (bN (bH vn (mR hr) rfl cU (aa (af (pv 0)) (aa (af (pv 6)) (aa (af (pv 2)) ah))) rfl)) (aS cQ.nd rfl (.inl rfl)) bC (aV (ar (b6 (wQ (uO hr.units (af (pv 7)) (af (pv 3)))) (aj (gP hr.units (pv 3) (af (pv 7)) (af (pv 6))) (ar (gn (pv 5) (af (pv 7))))) bz))))))) (ar (de (i:=5) (aF cQ.nd rfl (.inl rfl) (af (pv 5)))))))))) (ar (de (i:=3) (aK (af (pv 3))))))))
abbrev jm:Stmt:=top 36
def mi:List Str:=["board","found","number","choices","pair","sides","other"]
def mC:List Str:=["board","found","number"]
theorem er:FnScope mi mC (ai jm):=dm
theorem tq(B:Bl K mg base cv cA Cp)(qe:aw P w K mg base cv 3 "shared_sides" 2 cR)(T:bJ K mg "melts_into" jm f):aw P w K mg base cv 4 "melts_into" 3 (eY):=
 aJ (N:=mi) (ps:=mC) T er (λ_ _ _ _ _ _ us hl=>match us,hl with | [_,_,_],_=>rfl) λ_ _ _ _ _ _ hr=>
  (aj (gp er.nd rfl (.inl rfl)) (aj (bT (bx XI rfl (Ed (bH qe (mR hr) rfl cU (aa (af (pv 0)) (aa (af (pv 1)) ah)) rfl)) (nW rfl (df (aS er.nd rfl (.inl rfl)) (df (aS er.nd rfl (.inl rfl)) kD))) (mL (is:=[4,5])) (aV (ar (b6 (Nc (af (pv 2)) (af (pv 4))) (aj (aF er.nd rfl (.inl rfl) (lD (cG (bf (af (pv 4)) aq) (bf (af (pv 4)) aq)) (af (pv 2)))) (ar (gn (pv 3) (bQ (aa (lC (af (pv 5))) (aa (lC (bP rfl B.len (aa (dq (af (pv 1)) (af (pv 6))) ah))) (aa (af (pv 6)) ah))))))) bz))))) (ar (de (i:=3) (aK (bf (GN hr.units rfl rfl B.min rfl (aa (af (pv 3)) ah)) aq))))))
abbrev gR:Stmt:=top 53
def fK:List Str:=["_law_board_here","_law_ways","_law_least","_law_rows","_law_small","_law_own","_law_number","_law_best","_law_row","_law_mark","_law_cell_here","_law_letter","_law_found","_law_signs"]
def rB:List Str:=["_law_board_here","_law_ways","_law_least"]
theorem a8:FnScope fK rB (ai gR):=dm
theorem y9(B:Bl K mg base cv cA Cp)(sM:aw P w K mg base cv 3 "_law_patches" 2 dh)(vm:aw P w K mg base cv 1 "_law_shared" 2 eX)(T:bJ K mg "_law_once" gR f):aw P w K mg base cv 4 "_law_once" 3 (bL):=
 aJ (N:=fK) (ps:=rB) T a8 (λ_ _ _ _ _ _ us hl=>match us,hl with | [_,_,_],_=>rfl) λ_ _ _ _ _ _ hr=>
  (aj (aF a8.nd rfl (.inr rfl) (bH sM (mR hr) rfl b9 (aa (af (pv 0)) (aa (af (pv 1)) ah)) rfl)) (aj (g_ (tn:=["_law_number","_law_row"]) (n:=2) a8.nd rfl (.inl rfl) (bA (N:=fK) (osc:=(ai gR)) rfl rfl (by decide+kernel)) rfl rfl (rH rfl B.enumerate (aa (af (pv 3)) ah)) (λ_ _ _ _ _ _ _=>NC (show YF (((["_law_number","_law_row"]:List Str))++cT ["_law_number","_law_row"] fK) by decide+kernel) rfl rfl rfl rfl rfl) (λ_ _ _ _ _ _=>(sq (G4 (bP rfl B.len (aa (af (pv 1)) ah)) (af (pv 4))))) (λ_ _ _ _ _ _=>(af (pv 0)))) (aj (b6 (PDW.t (jj (kW hr.units (af (pv 4)) (du ah)) (gm (kW hr.units (bP rfl B.len (aa (af (pv 3)) ah)) aq)))) (ar (aK ji)) bz) (aj (aF a8.nd rfl (.inr rfl) (dq (af (pv 4)) aq)) (aj (bT (bx XI rfl (bN (af (pv 4))) (aS a8.nd rfl (.inl rfl)) bC (aV (ar (b6 (G4 (bP rfl B.len (aa (dq (af (pv 3)) (af (pv 6))) ah)) (bP rfl B.len (aa (dq (af (pv 3)) (af (pv 5))) ah))) (ar (aF a8.nd rfl (.inr rfl) (af (pv 6)))) bz))))) (aj (aF a8.nd rfl (.inl rfl) ji) (aj (Cw (bT (bx XI rfl (rH rfl B.enumerate (aa (af (pv 3)) ah)) (nW rfl (df (aS a8.nd rfl (.inl rfl)) (df (aS a8.nd rfl (.inr rfl)) kD))) (mL (is:=[6,8])) (aV (aj (aF a8.nd rfl (.inl rfl) (bQ (aa (bH vm (mR hr) rfl cU (aa (dq (af (pv 3)) (af (pv 5))) (aa (af (pv 8)) ah)) rfl) (aa (bP rfl B.len (aa (af (pv 8)) ah)) ah)))) (ar (b6 (PDW.t (mH (mJ hr.units (af (pv 6)) (af (pv 5))) (mH (PF (bf (af (pv 9)) aq) aq) (rK (PDW.t (jj (Nf (af (pv 7)) ji) (gm (Na hr.units (af (pv 9)) (bf (af (pv 7)) aq))))))))) (ar (aF a8.nd rfl (.inl rfl) (bQ (aa (af (pv 9)) (aa (af (pv 6)) ah))))) bz))))))) (aj (aF a8.nd rfl (.inl rfl) (dq (dq (af (pv 3)) (bf (af (pv 7)) aq)) aq)) (aj (aF a8.nd rfl (.inr rfl) (nU (bf (af (pv 0)) (bf (af (pv 10)) aq)) (bf (af (pv 10)) aq))) (aj (aF a8.nd rfl (.inl rfl) (bQ ah)) (aj (Cw (bT (bx XI rfl (cf rfl B.range (aa (bP rfl B.len (aa (af (pv 0)) ah)) ah)) (aS a8.nd rfl (.inr rfl)) bC (aV (aj (g_ (tn:=["_law_k"]) (n:=0) a8.nd rfl (.inl rfl) (bA (N:=fK) (osc:=(ai gR)) rfl rfl (by decide+kernel)) rfl rfl (cf rfl B.range (aa (bP rfl B.len (aa (bf (af (pv 0)) aq) ah)) ah)) (λ_ _ _ _ _ _ _=>cJ (show YF (((["_law_k"]:List Str))++cT ["_law_k"] fK) by decide+kernel) rfl rfl) (λ_ _ _ _ _ _=>cz) (λ_ _ _ _ _ _=>(K8 (Nd hr.units (bQ (aa (af (pv 9)) (aa (af (pv 0)) ah))) (dq (af (pv 4)) (af (pv 6)))) (af (pv 12)) (nU (bf (af (pv 1)) (af (pv 9))) (af (pv 0)))))) (ar (aF a8.nd rfl (.inl rfl) (Cr (af (pv 12)) (bQ (aa (wO dP (aa (af (pv 13)) ah)) ah)))))))))) (ar (aK (af (pv 12)))))))))))))))
abbrev ij:Stmt:=top 29
def kM:List Str:=["board","ways","found","seen","cell","patch"]
def kQ:List Str:=["board","ways"]
theorem dQ:FnScope kM kQ (ai ij):=dm
theorem rj(B:Bl K mg base cv cA Cp)(jF:aw P w K mg base cv 2 "all_cells" 1 cX)(vv:aw P w K mg base cv 4 "steps_back" 3 dW)(vi:aw P w K mg base cv 1 "keyed" 1 i7)(T:bJ K mg "all_patches" ij f):aw P w K mg base cv 5 "all_patches" 2 (d_):=
 aJ (N:=kM) (ps:=kQ) T dQ (λ_ _ _ _ _ _ us hl=>match us,hl with | [_,_],_=>rfl) λ_ _ _ _ _ _ hr=>
  (aj (gp dQ.nd rfl (.inl rfl)) (aj (j5 dQ.nd rfl (.inl rfl)) (aj (bT (bx XI rfl (bN (bH jF (mR hr) rfl cU (aa (af (pv 0)) ah) rfl)) (aS dQ.nd rfl (.inl rfl)) bC (aV (ar (b6 (wQ (uO hr.units (af (pv 4)) (af (pv 3)))) (aj (aF dQ.nd rfl (.inl rfl) (Cv rfl rfl B.sorted rfl (aa (bH vv (mR hr) rfl cU (aa (af (pv 0)) (aa (af (pv 4)) (aa (af (pv 1)) ah))) rfl) ah))) (aj (gn (pv 2) (af (pv 5))) (ar (JU hr.units (pv 3) (bH vi (mR hr) rfl cU (aa (af (pv 5)) ah) rfl) ⟨rfl,rfl,rfl,rfl⟩)))) bz))))) (ar (de (i:=2) (aK (af (pv 2))))))))
abbrev gS:Stmt:=top 35
def jS:List Str:=["board","ways","least"]
def jZ:List Str:=["board","ways","least"]
theorem pQ:FnScope jS jZ (ai gS):=dm
theorem pK(B:Bl K mg base cv cA Cp)(vp:aw P w K mg base cv 4 "need_board" 1 eZ)(xW:aw P w K mg base cv 2 "need_ways" 1 gX)(k_:aw P w K mg base cv 1 "is_whole" 1 fF)(T:bJ K mg "need_melting" gS f):aw P w K mg base cv 5 "need_melting" 3 (a_):=
 aJ (N:=jS) (ps:=jZ) T pQ (λ_ _ _ _ _ _ us hl=>match us,hl with | [_,_,_],_=>rfl) λ_ _ _ _ _ _ hr=>
  (aj (mI (bH vp (mR hr) rfl b9 (aa (af (pv 0)) ah) rfl)) (aj (mI (bH xW (mR hr) rfl b9 (aa (af (pv 1)) ah) rfl)) (ar (b6 (PDW.t (jj (fP (fg (bH k_ (mR hr) rfl b9 (aa (af (pv 2)) ah) rfl))) (gm (fP (Be oW oW aq (af (pv 2)) (wN rfl B.GREATEST_LEAST)))))) (ar (nY B.own4 aaE rfl rfl (B.cvE 4) Gd (aa dP ah))) bz))))
abbrev hZ:Stmt:=top 37
def g7:List Str:=["board","ways","least","found","lengths","number","other"]
def oX:List Str:=["board","ways","least"]
theorem fm:FnScope g7 oX (ai hZ):=dm
theorem wx(B:Bl K mg base cv cA Cp)(sL:aw P w K mg base cv 5 "all_patches" 2 d_)(vo:aw P w K mg base cv 4 "melts_into" 3 eY)(qf:aw P w K mg base cv 2 "with_letters" 3 cS)(eJ:aw P w K mg base cv 1 "letter_of" 2 bh)(T:bJ K mg "after_one" hZ f):aw P w K mg base cv 6 "after_one" 3 (bw):=
 aJ (N:=g7) (ps:=oX) T fm (λ_ _ _ _ _ _ us hl=>match us,hl with | [_,_,_],_=>rfl) λ_ _ _ _ _ _ hr=>
  (aj (aF fm.nd rfl (.inl rfl) (bH sL (mR hr) rfl b9 (aa (af (pv 0)) (aa (af (pv 1)) ah)) rfl)) (aj (g_ (tn:=["patch"]) (n:=0) fm.nd rfl (.inl rfl) (bA (N:=g7) (osc:=(ai hZ)) rfl rfl (by decide+kernel)) rfl rfl (bN (af (pv 3))) (λ_ _ _ _ _ _ _=>cJ (show YF (((["patch"]:List Str))++cT ["patch"] g7) by decide+kernel) rfl rfl) (λ_ _ _ _ _ _=>cz) (λ_ _ _ _ _ _=>(bP rfl B.len (aa (af (pv 0)) ah)))) (aj (b6 (PDW.t (jj (kW hr.units (bP rfl B.len (aa (af (pv 3)) ah)) aq) (gm (PB (Cu rfl rfl B.min rfl (aa (af (pv 4)) ah)) (af (pv 2)))))) (ar (aK ji)) bz) (aj (aF fm.nd rfl (.inl rfl) (JC (af (pv 4)) (aa (Cu rfl rfl B.min rfl (aa (af (pv 4)) ah)) ah))) (aj (aF fm.nd rfl (.inl rfl) (bH vo (mR hr) rfl b9 (aa (af (pv 0)) (aa (af (pv 3)) (aa (af (pv 5)) ah))) rfl)) (ar (aK (bH qf (mR hr) rfl b9 (aa (af (pv 0)) (aa (dq (af (pv 3)) (af (pv 5))) (aa (bH eJ (mR hr) rfl b9 (aa (af (pv 0)) (aa (dq (dq (af (pv 3)) (af (pv 6))) aq) ah)) rfl) ah))) rfl))))))))
abbrev j9:Stmt:=top 38
def oJ:List Str:=["board","ways","least","told","now"]
def oZ:List Str:=["board","ways","least"]
theorem gx:FnScope oJ oZ (ai j9):=dm
theorem wz(B:Bl K mg base cv cA Cp)(jE:aw P w K mg base cv 6 "after_one" 3 bw)(T:bJ K mg "all_steps" j9 f):aw P w K mg base cv 7 "all_steps" 3 (cY):=
 aJ (N:=oJ) (ps:=oZ) T gx (λ_ _ _ _ _ _ us hl=>match us,hl with | [_,_,_],_=>rfl) λ_ _ _ _ _ _ hr=>
  (aj (gp gx.nd rfl (.inl rfl)) (aj (aF gx.nd rfl (.inl rfl) (af (pv 0))) (aj (bT (kE XI (Cy (af (pv 4)) ji) (aj (gn (pv 3) (af (pv 4))) (ar (aF gx.nd rfl (.inl rfl) (bH jE (mR hr) rfl cU (aa (af (pv 4)) (aa (af (pv 1)) (aa (af (pv 2)) ah))) rfl)))))) (ar (de (i:=3) (aK (af (pv 3))))))))
abbrev ip:Stmt:=top 39
def kP:List Str:=["board","ways","least"]
def kU:List Str:=["board","ways","least"]
theorem rZ:FnScope kP kU (ai ip):=dm
theorem rn(B:Bl K mg base cv cA Cp)(dH:aw P w K mg base cv 5 "need_melting" 3 a_)(jE:aw P w K mg base cv 6 "after_one" 3 bw)(T:bJ K mg "melted_once" ip f):aw P w K mg base cv 7 "melted_once" 3 (cK):=
 aJ (N:=kP) (ps:=kU) T rZ (λ_ _ _ _ _ _ us hl=>match us,hl with | [_,_,_],_=>rfl) λ_ _ _ _ _ _ hr=>
  (aj (mI (bH dH (mR hr) rfl b9 (aa (af (pv 0)) (aa (af (pv 1)) (aa (af (pv 2)) ah))) rfl)) (ar (aK (bH jE (mR hr) rfl b9 (aa (af (pv 0)) (aa (af (pv 1)) (aa (af (pv 2)) ah))) rfl))))
abbrev rX:Stmt:=top 40
def yO:List Str:=["board","ways","least"]
def zc:List Str:=["board","ways","least"]
theorem Ej:FnScope yO zc (ai rX):=dm
theorem D5(B:Bl K mg base cv cA Cp)(dH:aw P w K mg base cv 5 "need_melting" 3 a_)(jG:aw P w K mg base cv 7 "all_steps" 3 cY)(T:bJ K mg "melted" rX f):aw P w K mg base cv 8 "melted" 3 (gH):=
 aJ (N:=yO) (ps:=zc) T Ej (λ_ _ _ _ _ _ us hl=>match us,hl with | [_,_,_],_=>rfl) λ_ _ _ _ _ _ hr=>
  (aj (mI (bH dH (mR hr) rfl b9 (aa (af (pv 0)) (aa (af (pv 1)) (aa (af (pv 2)) ah))) rfl)) (ar (aK (dq (bH jG (mR hr) rfl b9 (aa (af (pv 0)) (aa (af (pv 1)) (aa (af (pv 2)) ah))) rfl) (lC aq)))))
abbrev lI:Stmt:=top 41
def qZ:List Str:=["board","ways","least"]
def rC:List Str:=["board","ways","least"]
theorem zy:FnScope qZ rC (ai lI):=dm
theorem y_(B:Bl K mg base cv cA Cp)(dH:aw P w K mg base cv 5 "need_melting" 3 a_)(jG:aw P w K mg base cv 7 "all_steps" 3 cY)(T:bJ K mg "steps_of" lI f):aw P w K mg base cv 8 "steps_of" 3 (eD):=
 aJ (N:=qZ) (ps:=rC) T zy (λ_ _ _ _ _ _ us hl=>match us,hl with | [_,_,_],_=>rfl) λ_ _ _ _ _ _ hr=>
  (aj (mI (bH dH (mR hr) rfl b9 (aa (af (pv 0)) (aa (af (pv 1)) (aa (af (pv 2)) ah))) rfl)) (ar (aK (bH jG (mR hr) rfl b9 (aa (af (pv 0)) (aa (af (pv 1)) (aa (af (pv 2)) ah))) rfl))))
theorem IM(B:Bl K mg base cv cA Cp){n m:Nat}(hn:n∈[0,1,4])(hm:m<7):nB K (vh cA) [.exc (cA n), .raw (.ref (cA m))]=ae (.bl (decide (n=m))):=by
 have h:cA n∈vh cA:=by
  unfold vh;simp only[Xs,Yz,or_false] at hn;rcases hn with rfl | rfl | rfl<;>simp
 show (if cA n∈vh cA then(match XD K (.ref (cA n)) (.ref (cA m)) with | some b=>ae (D.bl b) | none=>ag) else ag)=_;rw[adY h,B.kit n m hn hm]
theorem FV(B:Bl K mg base cv cA Cp){n:Nat}(hn:n∈[0,1,4]):nB K (vh cA) [.exc (cA n), .raw (.ty "ValueError")]=ae (.bl true):=by
 have h:cA n∈vh cA:=by
  unfold vh;simp only[Xs,Yz,or_false] at hn;rcases hn with rfl | rfl | rfl<;>simp
 show (if cA n∈vh cA then(match XD K (.ref (cA n)) (.type "ValueError") with | some b=>ae (D.bl b) | none=>ag) else ag)=_;rw[adY h,B.kitV n hn]
theorem CF(k:Nat):NV k∈[0,1,4]:=by
 unfold NV;split<;>simp
theorem zm(B:Bl K mg base cv cA Cp)(k:Nat):bV K cA [.exc (cB cA k)]=KP k:=by
 unfold KP cB;have hn:=CF k;generalize NV k=n at hn;have hx:∀m (hm:m<7),nB K (vh cA) [.exc (cA n), .raw (.ref (cA m))]=ae (.bl (decide (n=m))):=λm hm=>IM B hn hm;have hv:=FV B hn;have x0:=hx 0 (by decide);have x1:=hx 1 (by decide);have x2:=hx 2 (by decide);have x3:=hx 3 (by decide);have x4:=hx 4 (by decide);have x5:=hx 5 (by decide);have x6:=hx 6 (by decide);clear hx B;simp only[Xs,Yz,or_false] at hn;rcases hn with rfl | rfl | rfl
 ·simp only[bV,fS,hv,x0,x1,x2,x3,x4,x5,x6,bX,aI,bg,dA,aC,aN,dV,dC,d1,d2,dM,lS,fE,dR,iP,bI,dE,bU,ay,Xp,Y0,Zk,XW,XC,Xo,X5,ZK,ZL,X7,X8,b7,Nat.reduceSub,Nat.reduceAdd,lim,Nat.reduceLeDiff,if_true,jw,iC,Df,bools,decide_true,decide_false,Nat.reduceEqDiff];rfl
 ·simp only[bV,fS,hv,x0,x1,x2,x3,x4,x5,x6,bX,aI,bg,dA,aC,aN,dV,dC,d1,d2,dM,lS,fE,dR,iP,bI,dE,bU,ay,Xp,Y0,Zk,XW,XC,Xo,X5,ZK,ZL,X7,X8,b7,Nat.reduceSub,Nat.reduceAdd,lim,Nat.reduceLeDiff,if_true,jw,iC,Df,bools,decide_true,decide_false,Nat.reduceEqDiff];rfl
 ·simp only[bV,fS,hv,x0,x1,x2,x3,x4,x5,x6,bX,aI,bg,dA,aC,aN,dV,dC,d1,d2,dM,lS,fE,dR,iP,bI,dE,bU,ay,Xp,Y0,Zk,XW,XC,Xo,X5,ZK,ZL,X7,X8,b7,Nat.reduceSub,Nat.reduceAdd,lim,Nat.reduceLeDiff,if_true,jw,iC,Df,bools,decide_true,decide_false,Nat.reduceEqDiff];rfl
theorem hh(B:Bl K mg base cv cA Cp){i:Nat}(k:Nat)(ρ:bb)(e:ρ[i]? =some (some (.fz (.exc (cB cA k))))):bI (EV 1 (bV K cA) (aC (dV i) aN)) ρ=(KP k>>=λd=>ae (.rt d)):=by
 have h4:dV i ρ=ae (.exc (cB cA k)):=by unfold dV;rw[e]
 show ((dV i ρ>>=λx=>aN ρ>>=λxs=>ae (x::xs))>>=λds=>if ds.length=1 then noex (noex (bV K cA ds)) else ag)>>=_=_;rw[h4];show (if [D.exc (cB cA k)].length=1 then noex (noex (bV K cA [.exc (cB cA k)])) else ag)>>=_=_;rw[zm B k];rfl
abbrev il:Stmt:=top 51
def kO:List Str:=["_law_which","_law_board_here","_law_ways","_law_least","_law_e"]
def kT:List Str:=["_law_which","_law_board_here","_law_ways","_law_least"]
theorem kh:FnScope kO kT (ai il):=dm
theorem rm(B:Bl K mg base cv cA Cp)(sN:pU P w K mg base cv 1 "_law_refused" 1 (bV K cA))(sO:aw P w K mg base cv 7 "melted_once" 3 cK)(EU:aw P w K mg base cv 8 "melted" 3 gH)(z_:aw P w K mg base cv 8 "steps_of" 3 eD)(T:bJ K mg "_law_told" il f):aw P w K mg base cv 9 "_law_told" 4 (aH):=
 aJ (N:=kO) (ps:=kT) T kh (λ_ _ _ _ _ _ us hl=>match us,hl with | [_,_,_,_],_=>rfl) λ_ _ _ _ _ _ hr=>
  (ar (JT (i:=4) (hd:=KP) B.cvE kh.nd rfl rfl rfl B.top B.exm (λpn Ec Xw' hp=>(ar (aK (GO sO EU z_ (mR hr) (mR hr) (mR hr) rfl rfl rfl hp (af (pv 0)) (aa (af (pv 1)) (aa (af (pv 2)) (aa (af (pv 3)) ah))) rfl)))) (λea=>(ar (aK (Ih sN (RoomH.of (mR hr) _) rfl (aa (af (pv 4)) ah))))) (λk ρ _ e=>hh B k ρ e)))
abbrev au:Stmt:=top 54
def aR:List Str:=["_law_script","_law_board_here","_law_ways","_law_least","_law_rows","_law_fresh","_law_known","_law_odd","_law_none"]
def nT:List Str:=["_law_script"]
theorem cP:FnScope aR nT (ai au):=dm
theorem xf(B:Bl K mg base cv cA Cp)(jH:aw P w K mg base cv 3 "_law_board" 3 dJ){cg:Value}{A:X6}{outer:List Env}{s:Xl}{H:Hp}{E:XK}(hr:Room 9 (A.deeper (Y8 "law" (ai au) s.heap.objs.size f cg))):
 Box (iq (a9 (cW P w cv) P w K mg base aR "law" (ai au) f cg A outer s H E) (λn H'=>E (cv n) none H') ((aZ au).getD 0 (.Pass ⟨0,0,0,0⟩)) pf):=
 ⟨(aF cP.nd rfl (.inr rfl) (bH jH (mR hr) rfl b9 (aa (af (pv 0)) (aa aq (aa aq ah))) rfl))⟩
theorem xg(B:Bl K mg base cv cA Cp)(aX:aw P w K mg base cv 2 "_law_drawn" 3 aP){cg:Value}{A:X6}{outer:List Env}{s:Xl}{H:Hp}{E:XK}(hr:Room 9 (A.deeper (Y8 "law" (ai au) s.heap.objs.size f cg))):
 Box (iq (a9 (cW P w cv) P w K mg base aR "law" (ai au) f cg A outer s H E) (λn H'=>E (cv n) none H') ((aZ au).getD 1 (.Pass ⟨0,0,0,0⟩)) ph):=
 ⟨(aF cP.nd rfl (.inr rfl) (dq (du (aa aq (aa aq ah))) (bH aX (mR hr) rfl b9 (aa (af (pv 0)) (aa aq (aa aq ah))) rfl)))⟩
theorem xh(B:Bl K mg base cv cA Cp)(aX:aw P w K mg base cv 2 "_law_drawn" 3 aP){cg:Value}{A:X6}{outer:List Env}{s:Xl}{H:Hp}{E:XK}(hr:Room 9 (A.deeper (Y8 "law" (ai au) s.heap.objs.size f cg))):
 Box (iq (a9 (cW P w cv) P w K mg base aR "law" (ai au) f cg A outer s H E) (λn H'=>E (cv n) none H') ((aZ au).getD 2 (.Pass ⟨0,0,0,0⟩)) pj):=
 ⟨(aF cP.nd rfl (.inr rfl) (cG aq (bH aX (mR hr) rfl b9 (aa (af (pv 0)) (aa aq (aa (dq (du (aa aq (aa aq (aa aq ah)))) (bH aX (mR hr) rfl b9 (aa (af (pv 0)) (aa aq (aa aq ah))) rfl)) ah))) rfl)))⟩
theorem xi(B:Bl K mg base cv cA Cp){cg:Value}{A:X6}{outer:List Env}{s:Xl}{H:Hp}{E:XK}(hr:Room 9 (A.deeper (Y8 "law" (ai au) s.heap.objs.size f cg))):
 Box (iq (a9 (cW P w cv) P w K mg base aR "law" (ai au) f cg A outer s H E) (λn H'=>E (cv n) none H') ((aZ au).getD 3 (.Pass ⟨0,0,0,0⟩)) pk):=
 ⟨(rN cP.nd rfl (.inl rfl) (JG (aa (af (pv 1)) ah)))⟩
theorem xj(B:Bl K mg base cv cA Cp)(cy:aw P w K mg base cv 4 "_law_once" 3 bL){cg:Value}{A:X6}{outer:List Env}{s:Xl}{H:Hp}{E:XK}(hr:Room 9 (A.deeper (Y8 "law" (ai au) s.heap.objs.size f cg))):
 Box (iq (a9 (cW P w cv) P w K mg base aR "law" (ai au) f cg A outer s H E) (λn H'=>E (cv n) none H') ((aZ au).getD 4 (.Pass ⟨0,0,0,0⟩)) pq):=
 ⟨(aF cP.nd rfl (.inl rfl) (bH cy (mR hr) rfl b9 (aa (af (pv 1)) (aa (af (pv 2)) (aa (af (pv 3)) ah))) rfl))⟩
theorem xk(B:Bl K mg base cv cA Cp)(aO:aw P w K mg base cv 9 "_law_told" 4 aH){cg:Value}{A:X6}{outer:List Env}{s:Xl}{H:Hp}{E:XK}(hr:Room 9 (A.deeper (Y8 "law" (ai au) s.heap.objs.size f cg))):
 Box (iq (a9 (cW P w cv) P w K mg base aR "law" (ai au) f cg A outer s H E) (λn H'=>E (cv n) none H') ((aZ au).getD 5 (.Pass ⟨0,0,0,0⟩)) pw):=
 ⟨(b6 (mJ hr.units (bH aO (mR hr) rfl b9 (aa aq (aa (af (pv 1)) (aa (af (pv 2)) (aa (af (pv 3)) ah)))) rfl) (af (pv 5))) (ar (aK gc)) bz)⟩
theorem xl(B:Bl K mg base cv cA Cp)(cy:aw P w K mg base cv 4 "_law_once" 3 bL){cg:Value}{A:X6}{outer:List Env}{s:Xl}{H:Hp}{E:XK}(hr:Room 9 (A.deeper (Y8 "law" (ai au) s.heap.objs.size f cg))):
 Box (iq (a9 (cW P w cv) P w K mg base aR "law" (ai au) f cg A outer s H E) (λn H'=>E (cv n) none H') ((aZ au).getD 6 (.Pass ⟨0,0,0,0⟩)) pz):=
 ⟨(bT (kE XI (Cy (af (pv 5)) ji) (aj (gn (pv 4) (af (pv 5))) (ar (aF cP.nd rfl (.inl rfl) (bH cy (mR hr) rfl cU (aa (af (pv 5)) (aa (af (pv 2)) (aa (af (pv 3)) ah))) rfl))))))⟩
theorem xm(B:Bl K mg base cv cA Cp)(aO:aw P w K mg base cv 9 "_law_told" 4 aH){cg:Value}{A:X6}{outer:List Env}{s:Xl}{H:Hp}{E:XK}(hr:Room 9 (A.deeper (Y8 "law" (ai au) s.heap.objs.size f cg))):
 Box (iq (a9 (cW P w cv) P w K mg base aR "law" (ai au) f cg A outer s H E) (λn H'=>E (cv n) none H') ((aZ au).getD 7 (.Pass ⟨0,0,0,0⟩)) pA):=
 ⟨(b6 (wQ (mJ hr.units (dz (tn:=["_law_which"]) (n:=0) (bA (N:=aR) (osc:=(ai au)) rfl rfl (by decide+kernel)) rfl rfl (kC (bQ (aa aq (aa aq ah)))) (λ_ _ _ _ _ _ _=>cJ (show YF (((["_law_which"]:List Str))++cT ["_law_which"] aR) by decide+kernel) rfl rfl) (λ_ _ _ _ _ _=>cz) (λ_ _ _ _ _ _=>(bH aO (mR hr) rfl cU (aa (af (pv 0)) (aa (af (pv 2)) (aa (af (pv 3)) (aa (af (pv 4)) ah)))) rfl))) (du (aa (dq (af (pv 4)) (lC aq)) (aa (af (pv 4)) ah))))) (ar (aK gc)) bz)⟩
def UX:Stmt->List Stmt
 | .For _ _ b _ _=>b
 |_=>[]
def U1:Stmt->Expr
 | .For t _ _ _ _=>t
 |_=> .Constant .none 0 ⟨0,0,0,0⟩
def UZ:Stmt->Expr
 | .For _ i _ _ _=>i
 |_=> .Constant .none 0 ⟨0,0,0,0⟩
def U0:Stmt->Pos
 | .For _ _ _ _ p=>p
 |_=>⟨0,0,0,0⟩
abbrev QY:Stmt:=(aZ au).getD 8 (.Pass ⟨0,0,0,0⟩)
theorem P9(B:Bl K mg base cv cA Cp)(cy:aw P w K mg base cv 4 "_law_once" 3 bL)(aO:aw P w K mg base cv 9 "_law_told" 4 aH){cg:Value}{A:X6}{outer:List Env}{s:Xl}{H:Hp}{E:XK}(hr:Room 9 (A.deeper (Y8 "law" (ai au) s.heap.objs.size f cg))){it:Expr}{δ:DE}(hI:Box (PD (a9 (cW P w cv) P w K mg base aR "law" (ai au) f cg A outer s H E).nox (λ_ _=>False) it δ))(hs:∀x,aat it (a9 (cW P w cv) P w K mg base aR "law" (ai au) f cg A outer s H E).nox.env x=pure x):
 Box (iq (a9 (cW P w cv) P w K mg base aR "law" (ai au) f cg A outer s H E) (λn H'=>E (cv n) none H') (.For (U1 QY) it (UX QY) [] (U0 QY)) (λρ=>noex ((cV (putN 6) (nq δ) (cx [6] (iP (bU (d2 ny (az 4 aH (aC (dC (.int 0)) (aC (dV 6) (aC (dV 2) (aC (dC (.int 2)) aN))))) (az 3 bL (aC (dV 6) (aC (dV 2) (aC (dC (.int 2)) aN)))))) (bI (dC (.bl false))) dE))) ρ))):=
 ⟨bT (bx XI rfl (kC hI.1) (aS cP.nd rfl (.inl rfl)) bC (aV (ar (b6 (mJ hr.units (bH aO (mR hr) rfl cU (aa aq (aa (af (pv 6)) (aa (af (pv 2)) (aa aq ah)))) rfl) (bH cy (mR hr) rfl cU (aa (af (pv 6)) (aa (af (pv 2)) (aa aq ah))) rfl)) (ar (aK gc)) bz))) hs)⟩
theorem xn(B:Bl K mg base cv cA Cp)(cy:aw P w K mg base cv 4 "_law_once" 3 bL)(aO:aw P w K mg base cv 9 "_law_told" 4 aH){cg:Value}{A:X6}{outer:List Env}{s:Xl}{H:Hp}{E:XK}(hr:Room 9 (A.deeper (Y8 "law" (ai au) s.heap.objs.size f cg))):
 Box (iq (a9 (cW P w cv) P w K mg base aR "law" (ai au) f cg A outer s H E) (λn H'=>E (cv n) none H') ((aZ au).getD 8 (.Pass ⟨0,0,0,0⟩)) pB):=
 P9 B cy aO hr (it:=UZ QY) (k9 (ir (k9 (fU k8)) (ir (k9 (fU k8)) (ir (k9 (fU k8)) (ir (k9 (fU k8)) (ir (k9 (fU (fU k8))) (ir (k9 (fU (fU k8))) k8))))))) (λ_=>rfl)
theorem xo(B:Bl K mg base cv cA Cp)(aX:aw P w K mg base cv 2 "_law_drawn" 3 aP){cg:Value}{A:X6}{outer:List Env}{s:Xl}{H:Hp}{E:XK}(hr:Room 9 (A.deeper (Y8 "law" (ai au) s.heap.objs.size f cg))):
 Box (iq (a9 (cW P w cv) P w K mg base aR "law" (ai au) f cg A outer s H E) (λn H'=>E (cv n) none H') ((aZ au).getD 9 (.Pass ⟨0,0,0,0⟩)) pC):=
 ⟨(aF cP.nd rfl (.inr rfl) (dq (du (aa aq (aa aq (aa ji (aa gc (aa dP ah)))))) (bH aX (mR hr) rfl b9 (aa (af (pv 0)) (aa aq (aa aq ah))) rfl)))⟩
theorem tH(B:Bl K mg base cv cA Cp)(aO:aw P w K mg base cv 9 "_law_told" 4 aH){cg:Value}{A:X6}{outer:List Env}{s:Xl}{H:Hp}{E:XK}(hr:Room 9 (A.deeper (Y8 "law" (ai au) s.heap.objs.size f cg))):
 Box (iq (a9 (cW P w cv) P w K mg base aR "law" (ai au) f cg A outer s H E) (λn H'=>E (cv n) none H') ((aZ au).getD 10 (.Pass ⟨0,0,0,0⟩)) m6):=
 ⟨(b6 (mJ hr.units (dz (tn:=["_law_which"]) (n:=0) (bA (N:=aR) (osc:=(ai au)) rfl rfl (by decide+kernel)) rfl rfl (cf rfl B.range (aa aq ah)) (λ_ _ _ _ _ _ _=>cJ (show YF (((["_law_which"]:List Str))++cT ["_law_which"] aR) by decide+kernel) rfl rfl) (λ_ _ _ _ _ _=>cz) (λ_ _ _ _ _ _=>(bH aO (mR hr) rfl cU (aa (af (pv 0)) (aa (af (pv 2)) (aa (af (pv 3)) (aa (af (pv 8)) ah)))) rfl))) (Bc (du (aa (bQ (aa dP (aa aq ah))) ah)) aq)) (ar (aK gc)) bz)⟩
theorem tI(B:Bl K mg base cv cA Cp)(aX:aw P w K mg base cv 2 "_law_drawn" 3 aP){cg:Value}{A:X6}{outer:List Env}{s:Xl}{H:Hp}{E:XK}(hr:Room 9 (A.deeper (Y8 "law" (ai au) s.heap.objs.size f cg))):
 Box (iq (a9 (cW P w cv) P w K mg base aR "law" (ai au) f cg A outer s H E) (λn H'=>E (cv n) none H') ((aZ au).getD 11 (.Pass ⟨0,0,0,0⟩)) m7):=
 ⟨(aF cP.nd rfl (.inr rfl) (dq (du (aa aq (aa aq (aa ji (aa gc ah))))) (bH aX (mR hr) rfl b9 (aa (af (pv 0)) (aa aq (aa aq ah))) rfl)))⟩
theorem tJ(B:Bl K mg base cv cA Cp)(aO:aw P w K mg base cv 9 "_law_told" 4 aH){cg:Value}{A:X6}{outer:List Env}{s:Xl}{H:Hp}{E:XK}(hr:Room 9 (A.deeper (Y8 "law" (ai au) s.heap.objs.size f cg))):
 Box (iq (a9 (cW P w cv) P w K mg base aR "law" (ai au) f cg A outer s H E) (λn H'=>E (cv n) none H') ((aZ au).getD 12 (.Pass ⟨0,0,0,0⟩)) m8):=
 ⟨(b6 (mJ hr.units (dz (tn:=["_law_which"]) (n:=0) (bA (N:=aR) (osc:=(ai au)) rfl rfl (by decide+kernel)) rfl rfl (cf rfl B.range (aa aq ah)) (λ_ _ _ _ _ _ _=>cJ (show YF (((["_law_which"]:List Str))++cT ["_law_which"] aR) by decide+kernel) rfl rfl) (λ_ _ _ _ _ _=>cz) (λ_ _ _ _ _ _=>(bH aO (mR hr) rfl cU (aa (af (pv 0)) (aa (af (pv 2)) (aa (af (pv 9)) (aa (af (pv 8)) ah)))) rfl))) (Bc (du (aa (bQ (aa dP (aa aq ah))) ah)) aq)) (ar (aK gc)) bz)⟩
theorem tK(B:Bl K mg base cv cA Cp)(aO:aw P w K mg base cv 9 "_law_told" 4 aH){cg:Value}{A:X6}{outer:List Env}{s:Xl}{H:Hp}{E:XK}(hr:Room 9 (A.deeper (Y8 "law" (ai au) s.heap.objs.size f cg))):
 Box (iq (a9 (cW P w cv) P w K mg base aR "law" (ai au) f cg A outer s H E) (λn H'=>E (cv n) none H') ((aZ au).getD 13 (.Pass ⟨0,0,0,0⟩)) m9):=
 ⟨(aK (ze hr.units (dz (tn:=["_law_which"]) (n:=0) (bA (N:=aR) (osc:=(ai au)) rfl rfl (by decide+kernel)) rfl rfl (cf rfl B.range (aa aq ah)) (λ_ _ _ _ _ _ _=>cJ (show YF (((["_law_which"]:List Str))++cT ["_law_which"] aR) by decide+kernel) rfl rfl) (λ_ _ _ _ _ _=>cz) (λ_ _ _ _ _ _=>(bH aO (mR hr) rfl cU (aa (af (pv 0)) (aa (JD rfl B.list rfl (aa (af (pv 2)) ah)) (aa (af (pv 9)) (aa (af (pv 8)) ah)))) rfl))) (Bc (du (aa (bQ (aa dP (aa aq ah))) ah)) aq)))⟩
theorem yY{fd:ZC}(B:Bl K mg base cv cA Cp)(jH:aw P w K mg base cv 3 "_law_board" 3 dJ)(cy:aw P w K mg base cv 4 "_law_once" 3 bL)(aX:aw P w K mg base cv 2 "_law_drawn" 3 aP)(aO:aw P w K mg base cv 9 "_law_told" 4 aH)(Fn:Fun K "law" "law" au f fd):FnOk P w K mg base (cW P w cv) 10 f fd nT (EI K cv 1 kq):=
 Oh (N:=aR) (ps:=nT) (τ:=ou) Fn cP λcg A outer s H E hr=>by
  obtain⟨W4⟩:Box (PSDs (a9 (cW P w cv) P w K mg base aR "law" (ai au) f cg A outer s H E) (λn H'=>E (cv n) none H') (aZ au) ou):=(fB (xf B jH hr) (fB (xg B aX hr) (fB (xh B aX hr) (fB (xi B hr) (fB (xj B cy hr) (fB (xk B aO hr) (fB (xl B cy hr) (fB (xm B aO hr) (fB (xn B cy aO hr) (fB (xo B aX hr) (fB (tH B aO hr) (fB (tI B aX hr) (fB (tJ B aO hr) (Lp (tK B aO hr)))))))))))))))
  assumption
end
end K1
namespace K1
open PySem L2 L3
theorem Gj{ds:List D}(h:ds.length<=lim):b7 ds=ae (.lst ds):=adY h
theorem cF:lim=4096:=rfl
theorem d7{α:Type}{xs:List α}{i:Nat}{x:α}(h:xs[i]? =some x):L2.atI xs (i:Int)=some x:=by
 obtain⟨hi,e⟩:=Xy.mp h;unfold L2.atI AG;rw[adY (Int.natCast_nonneg i),adY (by exact Int.ofNat_lt.mpr hi)];exact h
theorem av{m:Nat}{g:List D->M D}{δs:DA}{ρ:bb}{ds:List D}(h:δs ρ=ae ds)(hl:ds.length=m):az m g δs ρ=g ds:=by
 unfold az;rw[h];exact adY hl
theorem aW{a:DE}{r:DA}{ρ:bb}{x:D}{xs:List D}(h1:a ρ=ae x)(h2:r ρ=ae xs):aC a r ρ=ae (x::xs):=by
 unfold aC;rw[h1,ay,h2];rfl
theorem aB{g:D->D->M D}{a b:DE}{ρ:bb}{x y:D}(h1:a ρ=ae x)(h2:b ρ=ae y):d2 g a b ρ=g x y:=by
 unfold d2;rw[h1,ay,h2];rfl
theorem bY{g:List D->M D}{a:DA}{ρ:bb}{xs:List D}(h:a ρ=ae xs):dA g a ρ=g xs:=by
 unfold dA;rw[h];rfl
theorem iA{i j:Int}(h:0<j):lZ (.int i) (.int j)=ae (.int (i % j)):=by
 show (if decide (0<j)=true then _ else _)=_;rw[adY (ad1 h)]
theorem lY{i j:Int}(h:0<j)(h2:j<1073741824):sR (.int i) (.int j)=ae (.int (i / j)):=by
 show (if decide (0<j/\j<1073741824)=true then _ else _)=_;rw[adY (ad1 ⟨h,h2⟩)]
theorem gJ{i j:Int}(h:(-(2 ^ 64)<i/\i<2 ^ 64)\/(-(2 ^ 64)<j/\j<2 ^ 64)):i8 (.int i) (.int j)=ae (.int (i*j)):=by
 show (if decide _=true then _ else _)=_;rw[adY (ad1 h)]
theorem iy{i j:Int}:dN (.int i) (.int j)=ae (.int (i+j)):=rfl
theorem Ft{i j:Int}:jz (.int i) (.int j)=ae (.int (i - j)):=rfl
theorem E3(ns:List Int)(hl:ns.length<=63)(k:Nat):∃v,gG [.scr ns, .int (k:Int)]=ae (.int v):=by
 cases ns with
 |nil=>
  refine⟨7*(k:Int),?_⟩;rfl
 |cons n r=>
  have hp:0<(n::r).length:=adg _;generalize e:(n::r)=ns at*;have he:iZ 6 (.scr ns) (.lst [])=some false:=by subst e;rfl
  obtain⟨y,hy⟩:∃y,ns[k % ns.length]? =some y:=⟨_,Xi (Nat.mod_lt _ hp)⟩
  have Ub:(0:Int)<(ns.length:Int):=by omega
  have h1:lZ (.int (k:Int)) (.int (ns.length:Int))=ae (.int ((k % ns.length:Nat):Int)):=iA Ub;have h2:sR (.int (k:Int)) (.int (ns.length:Int))=ae (.int ((k:Int) / (ns.length:Int))):=lY Ub (by omega);have h3:Fo (.scr ns) (.int ((k % ns.length:Nat):Int))=ae (.int y):=by
   show (match L2.atI ns ((k % ns.length:Nat):Int) with | some n=>ae (D.int n) | none=>ag)=_;rw[d7 hy]
  have h4:i8 (.int 6553) (.int ((k:Int) / (ns.length:Int)))=ae (.int (6553*((k:Int) / (ns.length:Int)))):=gJ (.inl ⟨by decide,by decide⟩);refine⟨y+6553*((k:Int) / (ns.length:Int)),?_⟩;simp only[gG,sC,bX,aI,iP,bI,dE,bU,d2,dV,dC,dA,aC,aN,b7,bq,EO,iz,he,ay,h1,h2,h3,h4,Xp,Y0,Zk,XW,Xo,X5,X7,X8,cF,Nat.reduceAdd,Yo,if_true,Yi,if_false,dN,gI]
theorem dS(ns:List Int)(hl:ns.length<=63)(k m:Nat)(hm:0<m):∃v:Nat,v<m/\aP [.scr ns, .int (k:Int), .int (m:Int)]=ae (.int (v:Int)):=by
 obtain⟨c,hc⟩:=E3 ns hl k;have b1:=acw (c % 2147483563*69069+104723*((k:Int)+1)) (b:=2147483563) (by decide);have b2:=abN (c % 2147483563*69069+104723*((k:Int)+1)) (b:=2147483563) (by decide);generalize hx:(c % 2147483563*69069+104723*((k:Int)+1)) % 2147483563=x at b1 b2;have b3:=acw (x*x+x / 3) (b:=2147483399) (by decide);have b4:=abN (x*x+x / 3) (b:=2147483399) (by decide);generalize hy:(x*x+x / 3) % 2147483399=y at b3 b4;have m1:i8 (.int (c % 2147483563)) (.int 69069)=_:=gJ (.inr ⟨by decide,by decide⟩);have m2:i8 (.int 104723) (.int ((k:Int)+1))=_:=gJ (.inl ⟨by decide,by decide⟩);have m3:i8 (.int x) (.int x)=_:=gJ (.inl ⟨by omega,by omega⟩);have m4:i8 (.int y) (.int y)=_:=gJ (.inl ⟨by omega,by omega⟩);have hM:(0:Int)<(m:Int):=Int.ofNat_lt.mpr hm;have n1:=acw ((y*y+y / 7) % 2147483647 / 11) (b:=(m:Int)) (by omega);have n2:=abN ((y*y+y / 7) % 2147483647 / 11) hM;have q1:lZ (.int c) (.int 2147483563)=_:=iA (by decide);have q2:lZ (.int (c % 2147483563*69069+104723*((k:Int)+1))) (.int 2147483563)=_:=iA (by decide);have q3:sR (.int x) (.int 3)=_:=lY (by decide) (by decide);have q4:lZ (.int (x*x+x / 3)) (.int 2147483399)=_:=iA (by decide);have q5:sR (.int y) (.int 7)=_:=lY (by decide) (by decide);have q6:lZ (.int (y*y+y / 7)) (.int 2147483647)=_:=iA (by decide);have q7:sR (.int ((y*y+y / 7) % 2147483647)) (.int 11)=_:=lY (by decide) (by decide);have q8:lZ (.int ((y*y+y / 7) % 2147483647 / 11)) (.int (m:Int))=_:=iA hM;refine⟨((y*y+y / 7) % 2147483647 / 11 % (m:Int)).toNat,by omega,?_⟩;rw[abB n1];rw[hx] at q2;rw[hy] at q4;simp only[aP,pe,bX,aI,bg,bI,az,d2,dV,dC,dA,aC,aN,ay,hc,Xp,Y0,Zk,XW,Xo,X5,X7,X8,XC,ZK,ZL,Nat.reduceAdd,Nat.reduceSub,if_true,iy,m1,m2,m3,m4,q1,q2,q3,q4,q5,q6,q7,q8]
theorem Gr{α:Type}(a:α):noex (ae a)=ae a:=rfl
theorem ym{put:D->bb->Option bb}{body:DS}{I:Nat->bb->Prop}:∀(ds:List D) (i:Nat) (ρ:bb),I i ρ->
 (∀j d,ds[j]? =some d->∀ρ,I (i+j) ρ->∃ρ1 ρ2,put d ρ=some ρ1/\body ρ1=ae (.nx ρ2)/\I (i+j+1) ρ2)->∃ρ',forL put body ds ρ=ae (.nx ρ')/\I (i+ds.length) ρ'
 |[],i,ρ,h,_=>⟨ρ,rfl,h⟩
 |d::ds,i,ρ,h,step=>by
  obtain⟨ρ1,ρ2,e1,e2,h2⟩:=step 0 d rfl ρ h;obtain⟨ρ',e3,h3⟩:=ym (I:=I) ds (i+1) ρ2 h2 λj d' hd ρ hI=>by
   have:=step (j+1) d' hd ρ (by rw[show i+(j+1)=i+1+j by omega];exact hI);rw[show i+(j+1)+1=i+1+j+1 by omega] at this;exact this
  refine⟨ρ',?_,?_⟩
  ·show (match put d ρ with | none=>ag | some ρ1=>body ρ1>>=λo=>match o with | .nx ρ2=>forL put body ds ρ2 | .rt v=>ae (.rt v))=_;rw[e1];show (body ρ1>>=λo=>match o with | .nx ρ2=>forL put body ds ρ2 | .rt v=>ae (.rt v))=_;rw[e2];exact e3
  ·rw[show i+(d::ds).length=i+1+ds.length by simp;omega];exact h3
theorem tY{f:D->M (Option D)}{Pr:D->Prop}:∀(ds:List D),(∀d∈ds,∃y,f d=ae (some y)/\Pr y)->∃ys,d9 f ds=ae ys/\ys.length=ds.length/\∀y∈ys,Pr y
 |[],_=>⟨[],rfl,rfl,λ_ h=>by cases h⟩
 |d::ds,h=>by
  obtain⟨y,e,hy⟩:=h d (Xk ..);obtain⟨ys,e2,hl,hp⟩:=tY ds λd' hd=>h d' (Xj _ hd);refine⟨y::ys,?_,by simp[hl],λz hz=>?_⟩
  ·rw[fC,e,ay,e2];rfl
  ·cases hz with
   |head=>exact hy
   |tail _ hz=>exact hp z hz
theorem ix{f:D->M (Option D)}{g:D->D}:∀(ds:List D),(∀d∈ds,f d=ae (some (g d)))->d9 f ds=ae (ds.map g)
 |[],_=>rfl
 |d::ds,h=>by
  rw[fC,h d (Xk ..),ay,ix ds λd' hd=>h d' (Xj _ hd)];rfl
def II(x:Str):Bool:=!(Z1 ("abcdef":Str) x 0 ("abcdef":Str).length 1).isEmpty
structure Row (W:Nat) (r:Str):Prop where
 len:r.length=W
 let':∀c∈r.cps.toList,II ⟨#[c]⟩=true
structure Good (bd:List Str) (W:Nat):Prop where
 r1:1<=bd.length
 r5:bd.length<=5
 w1:1<=W
 w5:W<=5
 rows:∀r∈bd,Row W r
abbrev lE(c:Nat):Prop:=II ⟨#[c]⟩=true/\c≠101
def Qk(r:Str):Prop:=∀c∈r.cps.toList,c≠101
theorem zH:∀(ys:List D),(∀y∈ys,∃c,y= .str ⟨#[c]⟩/\lE c)->∃xs,pS ys=some xs/\xs.length=ys.length/\(xs.map (·.length)).sum=ys.length/\Row ys.length (eU xs)/\Qk (eU xs)
 |[],_=>⟨[],rfl,rfl,rfl,⟨rfl,λc h=>by cases h⟩,λc h=>by cases h⟩
 |y::ys,h=>by
  obtain⟨c,e,hc⟩:=h y (Xk ..);obtain⟨xs,e1,e2,e3,e4,e5⟩:=zH ys λz hz=>h z (Xj _ hz);subst e;have qw:∀z,z∈((⟨#[c]⟩:Str)++eU xs).cps.toList->z=c\/z∈(eU xs).cps.toList:=λz hz=>by
   have:((⟨#[c]⟩:Str)++eU xs).cps= #[c]++(eU xs).cps:=rfl;rw[this] at hz;simpa using hz
  refine⟨⟨#[c]⟩::xs,?_,by simp[e2],?_,⟨?_,λz hz=>?_⟩,λz hz=>?_⟩
  ·show (pS ys).map _=_;rw[e1];rfl
  ·rw[Xp,Yq,e3];show 1+ys.length=_;simp;omega
  ·show ((⟨#[c]⟩:Str)++eU xs).length=_;rw[ki,e4.len];show 1+ys.length=_;simp;omega
  ·rcases qw z hz with rfl | q
   ·exact hc.1
   ·exact e4.let' z q
  ·rcases qw z hz with rfl | q
   ·exact hc.2
   ·exact e5 z q
theorem He{lo:Int}{n:Nat}{d:D}(h:d∈iO lo n):∃i:Nat,i<n/\d= .int (lo+(i:Int)):=by
 unfold iO at h;obtain⟨i,hi,e⟩:=XE.mp h;exact⟨i,Y3.mp hi,e.symm⟩
theorem J3{lo:Int}{n j:Nat}{d:D}(h:(iO lo n)[j]? =some d):j<n/\d= .int (lo+(j:Int)):=by
 unfold iO at h;rw[Xv] at h;by_cases hj:j<n
 ·rw[aaH hj] at h;cases h;exact⟨hj,rfl⟩
 ·rw[abl (by simpa using hj)] at h;cases h
theorem j7(lo:Int)(n:Nat):(iO lo n).length=n:=by simp[iO]
abbrev iW(w:Nat):D:= .int w
abbrev fz(d:D):Option Sl:=some (.fz d)
theorem ib{δe:DE}{ρ:bb}{d:D}:iw 0 ck δe ρ d=(δe (fz d::ρ)>>=λy=>ae (some y)):=rfl
theorem E5{δt:DT}{δe:DE}{ρ:bb}{d:D}:iw 0 δt δe ρ d=(δt (fz d::ρ)>>=λb=>if b then δe (fz d::ρ)>>=λy=>ae (some y) else ae none):=rfl
theorem ak{a b:DS}{ρ ρ':bb}{o:M Out}(h:a ρ=ae (.nx ρ'))(h2:b ρ'=o):aI a b ρ=o:=by
 unfold aI;rw[h];exact h2
theorem hJ{a b:DS}{ρ:bb}{d:D}(h:a ρ=ae (.rt d)):aI a b ρ=ae (.rt d):=by
 unfold aI;rw[h];rfl
theorem aG{i:Nat}{δ:DE}{ρ:bb}{d:D}(h:δ ρ=ae d):bg i δ ρ=ae (.nx (ρ.set i (fz d))):=by
 unfold bg;rw[h];rfl
theorem eQ{c:DT}{a b:DS}{ρ:bb}{o:M Out}(h:c ρ=ae true)(h2:a ρ=o):iP c a b ρ=o:=by
 unfold iP;rw[h];exact h2
theorem c9{c:DT}{a b:DS}{ρ:bb}{o:M Out}(h:c ρ=ae false)(h2:b ρ=o):iP c a b ρ=o:=by
 unfold iP;rw[h];exact h2
theorem br{δ:DE}{ρ:bb}{d:D}(h:δ ρ=ae d):bI δ ρ=ae (.rt d):=by
 unfold bI;rw[h];rfl
theorem fY{δ:DE}{ρ:bb}{d:D}(h:δ ρ=ae d):rS δ ρ=ae (.nx ρ):=by
 unfold rS;rw[h];rfl
theorem ba{n:Nat}{τ:DS}{ds:List D}{d:D}(h:τ (ds.map (λd=>some (Sl.fz d))++XC (n - ds.length) none)=ae (.rt d)):bX n τ ds=ae d:=by
 unfold bX;rw[h];rfl
theorem CB{n:Nat}{τ:DS}{ds:List D}{ρ:bb}(h:τ (ds.map (λd=>some (Sl.fz d))++XC (n - ds.length) none)=ae (.nx ρ)):bX n τ ds=ae .non:=by
 unfold bX;rw[h];rfl
theorem jk{n k:Nat}{τ:DS}{ds:List D}(h:τ (ds.map (λd=>some (Sl.fz d))++XC (n - ds.length) none)=bR k):bX n τ ds=bR k:=by
 unfold bX;rw[h];rfl
theorem Hh{put:D->bb->Option bb}{δi:DA}{b:DS}{ρ:bb}{ds:List D}{o:Out}(h:δi ρ=ae ds)(h2:forL put b ds ρ=ae o):noex (cV put δi b ρ)=ae o:=by
 unfold cV;rw[h,ay,h2];rfl
theorem aQ{is:List Nat}{τ:DS}{ρ ρ':bb}(h:τ ρ=ae (.nx ρ')):cx is τ ρ=ae (.nx (fgt is ρ')):=by
 unfold cx;rw[h];rfl
theorem bO{n:Nat}{δi:DA}{δt:DT}{δe:DE}{ρ:bb}{ds ys:List D}(h:δi ρ=ae ds)(h2:d9 (iw n δt δe ρ) ds=ae ys)(h3:ys.length<=lim):bB n δi δt δe ρ=ae (.lst ys):=by
 unfold bB;rw[h,ay,h2,Gr,ay,Gj h3]
theorem n_{n:Nat}(h:n<=4096):eO [.int (n:Int)]=ae (iO 0 n):=by
 show (if -4096<=(n:Int)/\(n:Int)<=4096 then ae (iO 0 (n:Int).toNat) else ag)=_;rw[adY ⟨by omega,by omega⟩];rfl
structure Alpha (al:Str):Prop where
 pos:0<al.length
 ok:∀c∈al.cps.toList,lE c
theorem Lj:Alpha "ab"/\Alpha "abc"/\Alpha "aab"/\Alpha "fa":=by
 refine⟨⟨by decide+kernel,?_⟩,⟨by decide+kernel,?_⟩,⟨by decide+kernel,?_⟩,⟨by decide+kernel,?_⟩⟩<;>decide+kernel
theorem Fp{x:Str}{i:Nat}(h:i<x.length):∃c,c∈x.cps.toList/\x.cps.toList[i]? =some c/\jK (.str x) (.int (i:Int))=ae (.str ⟨#[c]⟩):=by
 have h:i<x.cps.toList.length:=by rw[XZ];exact h
 refine⟨x.cps.toList[i],Z3 h,Xi h,?_⟩;show (match L2.atI x.cps.toList (i:Int) with | some c=>ae (D.str ⟨#[c]⟩) | none=>ag)=_;rw[d7 (Xi h)]
abbrev brd(bd:List Str):D:= .tup (bd.map D.str)
abbrev sgn(at' mo:Nat)(ns:List Int)(W:Nat)(al:Str)(bd:List Str)(R:Nat)(x7 x8:Option Sl):bb:=[fz (.scr ns),fz (.int (at':Int)),fz (.int (mo:Int)),fz (.int (R:Int)),fz (.int (W:Int)),fz (.str al),fz (brd bd),x7,x8]
theorem Ek(at' mo:Nat)(ns:List Int)(hl:ns.length<=63)(al:Str)(ha:Alpha al)(j W R:Nat)(hW:W<=5)(bd:List Str)(x8:Option Sl):
 ∃ys,Tj (sgn at' mo ns W al bd R (fz (.int (0+(j:Int)))) x8)=ae (.lst ys)/\ys.length=W/\∀y∈ys,∃c,y= .str ⟨#[c]⟩/\lE c:=by
 obtain⟨ys,e,EC,hp⟩:=tY (f:=iw 0 ck (d2 jK (dV 6) (az 3 aP (aC (dV 1) (aC (d2 dN (d2 dN (d2 dN (dV 2) (dC (.int 3))) (d2 i8 (dC (.int 7)) (dV 8))) (dV 0)) (aC (dA bq (aC (dV 6) aN)) aN)))))
  (sgn at' mo ns W al bd R (fz (.int (0+(j:Int)))) x8)) (Pr:=λy=>∃c,y= .str ⟨#[c]⟩/\lE c) (iO 0 W) λd hd=>by
  obtain⟨i,hi,rfl⟩:=He hd;obtain⟨v,hv,e⟩:=dS ns hl (at'+3+7*j+i) al.length ha.pos;obtain⟨c,hc,_,e2⟩:=Fp hv;refine⟨.str ⟨#[c]⟩,?_,c,rfl,ha.ok c hc⟩;rw[ib];have k:(at':Int)+3+7*(0+(j:Int))+(0+(i:Int))=((at'+3+7*j+i:Nat):Int):=by omega
  have m1:i8 (.int 7) (.int (0+(j:Int)))=ae (.int (7*(0+(j:Int)))):=gJ (.inl ⟨by decide,by decide⟩);simp only[az,d2,dV,dC,dA,aC,aN,ay,Xo,X5,X7,X8,Nat.reduceAdd,if_true,iy,m1,k,bq,e,e2]
 refine⟨ys,bO (n_ (n:=W) (by omega)) e (by rw[EC,j7,cF];omega),by rw[EC,j7],hp⟩
theorem Ii(at' mo:Nat)(ns:List Int)(W:Nat)(al:Str)(bd:List Str)(R:Nat)(x7:Option Sl)(ys:List D)(hb:bd.length<=5)(hy:ys.length<=5)(s3:∀y∈ys,∃c,y= .str ⟨#[c]⟩/\lE c):
 ∃r,(Row ys.length r/\Qk r)/\Tn (sgn at' mo ns W al bd R x7 (fz (.lst ys)))=ae (.nx (sgn at' mo ns W al (bd++[r]) R x7 (fz (.lst ys)))):=by
 obtain⟨xs,t1,t2,t3,t4⟩:=zH ys s3;refine⟨eU xs,t4,?_⟩;have jn:joinM (.str "") [.lst ys]=ae (.str (eU xs)):=by
  show (match pS ys with | some (xs:List Str)=>if ("":Str).length=0/\(xs.map (λx:Str=>x.length)).sum<=lim then ae (D.str (eU xs)) else ag | none=>ag)=_;rw[t1];show (if ("":Str).length=0/\(xs.map (λx:Str=>x.length)).sum<=lim then ae (D.str (eU xs)) else ag)=_;rw[adY ⟨rfl,by rw[t3,cF];omega⟩]
 have ct:yp (brd bd) (.tup [.str (eU xs)])=ae (brd (bd++[eU xs])):=by
  show (if (bd.map D.str).length+1<=lim then ae (D.tup (bd.map D.str++[.str (eU xs)])) else ag)=_;rw[adY (by rw[Xh,cF];omega)];simp[brd]
 refine(aG (d:=brd (bd++[eU xs])) ?_).trans rfl;simp only[d2,dV,dC,dA,aC,aN,dM,ED,ay,X7,X8,if_true,jn,aY,Xo,X5,cF,Nat.reduceAdd,Nat.reduceLeDiff,ct]
theorem z5(ns:List Int)(hl:ns.length<=63)(at' mo:Nat)(m0:0<mo)(m5:mo<=5):∃bd W,Good bd W/\(∀r∈bd,Qk r)/\bd.length<=mo/\W<=mo/\dJ [.scr ns, .int (at':Int), .int (mo:Int)]=ae (brd bd):=by
 obtain⟨r,hr,e1⟩:=dS ns hl at' mo m0;obtain⟨c,hc,e2⟩:=dS ns hl (at'+1) mo m0;obtain⟨a,ha,e3⟩:=dS ns hl (at'+2) 4 (by decide);obtain⟨al,Oo,e4⟩:∃al,Alpha al/\cE (.lst [.str "ab", .str "abc", .str "aab", .str "fa"]) (.int (a:Int))=ae (.str al):=by
  obtain⟨a1,a2,a3,a4⟩:=Lj
  match a,ha with
  |0,_=>exact⟨_,a1,rfl⟩
  |1,_=>exact⟨_,a2,rfl⟩
  |2,_=>exact⟨_,a3,rfl⟩
  |3,_=>exact⟨_,a4,rfl⟩
 have k1:(1:Int)+(r:Int)=((r+1:Nat):Int):=by omega
 have k2:(1:Int)+(c:Int)=((c+1:Nat):Int):=by omega
 have Ey:aP [.scr ns, .int (at':Int), .int (mo:Int)]=ae (.int (r:Int)):=e1;have NP:aP [.scr ns, .int ((at':Int)+1), .int (mo:Int)]=ae (.int (c:Int)):=e2;have Qq:aP [.scr ns, .int ((at':Int)+2), .int 4]=ae (.int (a:Int)):=e3;obtain⟨ρ',f1,bd,f2,f3,f4⟩:=ym (put:=putN 7) (body:=cx [7,8] (aI (bg 8 Tj) Tn))
  (I:=λi ρ=>∃bd,ρ=sgn at' mo ns (c+1) al bd (r+1) none none/\bd.length=i/\∀z∈bd,Row (c+1) z/\Qk z)
  (iO 0 (r+1)) 0 (sgn at' mo ns (c+1) al [] (r+1) none none) ⟨[],rfl,rfl,λ_ h=>by cases h⟩ λj d hd ρ ⟨bd,hρ,hb,hw⟩=>by
   obtain⟨hj,rfl⟩:=J3 hd;subst hρ;obtain⟨ys,s1,s2,s3⟩:=Ek at' mo ns hl al Oo j (c+1) (r+1) (by omega) bd none;obtain⟨zW,t1,t2⟩:=Ii at' mo ns (c+1) al bd (r+1) (fz (.int (0+(j:Int)))) ys (by omega) (by omega) s3;refine⟨_,_,rfl,aQ (ak (aG s1) t2),bd++[zW],rfl,by simp[hb],λz hz=>?_⟩;rcases X4.mp hz with h | h
   ·exact hw z h
   ·have h:z=zW:=by simpa using h
    subst h;rw[s2] at t1;exact t1
 refine⟨bd,c+1,⟨by rw[f3,j7];omega,by rw[f3,j7];omega,by omega,by omega,λr q=>(f4 r q).1⟩,λr q=>(f4 r q).2,by rw[f3,j7];omega,by omega,?_⟩;subst f2;refine ba ?_;refine ak (aG (d:= .int ((r+1:Nat):Int)) ?_) ?_
 ·simp only[az,d2,dV,dC,aC,aN,ay,Xp,Y0,Zk,XW,Xo,X5,X7,X8,Nat.reduceAdd,if_true,iy,Ey,k1]
 refine ak (aG (d:= .int ((c+1:Nat):Int)) ?_) ?_
 ·simp only[az,d2,dV,dC,aC,aN,ay,Xp,Y0,Zk,XW,Xo,X5,XC,ZK,ZL,Nat.reduceSub,X7,X8,Nat.reduceAdd,if_true,iy,NP,k2]
 refine ak (aG (d:= .str al) ?_) ?_
 ·simp only[az,d2,dV,dC,dA,aC,aN,ay,Xp,Y0,Zk,XW,Xo,X5,XC,ZK,ZL,Nat.reduceSub,X7,X8,Nat.reduceAdd,if_true,iy,Qq,b7,cF,Nat.reduceLeDiff,e4]
 refine ak (aG (d:= .tup []) rfl) ?_;refine ak (Hh (n_ (n:=r+1) (by omega)) f1) ?_;exact br rfl
theorem z6(ns:List Int)(hl:ns.length<=63)(at' mo:Nat)(m0:0<mo)(m5:mo<=5):∃bd W,Good bd W/\bd.length<=mo/\W<=mo/\dJ [.scr ns, .int (at':Int), .int (mo:Int)]=ae (brd bd):=
 let ⟨bd,W,h1,_,h2⟩:=z5 ns hl at' mo m0 m5
 ⟨bd,W,h1,h2⟩
theorem CW(ns:List Int)(hl:ns.length<=63)(at' mo:Nat)(m0:0<mo)(m5:mo<=5):∃bd W,Good bd W/\dJ [.scr ns, .int (at':Int), .int (mo:Int)]=ae (brd bd):=by
 obtain⟨bd,W,h1,_,_,h2⟩:=z6 ns hl at' mo m0 m5;exact⟨bd,W,h1,h2⟩
def Plain:D->Prop
 | .non | .bl _ | .int _ | .str _ | .tup _ | .lst _=>True
 |_=>False
def isStr:D->Bool
 | .str _=>true
 |_=>false
def isTup:D->Bool
 | .tup _=>true
 |_=>false
theorem gZ{d:D}(h:Plain d):lr [d, .raw (.ty "str")]=ae (.bl (isStr d)):=by
 cases d<;>first | rfl | exact h.elim
theorem B5{d:D}(h:Plain d):lr [d, .raw (.ty "tuple")]=ae (.bl (isTup d)):=by
 cases d<;>first | rfl | exact h.elim
def v7:D->Bool
 | .str x=>(x.length==1)&&II x
 |_=>false
theorem vC{ρ:bb}{i:Nat}{d:D}(h:ρ[i]? =some (fz d)):dV i ρ=ae d:=by
 unfold dV;rw[h]
theorem eq_int(i j:Int):iz (.int i) (.int j)=ae (.bl (i==j)):=rfl
theorem ne_int(i j:Int):ny (.int i) (.int j)=ae (.bl (!(i==j))):=rfl
theorem len_str(x:Str):bq [.str x]=ae (.int (x.length:Int)):=rfl
theorem in_str(x:Str):Fm false (.str x) (.str "abcdef")=ae (.bl (II x)):=rfl
theorem mr(a b:Nat):((a:Int)==(b:Int))=(a==b):=by
 by_cases h:a=b
 ·subst h;simp
 ·have h2:¬(a:Int)=(b:Int):=by omega
  rw[ad6.mpr h,ad6.mpr h2]
theorem Jb{d:D}(h:Plain d){i:Nat}{ρ:bb}(hρ:ρ[i]? =some (fz d)):
 gb (dA lr (aC (dV i) (aC (dC (.raw (.ty "str"))) aN))) (gb (d2 iz (dA bq (aC (dV i) aN)) (dC (.int 1))) (d2 (Fm false) (dV i) (dC (.str "abcdef")))) ρ=ae (.bl (v7 d)):=by
 have hv:=vC hρ;have e1:=mr;cases d with
 |str x=>
  have k:((x.length:Int)==1)=(x.length==1):=mr x.length 1;simp only[gb,dA,aC,aN,dC,d2,hv,ay,gZ h,isStr,EO,if_true,len_str,eq_int,k,in_str,v7];cases x.length==1<;>rfl
 |non=>simp only[gb,dA,aC,aN,dC,d2,hv,ay,gZ h,isStr,EO,if_false,Yi,v7]
 |bl b=>simp only[gb,dA,aC,aN,dC,d2,hv,ay,gZ h,isStr,EO,if_false,Yi,v7]
 |int b=>simp only[gb,dA,aC,aN,dC,d2,hv,ay,gZ h,isStr,EO,if_false,Yi,v7]
 |tup b=>simp only[gb,dA,aC,aN,dC,d2,hv,ay,gZ h,isStr,EO,if_false,Yi,v7]
 |lst b=>simp only[gb,dA,aC,aN,dC,d2,hv,ay,gZ h,isStr,EO,if_false,Yi,v7]
 |raw _=>exact h.elim
 |exc _=>exact h.elim
 |scr _=>exact h.elim
 |dct _ _=>exact h.elim
 |dci _ _=>exact h.elim
theorem sS{d:D}(h:Plain d):dI [d]=ae (.bl (v7 d)):=ba (br (Jb h rfl))
def kx(x:Str):Bool:=x.cps.toList.all λc=>II ⟨#[c]⟩
def pN:D->Bool
 | .str x=>(decide (1<=x.length)&&decide (x.length<=8))&&kx x
 |_=>false
theorem CY(l:List Bool):bools (l.map D.bl)=some l:=by
 induction l with
 |nil=>rfl
 |cons b r ih=>show (bools (r.map D.bl)).map _=_;rw[ih];rfl
theorem all_map(l:List Bool):allM [.lst (l.map D.bl)]=ae (.bl (l.all id)):=by
 show (match bools (l.map D.bl) with | some bs=>ae (D.bl (bs.all id)) | none=>ag)=_;rw[CY]
theorem E4{δ:DE}{ρ:bb}{n:Nat}(h:δ ρ=ae (.int (n:Int))):
 bU (zS (λi j=>decide (i<=j)) (λi j=>decide (i<=j)) (dC (.int 1)) δ (dC (.int 8))) ρ=ae (decide (1<=n)&&decide (n<=8)):=by
 have k1:decide ((1:Int)<=(n:Int))=decide (1<=n):=by by_cases h:1<=n<;>simp[h]<;>omega
 have k2:decide ((n:Int)<=8)=decide (n<=8):=by by_cases h:n<=8<;>simp[h]<;>omega
 simp only[bU,zS,dC,h,ay,k1,k2,gI,EO];cases decide (1<=n)<;>rfl
theorem AE{d:D}(h:Plain d):gF [d]=ae (.bl (pN d)):=by
 refine ba ?_;have hρ:([d].map (λd=>some (Sl.fz d))++XC (1 - [d].length) none)=[fz d]:=rfl;rw[hρ];have hv:dV 0 [fz d]=ae d:=rfl;have no:isStr d=false->zN [fz d]=ae (.rt (.bl false)):=λhs=>by
  refine hJ (eQ ?_ (br rfl));simp only[lS,fE,dR,dA,aC,aN,dC,hv,ay,gZ h,hs,HD,acG,if_true]
 cases d with
 |str x=>
  have hi:dR (dA lr (aC (dV 0) (aC (dC (.raw (.ty "str"))) aN))) [fz (.str x)]=ae true:=by
   simp only[dR,dA,aC,aN,dC,hv,ay,gZ h,isStr,HD]
  have hl:dA bq (aC (dV 0) aN) [fz (.str x)]=ae (.int (x.length:Int)):=rfl;have hc:=E4 hl;by_cases hr:(decide (1<=x.length)&&decide (x.length<=8))=true
  ·rw[hr] at hc;refine ak (c9 ?_ (ρ:=[fz (.str x)]) rfl) (br ?_)
   ·unfold lS fE;rw[hi,ay,ay,hc];rfl
   ·have hb:x.length<=8:=by simp only[XO,adZ] at hr;exact hr.2
    have cm:bB 0 (λρ=>(dV 0) ρ>>=Nv) ck (az 1 dI (aC (dV 0) aN)) [fz (.str x)]=ae (.lst ((x.cps.toList.map λc=>II ⟨#[c]⟩).map D.bl)):=by
     refine bO (ds:=signs x) rfl ?_ ?_
     ·have:=ix (f:=iw 0 ck (az 1 dI (aC (dV 0) aN)) [fz (.str x)]) (g:=λd=>D.bl (v7 d)) (signs x) λd hd=>by
       rw[ib];obtain⟨c,_,rfl⟩:=XE.mp hd;show (dI [.str ⟨#[c]⟩]>>=λy=>ae (some y))=_;rw[sS (d:= .str ⟨#[c]⟩) trivial];rfl
      rw[this];unfold signs;rw[Yn,Yn];congr 1
     ·rw[Xh,Xh,XZ,cF];exact X2 hb (by decide)
    rw[bY (aW cm rfl),all_map];show ae (D.bl ((x.cps.toList.map λc=>II ⟨#[c]⟩).all id))=ae (D.bl ((decide (1<=x.length)&&decide (x.length<=8))&&kx x));rw[hr];unfold kx;rw[aao];rfl
  ·have hr:(decide (1<=x.length)&&decide (x.length<=8))=false:=by simpa using hr
   rw[hr] at hc;have:pN (.str x)=false:=by
    show ((decide (1<=x.length)&&decide (x.length<=8))&&kx x)=false;rw[hr];rfl
   rw[this];refine hJ (eQ ?_ (br rfl));unfold lS fE;rw[hi,ay,ay,hc];rfl
 |non=>exact no rfl
 |bl b=>exact no rfl
 |int b=>exact no rfl
 |tup b=>exact no rfl
 |lst b=>exact no rfl
 |raw _=>exact h.elim
 |exc _=>exact h.elim
 |scr _=>exact h.elim
 |dct _ _=>exact h.elim
 |dci _ _=>exact h.elim
def lu:D->Nat
 | .str x=>x.length
 |_=>0
def ni:D->Bool
 | .tup ds=>(decide (1<=ds.length)&&decide (ds.length<=8))&&(ds.all pN&&ds.all λd=>lu d==lu (ds.headD .non))
 |_=>false
def Plain2:D->Prop
 | .tup ds=>∀d∈ds,Plain d
 |d=>Plain d
theorem Plain2.plain{d:D}(h:Plain2 d):Plain d:=by
 cases d<;>first | exact h | exact trivial
theorem Uq{ds:List D}{d:D}{r:List D}(h:ds=d::r):aU (.tup ds) (.int 0)=ae d:=by
 subst h;show (match L2.atI (d::r) ((0:Nat):Int) with | some d=>ae d | none=>ag)=_;rw[d7 (x:=d) rfl]
theorem J7{d:D}(h:pN d=true):∃x,d= .str x:=by
 cases d<;>first | exact⟨_,rfl⟩ | cases h
theorem eq_nil(l:List D):iz (.lst l) (.lst [])=ae (.bl l.isEmpty):=by cases l<;>rfl
theorem Dm{d:D}(h:Plain d):lS (fE (dR (dA lr (aC (dV 0) (aC (dC (.raw (.ty "tuple"))) aN))))) (fE (bU (zS (λi j=>decide (i<=j)) (λi j=>decide (i<=j)) (dC (.int 1)) (dA bq (aC (dV 0) aN)) (dC (.int 8))))) [fz d]=
 ae (match d with | .tup ds=>!(decide (1<=ds.length)&&decide (ds.length<=8)) | _=>true):=by
 have hv:dV 0 [fz d]=ae d:=rfl;have no:isTup d=false->lS (fE (dR (dA lr (aC (dV 0) (aC (dC (.raw (.ty "tuple"))) aN))))) (fE (bU (zS (λi j=>decide (i<=j)) (λi j=>decide (i<=j)) (dC (.int 1)) (dA bq (aC (dV 0) aN)) (dC (.int 8))))) [fz d]=ae true:=λhs=>by
  simp only[lS,fE,dR,dA,aC,aN,dC,hv,ay,B5 h,hs,HD,acG,if_true]
 cases d with
 |tup ds=>
  have hi:dR (dA lr (aC (dV 0) (aC (dC (.raw (.ty "tuple"))) aN))) [fz (.tup ds)]=ae true:=by
   simp only[dR,dA,aC,aN,dC,hv,ay,B5 h,isTup,HD]
  have hl:dA bq (aC (dV 0) aN) [fz (.tup ds)]=ae (.int (ds.length:Int)):=rfl;unfold lS fE;rw[hi,ay,ay,E4 hl];rfl
 |non=>exact no rfl
 |bl b=>exact no rfl
 |int b=>exact no rfl
 |str b=>exact no rfl
 |lst b=>exact no rfl
 |raw _=>exact h.elim
 |exc _=>exact h.elim
 |scr _=>exact h.elim
 |dct _ _=>exact h.elim
 |dci _ _=>exact h.elim
theorem all_rows{ds:List D}(h:∀d∈ds,Plain d)(hl:ds.length<=8):dA allM (aC (bB 0 (nq (dV 0)) ck (az 1 gF (aC (dV 0) aN))) aN) [fz (.tup ds)]=ae (.bl (ds.all pN)):=by
 have cm:bB 0 (nq (dV 0)) ck (az 1 gF (aC (dV 0) aN)) [fz (.tup ds)]=ae (.lst ((ds.map pN).map D.bl)):=by
  refine bO (ds:=ds) rfl ?_ (by rw[Xh,Xh,cF];omega);rw[Yn];refine ix (g:=D.bl∘pN) ds λd hd=>?_;rw[ib];show (gF [d]>>=λy=>ae (some y))=_;rw[AE (h d hd)];rfl
 rw[bY (aW cm rfl),all_map,aao];rfl
theorem all_lens{ds:List D}(hs:∀d∈ds,∃x,d= .str x)(h0:1<=ds.length)(hl:ds.length<=8):
 dA allM (aC (bB 0 (nq (dV 0)) ck (d2 iz (dA bq (aC (dV 0) aN)) (dA bq (aC (d2 aU (dV 1) (dC (.int 0))) aN)))) aN) [fz (.tup ds)]=ae (.bl (ds.all λd=>lu d==lu (ds.headD .non))):=by
 obtain⟨d0,r,e0⟩:∃d0 r,ds=d0::r:=by
  cases ds with
  |nil=>simp at h0
  |cons a r=>exact⟨a,r,rfl⟩
 have hh:ds.headD .non=d0:=by rw[e0];rfl
 obtain⟨x0,Ui⟩:=hs d0 (by rw[e0];exact Xk ..);have cm:bB 0 (nq (dV 0)) ck (d2 iz (dA bq (aC (dV 0) aN)) (dA bq (aC (d2 aU (dV 1) (dC (.int 0))) aN))) [fz (.tup ds)]=ae (.lst ((ds.map λd=>lu d==lu (ds.headD .non)).map D.bl)):=by
  refine bO (ds:=ds) rfl ?_ (by rw[Xh,Xh,cF];omega);rw[Yn];refine ix (g:=D.bl∘λd=>lu d==lu (ds.headD .non)) ds λd hd=>?_;rw[ib];obtain⟨x,rfl⟩:=hs d hd;have k:((x.length:Int)==(x0.length:Int))=(x.length==x0.length):=mr _ _;have i0:aU (.tup ds) (.int 0)=ae (.str x0):=by rw[Uq e0,Ui]
  have VG:ds.headD .non= .str x0:=by rw[hh,Ui]
  simp only[d2,dA,aC,aN,dC,dV,ay,X7,X8,len_str,i0,eq_int,k,adX,lu,VG]
 rw[bY (aW cm rfl),all_map,aao];rfl
theorem l7{d:D}(h:Plain2 d):i6 [d]=ae (.bl (ni d)):=by
 refine ba ?_;have hρ:([d].map (λd=>some (Sl.fz d))++XC (1 - [d].length) none)=[fz d]:=rfl;rw[hρ];have hf:=Dm h.plain;have no:(∀ds,d≠ .tup ds)->sA [fz d]=ae (.rt (.bl (ni d))):=λhn=>by
  cases d<;>first | exact ad3 rfl (hn _) | exact hJ (eQ hf (br rfl))
 cases d with
 |tup ds=>
  have hf:_=ae (!(decide (1<=ds.length)&&decide (ds.length<=8))):=hf;by_cases hr:(decide (1<=ds.length)&&decide (ds.length<=8))=true
  ·rw[hr] at hf;have hb:=hr;simp only[XO,adZ] at hb;have e:ni (.tup ds)=(ds.all pN&&ds.all λd=>lu d==lu (ds.headD .non)):=by
    show ((decide (1<=ds.length)&&decide (ds.length<=8))&&_)=_;rw[hr,Bool.true_and]
   rw[e];have a1:=all_rows h hb.2;refine ak (c9 hf rfl) ?_;cases hc:ds.all pN with
   |false=>
    rw[hc] at a1;refine hJ (eQ ?_ (br rfl));unfold fE dR;rw[a1];rfl
   |true=>
    rw[hc] at a1;refine ak (c9 ?_ rfl) (br ?_)
    ·unfold fE dR;rw[a1];rfl
    ·rw[Bool.true_and];exact all_lens (λd hd=>J7 (Yl.mp hc d hd)) hb.1 hb.2
  ·have hr:(decide (1<=ds.length)&&decide (ds.length<=8))=false:=by simpa using hr
   rw[hr] at hf;have e:ni (.tup ds)=false:=by
    show ((decide (1<=ds.length)&&decide (ds.length<=8))&&_)=_;rw[hr];rfl
   rw[e];exact hJ (eQ hf (br rfl))
 |non=>exact no λ_ z=>by cases z
 |bl b=>exact no λ_ z=>by cases z
 |int b=>exact no λ_ z=>by cases z
 |str b=>exact no λ_ z=>by cases z
 |lst b=>exact no λ_ z=>by cases z
 |raw _=>exact h.elim
 |exc _=>exact h.elim
 |scr _=>exact h.elim
 |dct _ _=>exact h.elim
 |dci _ _=>exact h.elim
structure Brd (ob:List Str) (V:Nat):Prop where
 r1:1<=ob.length
 r8:ob.length<=8
 w1:1<=V
 w8:V<=8
 rows:∀r∈ob,Row V r
theorem Good.brd{bd:List Str}{W:Nat}(hg:Good bd W):Brd bd W:=⟨hg.r1,by have:=hg.r5;omega,hg.w1,by have:=hg.w5;omega,hg.rows⟩
theorem Brd.board{ob:List Str}{V:Nat}(h:Brd ob V):ni (brd ob)=true:=by
 have LY:∀r∈ob,pN (.str r)=true:=λr hr=>by
  have q:=h.rows r hr;show ((decide (1<=r.length)&&decide (r.length<=8))&&kx r)=true;rw[q.len];have a:decide (1<=V)=true:=ad1 h.w1;have b:decide (V<=8)=true:=ad1 h.w8;rw[a,b];show kx r=true;exact Yl.mpr λc hc=>q.let' c hc
 have h0:lu ((ob.map D.str).headD .non)=V:=by
  have:=h.r1;have hr:=h.rows;cases ob with
  |nil=>simp at this
  |cons x l=>exact(hr x (Xk ..)).len
 show ((decide (1<=(ob.map D.str).length)&&decide ((ob.map D.str).length<=8))&&((ob.map D.str).all pN&&(ob.map D.str).all λd=>lu d==lu ((ob.map D.str).headD .non)))=true;rw[h0,Xh,ad1 h.r1,ad1 h.r8];have a:(ob.map D.str).all pN=true:=Yl.mpr λd hd=>by
  obtain⟨r,hr,rfl⟩:=XE.mp hd;exact LY r hr
 have b:((ob.map D.str).all λd=>lu d==V)=true:=Yl.mpr λd hd=>by
  obtain⟨r,hr,rfl⟩:=XE.mp hd;show (r.length==V)=true;rw[(h.rows r hr).len];simp
 rw[a,b];rfl
theorem CZ{bd:List Str}:Plain2 (brd bd):=λd hd=>by
 obtain⟨r,_,rfl⟩:=XE.mp hd;trivial
theorem jJ{δ:DE}{ρ:bb}{b:Bool}(h:δ ρ=ae (.bl b)):dR δ ρ=ae b:=by
 unfold dR;rw[h];rfl
theorem dF{δ:DE}{ρ:bb}{b:Bool}(h:δ ρ=ae (.bl b)):bU δ ρ=ae b:=by
 unfold bU;rw[h];rfl
theorem vB{τ:DT}{ρ:bb}{b:Bool}(h:τ ρ=ae b):fE τ ρ=ae (!b):=by
 unfold fE;rw[h];rfl
theorem t6{a c:DT}{ρ:bb}{p q:Bool}(h1:a ρ=ae p)(h2:c ρ=ae q):lS a c ρ=ae (p||q):=by
 unfold lS;rw[h1,ay];cases p
 ·exact h2
 ·rfl
theorem Kv{a c:DT}{ρ:bb}(h1:a ρ=ae true):lS a c ρ=ae true:=by
 unfold lS;rw[h1];rfl
theorem jI{a c:DT}{ρ:bb}{p q:Bool}(h1:a ρ=ae p)(h2:c ρ=ae q):lg a c ρ=ae (p&&q):=by
 unfold lg;rw[h1,ay];cases p
 ·rfl
 ·exact h2
theorem E6{a c:DT}{ρ:bb}(h1:a ρ=ae false):lg a c ρ=ae false:=by
 unfold lg;rw[h1];rfl
theorem Ik{a c:DE}{ρ:bb}{p q:Bool}(h1:a ρ=ae (.bl p))(h2:c ρ=ae (.bl q)):gb a c ρ=ae (.bl (p&&q)):=by
 unfold gb;rw[h1,ay];cases p
 ·rfl
 ·exact h2
theorem Kt{c:DT}{a b:DE}{ρ:bb}{p:Bool}(h:c ρ=ae p):HM c a b ρ=if p then a ρ else b ρ:=by
 unfold HM;rw[h];rfl
theorem Brd.nb{ob:List Str}{V:Nat}(h:Brd ob V):eZ [brd ob]=ae .non:=by
 refine CB (ρ:=[fz (brd ob)]) (c9 (vB (jJ (b:=true) ?_)) rfl);refine(av (ds:=[brd ob]) rfl rfl).trans ?_;rw[l7 CZ,h.board]
structure Ln (V:Nat) (r:Str):Prop where
 len:r.length=V
structure Wd (ob:List Str) (V:Nat):Prop where
 r1:1<=ob.length
 r8:ob.length<=8
 w1:1<=V
 w8:V<=8
 rows:∀r∈ob,Ln V r
theorem Brd.wd{ob:List Str}{V:Nat}(h:Brd ob V):Wd ob V:=⟨h.r1,h.r8,h.w1,h.w8,λr hr=>⟨(h.rows r hr).len⟩⟩
theorem Wd.len0{ob:List Str}{V:Nat}(h:Wd ob V){i:Nat}{ρ:bb}(hρ:ρ[i]? =some (fz (brd ob))):dA bq (aC (d2 aU (dV i) (dC (.int 0))) aN) ρ=ae (.int (V:Int)):=by
 have h1:=h.r1;have hr:=h.rows;obtain⟨x,l,e⟩:∃x l,ob=x::l:=by
  cases ob with
  |nil=>simp at h1
  |cons x l=>exact⟨x,l,rfl⟩
 have hx:x.length=V:=(hr x (by rw[e];exact Xk ..)).len;have i0:aU (brd ob) (.int 0)=ae (.str x):=Uq (show ob.map D.str=D.str x::l.map D.str by rw[e];rfl);have k:=aB (g:=aU) (vC hρ) (show dC (.int 0) ρ=ae (.int 0) from rfl);rw[i0] at k;rw[bY (aW (xs:=[]) k rfl)];show ae (D.int (x.length:Int))=_;rw[hx]
theorem Brd.len0{ob:List Str}{V:Nat}(h:Brd ob V){i:Nat}{ρ:bb}(hρ:ρ[i]? =some (fz (brd ob))):dA bq (aC (d2 aU (dV i) (dC (.int 0))) aN) ρ=ae (.int (V:Int)):=h.wd.len0 hρ
theorem DN{bd:List Str}{i:Nat}{ρ:bb}(hρ:ρ[i]? =some (fz (brd bd))):dA bq (aC (dV i) aN) ρ=ae (.int (bd.length:Int)):=by
 have:bq [brd bd]=ae (.int (bd.length:Int)):=by
  show ae (D.int ((bd.map D.str).length:Int))=_;rw[Xh]
 simp only[dA,aC,aN,vC hρ,ay,this]
def NJ:D->Bool
 | .int _=>true
 |_=>false
theorem Eu{d:D}(h:Plain d):fF [d]=ae (.bl (NJ d)):=by
 cases d<;>first | rfl | exact h.elim
theorem N6{δ ε:DE}{ρ:bb}{i n:Int}(h:δ ρ=ae (.int i))(h2:ε ρ=ae (.int n)):
 zS (λi j=>decide (i<=j)) (λi j=>decide (i<j)) (dC (.int 0)) δ ε ρ=ae (.bl (decide (0<=i)&&decide (i<n))):=by
 simp only[zS,dC,h,h2,ay,gI];cases decide (0<=i)<;>rfl
theorem O6{d e:D}:aU (.tup [d,e]) (.int 0)=ae d/\aU (.tup [d,e]) (.int 1)=ae e:=⟨rfl,rfl⟩
abbrev Cell:=Nat×Nat
def cD(c:Cell):D:= .tup [.int (c.1:Int), .int (c.2:Int)]
def On(R W:Nat)(c:Cell):Prop:=c.1<R/\c.2<W
instance {R W:Nat}{c:Cell}:Decidable (On R W c):=by unfold On;infer_instance
def Ways(w:Nat):Prop:=w=4\/w=8
theorem Ways.nw{w:Nat}(h:Ways w):gX [iW w]=ae .non:=by
 rcases h with rfl | rfl<;>rfl
def ch(x:Str)(j:Nat):Nat:=x.cps.toList.getD j 0
def at2(bd:List Str)(i j:Nat):Nat:=ch (bd.getD i ⟨#[]⟩) j
abbrev lt(bd:List Str)(c:Cell):Nat:=at2 bd c.1 c.2
def sg(n:Nat):D:= .str ⟨#[n]⟩
theorem xb{x:Str}{c:Nat}(h:c<x.length):jK (.str x) (.int (c:Int))=ae (sg (ch x c)):=by
 have h':c<x.cps.toList.length:=by rw[XZ];exact h
 show (match L2.atI x.cps.toList (c:Int) with | some c=>ae (D.str ⟨#[c]⟩) | none=>ag)=_;rw[d7 (Xi h')];unfold sg ch;rw[XG,Xi h'];rfl
theorem getD_mem{bd:List Str}{i:Nat}(h:i<bd.length):bd.getD i ⟨#[]⟩∈bd:=by
 rw[XG,Xi h];exact Z3 h
theorem AH{bd:List Str}{i:Nat}(h:i<bd.length):aU (brd bd) (.int (i:Int))=ae (.str (bd.getD i ⟨#[]⟩)):=by
 show (match L2.atI (bd.map D.str) (i:Int) with | some d=>ae d | none=>ag)=_;rw[d7 (x:= .str (bd.getD i ⟨#[]⟩)) ?_];rw[Xv,Xi h,XG,Xi h];rfl
theorem fN{bd:List Str}{W:Nat}(hg:Brd bd W){c:Cell}(h:On bd.length W c):bh [brd bd,cD c]=ae (sg (lt bd c)):=by
 refine ba (br ?_);refine(aB (x:= .str (bd.getD c.1 ⟨#[]⟩)) (y:= .int (c.2:Int)) ((aB (x:=brd bd) (y:= .int (c.1:Int)) rfl rfl).trans (AH h.1)) rfl).trans ?_;exact xb (by rw[(hg.rows _ (getD_mem h.1)).len];exact h.2)
theorem KD(a b:Nat):iz (sg a) (sg b)=ae (.bl (decide (a=b))):=by
 show ae (D.bl (decide ((⟨#[a]⟩:Str)=⟨#[b]⟩)))=_;congr 2;by_cases h:a=b
 ·subst h;simp
 ·have:¬((⟨#[a]⟩:Str)=⟨#[b]⟩):=λz=>by
   injection z with z
   exact h (by simpa using z)
  rw[ad2 h,ad2 this]
def fw(a b:Nat):Nat:=max a b - min a b
def eS(w:Nat)(a b:Cell):Bool:=if w=4 then decide (fw a.1 b.1+fw a.2 b.2=1) else decide (max (fw a.1 b.1) (fw a.2 b.2)=1)
theorem pV(a b:Nat):nh [.int ((a:Int) - (b:Int))]=ae (.int (fw a b:Int)):=by
 show ae (D.int _)=_;congr 2;unfold fw;omega
theorem vc{w:Nat}(hw:Ways w)(a b:Cell):eC [cD a,cD b,iW w]=ae (.bl (eS w a b)):=by
 refine ba ?_;refine ak (ρ':=[fz (cD a),fz (cD b),fz (iW w),fz (.int (fw a.1 b.1:Int)),none]) ((aG (d:= .int (fw a.1 b.1:Int)) (pV a.1 b.1)).trans rfl) ?_;refine ak (ρ':=[fz (cD a),fz (cD b),fz (iW w),fz (.int (fw a.1 b.1:Int)),fz (.int (fw a.2 b.2:Int))]) ((aG (d:= .int (fw a.2 b.2:Int)) (pV a.2 b.2)).trans rfl) ?_;rcases hw with rfl | rfl
 ·refine hJ (eQ (dF rfl) (br ?_));show ae (D.bl (((fw a.1 b.1:Int)+(fw a.2 b.2:Int))==1))=_;unfold eS;rw[adY rfl];congr 2;have:((fw a.1 b.1:Int)+(fw a.2 b.2:Int))=((fw a.1 b.1+fw a.2 b.2:Nat):Int):=by omega
  rw[this];have e:=mr (fw a.1 b.1+fw a.2 b.2) 1;exact e.trans rfl
 ·refine ak (c9 (dF rfl) rfl) (br ?_);show ae (D.bl ((if (fw a.1 b.1:Int)<(fw a.2 b.2:Int) then(fw a.2 b.2:Int) else(fw a.1 b.1:Int))==1))=_;have hn:eS 8 a b=decide (max (fw a.1 b.1) (fw a.2 b.2)=1):=rfl;rw[hn];congr 2;have:(if (fw a.1 b.1:Int)<(fw a.2 b.2:Int) then(fw a.2 b.2:Int) else(fw a.1 b.1:Int))=((max (fw a.1 b.1) (fw a.2 b.2):Nat):Int):=by split<;>omega
  rw[this];have e:=mr (max (fw a.1 b.1) (fw a.2 b.2)) 1;exact e.trans rfl
theorem fc(w:Nat)(a b:Cell):eS w a b=eS w b a:=by
 have e:∀x y:Nat,fw x y=fw y x:=λx y=>by unfold fw;omega
 unfold eS;rw[e a.1,e a.2]
theorem Ph{a b:Cell}(h:eS 4 a b=true):eS 8 a b=true:=by
 unfold eS at h⊢;rw[adY rfl] at h;rw[ad0 (by decide)];have h:=ad4 h;exact ad1 (by omega)
theorem Mx{w:Nat}(hw:Ways w){a:Cell}:eS w a a=false:=by
 unfold eS fw;rcases hw with rfl | rfl<;>simp
theorem bF{put:D->bb->Option bb}{body:DS}{d:D}{ds:List D}{ρ ρ1 ρ2:bb}(h1:put d ρ=some ρ1)(h2:body ρ1=ae (.nx ρ2)):forL put body (d::ds) ρ=forL put body ds ρ2:=by
 show (match put d ρ with | none=>ag | some ρ1=>body ρ1>>=λo=>match o with | .nx ρ2=>forL put body ds ρ2 | .rt v=>ae (.rt v))=_;rw[h1];show (body ρ1>>=λo=>match o with | .nx ρ2=>forL put body ds ρ2 | .rt v=>ae (.rt v))=_;rw[h2];rfl
section
variable{α σ:Type}{put:D->bb->Option bb}{body:DS}
theorem kr(enc:α->D)(mk:σ->bb)(step:σ->α->σ)(I:σ->Prop):∀(xs:List α) (s:σ),I s->(∀s,I s->∀x∈xs,I (step s x)/\∃ρ1,put (enc x) (mk s)=some ρ1/\body ρ1=ae (.nx (mk (step s x))))->
 I (xs.foldl step s)/\forL put body (xs.map enc) (mk s)=ae (.nx (mk (xs.foldl step s)))
 |[],s,h,_=>⟨h,rfl⟩
 |x::xs,s,h,st=>by
  obtain⟨h2,ρ1,e1,e2⟩:=st s h x (Xk ..);obtain⟨h3,e3⟩:=kr enc mk step I xs (step s x) h2 λs hs y hy=>st s hs y (Xj _ hy);exact⟨h3,(bF e1 e2).trans e3⟩
theorem ud(enc:α->D)(ρ:bb):∀(xs:List α),(∀x∈xs,∃ρ1,put (enc x) ρ=some ρ1/\body ρ1=ae (.nx ρ))->forL put body (xs.map enc) ρ=ae (.nx ρ)
 |[],_=>rfl
 |x::xs,st=>by
  obtain⟨ρ1,e1,e2⟩:=st x (Xk ..);exact(bF e1 e2).trans (ud enc ρ xs λy hy=>st y (Xj _ hy))
theorem eh(enc:α->D)(mk:List D->bb)(g:α->List D){B:Nat}:∀(xs:List α) (acc:List D),(acc++xs.flatMap g).length<=B->(∀x∈xs,∀acc,(acc++g x).length<=B->∃ρ1,put (enc x) (mk acc)=some ρ1/\body ρ1=ae (.nx (mk (acc++g x))))->
 forL put body (xs.map enc) (mk acc)=ae (.nx (mk (acc++xs.flatMap g)))
 |[],acc,_,_=>by simp;rfl
 |x::xs,acc,hB,st=>by
  have TJ:((acc++g x)++xs.flatMap g).length<=B:=by simpa[YZ,Y7] using hB
  obtain⟨ρ1,e1,e2⟩:=st x (Xk ..) acc (X2 (by simp only[Xq];omega) TJ);have e3:=eh enc mk g xs (acc++g x) TJ λy hy=>st y (Xj _ hy);rw[Xp,bF e1 e2,e3,YZ,Y7]
end
theorem c8{put:D->bb->Option bb}{δi:DA}{b:DS}{ρ:bb}{ds:List D}{m:M Out}(h:δi ρ=ae ds)(h2:forL put b ds ρ=m):cV put δi b ρ=m:=by
 unfold cV;rw[h];exact h2
theorem bW{τ:DS}{ρ:bb}{o:Out}(h:τ ρ=ae o):(λρ=>noex (τ ρ)) ρ=ae o:=by
 show noex (τ ρ)=_;rw[h];rfl
theorem zq(lo n:Nat):iO (lo:Int) n=(Yu lo n).map λ(k:Nat)=>D.int (k:Int):=by
 unfold iO;rw[adi];have:∀(n a:Nat),(Yu a n).map (λ(i:Nat)=>D.int ((lo:Int)+(i:Int)))=(Yu (lo+a) n).map λ(k:Nat)=>D.int (k:Int):=by
  intro n;induction n with
  |zero=>intro a;rfl
  |succ n ih=>
   intro a;rw[aa_,aa_,Xp,Xp,ih (a+1)];rfl
 exact this n 0
theorem zp{δ:DE}{ρ:bb}{n:Nat}(h:δ ρ=ae (.int (n:Int)))(hn:n<=4096):(aC δ aN ρ>>=eO)=ae ((XQ n).map λ(k:Nat)=>D.int (k:Int)):=by
 rw[aW h rfl,ay,n_ hn,show iO 0 n=iO ((0:Nat):Int) n from rfl,zq,adi]
theorem P6{δ ε:DE}{ρ:bb}{i j:Nat}(h:δ ρ=ae (.int (i:Int)))(h2:ε ρ=ae (.int (j:Int)))(hi:i<=4096)(hj:j<=4096):(aC δ (aC ε aN) ρ>>=uW)=ae ((Yu i (j - i)).map λ(k:Nat)=>D.int (k:Int)):=by
 rw[aW h (aW h2 rfl),ay];show (if (-4096<=(i:Int)/\(i:Int)<=4096)/\(-4096<=(j:Int)/\(j:Int)<=4096) then ae (iO (i:Int) ((j:Int) - (i:Int)).toNat) else ag)=_;rw[adY ⟨⟨by omega,by omega⟩,by omega,by omega⟩,show ((j:Int) - (i:Int)).toNat=j - i by omega,zq]
def b_(W r:Nat):List Cell:=(XQ W).map λk=>(r,k)
def ax(R W:Nat):List Cell:=(XQ R).flatMap (b_ W)
theorem aD{R W:Nat}{c:Cell}:c∈ax R W↔On R W c:=by
 unfold ax b_ On;simp only[aba,Y3,XE];constructor
 ·rintro⟨r,hr,k,hk,rfl⟩;exact⟨hr,hk⟩
 ·rintro⟨h1,h2⟩;exact⟨c.1,h1,c.2,h2,rfl⟩
theorem bo(R W:Nat):(ax R W).length=R*W:=by
 unfold ax;have:∀l:List Nat,(l.flatMap (b_ W)).length=l.length*W:=by
  intro l;induction l with
  |nil=>simp
  |cons a l ih=>rw[YZ,Xq,ih,Xo,Nat.succ_mul];simp[b_];omega
 rw[this,aaZ]
theorem iu{bd:List Str}{W:Nat}(hg:Brd bd W)(r:Nat):bK [brd bd, .int (r:Int)]=ae (.lst ((b_ W r).map cD)):=by
 have:=hg.w8;refine ba (br (bO (zp (n:=W) (hg.len0 rfl) (by omega)) ?_ (by simp[b_,cF];omega)));rw[show (b_ W r).map cD=((XQ W).map λ(k:Nat)=>D.int (k:Int)).map (λe=> .tup [.int (r:Int),e]) by simp[b_,Yn];intro a _;rfl];exact ix (g:=λe=> .tup [.int (r:Int),e]) _ λe _=>rfl
theorem kI{bd:List Str}{W:Nat}(hg:Brd bd W):cX [brd bd]=ae (.lst ((ax bd.length W).map cD)):=by
 have h8:=hg.r8;have w8:=hg.w8;have hm:bd.length*W<=64:=Zo h8 w8;have Du:(XQ bd.length).flatMap (λr=>(b_ W r).map cD)=(ax bd.length W).map cD:=by
  unfold ax;rw[aar]
 have e:=eh (put:=putN 2) (body:=cx [2] (Hg 1 (az 2 bK (aC (dV 0) (aC (dV 2) aN))))) (λ(k:Nat)=>D.int (k:Int)) (λacc=>[fz (brd bd),some (.ow (.lst acc)),none]) (λr=>(b_ W r).map cD) (B:=64) (XQ bd.length) []
  (by rw[XW,Du,Xh,bo];exact hm) λr hr acc hB=>by
   refine⟨[fz (brd bd),some (.ow (.lst acc)),fz (.int (r:Int))],rfl,?_⟩;refine(aQ (ρ':=[fz (brd bd),some (.ow (.lst (acc++(b_ W r).map cD))),fz (.int (r:Int))]) ?_).trans rfl;show (bK [brd bd, .int (r:Int)]>>=λd=>lstM d>>=λes=>if acc.length+es.length<=lim then ae (Out.nx (List.set [fz (brd bd),some (.ow (.lst acc)),fz (.int (r:Int))] 1 (some (.ow (.lst (acc++es)))))) else ag)=_;rw[iu hg,ay];show (if acc.length+((b_ W r).map cD).length<=lim then ae (Out.nx [fz (brd bd),some (.ow (.lst (acc++(b_ W r).map cD))),fz (.int (r:Int))]) else ag)=_;rw[adY (by rw[Xq] at hB;rw[cF];omega)]
 rw[XW,Du] at e;refine ba (ak (ρ':=[fz (brd bd),some (.ow (.lst [])),none]) rfl (ak (ρ':=[fz (brd bd),some (.ow (.lst ((ax bd.length W).map cD))),none]) (bW (c8 (zp (n:=bd.length) (DN rfl) (by omega)) e)) ?_));rfl
def eN(R W w:Nat)(c:Cell):List Cell:=
 (Yu (c.1 - 1) (min (c.1+2) R - (c.1 - 1))).flatMap λr=>((Yu (c.2 - 1) (min (c.2+2) W - (c.2 - 1))).map λk=>(r,k)).filter (eS w c)
theorem iE{R W w:Nat}(hw:Ways w){c x:Cell}:x∈eN R W w c↔On R W x/\eS w c x=true:=by
 unfold eN On;simp only[aba,XY,XE,List.mem_range'_1];constructor
 ·rintro⟨r,⟨h1,h2⟩,⟨k,⟨h3,h4⟩,rfl⟩,h5⟩;refine⟨⟨?_,?_⟩,h5⟩
  ·show r<R;omega
  ·show k<W;omega
 ·rintro⟨⟨h1,h2⟩,h5⟩;have h6:fw c.1 x.1<=1/\fw c.2 x.2<=1:=by
   unfold eS at h5;rcases hw with rfl | rfl
   ·rw[adY rfl] at h5;have:=ad4 h5;omega
   ·rw[ad0 (by decide)] at h5;have:=ad4 h5;omega
  unfold fw at h6;exact⟨x.1,⟨by omega,by omega⟩,⟨x.2,⟨by omega,by omega⟩,rfl⟩,h5⟩
theorem uy(R W w:Nat)(c:Cell):(eN R W w c).length<=9:=by
 unfold eN;rw[adp];have h:∀r,(((Yu (c.2 - 1) (min (c.2+2) W - (c.2 - 1))).map λk=>(r,k)).filter (eS w c)).length<=3:=λr=>by
  refine X2 (Yw ..) ?_;rw[Xh,abJ];omega
 have:∀(l:List Nat),(l.map λr=>(((Yu (c.2 - 1) (min (c.2+2) W - (c.2 - 1))).map λk=>(r,k)).filter (eS w c)).length).sum<=3*l.length:=by
  intro l;induction l with
  |nil=>simp
  |cons a l ih=>rw[Xp,Yq,Xo];have:=h a;omega
 refine X2 (this _) ?_;rw[abJ];omega
abbrev nc(b c w:D)(acc:List D)(x4 x5:Option Sl):bb:=[fz b,fz c,fz w,some (.ow (.lst acc)),x4,x5]
theorem jU{bd:List Str}{W w:Nat}(hg:Brd bd W)(hw:Ways w){c:Cell}(hc:On bd.length W c):bM [brd bd,cD c,iW w]=ae (.lst ((eN bd.length W w c).map cD)):=by
 have h8:=hg.r8;have w8:=hg.w8;obtain⟨c1,c2⟩:=hc;have OK:∀n:Nat,AN [.int ((n:Int) - 1), .int 0]=ae (.int ((n - 1:Nat):Int)):=λn=>by
  show ae (D.int (if (0:Int)>(n:Int) - 1 then 0 else(n:Int) - 1))=_;congr 2;split<;>omega
 have ID:∀n m:Nat,DX [.int ((n:Int)+2), .int (m:Int)]=ae (.int ((min (n+2) m:Nat):Int)):=λn m=>by
  show ae (D.int (if (m:Int)<(n:Int)+2 then(m:Int) else(n:Int)+2))=_;congr 2;split<;>omega
 have inner:∀(r:Nat) (acc:List D),acc.length<=16->forL (putN 5) (cx [5] (iP (dR (az 3 eC (aC (dV 1) (aC (dA aY (aC (dV 4) (aC (dV 5) aN))) (aC (dV 2) aN))))) (jC 3 (dA aY (aC (dV 4) (aC (dV 5) aN)))) dE))
  ((Yu (c.2 - 1) (min (c.2+2) W - (c.2 - 1))).map λ(k:Nat)=>D.int (k:Int)) (nc (brd bd) (cD c) (iW w) acc (fz (.int (r:Int))) none)=
  ae (.nx (nc (brd bd) (cD c) (iW w) (acc++(Yu (c.2 - 1) (min (c.2+2) W - (c.2 - 1))).flatMap λk=>if eS w c (r,k) then [cD (r,k)] else []) (fz (.int (r:Int))) none)):=λr acc Fx=>by
  refine eh (λ(k:Nat)=>D.int (k:Int)) (λacc=>nc (brd bd) (cD c) (iW w) acc (fz (.int (r:Int))) none) (λk=>if eS w c (r,k) then [cD (r,k)] else []) (B:=64) _ acc ?_ λk hk acc hB=>?_
  ·rw[Xq,adp];have:∀l:List Nat,(l.map λk=>(if eS w c (r,k) then [cD (r,k)] else []).length).sum<=l.length:=by
    intro l;induction l with
    |nil=>simp
    |cons a l ih=>rw[Xp,Yq,Xo];split<;>simp<;>omega
   have h2:=this (Yu (c.2 - 1) (min (c.2+2) W - (c.2 - 1)));rw[abJ] at h2;omega
  ·refine⟨nc (brd bd) (cD c) (iW w) acc (fz (.int (r:Int))) (fz (.int (k:Int))),rfl,?_⟩;have ht:dR (az 3 eC (aC (dV 1) (aC (dA aY (aC (dV 4) (aC (dV 5) aN))) (aC (dV 2) aN)))) (nc (brd bd) (cD c) (iW w) acc (fz (.int (r:Int))) (fz (.int (k:Int))))=ae (eS w c (r,k)):=
    jJ ((av (ds:=[cD c,cD (r,k),iW w]) rfl rfl).trans (vc hw c (r,k)))
   cases hn:eS w c (r,k) with
   |true=>
    rw[hn] at ht;rw[hn,adY rfl,Xq] at hB;refine(aQ (ρ':=nc (brd bd) (cD c) (iW w) (acc++[cD (r,k)]) (fz (.int (r:Int))) (fz (.int (k:Int)))) (eQ ht ?_)).trans rfl;show (if acc.length<lim then ae (Out.nx (nc (brd bd) (cD c) (iW w) (acc++[cD (r,k)]) (fz (.int (r:Int))) (fz (.int (k:Int))))) else ag)=_;rw[adY (by rw[cF];simp at hB;omega)]
   |false=>
    rw[hn] at ht;refine(aQ (ρ':=nc (brd bd) (cD c) (iW w) acc (fz (.int (r:Int))) (fz (.int (k:Int)))) (c9 ht rfl)).trans ?_;simp;rfl
 have flt:∀r,((Yu (c.2 - 1) (min (c.2+2) W - (c.2 - 1))).flatMap λk=>if eS w c (r,k) then [cD (r,k)] else [])=(((Yu (c.2 - 1) (min (c.2+2) W - (c.2 - 1))).map λk=>(r,k)).filter (eS w c)).map cD:=λr=>by
  generalize Yu (c.2 - 1) (min (c.2+2) W - (c.2 - 1))=l;induction l with
  |nil=>rfl
  |cons a l ih=>
   rw[YZ,ih,Xp,YG];cases eS w c (r,a)<;>rfl
 have tot:(Yu (c.1 - 1) (min (c.1+2) bd.length - (c.1 - 1))).flatMap (λr=>(((Yu (c.2 - 1) (min (c.2+2) W - (c.2 - 1))).map λk=>(r,k)).filter (eS w c)).map cD)=(eN bd.length W w c).map cD:=by
  unfold eN;rw[aar]
 have outer:=eh (put:=putN 4) (body:=cx [4,5] (cV (putN 5) (λρ=>(aC (dA AN (aC (d2 jz (d2 aU (dV 1) (dC (.int 1))) (dC (.int 1))) (aC (dC (.int 0)) aN))) (aC (dA DX (aC (d2 dN (d2 aU (dV 1) (dC (.int 1))) (dC (.int 2))) (aC (dA bq (aC (d2 aU (dV 0) (dC (.int 0))) aN)) aN))) aN)) ρ>>=uW) (cx [5] (iP (dR (az 3 eC (aC (dV 1) (aC (dA aY (aC (dV 4) (aC (dV 5) aN))) (aC (dV 2) aN))))) (jC 3 (dA aY (aC (dV 4) (aC (dV 5) aN)))) dE))))
  (λ(k:Nat)=>D.int (k:Int)) (λacc=>nc (brd bd) (cD c) (iW w) acc none none) (λr=>(((Yu (c.2 - 1) (min (c.2+2) W - (c.2 - 1))).map λk=>(r,k)).filter (eS w c)).map cD) (B:=16) (Yu (c.1 - 1) (min (c.1+2) bd.length - (c.1 - 1))) []
  (by rw[XW,tot,Xh];have:=uy bd.length W w c;omega) λr hr acc hB=>by
   refine⟨nc (brd bd) (cD c) (iW w) acc (fz (.int (r:Int))) none,rfl,?_⟩;have e:=inner r acc (by rw[Xq] at hB;omega);rw[flt r] at e;refine(aQ (c8 (P6 (i:=c.2 - 1) (j:=min (c.2+2) W) ?_ ?_ (by omega) (by omega)) e)).trans rfl
   ·exact(bY (xs:=[.int ((c.2:Int) - 1), .int 0]) rfl).trans (OK c.2)
   ·refine(bY (xs:=[.int ((c.2:Int)+2), .int (W:Int)]) ?_).trans (ID c.2 W);exact aW (show d2 dN (d2 aU (dV 1) (dC (.int 1))) (dC (.int 2)) (nc (brd bd) (cD c) (iW w) acc (fz (.int (r:Int))) none)=ae (.int ((c.2:Int)+2)) from rfl) (aW (hg.len0 rfl) rfl)
 rw[XW,tot] at outer;refine ba (ak (ρ':=nc (brd bd) (cD c) (iW w) [] none none) rfl (ak (ρ':=nc (brd bd) (cD c) (iW w) ((eN bd.length W w c).map cD) none none) (bW (c8 (P6 (i:=c.1 - 1) (j:=min (c.1+2) bd.length) ?_ ?_ (by omega) (by omega)) outer)) ?_))
 ·exact(bY (xs:=[.int ((c.1:Int) - 1), .int 0]) rfl).trans (OK c.1)
 ·refine(bY (xs:=[.int ((c.1:Int)+2), .int (bd.length:Int)]) ?_).trans (ID c.1 bd.length);exact aW (show d2 dN (d2 aU (dV 1) (dC (.int 0))) (dC (.int 2)) (nc (brd bd) (cD c) (iW w) [] none none)=ae (.int ((c.1:Int)+2)) from rfl) (aW (DN rfl) rfl)
 ·rfl
def bE(bd:List Str)(W w:Nat)(c:Cell):List Cell:=(eN bd.length W w c).filter λx=>decide (lt bd x=lt bd c)
theorem di{bd:List Str}{W w:Nat}(hw:Ways w){c x:Cell}:x∈bE bd W w c↔On bd.length W x/\eS w c x=true/\lt bd x=lt bd c:=by
 unfold bE;rw[XY,iE hw,adZ,and_assoc]
theorem DP(bd:List Str)(W w:Nat)(c:Cell):(bE bd W w c).length<=9:=X2 (Yw ..) (uy ..)
theorem nj{α:Type}{f:D->M (Option D)}(enc:α->D)(p:α->Bool):∀(xs:List α),(∀x∈xs,f (enc x)=ae (if p x then some (enc x) else none))->d9 f (xs.map enc)=ae ((xs.filter p).map enc)
 |[],_=>rfl
 |x::xs,h=>by
  rw[Xp,fC,h x (Xk ..),ay,nj enc p xs λy hy=>h y (Xj _ hy),YG];cases p x<;>rfl
theorem qO{bd:List Str}{W w:Nat}(hg:Brd bd W)(hw:Ways w){c:Cell}(hc:On bd.length W c):da [brd bd,cD c,iW w]=ae (.lst ((bE bd W w c).map cD)):=by
 refine ba (ak (ρ':=[fz (brd bd),fz (cD c),fz (iW w),fz (sg (lt bd c))]) ((aG (d:=sg (lt bd c)) ((av (ds:=[brd bd,cD c]) rfl rfl).trans (fN hg hc))).trans rfl) (br ?_));refine bO (ds:=(eN bd.length W w c).map cD) ?_ (nj cD _ _ λx hx=>?_) (by rw[Xh,cF];exact X2 (DP bd W w c) (by decide))
 ·show (az 3 bM _ _>>=lstM)=_;have e:az 3 bM (aC (dV 0) (aC (dV 1) (aC (dV 2) aN))) [fz (brd bd),fz (cD c),fz (iW w),fz (sg (lt bd c))]=ae (.lst ((eN bd.length W w c).map cD)):=jU hg hw hc;rw[e];rfl
 ·have FP:=(iE hw).mp hx;rw[E5];have e:bU (d2 iz (az 2 bh (aC (dV 1) (aC (dV 0) aN))) (dV 4)) (fz (cD x)::[fz (brd bd),fz (cD c),fz (iW w),fz (sg (lt bd c))])=ae (decide (lt bd x=lt bd c)):=by
   refine dF ?_;exact(aB (x:=sg (lt bd x)) (y:=sg (lt bd c)) ((av (ds:=[brd bd,cD x]) rfl rfl).trans (fN hg FP.1)) rfl).trans (KD _ _)
  rw[e,ay];cases decide (lt bd x=lt bd c)<;>rfl
end K1
namespace K1
section
variable{α:Type}[DecidableEq α]
structure Bk (α:Type) where
 ks:List α
 ps:List (Option α)
 fu:List α
def fT(c:α)(s:Bk α)(x:α):Bk α:=if x∈s.ks then s else⟨s.ks++[x],s.ps++[some c],s.fu++[x]⟩
variable(nb:α->List α)
def oz(s:Bk α)(c:α):Bk α:=(nb c).foldl (fT c) s
def dw(s:Bk α)(T0:List α):Bk α:=T0.foldl (oz nb) s
def Rb(a:α):Nat->α->Prop
 |0,x=>x=a
 |k+1,x=>Rb a k x\/∃y,Rb a k y/\x∈nb y
variable{nb}{a:α}
theorem Rb.mono{i j:Nat}{x:α}(h:i<=j)(r:Rb nb a i x):Rb nb a j x:=by
 induction h with
 |refl=>exact r
 |step _ ih=>exact .inl ih
structure Grown (P:α->α->Prop) (s t:Bk α):Prop where
 ex:∃fs:List (α×α),t.ks=s.ks++fs.map (·.1)/\t.ps=s.ps++fs.map (λp=>some p.2)/\t.fu=s.fu++fs.map (·.1)/\(∀p∈fs,P p.2 p.1)
 nd:s.ks.Nodup->t.ks.Nodup
theorem Grown.refl{P:α->α->Prop}(s:Bk α):Grown P s s:=⟨⟨[],by simp,by simp,by simp,λ_ h=>by cases h⟩,id⟩
theorem Grown.trans{P:α->α->Prop}{s t u:Bk α}(h1:Grown P s t)(h2:Grown P t u):Grown P s u:=by
 obtain⟨fs,a1,a2,a3,a4⟩:=h1.ex;obtain⟨gs,b1,b2,b3,b4⟩:=h2.ex;refine⟨⟨fs++gs,by rw[b1,a1];simp,by rw[b2,a2];simp,by rw[b3,a3];simp,λp hp=>?_⟩,λh=>h2.nd (h1.nd h)⟩;rcases X4.mp hp with h | h
 ·exact a4 p h
 ·exact b4 p h
theorem xQ{P:α->α->Prop}{c x:α}(s:Bk α)(h:P c x):Grown P s (fT c s x):=by
 unfold fT;split
 ·exact Grown.refl s
 ·rename_i hx;refine⟨⟨[(x,c)],rfl,rfl,rfl,λp hp=>?_⟩,λhn=>?_⟩
  ·have:p=(x,c):=by simpa using hp
   subst this;exact h
  ·refine ZU.mpr ⟨hn,by simp,λy hy z hz e=>?_⟩;have hz:z=x:=by simpa using hz
   rw[e,hz] at hy;exact hx hy
theorem CU{c x y:α}(s:Bk α):y∈(fT c s x).ks↔y∈s.ks\/y=x:=by
 unfold fT;split
 ·rename_i hx;exact⟨.inl,λh=>h.elim id λe=>by rw[e];exact hx⟩
 ·simp
theorem foldStep{P:α->α->Prop}{c:α}:∀(l:List α) (s:Bk α),(∀x∈l,P c x)->Grown P s (l.foldl (fT c) s)/\∀y,y∈(l.foldl (fT c) s).ks↔y∈s.ks\/y∈l
 |[],s,_=>⟨Grown.refl s,λy=>by simp⟩
 |x::l,s,h=>by
  obtain⟨h1,h2⟩:=foldStep l (fT c s x) λy hy=>h y (Xj _ hy);refine⟨(xQ s (h x (Xk ..))).trans h1,λy=>?_⟩;rw[aaI,h2 y,CU];simp[or_assoc]
theorem yl{P:α->α->Prop}:∀(l:List α) (s:Bk α),(∀c∈l,∀x∈nb c,P c x)->Grown P s (dw nb s l)/\∀y,y∈(dw nb s l).ks↔y∈s.ks\/∃c∈l,y∈nb c
 |[],s,_=>⟨Grown.refl s,λy=>by simp[dw]⟩
 |c::l,s,h=>by
  obtain⟨g1,m1⟩:=foldStep (P:=P) (c:=c) (nb c) s (h c (Xk ..));obtain⟨g2,m2⟩:=yl l (oz nb s c) λc' hc=>h c' (Xj _ hc);refine⟨g1.trans g2,λy=>?_⟩;show y∈(dw nb (oz nb s c) l).ks↔_;rw[m2 y];show (y∈((nb c).foldl (fT c) s).ks\/_)↔_;rw[m1 y];simp[or_assoc]
structure Rng (nb:α->List α) (a:α) (k:Nat) (ks:List α) (ps:List (Option α)) (T0:List α):Prop where
 len:ks.length=ps.length
 nd:ks.Nodup
 mem:∀x,x∈ks↔Rb nb a k x
 rg:∀x,x∈T0↔Rb nb a k x/\∀j,Rb nb a j x->k<=j
 par:∀x p,(x,some p)∈ks.zip ps->x∈nb p/\p∈ks/\∀j,Rb nb a j x->∃i,j=i+1/\Rb nb a i p
 non:∀x,(x,none)∈ks.zip ps->x=a
 sz:k<=ks.length/\(T0≠[]->k+1<=ks.length)
theorem Rng.zero(nb:α->List α)(a:α):Rng nb a 0 [a] [none] [a] where
 len:=rfl
 nd:=by simp
 mem:=λx=>by simp[Rb]
 rg:=λx=>by simp[Rb]
 par:=λx p h=>by simp at h
 non:=λx h=>by simpa using h
 sz:=⟨by simp,λ_=>by simp⟩
theorem Rng.next{k:Nat}{ks:List α}{ps:List (Option α)}{T0:List α}(h:Rng nb a k ks ps T0)(hr:T0≠[]):Rng nb a (k+1) (dw nb ⟨ks,ps,[]⟩ T0).ks (dw nb ⟨ks,ps,[]⟩ T0).ps (dw nb ⟨ks,ps,[]⟩ T0).fu:=by
 obtain⟨g,m⟩:=yl (nb:=nb) (P:=λc x=>c∈T0/\x∈nb c) T0 ⟨ks,ps,[]⟩ λc hc x hx=>⟨hc,hx⟩
 obtain⟨fs,e1,e2,e3,e4⟩:=g.ex;have FJ:=g.nd h.nd;have hm:∀x,x∈(dw nb ⟨ks,ps,[]⟩ T0).ks↔Rb nb a (k+1) x:=λx=>by
  rw[m x];show (x∈ks\/_)↔(Rb nb a k x\/_);constructor
  ·rintro(q | ⟨c,hc,hx⟩)
   ·exact .inl ((h.mem x).mp q)
   ·exact .inr ⟨c,((h.rg c).mp hc).1,hx⟩
  ·rintro(q | ⟨y,hy,hx⟩)
   ·exact .inl ((h.mem x).mpr q)
   ·by_cases hk:∀j,Rb nb a j y->k<=j
    ·exact .inr ⟨y,(h.rg y).mpr ⟨hy,hk⟩,hx⟩
    ·refine .inl ((h.mem x).mpr ?_);obtain⟨j,hj⟩:=acF.mp hk;obtain⟨RQ,OF⟩:=ac2.mp hj;exact Rb.mono (i:=j+1) (by omega) (.inr ⟨y,RQ,hx⟩)
 have Ey:(dw nb ⟨ks,ps,[]⟩ T0).ks=ks++fs.map (·.1):=e1;have NP:(dw nb ⟨ks,ps,[]⟩ T0).ps=ps++fs.map (λp=>some p.2):=e2;have Qq:(dw nb ⟨ks,ps,[]⟩ T0).fu=fs.map (·.1):=e3;have new:∀x,x∈fs.map (·.1)->¬Rb nb a k x:=λx hx hk=>by
  rw[Ey] at FJ;exact(ZU.mp FJ).2.2 x ((h.mem x).mpr hk) x hx rfl
 have O_:∀x,¬Rb nb a k x->∀j,Rb nb a j x->k+1<=j:=λx hx j hj=>by
  by_cases VJ:k+1<=j
  ·exact VJ
  ·exact ad3 (Rb.mono (by omega) hj) hx
 have OZ:(dw nb ⟨ks,ps,[]⟩ T0).ks.zip (dw nb ⟨ks,ps,[]⟩ T0).ps=ks.zip ps++fs.map λp=>(p.1,some p.2):=by
  rw[Ey,NP,List.zip_append h.len];congr 1;rw[List.zip_map']
 refine⟨?_,FJ,hm,λx=>?_,λx p hp=>?_,λx hx=>?_,?_⟩
 ·rw[Ey,NP,Xq,Xq,Xh,Xh,h.len]
 ·rw[Qq];constructor
  ·intro hx;exact⟨(hm x).mp (by rw[Ey];exact X_ _ hx),O_ x (new x hx)⟩
  ·rintro⟨h1,h2⟩;have h3:=(hm x).mpr h1;rw[Ey] at h3;rcases X4.mp h3 with q | q
   ·have:=h2 k ((h.mem x).mp q);omega
   ·exact q
 ·rw[OZ] at hp;rcases X4.mp hp with q | q
  ·obtain⟨q1,q2,q3⟩:=h.par x p q;exact⟨q1,by rw[Ey];exact YC _ q2,q3⟩
  ·obtain⟨f,hf,e⟩:=XE.mp q;cases e;obtain⟨f1,f2⟩:=e4 f hf;have hc:=(h.rg f.2).mp f1;refine⟨f2,by rw[Ey];exact YC _ ((h.mem _).mpr hc.1),λj hj=>?_⟩;have:=O_ f.1 (new f.1 (XE.mpr ⟨f,hf,rfl⟩)) j hj;exact⟨j - 1,by omega,Rb.mono (by omega) hc.1⟩
 ·rw[OZ] at hx;rcases X4.mp hx with q | q
  ·exact h.non x q
  ·obtain⟨f,hf,e⟩:=XE.mp q;cases e
 ·have hs:=h.sz.2 hr;rw[Ey,Xq,Xh];refine⟨by omega,λiT=>?_⟩;have:fs≠[]:=λz=>iT (by rw[Qq,z];rfl);have:=abw.mpr this;omega
theorem Rng.last{k:Nat}{ks:List α}{ps:List (Option α)}(h:Rng nb a k ks ps []):∀x,x∈ks↔∃j,Rb nb a j x:=by
 have none:∀x,¬(Rb nb a k x/\∀j,Rb nb a j x->k<=j):=λx q=>by
  have:=(h.rg x).mpr q;cases this
 have hk:∀x,Rb nb a k x->∃i,i<k/\Rb nb a i x:=λx hx=>by
  by_cases q:∀j,Rb nb a j x->k<=j
  ·exact ad3 ⟨hx,q⟩ (none x)
  ·obtain⟨j,hj⟩:=acF.mp q;obtain⟨RQ,OF⟩:=ac2.mp hj;exact⟨j,by omega,RQ⟩
 have all:∀j x,Rb nb a j x->Rb nb a k x:=by
  intro j;induction j with
  |zero=>intro x hx;exact Rb.mono (Yo _) hx
  |succ j ih=>
   rintro x (q | ⟨y,hy,hx⟩)
   ·exact ih x q
   ·obtain⟨i,hi,hr⟩:=hk y (ih y hy);exact Rb.mono (i:=i+1) (by omega) (.inr ⟨y,hr,hx⟩)
 exact λx=>⟨λq=>⟨k,(h.mem x).mp q⟩,λ⟨j,hj⟩=>(h.mem x).mpr (all j x hj)⟩
theorem iF{l U:List α}(hn:l.Nodup)(h:∀x∈l,x∈U):l.length<=U.length:=by
 induction l generalizing U with
 |nil=>simp
 |cons a l ih=>
  rw[Zb] at hn;have hl:∀x∈l,x∈U.erase a:=λx hx=>by
   have iT:x≠a:=λz=>hn.1 (by rw[<-z];exact hx);exact(List.mem_erase_of_ne iT).mpr (h x (Xj _ hx))
  have h1:=ih hn.2 hl;have h2:=acN (h a (Xk ..));have h3:=abc (h a (Xk ..));rw[Xo];omega
end
end K1
namespace K1
open PySem L2 L3
def keyOf(c:Cell):List Key:=[.inl (c.1:Int), .inl (c.2:Int)]
theorem gz{a b:Cell}(h:keyOf a=keyOf b):a=b:=by
 unfold keyOf at h;injection h with h1 h2
 injection h1 with h1
 injection h2 with h2 _
 injection h2 with h2
 exact abG (abp h1) (abp h2)
theorem g6(c:Cell):eR (cD c)=some (keyOf c):=rfl
theorem gD{c:Cell}:∀{ks:List Cell}{ds:List D},c∉ks->fZ (ks.map keyOf) ds (keyOf c)=none
 |[],_,_=>by simp[fZ]
 |k::ks,[],_=>by simp[fZ]
 |k::ks,d::ds,h=>by
  rw[Xp];unfold fZ;rw[ad0 (λz=>h (by rw[gz z];exact Xk ..))];exact gD λz=>h (Xj _ z)
theorem oq{c:Cell}:∀{ks:List Cell}{ds:List D},ks.length=ds.length->c∈ks->∃d,fZ (ks.map keyOf) ds (keyOf c)=some d/\(c,d)∈ks.zip ds
 |[],_,_,h=>by cases h
 |k::ks,[],hl,_=>by simp at hl
 |k::ks,d::ds,hl,h=>by
  rw[Xp];unfold fZ;by_cases hk:k=c
  ·subst hk;rw[adY rfl];exact⟨d,rfl,by simp⟩
  ·rw[ad0 (λz=>hk (gz z))];have hc:c∈ks:=by
    rcases Xs.mp h with q | q
    ·exact ad3 q.symm hk
    ·exact q
   obtain⟨d',e1,e2⟩:=oq (ds:=ds) (by simpa using hl) hc;exact⟨d',e1,by simp[e2]⟩
theorem vR{neg:Bool}{ks:List Cell}{ds:List D}{c:Cell}(hl:ks.length=ds.length):lj neg (cD c) (.dct (ks.map keyOf) ds)=ae (.bl (if neg then !decide (c∈ks) else decide (c∈ks))):=by
 show (match (eR (cD c)).map (fZ (ks.map keyOf) ds) with | some o=>ae (D.bl (if neg then !o.isSome else o.isSome)) | none=>ag)=_;rw[g6];show ae (D.bl (if neg then !(fZ (ks.map keyOf) ds (keyOf c)).isSome else(fZ (ks.map keyOf) ds (keyOf c)).isSome))=_;by_cases h:c∈ks
 ·obtain⟨d,e,_⟩:=oq hl h;rw[e,ad1 h];rfl
 ·rw[gD h,ad2 h];rfl
theorem zh{ks:List Cell}{ds:List D}{c:Cell}{d:D}(h:c∉ks)(hl:ds.length<lim):nZ (.dct (ks.map keyOf) ds) (cD c) d=some (.dct ((ks++[c]).map keyOf) (ds++[d])):=by
 show (match eR (cD c) with | some kk=>if ds.length<lim then some (C.dct (dZ (ks.map keyOf) ds kk) (c7 (ks.map keyOf) ds kk d)) else none | none=>none)=_;rw[g6];show (if ds.length<lim then some (C.dct (dZ (ks.map keyOf) ds (keyOf c)) (c7 (ks.map keyOf) ds (keyOf c) d)) else none)=_;rw[adY hl];unfold dZ c7;rw[gD h];simp
theorem CM{τ:DT}{ρ:bb}{b:Bool}(h:τ (sG ρ)=ae b):Kk τ ρ=ae b:=by
 unfold Kk;rw[h];rfl
theorem Kx{δ:DE}{ρ:bb}{d:D}(h:δ (sG ρ)=ae d)(hf:yi d=true):NO δ ρ=ae d:=by
 unfold NO;rw[h];show qp d=_;unfold qp;rw[hf];rfl
theorem Iw(c:Cell):yi (cD c)=true:=rfl
theorem iS{c:DT}{body:DS}{n:Nat}{ρ ρ':bb}{m:M Out}(h1:c ρ=ae true)(h2:body ρ=ae (.nx ρ'))(h3:eG c body n ρ'=m):eG c body (n+1) ρ=m:=by
 show (c ρ>>=λb=>if b then body ρ>>=λo=>match o with | .nx ρ'=>eG c body n ρ' | .rt d=>ae (.rt d) else ae (.nx ρ))=_;rw[h1,ay,adY rfl,h2];exact h3
theorem mZ{c:DT}{body:DS}{n:Nat}{ρ:bb}(h1:c ρ=ae false):eG c body (n+1) ρ=ae (.nx ρ):=by
 show (c ρ>>=λb=>if b then body ρ>>=λo=>match o with | .nx ρ'=>eG c body n ρ' | .rt d=>ae (.rt d) else ae (.nx ρ))=_;rw[h1];rfl
def GH:Option Cell->D
 |none=> .non
 |some c=>cD c
abbrev EL(ks:List Cell)(ps:List (Option Cell)):C:= .dct (ks.map keyOf) (ps.map GH)
abbrev BJ(ks:List Cell)(ps:List (Option Cell)):D:= .dct (ks.map keyOf) (ps.map GH)
abbrev sb(b s w:D)(ks:List Cell)(ps:List (Option Cell))(x4 x5 x6 x7:Option Sl):bb:=[fz b,fz s,fz w,some (.ow (EL ks ps)),x4,x5,x6,x7]
structure Bok (R W:Nat) (s:Bk Cell):Prop where
 len:s.ks.length=s.ps.length
 nd:s.ks.Nodup
 on:∀x∈s.ks,On R W x
 fu:s.fu.length<=s.ks.length
theorem Bok.le{R W:Nat}{s:Bk Cell}(h:Bok R W s):s.ks.length<=R*W:=by
 rw[<-bo R W];exact iF h.nd λx hx=>aD.mpr (h.on x hx)
theorem Bok.step{R W:Nat}{s:Bk Cell}(h:Bok R W s){c x:Cell}(hx:On R W x):Bok R W (fT c s x):=by
 unfold fT;split
 ·exact h
 ·rename_i hn;refine⟨by simp[h.len],?_,λy hy=>?_,by simp;exact h.fu⟩
  ·refine ZU.mpr ⟨h.nd,by simp,λy hy z hz e=>?_⟩;have hz:z=x:=by simpa using hz
   rw[e,hz] at hy;exact hn hy
  ·rcases X4.mp hy with q | q
   ·exact h.on y q
   ·have:y=x:=by simpa using q
    rw[this];exact hx
theorem Ka{bd:List Str}{W:Nat}(hg:Brd bd W){a c x:Cell}{w:D}{r:Option Sl}{s:Bk Cell}(h:Bok bd.length W s):
 J9 (sb (brd bd) (cD a) w s.ks s.ps r (some (.ow (.lst (s.fu.map cD)))) (fz (cD c)) (fz (cD x)))=ae (.nx (sb (brd bd) (cD a) w (fT c s x).ks (fT c s x).ps r (some (.ow (.lst ((fT c s x).fu.map cD)))) (fz (cD c)) none)):=by
 have hle:=h.le;have hm:bd.length*W<=64:=Zo hg.r8 hg.w8;have ht:Kk (bU (d2 (lj true) (dV 7) (dV 3))) (sb (brd bd) (cD a) w s.ks s.ps r (some (.ow (.lst (s.fu.map cD)))) (fz (cD c)) (fz (cD x)))=ae (!decide (x∈s.ks)):=
  CM (dF ((aB (x:=cD x) (y:=BJ s.ks s.ps) rfl rfl).trans (vR (neg:=true) (by rw[Xh];exact h.len))))
 by_cases hx:x∈s.ks
 ·rw[ad1 hx] at ht;have e:fT c s x=s:=adY hx;rw[e];exact(aQ (c9 ht rfl)).trans rfl
 ·rw[ad2 hx] at ht;have e:fT c s x=⟨s.ks++[x],s.ps++[some c],s.fu++[x]⟩:=ad0 hx;rw[e];refine(aQ (ρ':=sb (brd bd) (cD a) w (s.ks++[x]) (s.ps++[some c]) r (some (.ow (.lst ((s.fu++[x]).map cD)))) (fz (cD c)) (fz (cD x))) (eQ ht (ak (ρ':=sb (brd bd) (cD a) w (s.ks++[x]) (s.ps++[some c]) r (some (.ow (.lst (s.fu.map cD)))) (fz (cD c)) (fz (cD x))) ?_ ?_))).trans rfl
  ·show (match nZ (EL s.ks s.ps) (cD x) (cD c) with | some c'=>ae (Out.nx (List.set (sb (brd bd) (cD a) w s.ks s.ps r (some (.ow (.lst (s.fu.map cD)))) (fz (cD c)) (fz (cD x))) 3 (some (.ow c')))) | none=>ag)=_;rw[zh hx (by rw[Xh,<-h.len,cF];omega)];rw[show s.ps.map GH++[cD c]=(s.ps++[some c]).map GH by simp[GH]];rfl
  ·show (if (s.fu.map cD).length<lim then ae (Out.nx (sb (brd bd) (cD a) w (s.ks++[x]) (s.ps++[some c]) r (some (.ow (.lst (s.fu.map cD++[cD x])))) (fz (cD c)) (fz (cD x)))) else ag)=_;have:=h.fu;rw[adY (by rw[Xh,cF];omega)];rw[show s.fu.map cD++[cD x]=(s.fu++[x]).map cD by simp]
def Nt:DS:=cx [6,7] (cV (putN 7) (dD (az 3 da (aC (dV 0) (aC (dV 6) (aC (dV 2) aN))))) J9)
theorem CG{bd:List Str}{W w:Nat}(hg:Brd bd W)(hw:Ways w){a c:Cell}(hc:On bd.length W c){r:Option Sl}{s:Bk Cell}(h:Bok bd.length W s):
 Bok bd.length W (oz (bE bd W w) s c)/\Nt (sb (brd bd) (cD a) (iW w) s.ks s.ps r (some (.ow (.lst (s.fu.map cD)))) (fz (cD c)) none)=
  ae (.nx (sb (brd bd) (cD a) (iW w) (oz (bE bd W w) s c).ks (oz (bE bd W w) s c).ps r (some (.ow (.lst ((oz (bE bd W w) s c).fu.map cD)))) none none)):=by
 obtain⟨h1,e⟩:=kr (put:=putN 7) (body:=J9) cD (λs:Bk Cell=>sb (brd bd) (cD a) (iW w) s.ks s.ps r (some (.ow (.lst (s.fu.map cD)))) (fz (cD c)) none) (fT c) (Bok bd.length W) (bE bd W w c) s h λs hs x hx=>
  ⟨hs.step ((di hw).mp hx).1,_,rfl,Ka hg hs⟩
 refine⟨h1,(aQ (c8 ?_ e)).trans rfl⟩;show (az 3 da (aC (dV 0) (aC (dV 6) (aC (dV 2) aN))) (sb (brd bd) (cD a) (iW w) s.ks s.ps r (some (.ow (.lst (s.fu.map cD)))) (fz (cD c)) none)>>=lstM)=_;have e2:az 3 da (aC (dV 0) (aC (dV 6) (aC (dV 2) aN))) (sb (brd bd) (cD a) (iW w) s.ks s.ps r (some (.ow (.lst (s.fu.map cD)))) (fz (cD c)) none)=ae (.lst ((bE bd W w c).map cD)):=qO hg hw hc;rw[e2];rfl
def P8:DS:=cx [5,6,7] (aI (rT 5) (aI (cV (putN 6) (dD (dV 4)) Nt) (xK 5 (bg 4 (dV 5)))))
theorem J_{bd:List Str}{W w:Nat}(hg:Brd bd W)(hw:Ways w){a:Cell}{T0:List Cell}(hr:∀c∈T0,On bd.length W c){s:Bk Cell}(h:Bok bd.length W s)(hf:s.fu=[]):
 Bok bd.length W (dw (bE bd W w) s T0)/\P8 (sb (brd bd) (cD a) (iW w) s.ks s.ps (fz (.lst (T0.map cD))) none none none)=
  ae (.nx (sb (brd bd) (cD a) (iW w) (dw (bE bd W w) s T0).ks (dw (bE bd W w) s T0).ps (fz (.lst ((dw (bE bd W w) s T0).fu.map cD))) none none none)):=by
 obtain⟨h1,e⟩:=kr (put:=putN 6) (body:=Nt) cD (λs:Bk Cell=>sb (brd bd) (cD a) (iW w) s.ks s.ps (fz (.lst (T0.map cD))) (some (.ow (.lst (s.fu.map cD)))) none none) (oz (bE bd W w)) (Bok bd.length W) T0 s h λs hs c hc=>
  ⟨(CG (a:=a) (r:=fz (.lst (T0.map cD))) hg hw (hr c hc) hs).1,_,rfl,(CG hg hw (hr c hc) hs).2⟩
 refine⟨h1,(aQ (ρ':=sb (brd bd) (cD a) (iW w) (dw (bE bd W w) s T0).ks (dw (bE bd W w) s T0).ps (fz (.lst ((dw (bE bd W w) s T0).fu.map cD))) (fz (.lst ((dw (bE bd W w) s T0).fu.map cD))) none none) ?_).trans rfl⟩;refine ak (ρ':=sb (brd bd) (cD a) (iW w) s.ks s.ps (fz (.lst (T0.map cD))) (some (.ow (.lst []))) none none) rfl (ak (ρ':=sb (brd bd) (cD a) (iW w) (dw (bE bd W w) s T0).ks (dw (bE bd W w) s T0).ps (fz (.lst (T0.map cD))) (some (.ow (.lst ((dw (bE bd W w) s T0).fu.map cD)))) none none) ?_ rfl);rw[hf] at e;exact c8 rfl e
theorem zu{bd:List Str}{W w:Nat}(hg:Brd bd W)(hw:Ways w){a:Cell}(ha:On bd.length W a):∀(fuel k:Nat) (ks:List Cell) (ps:List (Option Cell)) (T0:List Cell),bd.length*W+2<=fuel+k->Rng (bE bd W w) a k ks ps T0->(∀x∈ks,On bd.length W x)->
 ∃k' ks' QV,Rng (bE bd W w) a k' ks' QV []/\(∀x∈ks',On bd.length W x)/\eG (dR (dV 4)) P8 fuel (sb (brd bd) (cD a) (iW w) ks ps (fz (.lst (T0.map cD))) none none none)=ae (.nx (sb (brd bd) (cD a) (iW w) ks' QV (fz (.lst [])) none none none))
 |0,k,ks,ps,T0,hf,hR,pY=>by
  have h1:ks.length<=bd.length*W:=by
   rw[<-bo bd.length W];exact iF hR.nd λx hx=>aD.mpr (pY x hx)
  have:=hR.sz.1;omega
 |fuel+1,k,ks,ps,[],hf,hR,pY=>⟨k,ks,ps,hR,pY,mZ rfl⟩
 |fuel+1,k,ks,ps,c::T0,hf,hR,pY=>by
  have iT:c::T0≠[]:=by simp
  have hN:=hR.next iT;have R7:∀x∈c::T0,On bd.length W x:=λx hx=>pY x ((hR.mem x).mpr ((hR.rg x).mp hx).1);obtain⟨hb,e⟩:=J_ (a:=a) hg hw R7 (s:=⟨ks,ps,[]⟩) ⟨hR.len,hR.nd,pY,Yo _⟩ rfl;obtain⟨k',ks',QV,q1,q2,q3⟩:=zu hg hw ha fuel (k+1) _ _ _ (by omega) hN hb.on;exact⟨k',ks',QV,q1,q2,iS rfl e q3⟩
theorem si{bd:List Str}{W w:Nat}(hg:Brd bd W)(hw:Ways w){a:Cell}(ha:On bd.length W a):
 ∃k ks ps,Rng (bE bd W w) a k ks ps []/\(∀x∈ks,On bd.length W x)/\dW [brd bd,cD a,iW w]=ae (BJ ks ps):=by
 have hm:bd.length*W<=64:=Zo hg.r8 hg.w8;obtain⟨k,ks,ps,h1,h2,h3⟩:=zu hg hw ha lim 0 [a] [none] [a] (by rw[cF];omega) (Rng.zero _ _) (λx hx=>(show x=a by simpa using hx)▸ha);refine⟨k,ks,ps,h1,h2,ba (ak (ρ':=[fz (brd bd),fz (cD a),fz (iW w),some (.ow (EL [a] [none])),none,none,none,none]) rfl (ak (ρ':=sb (brd bd) (cD a) (iW w) [a] [none] (fz (.lst [cD a])) none none none) rfl (ak (ρ':=sb (brd bd) (cD a) (iW w) ks ps (fz (.lst [])) none none none) (bW h3) rfl)))⟩
def lM{α:Type}[DecidableEq α](n:Nat)(enc:α->D):Prop:=∀k x y,iZ (n+k) (enc x) (enc y)=some (decide (x=y))
theorem Iu(n:Nat)(xs ys:List D):iZ (n+1) (.tup xs) (.tup ys)=oC (iZ n) xs ys:=rfl
theorem pX(n:Nat)(i j:Int):iZ n (.int i) (.int j)=some (i==j):=by cases n<;>rfl
theorem Ir(n:Nat)(i j:Str):iZ n (.str i) (.str j)=some (i==j):=by cases n<;>rfl
theorem vF{α:Type}[DecidableEq α]{enc:α->D}{f:D->D->Option Bool}(h:∀x y,f (enc x) (enc y)=some (decide (x=y))):∀(xs ys:List α),oC f (xs.map enc) (ys.map enc)=some (decide (xs=ys))
 |[],[]=>rfl
 |[],_::_=>by simp[oC]
 |_::_,[]=>by simp[oC]
 |x::xs,y::ys=>by
  rw[Xp,Xp];show (match f (enc x) (enc y),oC f (xs.map enc) (ys.map enc) with | some b,some r=>some (b&&r) | _,_=>none)=_;rw[h,vF h xs ys];show some (decide (x=y)&&decide (xs=ys))=_;congr 1;by_cases h1:x=y<;>by_cases h2:xs=ys<;>simp[h1,h2]
theorem Lv:lM 1 cD:=λk a b=>by
 rw[Nat.add_comm];show (match iZ k (.int (a.1:Int)) (.int (b.1:Int)),oC (iZ k) [.int (a.2:Int)] [.int (b.2:Int)] with | some b,some r=>some (b&&r) | _,_=>none)=_;rw[pX];show (match some ((a.1:Int)==(b.1:Int)),(match iZ k (.int (a.2:Int)) (.int (b.2:Int)),oC (iZ k) [] [] with | some b,some r=>some (b&&r) | _,_=>none) with | some b,some r=>some (b&&r) | _,_=>none)=_;rw[pX];show some (((a.1:Int)==(b.1:Int))&&(((a.2:Int)==(b.2:Int))&&true))=_;rw[mr,mr,acO];congr 1;obtain⟨a1,a2⟩:=a;obtain⟨b1,b2⟩:=b;by_cases h1:a1=b1<;>by_cases h2:a2=b2<;>simp[h1,h2]
theorem Io{α:Type}[DecidableEq α]{enc:α->D}{n:Nat}(h:lM n enc):lM (n+1) (λl:List α=> .lst (l.map enc)):=λk x y=>by
 rw[show n+1+k=(n+k)+1 by omega];exact vF (h k) x y
theorem Iq{α:Type}[DecidableEq α]{enc:α->D}{n:Nat}(h:lM n enc):lM (n+1) (λl:List α=> .tup (l.map enc)):=λk x y=>by
 rw[show n+1+k=(n+k)+1 by omega];exact vF (h k) x y
theorem Ip:lM 0 D.str:=λk x y=>by
 rw[Ir];congr 1
theorem vD:lM 1 brd:=Iq Ip
theorem Rk{α:Type}[DecidableEq α]{enc:α->D}{n:Nat}(h:lM n enc)(hn:n<=6)(x y:α):iz (enc x) (enc y)=ae (.bl (decide (x=y))):=by
 have:=h (6 - n) x y;rw[show n+(6 - n)=6 by omega] at this;unfold iz;rw[this]
theorem Fc{α:Type}[DecidableEq α]{enc:α->D}{n:Nat}(h:lM n enc)(hn:n<=6)(x y:α):ny (enc x) (enc y)=ae (.bl (!decide (x=y))):=by
 have:=h (6 - n) x y;rw[show n+(6 - n)=6 by omega] at this;unfold ny;rw[this]
abbrev cL(l:List Cell):D:= .lst (l.map cD)
theorem Pe(a b:Cell):ny (cD a) (cD b)=ae (.bl (!decide (a=b))):=Fc Lv (by decide) a b
def ic(c:Cell):List Int:=[(c.1:Int),(c.2:Int)]
def tX(a b:Cell):Bool:=if a.1=b.1 then decide (a.2<b.2) else decide (a.1<b.1)
def IK(k:Cell):List Cell->List Cell
 |[]=>[k]
 |x::r=>if tX k x then k::x::r else x::IK k r
def pb:List Cell->List Cell
 |[]=>[]
 |k::r=>IK k (pb r)
theorem AL(a b:Cell):fG (ic a) (ic b)=tX a b:=by
 show (if (a.1:Int)=(b.1:Int) then(if (a.2:Int)=(b.2:Int) then false else decide ((a.2:Int)<(b.2:Int))) else decide ((a.1:Int)<(b.1:Int)))=_;unfold tX;by_cases h:a.1=b.1
 ·rw[adY h,adY (by omega)];by_cases h2:a.2=b.2
  ·rw[adY (by omega),h2];simp
  ·rw[ad0 (by omega)];by_cases h3:a.2<b.2
   ·rw[ad1 h3,ad1 (by omega)]
   ·rw[ad2 h3,ad2 (by omega)]
 ·rw[ad0 h,ad0 (by omega)];by_cases h3:a.1<b.1
  ·rw[ad1 h3,ad1 (by omega)]
  ·rw[ad2 h3,ad2 (by omega)]
theorem FT(k:Cell):∀l:List Cell,insI (ic k) (l.map ic)=(IK k l).map ic
 |[]=>rfl
 |x::r=>by
  rw[Xp];unfold insI IK;rw[AL];cases tX k x with
  |true=>rfl
  |false=>rw[ad0 (by decide),ad0 (by decide),Xp,FT k r]
theorem p9:∀l:List Cell,sortI (l.map ic)=(pb l).map ic
 |[]=>rfl
 |k::r=>by
  rw[Xp];unfold sortI pb;rw[p9 r,FT]
theorem vQ{a b:Cell}(h:ic a=ic b):a=b:=by
 unfold ic at h;injection h with h1 h2
 injection h2 with h2 _
 exact abG (abp h1) (abp h2)
theorem nO{x:Cell}{l:List Cell}:x∈pb l↔x∈l:=by
 have h:=iR (x:=ic x) (l:=l.map ic);rw[p9] at h;constructor
 ·intro hx;obtain⟨y,hy,e⟩:=XE.mp (h.mp (XE.mpr ⟨x,hx,rfl⟩));rw[<-vQ e];exact hy
 ·intro hx;obtain⟨y,hy,e⟩:=XE.mp (h.mpr (XE.mpr ⟨x,hx,rfl⟩));rw[<-vQ e];exact hy
def RiseC(l:List Cell):Prop:=l.Pairwise λa b=>tX a b=true
theorem w4{l:List Cell}:z0 (l.map ic)↔RiseC l:=by
 unfold z0 RiseC;rw[Zt];constructor<;>intro h<;>refine Z4 ?_ h<;>intro a b q
 ·rw[<-AL];exact q
 ·rw[AL];exact q
theorem yR{l:List Cell}(h:l.Nodup):(l.map ic).Nodup:=by
 unfold YF at h⊢;rw[Zt];exact Z4 (λh z=>h (vQ z)) h
theorem se{l:List Cell}(h:l.Nodup):RiseC (pb l):=by
 have:=lJ (yR h);rw[p9] at this;exact w4.mp this
theorem iN{a b:List Cell}(ha:RiseC a)(hb:RiseC b)(h:∀x,x∈a↔x∈b):a=b:=by
 have e:=rR (w4.mpr ha) (w4.mpr hb) λx=>by
  constructor
  ·intro hx;obtain⟨y,hy,rfl⟩:=XE.mp hx;exact XE.mpr ⟨y,(h y).mp hy,rfl⟩
  ·intro hx;obtain⟨y,hy,rfl⟩:=XE.mp hx;exact XE.mpr ⟨y,(h y).mpr hy,rfl⟩
 have inj:∀(a b:List Cell),a.map ic=b.map ic->a=b:=by
  intro a;induction a with
  |nil=>intro b h;cases b with
   |nil=>rfl
   |cons=>simp at h
  |cons x a ih=>intro b h;cases b with
   |nil=>simp at h
   |cons y b=>
    rw[Xp,Xp] at h;injection h with h1 h2
    rw[vQ h1,ih b h2]
 exact inj a b e
theorem RiseC.nodup{l:List Cell}(h:RiseC l):l.Nodup:=by
 refine Z4 ?_ h;intro a b q z;subst z;unfold tX at q;rw[adY rfl] at q;have:=ad4 q;omega
theorem nA:∀ks:List Cell,gK (ks.map keyOf)=some (ks.map ic)
 |[]=>rfl
 |k::r=>by
  show (match uj (keyOf k),gK (r.map keyOf) with | some x,some xs=>some (x::xs) | _,_=>none)=_;rw[nA r];rfl
theorem Pk{ks:List Cell}(h:ks.Nodup)(hl:ks.length<64):jX (ks.map ic)=true:=by
 unfold jX;rw[Xh,ad1 (yR h),ad1 hl];simp;intro a b _ z;cases z
theorem zB{ks:List Cell}{ds:List D}(h:ks.Nodup)(hl:ks.length<64):u3 [.dct (ks.map keyOf) ds]=ae (cL (pb ks)):=by
 show (match gK (ks.map keyOf) with | some ks=>if jX ks&&ks.all (λk=>decide (k.length<=lim)) then ae (D.lst ((sortI ks).map tupI)) else ag | none=>ag)=_;rw[nA];show (if jX (ks.map ic)&&(ks.map ic).all (λk=>decide (k.length<=lim)) then ae (D.lst ((sortI (ks.map ic)).map tupI)) else ag)=_;rw[Pk h hl];have:(ks.map ic).all (λk=>decide (k.length<=lim))=true:=by
  simp;intro a b _;show 2<=lim
  decide
 rw[this,acO,adY rfl,p9,Yn];rfl
def Cn(bd:List Str)(W w:Nat)(a b:Cell):Prop:=∃j,Rb (bE bd W w) a j b
theorem Cn.refl{bd:List Str}{W w:Nat}{a:Cell}:Cn bd W w a a:=⟨0,rfl⟩
theorem AM{bd:List Str}{W w:Nat}(hw:Ways w){a b:Cell}(ha:On bd.length W a)(h:b∈bE bd W w a):a∈bE bd W w b:=by
 obtain⟨h1,h2,h3⟩:=(di hw).mp h;exact(di hw).mpr ⟨ha,by rw[fc];exact h2,h3.symm⟩
theorem uQ{bd:List Str}{W w:Nat}(hw:Ways w){a b:Cell}(ha:On bd.length W a):∀{j:Nat},Rb (bE bd W w) a j b->On bd.length W b
 |0,h=>by rw[show b=a from h];exact ha
 |j+1, .inl h=>uQ hw ha h
 |j+1, .inr ⟨y,_,hy⟩=>((di hw).mp hy).1
theorem rP{bd:List Str}{W w:Nat}{a c b:Cell}(h:c∈bE bd W w a):∀{j:Nat},Rb (bE bd W w) c j b->Rb (bE bd W w) a (j+1) b
 |0,q=> .inr ⟨a,rfl,by rw[show b=c from q];exact h⟩
 |j+1, .inl q=> .inl (rP h q)
 |j+1, .inr ⟨y,q,hy⟩=> .inr ⟨y,rP h q,hy⟩
theorem wW{bd:List Str}{W w:Nat}(hw:Ways w){a b:Cell}(ha:On bd.length W a):∀{j:Nat},Rb (bE bd W w) a j b->Rb (bE bd W w) b j a
 |0,h=>show a=b from(show b=a from h).symm
 |j+1, .inl h=> .inl (wW hw ha h)
 |j+1, .inr ⟨y,q,hy⟩=>rP (AM hw (uQ hw ha q) hy) (wW hw ha q)
theorem rQ{bd:List Str}{W w:Nat}{a b c:Cell}{i:Nat}(h:Rb (bE bd W w) a i b):∀{j:Nat},Rb (bE bd W w) b j c->Rb (bE bd W w) a (i+j) c
 |0,q=>by rw[show c=b from q];exact h
 |j+1, .inl q=> .inl (rQ h q)
 |j+1, .inr ⟨y,q,hy⟩=> .inr ⟨y,rQ h q,hy⟩
theorem n0{bd:List Str}{W w:Nat}(hw:Ways w){a b:Cell}:∀{j:Nat},Rb (bE bd W w) a j b->lt bd b=lt bd a
 |0,h=>by rw[show b=a from h]
 |j+1, .inl h=>n0 hw h
 |j+1, .inr ⟨y,q,hy⟩=>((di hw).mp hy).2.2.trans (n0 hw q)
section
variable{bd:List Str}{W w:Nat}{a b c:Cell}
theorem Cn.on(hw:Ways w)(ha:On bd.length W a)(h:Cn bd W w a b):On bd.length W b:=let ⟨_,q⟩:=h;uQ hw ha q
theorem Cn.symm(hw:Ways w)(ha:On bd.length W a)(h:Cn bd W w a b):Cn bd W w b a:=let ⟨j,q⟩:=h;⟨j,wW hw ha q⟩
theorem Cn.trans(h:Cn bd W w a b)(h2:Cn bd W w b c):Cn bd W w a c:=let ⟨i,q⟩:=h;let ⟨j,r⟩:=h2;⟨i+j,rQ q r⟩
theorem Cn.letter(hw:Ways w)(h:Cn bd W w a b):lt bd b=lt bd a:=let ⟨_,q⟩:=h;n0 hw q
theorem Cn.step(h:Cn bd W w a b)(h2:c∈bE bd W w b):Cn bd W w a c:=let ⟨j,q⟩:=h;⟨j+1, .inr ⟨b,q,h2⟩⟩
end
structure IsPatch (bd:List Str) (W w:Nat) (a:Cell) (P:List Cell):Prop where
 rise:RiseC P
 mem:∀x,x∈P↔Cn bd W w a x
theorem IsPatch.one{bd:List Str}{W w:Nat}{a:Cell}{P Q:List Cell}(h:IsPatch bd W w a P)(h2:IsPatch bd W w a Q):P=Q:=iN h.rise h2.rise λx=>(h.mem x).trans (h2.mem x).symm
theorem lO{bd:List Str}{W:Nat}{ks:List Cell}(hn:ks.Nodup)(pY:∀x∈ks,On bd.length W x):ks.length<=bd.length*W:=by
 rw[<-bo bd.length W];exact iF hn λx hx=>aD.mpr (pY x hx)
def Ra(w:Nat):List Cell->Bool
 |a::b::r=>eS w a b&&Ra w (b::r)
 |_=>true
theorem xP{α:Type}{l:List α}{x:α}:L2.atI (l++[x]) (-1)=some x:=by
 unfold L2.atI AG;rw[ad0 (by decide)];have: -((l++[x]).length:Int)<= -1:=by simp;omega
 rw[adY this];have e:((-1:Int)+((l++[x]).length:Int)).toNat=l.length:=by simp;omega
 show (l++[x])[((-1:Int)+((l++[x]).length:Int)).toNat]? =some x;rw[e];simp
theorem O5{l:List Cell}{x:Cell}:cE (cL (l++[x])) (.int (-1))=ae (cD x):=by
 show (match L2.atI ((l++[x]).map cD) (-1) with | some d=>ae d | none=>ag)=_;rw[Yv,show [x].map cD=[cD x] from rfl,xP]
theorem F4{l:List Cell}{i:Nat}{x:Cell}(h:l[i]? =some x):cE (cL l) (.int (i:Int))=ae (cD x):=by
 show (match L2.atI (l.map cD) (i:Int) with | some d=>ae d | none=>ag)=_;rw[d7 (x:=cD x) (by rw[Xv,h];rfl)]
abbrev wr(bd w a b k t:D):bb:=[fz bd,fz w,fz a,fz b,fz k,fz t]
theorem c_{α:Type}{f:D->M (Option D)}(enc:α->D)(g:α->D):∀(xs:List α),(∀x∈xs,f (enc x)=ae (some (g x)))->d9 f (xs.map enc)=ae (xs.map g)
 |[],_=>rfl
 |x::xs,h=>by
  rw[Xp,fC,h x (Xk ..),ay,c_ enc g xs λy hy=>h y (Xj _ hy)];rfl
theorem QQ{ρ:bb}{i:Nat}{ds:List D}(h:ρ[i]? =some (fz (.lst ds))):dD (dV i) ρ=ae ds:=by
 unfold dD;rw[vC h];rfl
def cj(ks:List Cell)(c:Cell):List Cell:=if c∈ks then ks else ks++[c]
def bj(l:List Cell):List Cell:=l.foldl cj []
def aT(ks:List Cell):List D:=ks.map λ_=> .bl true
theorem eT{ks:List Cell}{c x:Cell}:x∈cj ks c↔x∈ks\/x=c:=by
 unfold cj;split
 ·rename_i h;exact⟨.inl,λq=>q.elim id λe=>by rw[e];exact h⟩
 ·simp
theorem lX:∀(l ks:List Cell),(ks.Nodup->(l.foldl cj ks).Nodup)/\(∀x,x∈l.foldl cj ks↔x∈ks\/x∈l)/\(l.foldl cj ks).length<=ks.length+l.length
 |[],ks=>⟨id,λx=>by simp,by simp⟩
 |c::l,ks=>by
  obtain⟨h1,h2,h3⟩:=lX l (cj ks c);refine⟨λhn=>h1 ?_,λx=>?_,?_⟩
  ·unfold cj;split
   ·exact hn
   ·rename_i hc;refine ZU.mpr ⟨hn,by simp,λy hy z hz e=>?_⟩;have hz:z=c:=by simpa using hz
    rw[e,hz] at hy;exact hc hy
  ·rw[aaI,h2 x,eT];simp[or_assoc]
  ·rw[aaI,Xo];have:(cj ks c).length<=ks.length+1:=by unfold cj;split<;>simp
   omega
theorem gA{l:List Cell}{x:Cell}:x∈bj l↔x∈l:=by
 unfold bj;rw[(lX l []).2.1 x];simp
theorem q_(l:List Cell):(bj l).Nodup:=(lX l []).1 aan
theorem nL(l:List Cell):(bj l).length<=l.length:=by have:=(lX l []).2.2;simpa[bj] using this
theorem uV{k:List Key}:∀{ks:List (List Key)}{l:List Cell},ks.length=l.length->n9 ks (aT l) k (.bl true)=aT l
 |[],[],_=>rfl
 |k'::ks,c::l,h=>by
  show (if k'=k then D.bl true else D.bl true)::n9 ks (aT l) k (.bl true)=_;rw[uV (by simpa using h)];split<;>rfl
 |[],_::_,h=>by simp at h
 |_::_,[],h=>by simp at h
theorem G8{ks:List Cell}{c:Cell}(hl:ks.length<lim):nZ (.dct (ks.map keyOf) (aT ks)) (cD c) (.bl true)=some (.dct ((cj ks c).map keyOf) (aT (cj ks c))):=by
 have v6:(aT ks).length=ks.length:=by simp[aT]
 unfold cj;by_cases h:c∈ks
 ·rw[adY h];show (match eR (cD c) with | some kk=>if (aT ks).length<lim then some (C.dct (dZ (ks.map keyOf) (aT ks) kk) (c7 (ks.map keyOf) (aT ks) kk (.bl true))) else none | none=>none)=_;rw[g6];show (if (aT ks).length<lim then some (C.dct (dZ (ks.map keyOf) (aT ks) (keyOf c)) (c7 (ks.map keyOf) (aT ks) (keyOf c) (.bl true))) else none)=_;rw[adY (by rw[v6];exact hl)];obtain⟨d,e,_⟩:=oq (ds:=aT ks) v6.symm h;unfold dZ c7;rw[e];show some (C.dct (ks.map keyOf) (n9 (ks.map keyOf) (aT ks) (keyOf c) (.bl true)))=_;rw[uV (by simp)]
 ·rw[ad0 h,zh h (by rw[v6];exact hl)];simp[aT]
abbrev AJ(l:List Cell):D:= .dct ((bj l).map keyOf) (aT (bj l))
theorem uu{l:List Cell}(hl:l.length<4000):i7 [cL l]=ae (AJ l):=by
 have e:∀(xs ks:List Cell),ks.length+xs.length<4000->forL (putN 2) (cx [2] (iQ 1 (dV 2) (dC (.bl true)))) (xs.map cD) [fz (cL l),some (.ow (.dct (ks.map keyOf) (aT ks))),none]=ae (.nx [fz (cL l),some (.ow (.dct ((xs.foldl cj ks).map keyOf) (aT (xs.foldl cj ks)))),none]):=by
  intro xs;induction xs with
  |nil=>intro ks _;rfl
  |cons x xs ih=>
   intro ks hk;rw[Xo] at hk;have hle:(cj ks x).length<=ks.length+1:=by unfold cj;split<;>simp
   refine(bF (ρ1:=[fz (cL l),some (.ow (.dct (ks.map keyOf) (aT ks))),fz (cD x)]) (ρ2:=[fz (cL l),some (.ow (.dct ((cj ks x).map keyOf) (aT (cj ks x)))),none]) rfl ?_).trans (ih (cj ks x) (by omega));refine(aQ (ρ':=[fz (cL l),some (.ow (.dct ((cj ks x).map keyOf) (aT (cj ks x)))),fz (cD x)]) ?_).trans rfl;show (match nZ (.dct (ks.map keyOf) (aT ks)) (cD x) (.bl true) with | some c'=>ae (Out.nx [fz (cL l),some (.ow c'),fz (cD x)]) | none=>ag)=_;rw[G8 (by rw[cF];omega)]
 refine ba (ak (ρ':=[fz (cL l),some (.ow (.dct [] [])),none]) rfl (ak (ρ':=[fz (cL l),some (.ow (.dct ((bj l).map keyOf) (aT (bj l)))),none]) (bW (c8 (ds:=l.map cD) rfl (e l [] (by simpa using hl)))) rfl))
theorem yI{x:Cell}:∀{l:List Cell},nN (keyOf x) (l.map keyOf)=decide (x∈l)
 |[]=>rfl
 |y::l=>by
  show (decide (keyOf y=keyOf x)||nN (keyOf x) (l.map keyOf))=_;rw[yI];by_cases h:y=x
  ·subst h;simp
  ·have h2:¬keyOf y=keyOf x:=λz=>h (gz z);rw[ad2 h2,Bool.false_or,ad5];constructor
   ·exact λq=>Xj _ q
   ·intro q;rcases Xs.mp q with q | q
    ·exact ad3 q.symm h
    ·exact q
theorem uv:∀{l:List Cell},l9 (l.map cD)=some (l.map keyOf)
 |[]=>rfl
 |y::l=>by
  show (match eR (cD y),l9 (l.map cD) with | some k,some ks=>some (k::ks) | _,_=>none)=_;rw[uv];rfl
theorem IJ{neg:Bool}{x:Cell}{l:List Cell}:Ap neg (cD x) (cL l)=ae (.bl (if neg then !decide (x∈l) else decide (x∈l))):=by
 show (match eR (cD x),l9 (l.map cD) with | some k,some ks=>ae (D.bl (if neg then !nN k ks else nN k ks)) | _,_=>ag)=_;rw[uv,g6];show ae (D.bl (if neg then !nN (keyOf x) (l.map keyOf) else nN (keyOf x) (l.map keyOf)))=_;rw[yI]
theorem vZ(l:List Cell):bq [cL l]=ae (.int (l.length:Int)):=by
 show ae (D.int ((l.map cD).length:Int))=_;rw[Xh]
theorem Lq{a b:List Cell}(h:a.length+b.length<=4096):jw (cL a) (cL b)=ae (cL (a++b)):=by
 show (if (a.map cD).length+(b.map cD).length<=lim then ae (D.lst (a.map cD++b.map cD)) else ag)=_;rw[adY (by rw[Xh,Xh,cF];exact h),<-Yv]
theorem Pc(a b:Nat):ny (.int (a:Int)) (.int (b:Int))=ae (.bl (!(a==b))):=by
 rw[ne_int,mr]
theorem Pb(a b:Nat):Qu (.int (a:Int)) (.int (b:Int))=ae (.bl (decide (b<a))):=by
 show ae (D.bl (decide ((b:Int)<(a:Int))))=_;congr 2;rw[ad5];omega
def yd(ks:List Cell)(f:Cell->D):C:= .dct (ks.map keyOf) (ks.map f)
def nu(ks:List Cell)(f:Cell->D):D:= .dct (ks.map keyOf) (ks.map f)
def eF(f:Cell->D)(x:Cell)(d:D):Cell->D:=λy=>if y=x then d else f y
theorem mV{f:Cell->D}{x:Cell}:∀{ks:List Cell},x∈ks->fZ (ks.map keyOf) (ks.map f) (keyOf x)=some (f x)
 |y::ks,h=>by
  show (if keyOf y=keyOf x then some (f y) else fZ (ks.map keyOf) (ks.map f) (keyOf x))=_;by_cases e:y=x
  ·subst e;rw[adY rfl]
  ·rw[ad0 (λz=>e (gz z))];rcases Xs.mp h with q | q
   ·exact ad3 q.symm e
   ·exact mV q
theorem nG{ks:List Cell}{f:Cell->D}{x:Cell}(h:x∈ks):ft (nu ks f) (cD x)=ae (f x):=by
 show (match ((eR (cD x)).map λk=>fZ (ks.map keyOf) (ks.map f) k) with | some (some v)=>ae v | _=>ag)=_;rw[g6];show (match some (fZ (ks.map keyOf) (ks.map f) (keyOf x)) with | some (some v)=>ae v | _=>ag)=_;rw[mV h]
theorem BY{ks:List Cell}{f:Cell->D}{x:Cell}{v:D}(h:x∈ks):getM (nu ks f) (cD x) v=ae (f x):=by
 show (match ((eR (cD x)).map λk=>fZ (ks.map keyOf) (ks.map f) k) with | some (some x)=>ae x | some none=>ae v | none=>ag)=_;rw[g6];show (match some (fZ (ks.map keyOf) (ks.map f) (keyOf x)) with | some (some x)=>ae x | some none=>ae v | none=>ag)=_;rw[mV h]
theorem yt{ks:List Cell}{f:Cell->D}{x:Cell}{v:D}(h:x∉ks):getM (nu ks f) (cD x) v=ae v:=by
 show (match ((eR (cD x)).map λk=>fZ (ks.map keyOf) (ks.map f) k) with | some (some x)=>ae x | some none=>ae v | none=>ag)=_;rw[g6];show (match some (fZ (ks.map keyOf) (ks.map f) (keyOf x)) with | some (some x)=>ae x | some none=>ae v | none=>ag)=_;rw[gD h]
theorem wZ{f:Cell->D}{x:Cell}{d:D}:∀{ks:List Cell},n9 (ks.map keyOf) (ks.map f) (keyOf x) d=ks.map (eF f x d)
 |[]=>rfl
 |y::ks=>by
  show (if keyOf y=keyOf x then d else f y)::n9 (ks.map keyOf) (ks.map f) (keyOf x) d=_;rw[wZ,Xp];congr 1;unfold eF;by_cases e:y=x
  ·subst e;rw[adY rfl,adY rfl]
  ·rw[ad0 (λz=>e (gz z)),ad0 e]
theorem JZ{ks:List Cell}{f:Cell->D}{x:Cell}{d:D}(hl:ks.length<lim):nZ (yd ks f) (cD x) d=some (yd (cj ks x) (eF f x d)):=by
 show (match eR (cD x) with | some kk=>if (ks.map f).length<lim then some (C.dct (dZ (ks.map keyOf) (ks.map f) kk) (c7 (ks.map keyOf) (ks.map f) kk d)) else none | none=>none)=_;rw[g6];show (if (ks.map f).length<lim then some (C.dct (dZ (ks.map keyOf) (ks.map f) (keyOf x)) (c7 (ks.map keyOf) (ks.map f) (keyOf x) d)) else none)=_;rw[adY (by rw[Xh];exact hl)];unfold yd cj dZ c7;by_cases h:x∈ks
 ·rw[mV h,adY h];show some (C.dct (ks.map keyOf) (n9 (ks.map keyOf) (ks.map f) (keyOf x) d))=_;rw[wZ]
 ·rw[gD h,ad0 h];show some (C.dct (ks.map keyOf++[keyOf x]) (ks.map f++[d]))=_;have e1:ks.map f=ks.map (eF f x d):=ZA λy hy=>by
   unfold eF;rw[ad0 (λz:y=x=>h (z▸hy))]
  have e2:(ks++[x]).map (eF f x d)=ks.map (eF f x d)++[d]:=by
   rw[Yv];congr 1;show [eF f x d x]=[d]
   unfold eF;rw[adY rfl]
  rw[Yv,e1,e2];rfl
theorem mK{i:Nat}{δk δv:DE}{ρ:bb}{ks:List Cell}{f:Cell->D}{x:Cell}{d:D}(h0:ρ[i]? =some (some (.ow (yd ks f))))(hv:δv ρ=ae d)(hk:δk ρ=ae (cD x))(hl:ks.length<lim):
 iQ i δk δv ρ=ae (.nx (ρ.set i (some (.ow (yd (cj ks x) (eF f x d)))))):=by
 unfold iQ A6;rw[h0];show (δv ρ>>=λv=>δk ρ>>=λk=>match nZ (yd ks f) k v with | some c'=>ae (Out.nx (ρ.set i (some (.ow c')))) | none=>ag)=_;rw[hv,ay,hk,ay,JZ hl]
theorem jN{bd:List Str}{W:Nat}(hg:Wd bd W):cZ [brd bd]=ae (cL (ax bd.length W)):=by
 have h8:=hg.r8;have w8:=hg.w8;have hm:bd.length*W<=64:=Zo h8 w8;have Du:(XQ bd.length).flatMap (λr=>(b_ W r).map cD)=(ax bd.length W).map cD:=by
  unfold ax;rw[aar]
 have e:=eh (put:=putN 2) (body:=cx [2] (bg 1 (d2 jw (dV 1) (bB 0 (λρ=>(aC (dA bq (aC (d2 aU (dV 0) (dC (.int 0))) aN)) aN) ρ>>=eO) ck (dA aY (aC (dV 3) (aC (dV 0) aN))))))) (λ(k:Nat)=>D.int (k:Int)) (λacc=>[fz (brd bd),fz (.lst acc),none]) (λr=>(b_ W r).map cD) (B:=64) (XQ bd.length) []
  (by rw[XW,Du,Xh,bo];exact hm) λr hr acc hB=>by
   refine⟨[fz (brd bd),fz (.lst acc),fz (.int (r:Int))],rfl,?_⟩;refine(aQ (ρ':=[fz (brd bd),fz (.lst (acc++(b_ W r).map cD)),fz (.int (r:Int))]) ?_).trans rfl;have hc:bB 0 (λρ=>(aC (dA bq (aC (d2 aU (dV 0) (dC (.int 0))) aN)) aN) ρ>>=eO) ck (dA aY (aC (dV 3) (aC (dV 0) aN))) [fz (brd bd),fz (.lst acc),fz (.int (r:Int))]=ae (.lst ((b_ W r).map cD)):=by
    refine bO (zp (n:=W) (hg.len0 rfl) (by omega)) ?_ (by simp[b_,cF];omega);rw[show (b_ W r).map cD=(XQ W).map (λk=>cD (r,k)) by simp[b_,Yn]];exact c_ (λ(k:Nat)=>D.int (k:Int)) (λk=>cD (r,k)) _ λk _=>rfl
   refine(aG (d:= .lst (acc++(b_ W r).map cD)) ((aB (x:= .lst acc) (y:= .lst ((b_ W r).map cD)) rfl hc).trans ?_)).trans rfl;show (if acc.length+((b_ W r).map cD).length<=lim then ae (D.lst (acc++(b_ W r).map cD)) else ag)=_;rw[adY (by rw[Xq] at hB;rw[cF];omega)]
 rw[XW,Du] at e;refine ba (ak (ρ':=[fz (brd bd),fz (.lst []),none]) rfl (ak (ρ':=[fz (brd bd),fz (.lst ((ax bd.length W).map cD)),none]) (bW (c8 (zp (n:=bd.length) (DN rfl) (by omega)) e)) ?_));rfl
def xR(R W w:Nat)(c:Cell)(d e:Int):Bool:=((decide (0<=(c.1:Int)+d)&&decide ((c.1:Int)+d<(R:Int)))&&(decide (0<=(c.2:Int)+e)&&decide ((c.2:Int)+e<(W:Int))))&&((!(d==0&&e==0))&&((w==8)||(d*e==0)))
def k7(R W w:Nat)(c:Cell)(d e:Int):List Cell:=if xR R W w c d e then [(((c.1:Int)+d).toNat,((c.2:Int)+e).toNat)] else []
def lP(R W w:Nat)(c:Cell):List Cell:=[-1,0,1].flatMap λd=>[-1,0,1].flatMap λe=>k7 R W w c d e
theorem EM(R W w:Nat)(c:Cell)(d e:Int):(k7 R W w c d e).length<=1:=by unfold k7;split<;>simp
theorem xS(R W w:Nat)(c:Cell):(lP R W w c).length<=9:=by
 have h:=EM R W w c;simp only[lP,YZ,List.flatMap_nil,Xq,X0];have:=h (-1) (-1);have:=h (-1) 0;have:=h (-1) 1;have:=h 0 (-1);have:=h 0 0;have:=h 0 1;have:=h 1 (-1);have:=h 1 0;have:=h 1 1;omega
theorem BE{d:Int}(h:d.natAbs<=1):d∈[(-1:Int),0,1]:=by
 have:d= -1\/d=0\/d=1:=by omega
 rcases this with rfl | rfl | rfl<;>decide
theorem BL:∀d∈[(-1:Int),0,1],∀e∈[(-1:Int),0,1],∀w∈[4,8],((!(d==0&&e==0))&&((w==8)||(d*e==0)))=if w=4 then decide (d.natAbs+e.natAbs=1) else decide (max d.natAbs e.natAbs=1):=by decide
theorem BU{a x:Nat}{d:Int}(h:(x:Int)=a+d):fw a x=d.natAbs:=by
 unfold fw;omega
theorem Cj{w:Nat}{a1 a2 x1 x2:Nat}{d e:Int}(h1:(x1:Int)=a1+d)(h2:(x2:Int)=a2+e):eS w (a1,a2) (x1,x2)=if w=4 then decide (d.natAbs+e.natAbs=1) else decide (max d.natAbs e.natAbs=1):=by
 show (if w=4 then decide (fw a1 x1+fw a2 x2=1) else decide (max (fw a1 x1) (fw a2 x2)=1))=_;rw[BU h1,BU h2]
theorem qQ{R W w:Nat}(hw:Ways w){c x:Cell}(hc:On R W c):x∈lP R W w c↔On R W x/\eS w c x=true:=by
 obtain⟨c1,c2⟩:=c;obtain⟨x1,x2⟩:=x;have TX:c1<R:=hc.1;have BZ:c2<W:=hc.2;have key:(x1,x2)∈lP R W w (c1,c2)↔∃d∈[(-1:Int),0,1],∃e∈[(-1:Int),0,1],xR R W w (c1,c2) d e=true/\(x1:Int)=c1+d/\(x2:Int)=c2+e:=by
  unfold lP k7;simp only[aba];constructor
  ·rintro⟨d,hd,e,he,h⟩;by_cases hb:xR R W w (c1,c2) d e=true
   ·rw[adY hb] at h;have xJ:=hb;unfold xR at xJ;simp only[XO,adZ] at xJ;have h:=Yc.mp h;rw[aaW] at h;exact⟨d,hd,e,he,hb,by omega,by omega⟩
   ·rw[ad0 hb] at h;cases h
  ·rintro⟨d,hd,e,he,hb,h1,h2⟩;refine⟨d,hd,e,he,?_⟩;rw[adY hb];exact Yc.mpr (by rw[aaW];exact⟨by omega,by omega⟩)
 rw[key];constructor
 ·rintro⟨d,hd,e,he,hb,h1,h2⟩;unfold xR at hb;rw[XO] at hb;have h3:=hb.1;simp only[XO,adZ] at h3;refine⟨⟨show x1<R by omega,show x2<W by omega⟩,?_⟩;rw[Cj h1 h2,<-BL d hd e he w (by rcases hw with rfl | rfl<;>decide)];exact hb.2
 ·rintro⟨⟨h1,h2⟩,h3⟩;have e1:(x1:Int)=c1+((x1:Int) - c1):=by omega
  have e2:(x2:Int)=c2+((x2:Int) - c2):=by omega
  rw[Cj e1 e2] at h3;have hn:((x1:Int) - c1).natAbs<=1/\((x2:Int) - c2).natAbs<=1:=by
   rcases hw with rfl | rfl
   ·have:=ad4 h3;omega
   ·have:=ad4 h3;omega
  have m1:=BE hn.1;have m2:=BE hn.2;rw[<-BL _ m1 _ m2 w (by rcases hw with rfl | rfl<;>decide)] at h3;refine⟨_,m1,_,m2,?_,e1,e2⟩;unfold xR;rw[XO];refine⟨?_,h3⟩;have h1:x1<R:=h1;have h2:x2<W:=h2;rw[<-e1,<-e2];simp only[XO,adZ];omega
theorem Jl(a b c d:Int):ny (.tup [.int a, .int b]) (.tup [.int c, .int d])=ae (.bl (!(a==c&&b==d))):=by
 show (match iZ 6 (.tup [.int a, .int b]) (.tup [.int c, .int d]) with | some b=>ae (D.bl (!b)) | none=>ag)=_;have:iZ 6 (.tup [.int a, .int b]) (.tup [.int c, .int d])=some (a==c&&b==d):=by
  rw[show (6:Nat)=5+1 from rfl,Iu];unfold oC;rw[pX];cases h:(a==c)
  ·rfl
  ·unfold oC;rw[pX];cases h2:(b==d)
   ·rfl
   ·rfl
 rw[this]
theorem Ig{bd:List Str}{W w:Nat}(hg:Wd bd W){c:Cell}{d e:Int}(hd:d∈[(-1:Int),0,1])(he:e∈[(-1:Int),0,1]){acc:List D}(hl:(acc++(k7 bd.length W w c d e).map cD).length<=64):
 ES [fz (brd bd),fz (cD c),fz (iW w),some (.ow (.lst acc)),fz (.int d),fz (.int e),none,none,none]=ae (.nx [fz (brd bd),fz (cD c),fz (iW w),some (.ow (.lst (acc++(k7 bd.length W w c d e).map cD))),fz (.int d),none,none,none,none]):=by
 have qw:gb (zS (λi j=>decide (i<=j)) (λi j=>decide (i<j)) (dC (.int 0)) (dV 6) (dA bq (aC (dV 0) aN))) (zS (λi j=>decide (i<=j)) (λi j=>decide (i<j)) (dC (.int 0)) (dV 7) (dA bq (aC (d2 aU (dV 0) (dC (.int 0))) aN))) [fz (brd bd),fz (cD c),fz (iW w),some (.ow (.lst acc)),fz (.int d),fz (.int e),fz (.int ((c.1:Int)+d)),fz (.int ((c.2:Int)+e)),none]=
  ae (.bl ((decide (0<=(c.1:Int)+d)&&decide ((c.1:Int)+d<(bd.length:Int)))&&(decide (0<=(c.2:Int)+e)&&decide ((c.2:Int)+e<(W:Int))))):=Ik (N6 rfl (DN rfl)) (N6 rfl (hg.len0 rfl))
 have VS: -(2:Int) ^ 64<d/\d<2 ^ 64:=by
  simp only[Xs,Yz,or_false] at hd;rcases hd with rfl | rfl | rfl<;>decide
 have ht:∀{b8:Bool},lg (dR (dV 8)) (lg (bU (d2 ny (dA aY (aC (dV 4) (aC (dV 5) aN))) (dA aY (aC (dC (.int 0)) (aC (dC (.int 0)) aN))))) (lS (bU (d2 iz (dV 2) (dC (.int 8)))) (bU (d2 iz (d2 i8 (dV 4) (dV 5)) (dC (.int 0)))))) [fz (brd bd),fz (cD c),fz (iW w),some (.ow (.lst acc)),fz (.int d),fz (.int e),fz (.int ((c.1:Int)+d)),fz (.int ((c.2:Int)+e)),fz (.bl b8)]=
  ae (b8&&((!(d==0&&e==0))&&((w==8)||(d*e==0)))):=λ{b8}=>
  jI (jJ rfl) (jI (dF ((aB (x:= .tup [.int d, .int e]) (y:= .tup [.int 0, .int 0]) rfl rfl).trans (Jl ..))) (t6 (dF ((aB (x:=iW w) (y:= .int 8) rfl rfl).trans ((eq_int _ _).trans (by rw[show ((w:Int)==8)=(w==8) from mr w 8])))) (dF ((aB (x:= .int (d*e)) (y:= .int 0) ((aB (x:= .int d) (y:= .int e) rfl rfl).trans (gJ (.inl VS))) rfl).trans (eq_int _ _)))))
 have pre:∀{ρ':bb},iP (lg (dR (dV 8)) (lg (bU (d2 ny (dA aY (aC (dV 4) (aC (dV 5) aN))) (dA aY (aC (dC (.int 0)) (aC (dC (.int 0)) aN))))) (lS (bU (d2 iz (dV 2) (dC (.int 8)))) (bU (d2 iz (d2 i8 (dV 4) (dV 5)) (dC (.int 0))))))) (jC 3 (dA aY (aC (dV 6) (aC (dV 7) aN)))) dE [fz (brd bd),fz (cD c),fz (iW w),some (.ow (.lst acc)),fz (.int d),fz (.int e),fz (.int ((c.1:Int)+d)),fz (.int ((c.2:Int)+e)),fz (.bl ((decide (0<=(c.1:Int)+d)&&decide ((c.1:Int)+d<(bd.length:Int)))&&(decide (0<=(c.2:Int)+e)&&decide ((c.2:Int)+e<(W:Int)))))]=ae (.nx ρ')->
  ES [fz (brd bd),fz (cD c),fz (iW w),some (.ow (.lst acc)),fz (.int d),fz (.int e),none,none,none]=ae (.nx (fgt [5,6,7,8] ρ')):=λ{ρ'} h=>
  aQ (ak (ρ':=[fz (brd bd),fz (cD c),fz (iW w),some (.ow (.lst acc)),fz (.int d),fz (.int e),fz (.int ((c.1:Int)+d)),none,none]) rfl
   (ak (ρ':=[fz (brd bd),fz (cD c),fz (iW w),some (.ow (.lst acc)),fz (.int d),fz (.int e),fz (.int ((c.1:Int)+d)),fz (.int ((c.2:Int)+e)),none]) rfl (ak ((aG qw).trans rfl) h)))
 have HR:xR bd.length W w c d e=(((decide (0<=(c.1:Int)+d)&&decide ((c.1:Int)+d<(bd.length:Int)))&&(decide (0<=(c.2:Int)+e)&&decide ((c.2:Int)+e<(W:Int))))&&((!(d==0&&e==0))&&((w==8)||(d*e==0)))):=rfl;have ht:=ht (b8:=(decide (0<=(c.1:Int)+d)&&decide ((c.1:Int)+d<(bd.length:Int)))&&(decide (0<=(c.2:Int)+e)&&decide ((c.2:Int)+e<(W:Int))));rw[<-HR] at ht;by_cases hb:xR bd.length W w c d e=true
 ·have xJ:=hb;rw[HR] at xJ;simp only[XO,adZ] at xJ;have eg:(k7 bd.length W w c d e).map cD=[.tup [.int ((c.1:Int)+d), .int ((c.2:Int)+e)]]:=by
   unfold k7;rw[adY hb];show [D.tup [.int ((((c.1:Int)+d).toNat:Nat):Int), .int ((((c.2:Int)+e).toNat:Nat):Int)]]=_;rw[abB (by omega),abB (by omega)]
  rw[eg] at hl⊢;rw[hb] at ht;refine(pre (ρ':=[fz (brd bd),fz (cD c),fz (iW w),some (.ow (.lst (acc++[.tup [.int ((c.1:Int)+d), .int ((c.2:Int)+e)]]))),fz (.int d),fz (.int e),fz (.int ((c.1:Int)+d)),fz (.int ((c.2:Int)+e)),fz (.bl ((decide (0<=(c.1:Int)+d)&&decide ((c.1:Int)+d<(bd.length:Int)))&&(decide (0<=(c.2:Int)+e)&&decide ((c.2:Int)+e<(W:Int)))))]) (eQ ht ?_)).trans rfl;show (if acc.length<lim then ae (Out.nx [fz (brd bd),fz (cD c),fz (iW w),some (.ow (.lst (acc++[.tup [.int ((c.1:Int)+d), .int ((c.2:Int)+e)]]))),fz (.int d),fz (.int e),fz (.int ((c.1:Int)+d)),fz (.int ((c.2:Int)+e)),_]) else ag)=_;rw[adY (by rw[Xq] at hl;rw[cF];simp at hl;omega)]
 ·have eg:(k7 bd.length W w c d e).map cD=[]:=by
   unfold k7;rw[ad0 hb];rfl
  rw[eg,X0];rw[abV.mpr hb] at ht;exact(pre (c9 ht rfl)).trans rfl
theorem vX{bd:List Str}{W w:Nat}(hg:Wd bd W){c:Cell}:dU [brd bd,cD c,iW w]=ae (cL (lP bd.length W w c)):=by
 have qw:∀d∈[(-1:Int),0,1],∀acc:List D,(acc++([(-1:Int),0,1].flatMap λe=>(k7 bd.length W w c d e).map cD)).length<=64->
  forL (putN 5) ES ([(-1:Int),0,1].map D.int) [fz (brd bd),fz (cD c),fz (iW w),some (.ow (.lst acc)),fz (.int d),none,none,none,none]=
   ae (.nx [fz (brd bd),fz (cD c),fz (iW w),some (.ow (.lst (acc++([(-1:Int),0,1].flatMap λe=>(k7 bd.length W w c d e).map cD)))),fz (.int d),none,none,none,none]):=λd hd acc hl=>
  eh (B:=64) D.int (λacc=>[fz (brd bd),fz (cD c),fz (iW w),some (.ow (.lst acc)),fz (.int d),none,none,none,none]) (λe=>(k7 bd.length W w c d e).map cD) [(-1:Int),0,1] acc hl λe he u_ EC=>⟨_,rfl,Ig hg hd he EC⟩
 have Du:([(-1:Int),0,1].flatMap λd=>[(-1:Int),0,1].flatMap λe=>(k7 bd.length W w c d e).map cD)=(lP bd.length W w c).map cD:=by
  unfold lP;simp only[aar]
 have OP:=eh (put:=putN 4) (body:=cx [4,5,6,7,8] (cV (putN 5) (nq (dA aY (aC (d1 ra (dC (.int 1))) (aC (dC (.int 0)) (aC (dC (.int 1)) aN))))) ES)) (B:=64) D.int (λacc=>[fz (brd bd),fz (cD c),fz (iW w),some (.ow (.lst acc)),none,none,none,none,none]) (λd=>[(-1:Int),0,1].flatMap λe=>(k7 bd.length W w c d e).map cD) [(-1:Int),0,1] []
  (by rw[XW,Du,Xh];have:=xS bd.length W w c;omega) λd hd acc hl=>⟨_,rfl,(aQ (c8 (ds:=[(-1:Int),0,1].map D.int) rfl (qw d hd acc hl))).trans rfl⟩
 rw[XW,Du] at OP;refine ba (ak (ρ':=[fz (brd bd),fz (cD c),fz (iW w),some (.ow (.lst [])),none,none,none,none,none]) rfl (ak (bW (c8 (ds:=[(-1:Int),0,1].map D.int) rfl OP)) ?_));rfl
theorem Bm{bd:List Str}{W:Nat}(hg:Wd bd W){x:Cell}(hx:On bd.length W x){b i:Nat}{ρ:bb}(hb:dV b ρ=ae (brd bd))(hi:dV i ρ=ae (cD x)):d2 jK (d2 aU (dV b) (d2 aU (dV i) (dC (.int 0)))) (d2 aU (dV i) (dC (.int 1))) ρ=ae (sg (lt bd x)):=by
 have h1:d2 aU (dV i) (dC (.int 0)) ρ=ae (.int (x.1:Int)):=(aB (y:= .int 0) hi rfl).trans O6.1;have h2:d2 aU (dV i) (dC (.int 1)) ρ=ae (.int (x.2:Int)):=(aB (y:= .int 1) hi rfl).trans O6.2;refine(aB ((aB hb h1).trans (AH hx.1)) h2).trans (xb ?_);rw[(hg.rows _ (getD_mem hx.1)).len];exact hx.2
theorem Kc{bd:List Str}{W:Nat}(hg:Brd bd W){x:Cell}(hx:On bd.length W x){b i:Nat}{ρ:bb}(hb:dV b ρ=ae (brd bd))(hi:dV i ρ=ae (cD x)):d2 jK (d2 aU (dV b) (d2 aU (dV i) (dC (.int 0)))) (d2 aU (dV i) (dC (.int 1))) ρ=ae (sg (lt bd x)):=Bm hg.wd hx hb hi
theorem F_(a b:Cell):HT.lexLt (ic a) (ic b)=tX a b:=by
 show (if (a.1:Int)=(b.1:Int) then(if (a.2:Int)=(b.2:Int) then false else decide ((a.2:Int)<(b.2:Int))) else decide ((a.1:Int)<(b.1:Int)))=_;unfold tX;by_cases h1:a.1=b.1
 ·rw[adY (by omega),adY h1];by_cases h2:a.2=b.2
  ·rw[adY (by omega),ad2 (by omega)]
  ·rw[ad0 (by omega),ad5];omega
 ·rw[ad0 (by omega),ad0 h1,ad5];omega
theorem Gb(a b:Cell):Ms (cD a) (cD b)=some (tX a b):=by
 show some (HT.lexLt (ic a) (ic b))=_;rw[F_]
theorem Iy(a b:Cell):Aq (cD a) (cD b)=ae (.bl (tX a b)):=by
 unfold Aq;rw[Gb]
def cb(a b:Cell):Cell:=if tX b a then b else a
theorem Jg(a b:Cell):yK [cD a,cD b]=ae (cD (cb a b)):=by
 show (match Ms (cD b) (cD a) with | some r=>ae (if r then cD b else cD a) | none=>ag)=_;rw[Gb];unfold cb;cases tX b a<;>rfl
def rank(W:Nat)(x:Cell):Nat:=x.1*W+x.2
theorem d8{R W:Nat}{a b:Cell}(ha:On R W a)(hb:On R W b):tX a b=true↔rank W a<rank W b:=by
 unfold tX rank;have h1:=ha.2;have h2:=hb.2;by_cases h:a.1=b.1
 ·rw[adY h,adZ,h];omega
 ·rw[ad0 h,adZ];constructor
  ·intro q;have:(a.1+1)*W<=b.1*W:=aaA _ q;rw[adH,adG] at this;omega
  ·intro q;refine aaF λz=>?_;have:(b.1+1)*W<=a.1*W:=aaA _ (by omega);rw[adH,adG] at this;omega
theorem mM{R W:Nat}{a b:Cell}(ha:On R W a)(hb:On R W b)(h:rank W a=rank W b):a=b:=by
 have n1:¬tX a b=true:=λz=>by have:=(d8 ha hb).mp z;omega
 have n2:¬tX b a=true:=λz=>by have:=(d8 hb ha).mp z;omega
 unfold tX at n1 n2;obtain⟨a1,a2⟩:=a;obtain⟨b1,b2⟩:=b;simp only at n1 n2;by_cases h1:a1=b1
 ·rw[adY h1,adZ] at n1;rw[adY h1.symm,adZ] at n2;rw[aaW];exact⟨h1,by omega⟩
 ·rw[ad0 h1,adZ] at n1;rw[ad0 (Yp h1),adZ] at n2;omega
theorem J1{R W:Nat}{a:Cell}(ha:On R W a):rank W a<R*W:=by
 unfold rank;have:(a.1+1)*W<=R*W:=aaA _ ha.1;rw[adH,adG] at this;have:=ha.2;omega
theorem DU(a b:Cell):cb a b=a\/cb a b=b:=by unfold cb;split;exact .inr rfl;exact .inl rfl
theorem DR{R W:Nat}{a b:Cell}(ha:On R W a)(hb:On R W b):rank W (cb a b)<=rank W a/\rank W (cb a b)<=rank W b:=by
 unfold cb;by_cases h:tX b a=true
 ·rw[adY h];have:=(d8 hb ha).mp h;omega
 ·rw[ad0 h];have:¬rank W b<rank W a:=λz=>h ((d8 hb ha).mpr z);omega
theorem Bo{α:Type}{f g:α->Nat}:∀{l:List α},(∀x∈l,f x<=g x)->(l.map f).sum<=(l.map g).sum
 |[],_=>Xx _
 |a::l,h=>by
  rw[Xp,Xp,Yq,Yq];exact Nat.add_le_add (h a (Xk ..)) (Bo λx hx=>h x (Xj _ hx))
theorem Hv{α:Type}{f g:α->Nat}:∀{l:List α},(∀x∈l,f x<=g x)->(∃x∈l,f x<g x)->(l.map f).sum<(l.map g).sum
 |[],_,⟨x,hx,_⟩=>by cases hx
 |a::l,h,⟨x,hx,hl⟩=>by
  rw[Xp,Xp,Yq,Yq];have h1:=h a (Xk ..);have h2:=Bo λx hx=>h x (Xj _ hx);rcases Xs.mp hx with rfl | hx
  ·omega
  ·have:=Hv (λx hx=>h x (Xj _ hx)) ⟨x,hx,hl⟩;omega
section
variable{bd:List Str}{W w:Nat}
def dY(s:(Cell->Cell)×Bool)(p:Cell×Cell):(Cell->Cell)×Bool:=
 if s.1 p.1=s.1 p.2 then s else(λz=>if z=p.2 then cb (s.1 p.1) (s.1 p.2) else if z=p.1 then cb (s.1 p.1) (s.1 p.2) else s.1 z,true)
structure Lab (bd:List Str) (W w:Nat) (L:Cell->Cell):Prop where
 on:∀x,On bd.length W x->On bd.length W (L x)
 cn:∀x,On bd.length W x->Cn bd W w x (L x)
 le:∀x,On bd.length W x->rank W (L x)<=rank W x
def mu(R W:Nat)(L:Cell->Cell):Nat:=((ax R W).map λx=>rank W (L x)).sum
def zZ(bd:List Str)(W w:Nat)(p:Cell×Cell):Prop:=On bd.length W p.1/\On bd.length W p.2/\Cn bd W w p.1 p.2
theorem yH(hw:Ways w){s:(Cell->Cell)×Bool}{p:Cell×Cell}(hp:zZ bd W w p)(h:Lab bd W w s.1):
 Lab bd W w (dY s p).1/\mu bd.length W (dY s p).1<=mu bd.length W s.1/\((dY s p).2=s.2/\(dY s p).1=s.1/\s.1 p.1=s.1 p.2\/(dY s p).2=true/\mu bd.length W (dY s p).1<mu bd.length W s.1):=by
 obtain⟨h1,h2,h3⟩:=hp;unfold dY;by_cases e:s.1 p.1=s.1 p.2
 ·rw[adY e];exact⟨h,Xx _, .inl ⟨rfl,rfl,e⟩⟩
 ·rw[ad0 e];have o1:=h.on _ h1;have o2:=h.on _ h2;have hle:=DR o1 o2;have Ua:=DU (s.1 p.1) (s.1 p.2);have pY:On bd.length W (cb (s.1 p.1) (s.1 p.2)):=by rcases Ua with q | q<;>rw[q]<;>assumption
  have c1:Cn bd W w p.1 (cb (s.1 p.1) (s.1 p.2)):=by
   rcases Ua with q | q<;>rw[q]
   ·exact h.cn _ h1
   ·exact h3.trans (h.cn _ h2)
  have c2:Cn bd W w p.2 (cb (s.1 p.1) (s.1 p.2)):=(h3.symm hw h1).trans c1;have Ur:∀z,On bd.length W z->rank W (if z=p.2 then cb (s.1 p.1) (s.1 p.2) else if z=p.1 then cb (s.1 p.1) (s.1 p.2) else s.1 z)<=rank W (s.1 z):=λz hz=>by
   by_cases z1:z=p.2
   ·rw[adY z1,z1];exact hle.2
   ·rw[ad0 z1];by_cases z2:z=p.1
    ·rw[adY z2,z2];exact hle.1
    ·rw[ad0 z2];exact Xx _
  have lt':mu bd.length W (λz=>if z=p.2 then cb (s.1 p.1) (s.1 p.2) else if z=p.1 then cb (s.1 p.1) (s.1 p.2) else s.1 z)<mu bd.length W s.1:=by
   refine Hv (λx hx=>Ur x (aD.mp hx)) ?_;have iT:rank W (s.1 p.1)≠rank W (s.1 p.2):=λz=>e (mM o1 o2 z);by_cases q:rank W (s.1 p.1)<rank W (s.1 p.2)
   ·refine⟨p.2,aD.mpr h2,?_⟩;show rank W (if p.2=p.2 then _ else _)<_;rw[adY rfl];omega
   ·refine⟨p.1,aD.mpr h1,?_⟩;by_cases q2:p.1=p.2
    ·rw[q2] at iT;exact ad3 rfl iT
    ·show rank W (if p.1=p.2 then _ else if p.1=p.1 then _ else _)<_;rw[ad0 q2,adY rfl];omega
  refine⟨⟨λx hx=>?_,λx hx=>?_,λx hx=>X2 (Ur x hx) (h.le x hx)⟩,Y6 lt', .inr ⟨rfl,lt'⟩⟩
  ·show On _ _ (if x=p.2 then _ else if x=p.1 then _ else s.1 x);split
   ·exact pY
   ·split
    ·exact pY
    ·exact h.on x hx
  ·show Cn _ _ _ _ (if x=p.2 then _ else if x=p.1 then _ else s.1 x);by_cases z1:x=p.2
   ·rw[adY z1,z1];exact c2
   ·rw[ad0 z1];by_cases z2:x=p.1
    ·rw[adY z2,z2];exact c1
    ·rw[ad0 z2];exact h.cn x hx
theorem K2(hw:Ways w):∀(ps:List (Cell×Cell)) (s:(Cell->Cell)×Bool),(∀p∈ps,zZ bd W w p)->Lab bd W w s.1->
 Lab bd W w (ps.foldl dY s).1/\mu bd.length W (ps.foldl dY s).1<=mu bd.length W s.1/\((ps.foldl dY s).2=s.2/\(ps.foldl dY s).1=s.1/\(∀p∈ps,s.1 p.1=s.1 p.2)\/(ps.foldl dY s).2=true/\mu bd.length W (ps.foldl dY s).1<mu bd.length W s.1)
 |[],s,_,h=>⟨h,Xx _, .inl ⟨rfl,rfl,λp hp=>by cases hp⟩⟩
 |p::ps,s,hp,h=>by
  obtain⟨a1,a2,a3⟩:=yH hw (hp p (Xk ..)) h;obtain⟨b1,b2,b3⟩:=K2 hw ps (dY s p) (λq hq=>hp q (Xj _ hq)) a1;rw[aaI];refine⟨b1,X2 b2 a2,?_⟩;rcases b3 with⟨c1,c2,c3⟩ | ⟨c1,c2⟩
  ·rcases a3 with⟨d1,d2,d3⟩ | ⟨d1,d2⟩
   ·refine .inl ⟨c1.trans d1,c2.trans d2,λq hq=>?_⟩;rcases Xs.mp hq with rfl | hq
    ·exact d3
    ·rw[<-d2];exact c3 q hq
   ·exact .inr ⟨c1.trans d1,by rw[c2];exact d2⟩
  ·exact .inr ⟨c1,X1 c2 a2⟩
def pD(p:Cell×Cell):D:= .tup [cD p.1,cD p.2]
def IW(bd:List Str)(W w:Nat)(ps:List (Cell×Cell))(s:(Cell->Cell)×Bool)(x8 x9 x10:Option Sl):bb:=[fz (brd bd),fz (iW w),some (.ow (yd (ax bd.length W) λx=>cD (s.1 x))),fz (.lst (ps.map pD)),none,none,none,fz (.bl s.2),x8,x9,x10]
theorem va{ks:List Cell}{x:Cell}(h:x∈ks):cj ks x=ks:=adY h
theorem IY(hg:Wd bd W){ps:List (Cell×Cell)}{s:(Cell->Cell)×Bool}{p:Cell×Cell}(h1:On bd.length W p.1)(h2:On bd.length W p.2):
 Sq (IW bd W w ps s (fz (cD p.1)) (fz (cD p.2)) none)=ae (.nx (IW bd W w ps (dY s p) none none none)):=by
 have hm:bd.length*W<=64:=Zo hg.r8 hg.w8;have Ov:(ax bd.length W).length<lim:=by rw[bo,cF];omega
 have m1:=aD.mpr h1;have m2:=aD.mpr h2;have i1:∀{x10:Option Sl},d2 ft (dV 2) (dV 8) (sG (IW bd W w ps s (fz (cD p.1)) (fz (cD p.2)) x10))=ae (cD (s.1 p.1)):=(aB (x:=nu (ax bd.length W) λx=>cD (s.1 x)) (y:=cD p.1) rfl rfl).trans (nG m1);have i2:∀{x10:Option Sl},d2 ft (dV 2) (dV 9) (sG (IW bd W w ps s (fz (cD p.1)) (fz (cD p.2)) x10))=ae (cD (s.1 p.2)):=(aB (x:=nu (ax bd.length W) λx=>cD (s.1 x)) (y:=cD p.2) rfl rfl).trans (nG m2);have ht:Kk (bU (d2 ny (d2 ft (dV 2) (dV 8)) (d2 ft (dV 2) (dV 9)))) (IW bd W w ps s (fz (cD p.1)) (fz (cD p.2)) none)=ae (!decide (s.1 p.1=s.1 p.2)):=CM (dF ((aB i1 i2).trans (Pe _ _)));unfold dY;by_cases e:s.1 p.1=s.1 p.2
 ·rw[ad1 e] at ht;rw[adY e];exact(aQ (c9 ht rfl)).trans rfl
 ·rw[ad2 e] at ht;rw[ad0 e];have OL:NO (dA yK (aC (d2 ft (dV 2) (dV 8)) (aC (d2 ft (dV 2) (dV 9)) aN))) (IW bd W w ps s (fz (cD p.1)) (fz (cD p.2)) none)=ae (cD (cb (s.1 p.1) (s.1 p.2))):=
   Kx ((bY (xs:=[cD (s.1 p.1),cD (s.1 p.2)]) (aW i1 (aW i2 rfl))).trans (Jg _ _)) (Iw _)
  refine(aQ (eQ ht (ak ((aG OL).trans rfl) (ak ((mK (x:=p.1) (d:=cD (cb (s.1 p.1) (s.1 p.2))) (ks:=ax bd.length W) (f:=λx=>cD (s.1 x)) rfl rfl rfl Ov).trans rfl) (ak ((mK (x:=p.2) (d:=cD (cb (s.1 p.1) (s.1 p.2))) (ks:=cj (ax bd.length W) p.1) (f:=eF (λx=>cD (s.1 x)) p.1 (cD (cb (s.1 p.1) (s.1 p.2)))) rfl rfl rfl (by rw[va m1];exact Ov)).trans rfl) rfl))))).trans ?_;rw[va m1,va m2];unfold IW;have ef:eF (eF (λx=>cD (s.1 x)) p.1 (cD (cb (s.1 p.1) (s.1 p.2)))) p.2 (cD (cb (s.1 p.1) (s.1 p.2)))=λx=>cD (if x=p.2 then cb (s.1 p.1) (s.1 p.2) else if x=p.1 then cb (s.1 p.1) (s.1 p.2) else s.1 x):=by
   funext x;unfold eF;by_cases z1:x=p.2
   ·rw[adY z1,adY z1]
   ·rw[ad0 z1,ad0 z1];by_cases z2:x=p.1
    ·rw[adY z2,adY z2]
    ·rw[ad0 z2,ad0 z2]
  rw[ef];rfl
end
theorem Gm{i:Nat}{δ:DF}{ρ:bb}{c:C}(h:δ ρ=ae c):rV i δ ρ=ae (.nx (ρ.set i (some (.ow c)))):=by
 unfold rV;rw[h];rfl
theorem DH{δ:DE}{ρ:bb}{l:List Cell}(h:δ ρ=ae (cL l)):dD δ ρ=ae (l.map cD):=by
 show (δ ρ>>=lstM)=_;rw[h];rfl
theorem eK(R W:Nat):RiseC (ax R W):=by
 unfold RiseC ax b_;rw[ac_];constructor
 ·intro r _;rw[Zt];exact List.pairwise_lt_range.imp λh=>by show (if _ then _ else _)=true;rw[adY rfl,adZ];exact h
 ·refine List.pairwise_lt_range.imp λ{a b} h x hx y hy=>?_;obtain⟨i,_,rfl⟩:=XE.mp hx;obtain⟨j,_,rfl⟩:=XE.mp hy;show (if a=b then _ else decide (a<b))=true;rw[ad0 (by omega),adZ];exact h
section
variable{bd:List Str}{W w:Nat}
def xU(bd:List Str)(x y:Cell):Bool:=tX x y&&decide (lt bd x=lt bd y)
def Ic(bd:List Str)(x y:Cell):List D:=if xU bd x y then [pD (x,y)] else []
def bG(bd:List Str)(W w:Nat):List (Cell×Cell):=(ax bd.length W).flatMap λx=>((lP bd.length W w x).filter (xU bd x)).map λy=>(x,y)
theorem lx(hw:Ways w){p:Cell×Cell}:p∈bG bd W w↔On bd.length W p.1/\On bd.length W p.2/\eS w p.1 p.2=true/\lt bd p.1=lt bd p.2/\tX p.1 p.2=true:=by
 unfold bG xU;simp only[aba,XE,XY,XO,adZ];constructor
 ·rintro⟨x,hx,y,⟨hy,h1,h2⟩,rfl⟩;have hx:=aD.mp hx;have:=(qQ hw hx).mp hy;exact⟨hx,this.1,this.2,h2,h1⟩
 ·rintro⟨h1,h2,h3,h4,h5⟩;exact⟨p.1,aD.mpr h1,p.2,⟨(qQ hw h1).mpr ⟨h2,h3⟩,h5,h4⟩,rfl⟩
theorem rE(hw:Ways w){p:Cell×Cell}(h:p∈bG bd W w):zZ bd W w p:=by
 obtain⟨h1,h2,h3,h4,_⟩:=(lx hw).mp h;exact⟨h1,h2,Cn.refl.step ((di hw).mpr ⟨h2,h3,h4.symm⟩)⟩
theorem xT(x:Cell):∀l:List Cell,l.flatMap (Ic bd x)=((l.filter (xU bd x)).map λy=>(x,y)).map pD
 |[]=>rfl
 |y::l=>by
  rw[YZ,xT x l];unfold Ic;by_cases h:xU bd x y=true
  ·rw[adY h,aa8 h];rfl
  ·rw[ad0 h,aa9 h];rfl
def zg(bd:List Str)(w:Nat)(o:Option Sl)(acc:List D)(x4 x5 x6:Option Sl):bb:=[fz (brd bd),fz (iW w),o,some (.ow (.lst acc)),x4,x5,x6,none,none,none,none]
theorem JQ(hg:Wd bd W){o:Option Sl}{x y:Cell}(hx:On bd.length W x)(hy:On bd.length W y){acc:List D}(hl:(acc++Ic bd x y).length<=600):
 QU (zg bd w o acc (fz (cD x)) (fz (cD y)) none)=ae (.nx (zg bd w o (acc++Ic bd x y) (fz (cD x)) none none)):=by
 have ht:lg (bU (d2 Aq (dV 4) (dV 5))) (bU (d2 iz (dV 6) (d2 jK (d2 aU (dV 0) (d2 aU (dV 5) (dC (.int 0)))) (d2 aU (dV 5) (dC (.int 1)))))) (zg bd w o acc (fz (cD x)) (fz (cD y)) (fz (sg (lt bd x))))=ae (xU bd x y):=
  jI (dF ((aB (x:=cD x) (y:=cD y) rfl rfl).trans (Iy _ _))) (dF ((aB (x:=sg (lt bd x)) rfl (Bm hg hy rfl rfl)).trans (KD _ _)))
 have h6:d2 jK (d2 aU (dV 0) (d2 aU (dV 4) (dC (.int 0)))) (d2 aU (dV 4) (dC (.int 1))) (zg bd w o acc (fz (cD x)) (fz (cD y)) none)=ae (sg (lt bd x)):=Bm hg hx rfl rfl;unfold Ic at hl⊢;by_cases hb:xU bd x y=true
 ·rw[adY hb] at hl⊢;rw[hb] at ht;refine(aQ (ρ':=zg bd w o (acc++[pD (x,y)]) (fz (cD x)) (fz (cD y)) (fz (sg (lt bd x)))) (ak (ρ':=zg bd w o acc (fz (cD x)) (fz (cD y)) (fz (sg (lt bd x)))) ((aG h6).trans rfl) (eQ ht ?_))).trans rfl;show (if acc.length<lim then ae (Out.nx (zg bd w o (acc++[pD (x,y)]) (fz (cD x)) (fz (cD y)) (fz (sg (lt bd x))))) else ag)=_;rw[adY (by rw[Xq] at hl;rw[cF];simp at hl;omega)]
 ·rw[ad0 hb,X0];rw[abV.mpr hb] at ht;exact(aQ (ρ':=zg bd w o acc (fz (cD x)) (fz (cD y)) (fz (sg (lt bd x)))) (ak (ρ':=zg bd w o acc (fz (cD x)) (fz (cD y)) (fz (sg (lt bd x)))) ((aG h6).trans rfl) (c9 ht rfl))).trans rfl
theorem yF{α β:Type}{n:Nat}(f:α->List β)(h:∀a,(f a).length<=n):∀l:List α,(l.flatMap f).length<=n*l.length
 |[]=>Yo _
 |a::l=>by
  rw[YZ,Xq,Xo,Nat.mul_add,Nat.mul_one];have:=h a;have:=yF f h l;omega
theorem JP(hg:Wd bd W)(hw:Ways w){o:Option Sl}:forL (putN 4) (cx [4,5,6] (cV (putN 5) (dD (az 3 dU (aC (dV 0) (aC (dV 4) (aC (dV 1) aN))))) QU)) ((ax bd.length W).map cD) (zg bd w o [] none none none)=ae (.nx (zg bd w o ((bG bd W w).map pD) none none none)):=by
 have hm:bd.length*W<=64:=Zo hg.r8 hg.w8;have Du:(ax bd.length W).flatMap (λx=>(lP bd.length W w x).flatMap (Ic bd x))=(bG bd W w).map pD:=by
  unfold bG;rw[aar];congr 1;funext x;exact xT x _
 have W7:((bG bd W w).map pD).length<=576:=by
  rw[Xh];have:=yF (n:=9) (λx=>((lP bd.length W w x).filter (xU bd x)).map λy=>(x,y)) (λx=>by rw[Xh];exact X2 (Yw ..) (xS ..)) (ax bd.length W);rw[bo] at this;exact X2 this (by omega)
 have:=eh (put:=putN 4) (body:=cx [4,5,6] (cV (putN 5) (dD (az 3 dU (aC (dV 0) (aC (dV 4) (aC (dV 1) aN))))) QU)) (B:=600) cD (λacc=>zg bd w o acc none none none) (λx=>(lP bd.length W w x).flatMap (Ic bd x)) (ax bd.length W) [] (by rw[XW,Du];omega) λx hx acc hl=>by
  have hx:=aD.mp hx;refine⟨zg bd w o acc (fz (cD x)) none none,rfl,(aQ (ρ':=zg bd w o (acc++(lP bd.length W w x).flatMap (Ic bd x)) (fz (cD x)) none none) (c8 (ds:=(lP bd.length W w x).map cD) ?_ ?_)).trans rfl⟩
  ·exact DH ((av (ds:=[brd bd,cD x,iW w]) rfl rfl).trans (vX hg))
  ·exact eh (B:=600) cD (λacc=>zg bd w o acc (fz (cD x)) none none) (Ic bd x) _ acc hl λy hy u_ EC=>⟨_,rfl,JQ hg hx ((qQ hw hx).mp hy).1 EC⟩
 rw[XW,Du] at this;exact this
def Mq(bd:List Str)(W w:Nat)(s:(Cell->Cell)×Bool)(x3:Option Sl):bb:=[fz (brd bd),fz (iW w),some (.ow (yd (ax bd.length W) λx=>cD (s.1 x))),x3,none,none,none,fz (.bl s.2),none,none,none]
theorem IX(hg:Wd bd W)(hw:Ways w){L:Cell->Cell}{b:Bool}{x3:Option Sl}(h3:x3=some (.ow (.lst ((bG bd W w).map pD)))\/x3=fz (.lst ((bG bd W w).map pD)))(h:Lab bd W w L):
 Sr (Mq bd W w (L,b) x3)=ae (.nx (Mq bd W w ((bG bd W w).foldl dY (L,false)) (fz (.lst ((bG bd W w).map pD))))):=by
 have hf:=(kr (put:=jy [8,9]) (body:=Sq) pD (λs=>IW bd W w (bG bd W w) s none none none) dY (λs=>Lab bd W w s.1) (bG bd W w) (L,false) h λs hs p hp=>by
  obtain⟨q1,q2,q3⟩:=rE hw hp;exact⟨(yH hw (rE hw hp) hs).1,_,rfl,IY hg q1 q2⟩).2
 refine(aQ (ρ':=IW bd W w (bG bd W w) ((bG bd W w).foldl dY (L,false)) none none none) (ak (ρ':=Mq bd W w (L,false) x3) rfl ?_)).trans rfl;rcases h3 with rfl | rfl
 ·exact c8 (ds:=(bG bd W w).map pD) rfl hf
 ·exact c8 (ds:=(bG bd W w).map pD) rfl hf
theorem yD(hg:Wd bd W)(hw:Ways w):∀(fuel:Nat) (L:Cell->Cell) (x3:Option Sl),x3=some (.ow (.lst ((bG bd W w).map pD)))\/x3=fz (.lst ((bG bd W w).map pD))->Lab bd W w L->mu bd.length W L+2<=fuel->
 ∃L',Lab bd W w L'/\(∀p∈bG bd W w,L' p.1=L' p.2)/\eG (dR (dV 7)) Sr fuel (Mq bd W w (L,true) x3)=ae (.nx (Mq bd W w (L',false) (fz (.lst ((bG bd W w).map pD)))))
 |0,_,_,_,_,hf=>by omega
 |1,_,_,_,_,hf=>by omega
 |fuel+2,L,x3,h3,h,hf=>by
  have hp:=IX (b:=true) hg hw h3 h;obtain⟨a1,a2,a3⟩:=K2 hw (bG bd W w) (L,false) (λp hp=>rE hw hp) h;rcases a3 with⟨b1,b2,b3⟩ | ⟨b1,b2⟩
  ·have e:(bG bd W w).foldl dY (L,false)=(L,false):=abG b2 b1;rw[e] at hp;exact⟨L,h,b3,iS (jJ rfl) hp (mZ (jJ rfl))⟩
  ·have e:(bG bd W w).foldl dY (L,false)=(((bG bd W w).foldl dY (L,false)).1,true):=abG rfl b1;obtain⟨L',c1,c2,c3⟩:=yD hg hw (fuel+1) _ _ (.inr rfl) a1 (by have b2:mu bd.length W _<mu bd.length W L:=b2;omega);rw[e] at hp;exact⟨L',c1,c2,iS (jJ rfl) hp c3⟩
def Least(bd:List Str)(W w:Nat)(x m:Cell):Prop:=Cn bd W w x m/\∀z,Cn bd W w x z->rank W m<=rank W z
theorem sj(hw:Ways w){L:Cell->Cell}(h:∀p∈bG bd W w,L p.1=L p.2){x:Cell}(hx:On bd.length W x):∀{j:Nat}{y:Cell},Rb (bE bd W w) x j y->L x=L y
 |0,y,h0=>by rw[show y=x from h0]
 |j+1,y,h0=>by
  rcases h0 with q | ⟨z,q1,q2⟩
  ·exact sj hw h hx q
  ·rw[sj hw h hx q1];have hz:=uQ hw hx q1;obtain⟨y1,y2,y3⟩:=(di hw).mp q2;by_cases eM:rank W z<rank W y
   ·exact h (z,y) ((lx hw).mpr ⟨hz,y1,y2,y3.symm,(d8 hz y1).mpr eM⟩)
   ·have iT:rank W z≠rank W y:=λe=>by
     have:=mM hz y1 e;subst this;rw[Mx hw] at y2;cases y2
    exact(h (y,z) ((lx hw).mpr ⟨y1,hz,by rw[fc];exact y2,y3,(d8 y1 hz).mpr (by omega)⟩)).symm
theorem qK(hg:Wd bd W)(hw:Ways w):∃L:Cell->Cell,(∀x,On bd.length W x->Least bd W w x (L x))/\gf [brd bd,iW w]=ae (nu (ax bd.length W) λx=>cD (L x)):=by
 have hm:bd.length*W<=64:=Zo hg.r8 hg.w8;have l0:Lab bd W w id:=⟨λx hx=>hx,λx hx=>Cn.refl,λx hx=>Xx _⟩
 have Xa:mu bd.length W id<=4032:=by
  unfold mu;have:=Bo (f:=λx=>rank W (id x)) (g:=λ_=>63) (l:=ax bd.length W) λx hx=>by
   have:=J1 (aD.mp hx);show rank W x<=63;omega
  refine X2 this ?_;rw[List.map_const',List.sum_replicate_nat,bo];have:bd.length*W*63<=64*63:=aaA _ hm;omega
 obtain⟨L,h1,h2,h3⟩:=yD hg hw lim id (some (.ow (.lst ((bG bd W w).map pD)))) (.inl rfl) l0 (by rw[cF];omega);refine⟨L,λx hx=>⟨h1.cn x hx,λz hz=>?_⟩,?_⟩
 ·obtain⟨j,q⟩:=hz;rw[sj hw h2 hx q];exact h1.le z (uQ hw hx q)
 ·have FJ:((ax bd.length W).map keyOf).Nodup:=by
   exact(eK _ _).nodup.map (f:=keyOf) λa b h z=>h (gz z)
  have vM:(aC (bB 0 (dD (az 1 cZ (aC (dV 0) aN))) ck (dA aY (aC (dV 0) (aC (dV 0) aN)))) aN) [fz (brd bd),fz (iW w),none,none,none,none,none,none,none,none,none]=ae [.lst ((ax bd.length W).map λx=>pD (x,x))]:=by
   refine aW (bO (ds:=(ax bd.length W).map cD) ?_ (c_ cD (λx=>pD (x,x)) _ λx _=>rfl) (by rw[Xh,bo,cF];omega)) rfl;exact DH ((av (ds:=[brd bd]) rfl rfl).trans (jN hg))
  have R3:∀l:List Cell,lz (l.map λx=>pD (x,x))=some (l.map keyOf,l.map cD):=λl=>by
   induction l with
   |nil=>rfl
   |cons a l ih=>
    show (match eR (cD a),lz (l.map λx=>pD (x,x)) with | some kk,some q=>some (kk::q.1,cD a::q.2) | _,_=>none)=_;rw[ih];rfl
  refine ba (ak (ρ':=[fz (brd bd),fz (iW w),some (.ow (yd (ax bd.length W) cD)),none,none,none,none,none,none,none,none]) ?_ (ak (ρ':=zg bd w (some (.ow (yd (ax bd.length W) cD))) [] none none none) rfl (ak (ρ':=zg bd w (some (.ow (yd (ax bd.length W) cD))) ((bG bd W w).map pD) none none none) (bW (c8 (ds:=(ax bd.length W).map cD) ?_ (JP hg hw))) (ak (ρ':=Mq bd W w (id,true) (some (.ow (.lst ((bG bd W w).map pD))))) rfl (ak (ρ':=Mq bd W w (L,false) (fz (.lst ((bG bd W w).map pD)))) ?_ rfl)))))
  ·refine Gm (ρ:=[fz (brd bd),fz (iW w),none,none,none,none,none,none,none,none,none]) (c:=yd (ax bd.length W) cD) ?_;refine(ad7 (· >>=BS) vM).trans ?_;show (match lz ((ax bd.length W).map λx=>pD (x,x)) with | some q=>if q.1.Nodup/\q.2.length<=lim then ae (C.dct q.1 q.2) else ag | none=>ag)=_;rw[R3];show (if ((ax bd.length W).map keyOf).Nodup/\((ax bd.length W).map cD).length<=lim then ae (C.dct ((ax bd.length W).map keyOf) ((ax bd.length W).map cD)) else ag)=_;rw[adY ⟨FJ,by rw[Xh,bo,cF];omega⟩];rfl
  ·exact DH ((av (ds:=[brd bd]) rfl rfl).trans (jN hg))
  ·exact bW h3
end
theorem Oq:((ax 8 8).map λc=>gY (ic c)).Nodup:=by decide+kernel
theorem uE{α β:Type}{f:α->β}:∀{l:List α},(l.map f).Nodup->∀a∈l,∀b∈l,f a=f b->a=b
 |x::l,h,a,ha,b,hb,e=>by
  rw[Xp,Zb] at h;by_cases h1:a=x
  ·by_cases h2:b=x
   ·rw[h1,h2]
   ·have hb:b∈l:=(Xs.mp hb).resolve_left h2;exact ad3 (XE.mpr ⟨b,hb,by rw[<-h1];exact e.symm⟩) h.1
  ·have ha:a∈l:=(Xs.mp ha).resolve_left h1;by_cases h2:b=x
   ·exact ad3 (XE.mpr ⟨a,ha,by rw[<-h2];exact e⟩) h.1
   ·exact uE h.2 a ha b ((Xs.mp hb).resolve_left h2) e
theorem Iz{R W:Nat}(hR:R<=8)(hW:W<=8){l:List Cell}(hn:l.Nodup)(pY:∀x∈l,On R W x):(l.map λc=>gY (ic c)).Nodup:=by
 have h8:∀x∈l,x∈ax 8 8:=λx hx=>aD.mpr ⟨by have:=(pY x hx).1;omega,by have:=(pY x hx).2;omega⟩;rw[YF,Zt];refine List.Pairwise.imp_of_mem (λ{a b} ha hb h z=>h ?_) hn;exact uE Oq a (h8 a ha) b (h8 b hb) z
theorem Ni{ks:List Cell}{f:Cell->D}{x:Cell}{d:D}:dZ (ks.map keyOf) (ks.map f) (keyOf x)=(cj ks x).map keyOf/\c7 (ks.map keyOf) (ks.map f) (keyOf x) d=(cj ks x).map (eF f x d):=by
 unfold cj dZ c7;by_cases h:x∈ks
 ·rw[mV h,adY h];exact⟨rfl,wZ⟩
 ·rw[gD h,ad0 h];have e1:ks.map f=ks.map (eF f x d):=ZA λy hy=>by
   unfold eF;rw[ad0 (λz:y=x=>h (z▸hy))]
  have e2:(ks++[x]).map (eF f x d)=ks.map (eF f x d)++[d]:=by
   rw[Yv];congr 1;show [eF f x d x]=[d]
   unfold eF;rw[adY rfl]
  exact⟨by rw[Yv];rfl,by rw[e2,<-e1];rfl⟩
theorem qV:∀(l ks:List Cell),cN (ks.map keyOf) (aT ks) (l.map keyOf) (aT l)=((l.foldl cj ks).map keyOf,aT (l.foldl cj ks))
 |[],ks=>rfl
 |x::l,ks=>by
  show cN (dZ (ks.map keyOf) (aT ks) (keyOf x)) (c7 (ks.map keyOf) (aT ks) (keyOf x) (.bl true)) (l.map keyOf) (aT l)=_;have h:=Ni (ks:=ks) (f:=λ_=>D.bl true) (x:=x) (d:= .bl true);have e:eF (λ_=>D.bl true) x (.bl true)=λ_=>D.bl true:=by
   funext y;unfold eF;split<;>rfl
  rw[e] at h;rw[show aT ks=ks.map (λ_=>D.bl true) from rfl,h.1,h.2];exact qV l (cj ks x)
theorem Fj{l ks:List Cell}(h:ks.Nodup):(l.foldl cj ks).Nodup:=(lX l ks).1 h
section
open Classical
variable{bd:List Str}{W w:Nat}
noncomputable def bc(bd:List Str)(W w:Nat)(m:Cell):List Cell:=(ax bd.length W).filter λx=>decide (Cn bd W w m x)
noncomputable def bZ(bd:List Str)(W w:Nat)(l:List Cell):List Cell:=l.filter λx=>decide (Least bd W w x x)
theorem cw(hw:Ways w){m:Cell}(hm:On bd.length W m):IsPatch bd W w m (bc bd W w m):=by
 refine⟨(eK _ _).filter _,λx=>?_⟩;unfold bc;rw[XY,aD,adZ];exact⟨λh=>h.2,λh=>⟨h.on hw hm,h⟩⟩
theorem Least.on(hw:Ways w){x m:Cell}(hx:On bd.length W x)(h:Least bd W w x m):On bd.length W m:=h.1.on hw hx
theorem Least.move(hw:Ways w){x y m:Cell}(hx:On bd.length W x)(h:Least bd W w x m)(hy:Cn bd W w x y):Least bd W w y m:=
 ⟨(hy.symm hw hx).trans h.1,λz hz=>h.2 z (hy.trans hz)⟩
theorem Least.one(hw:Ways w){x m n:Cell}(hx:On bd.length W x)(h:Least bd W w x m)(h2:Least bd W w x n):m=n:=
 mM (h.on hw hx) (h2.on hw hx) (acu (h.2 n h2.1) (h2.2 m h.1))
theorem Least.self(hw:Ways w){x m:Cell}(hx:On bd.length W x)(h:Least bd W w x m):Least bd W w m m:=h.move hw hx h.1
variable(L:Cell->Cell)
theorem ux(hw:Ways w):∃L:Cell->Cell,∀x,On bd.length W x->Least bd W w x (L x):=by
 have h:∀x,∃m,On bd.length W x->Least bd W w x m:=λx=>by
  by_cases hx:On bd.length W x
  ·have hP:=cw hw hx;cases hp:bc bd W w x with
   |nil=>have:=(hP.mem x).mpr Cn.refl;rw[hp] at this;cases this
   |cons m r=>
    rw[hp] at hP;have hm:=(hP.mem m).mp (Xk ..);refine⟨m,λ_=>⟨hm,λz hz=>?_⟩⟩;rcases Xs.mp ((hP.mem z).mpr hz) with rfl | Ws
    ·exact Xx _
    ·exact Y6 ((d8 (hm.on hw hx) (hz.on hw hx)).mp ((YQ.mp hP.rise).1 z Ws))
  ·exact⟨x,λz=>ad3 z hx⟩
 exact⟨λx=>Classical.choose (h x),λx=>Classical.choose_spec (h x)⟩
noncomputable def pO(L:Cell->Cell)(s:List Cell):Cell->D:=λk=>cL (s.filter λx=>decide (L x=k))
noncomputable def Us(L:Cell->Cell)(s:List Cell):C:=yd (bj (s.map L)) (pO L s)
noncomputable def HU(bd:List Str)(W w:Nat)(L:Cell->Cell)(s:List Cell)(x4:Option Sl):bb:=[fz (brd bd),fz (iW w),fz (nu (ax bd.length W) λx=>cD (L x)),some (.ow (Us L s)),x4]
theorem BR:∀l:List Cell,qm (l.map cD)=true
 |[]=>rfl
 |x::l=>by
  show (t8 (cD x)&&qm (l.map cD))=true;rw[BR l];rfl
theorem Il{δ:DE}{ρ:bb}{l:List Cell}(h1:mw ρ=true)(h:δ (sG ρ)=ae (cL l)):N_ δ ρ=ae (cL l):=by
 unfold N_;rw[adY h1,h];show (if t8 (cL l) then ae (cL l) else ag)=_;rw[adY (show t8 (cL l)=true from BR l)]
theorem AK(l:List Cell)(x:Cell):bj (l++[x])=cj (bj l) x:=by
 unfold bj;rw[adU];rfl
theorem Fu{i:Nat}{ρ:bb}{δk:DE}{ks:List Cell}{f:Cell->D}{k:Cell}(h1:dV i ρ=ae (nu ks f))(h2:δk ρ=ae (cD k)):lQ (dV i) δk (dA b7 aN) ρ=ae (if k∈ks then f k else .lst []):=by
 unfold lQ;rw[h1,ay];show (δk ρ>>=λk=>dA b7 aN ρ>>=λv=>getM (nu ks f) k v)=_;rw[h2,ay];show getM (nu ks f) (cD k) (.lst [])=_;by_cases h:k∈ks
 ·rw[BY h,adY h]
 ·rw[yt h,ad0 h]
theorem Jc(hg:Wd bd W){L:Cell->Cell}{s:List Cell}{x:Cell}(hx:On bd.length W x)(hs:s.length<64):Sv (HU bd W w L s (fz (cD x)))=ae (.nx (HU bd W w L (s++[x]) none)):=by
 have hl:(bj (s.map L)).length<lim:=by
  have:=nL (s.map L);rw[Xh] at this;rw[cF];omega
 have i1:∀{o:Option Sl},d2 ft (dV 2) (dV 4) [fz (brd bd),fz (iW w),fz (nu (ax bd.length W) λx=>cD (L x)),o,fz (cD x)]=ae (cD (L x)):=(aB (x:=nu (ax bd.length W) λx=>cD (L x)) (y:=cD x) rfl rfl).trans (nG (aD.mpr hx));have hv:N_ (d2 jw (lQ (dV 3) (d2 ft (dV 2) (dV 4)) (dA b7 aN)) (dA b7 (aC (dV 4) aN))) (HU bd W w L s (fz (cD x)))=ae (cL ((s.filter λy=>decide (L y=L x))++[x])):=by
  refine Il rfl ?_;have g:lQ (dV 3) (d2 ft (dV 2) (dV 4)) (dA b7 aN) (sG (HU bd W w L s (fz (cD x))))=ae (cL (s.filter λy=>decide (L y=L x))):=by
   refine(Fu (i:=3) (ks:=bj (s.map L)) (f:=pO L s) (k:=L x) rfl i1).trans ?_;by_cases h:L x∈bj (s.map L)
   ·rw[adY h];rfl
   ·rw[ad0 h];have:s.filter (λy=>decide (L y=L x))=[]:=abd.mpr λy hy=>by
     rw[adZ];exact λz=>h (gA.mpr (XE.mpr ⟨y,hy,z⟩))
    rw[this];rfl
  exact(aB (y:=cL [x]) g rfl).trans (Lq (by have:=Yw (λy=>decide (L y=L x)) s;show _+1<=4096;omega))
 refine(aQ ((mK (ks:=bj (s.map L)) (f:=pO L s) (x:=L x) rfl hv i1 hl).trans rfl)).trans ?_;have ef:eF (pO L s) (L x) (cL ((s.filter λy=>decide (L y=L x))++[x]))=pO L (s++[x]):=by
  funext k;unfold eF pO;rw[adJ];by_cases e:k=L x
  ·subst e;rw[adY rfl,aa8 (by simp),abm]
  ·rw[ad0 e,aa9 (by simp;exact λz=>e z.symm),abm,X0]
 show ae (Out.nx [fz (brd bd),fz (iW w),fz (nu (ax bd.length W) λx=>cD (L x)),some (.ow (yd (cj (bj (s.map L)) (L x)) (eF (pO L s) (L x) (cL ((s.filter λy=>decide (L y=L x))++[x]))))),none])=_;rw[ef,<-AK];unfold HU Us;rw[Yv];rfl
theorem Ca(hg:Wd bd W){L:Cell->Cell}:∀(l s:List Cell),(∀x∈l,On bd.length W x)->s.length+l.length<=64->forL (putN 4) Sv (l.map cD) (HU bd W w L s none)=ae (.nx (HU bd W w L (s++l) none))
 |[],s,_,_=>by rw[X0];rfl
 |x::l,s,h,hl=>by
  rw[Xo] at hl;have:=Ca hg (L:=L) l (s++[x]) (λy hy=>h y (Xj _ hy)) (by rw[Xq];show _+1+_<=_;omega);rw[Y7] at this;exact(bF rfl (Jc hg (h x (Xk ..)) (by omega))).trans this
noncomputable def j2(bd:List Str)(W w:Nat):D:= .lst ((bZ bd W w (ax bd.length W)).map λm=>cL (bc bd W w m))
theorem sT(hg:Wd bd W)(hs:bd.length*W<64)(hw:Ways w):dh [brd bd,iW w]=ae (j2 bd W w):=by
 have hm:bd.length*W<=64:=Zo hg.r8 hg.w8;obtain⟨L,hL,eL⟩:=qK hg hw;have v6:(ax bd.length W).length<=64:=by rw[bo];omega
 have lp:=Ca (w:=w) (L:=L) hg (ax bd.length W) [] (λx hx=>aD.mp hx) (by simpa using v6);rw[XW] at lp;have OH:(bj ((ax bd.length W).map L)).length<64:=by
  have:=nL ((ax bd.length W).map L);rw[Xh,bo] at this;omega
 have KW:pb (bj ((ax bd.length W).map L))=bZ bd W w (ax bd.length W):=by
  refine iN (se (q_ _)) ((eK _ _).filter _) λk=>?_;rw[nO,gA,XE];unfold bZ;rw[XY,adZ];constructor
  ·rintro⟨x,hx,rfl⟩;have hx:=aD.mp hx;exact⟨aD.mpr ((hL x hx).on hw hx),(hL x hx).self hw hx⟩
  ·rintro⟨hk,h⟩;exact⟨k,hk,(hL k (aD.mp hk)).one hw (aD.mp hk) h⟩
 have LY:∀k∈bZ bd W w (ax bd.length W),pO L (ax bd.length W) k=cL (bc bd W w k):=λk hk=>by
  unfold bZ at hk;rw[XY,adZ] at hk;have VN:=aD.mp hk.1;unfold pO bc;congr 1;refine adW λx hx=>?_;have hx:=aD.mp hx;rw[ad5];constructor
  ·intro e;have:=(hL x hx).1;rw[e] at this;exact this.symm hw hx
  ·intro e;exact(hL x hx).one hw hx (hk.2.move hw VN e)
 refine ba (ak (ρ':=[fz (brd bd),fz (iW w),fz (nu (ax bd.length W) λx=>cD (L x)),none,none]) ((aG (d:=nu (ax bd.length W) λx=>cD (L x)) ((av (ds:=[brd bd,iW w]) rfl rfl).trans eL)).trans rfl) (ak (ρ':=HU bd W w L [] none) rfl (ak (ρ':=HU bd W w L (ax bd.length W) none) (bW (c8 (ds:=(ax bd.length W).map cD) (DH ((av (ds:=[brd bd]) rfl rfl).trans (jN hg))) lp)) ?_)));refine br (bO (ds:=(bZ bd W w (ax bd.length W)).map cD) (ys:=(bZ bd W w (ax bd.length W)).map λm=>cL (bc bd W w m)) (DH ?_) (c_ cD (λm=>cL (bc bd W w m)) _ λm hm=>?_) ?_)
 ·rw[<-KW];exact(bY (xs:=[nu (bj ((ax bd.length W).map L)) (pO L (ax bd.length W))]) rfl).trans (zB (q_ _) OH)
 ·rw[ib,<-LY m hm];have VY:m∈bj ((ax bd.length W).map L):=by rw[<-nO,KW];exact hm
  have:d2 ft (dV 4) (dV 0) (fz (cD m)::frz 3 (HU bd W w L (ax bd.length W) none))=ae (pO L (ax bd.length W) m):=(aB (x:=nu (bj ((ax bd.length W).map L)) (pO L (ax bd.length W))) (y:=cD m) rfl rfl).trans (nG VY);rw[this];rfl
 ·rw[Xh,cF];have:=Yw (λx=>decide (Least bd W w x x)) (ax bd.length W);unfold bZ;omega
theorem pI(hg:Brd bd W)(hs:bd.length*W<64)(hw:Ways w):dh [brd bd,iW w]=ae (j2 bd W w):=sT hg.wd hs hw
end
section
open Classical
variable{bd:List Str}{W w:Nat}
noncomputable def CS(bd:List Str)(W w:Nat)(s:List Cell):List D:=(bZ bd W w s).map λm=>cL (bc bd W w m)
noncomputable def HJ(bd:List Str)(W w:Nat)(s ks:List Cell)(x4 x5:Option Sl):bb:=[fz (brd bd),fz (iW w),some (.ow (.lst (CS bd W w s))),some (.ow (.dct (ks.map keyOf) (aT ks))),x4,x5]
structure Seen (bd:List Str) (W w:Nat) (s ks:List Cell):Prop where
 nd:ks.Nodup
 on:∀y∈ks,On bd.length W y
 mem:∀y,y∈ks↔∃m∈bZ bd W w s,Cn bd W w m y
theorem HH{i:Nat}{δ:DE}{ρ:bb}{ks l:List Cell}(h0:ρ[i]? =some (some (.ow (.dct (ks.map keyOf) (aT ks)))))(hd:δ ρ=ae (AJ l))(hz:ks.length+l.length<=4096)(hh:ks=[]->((bj l).map λc=>gY (ic c)).Nodup):
 Hj i δ ρ=ae (.nx (ρ.set i (some (.ow (.dct (((bj l).foldl cj ks).map keyOf) (aT ((bj l).foldl cj ks))))))):=by
 unfold Hj A6;rw[h0];show (δ ρ>>=λd=>match HG (ks.map keyOf) (aT ks) d with | some c'=>ae (Out.nx (ρ.set i (some (.ow c')))) | none=>ag)=_;rw[hd,ay];have:HG (ks.map keyOf) (aT ks) (AJ l)=some (.dct (((bj l).foldl cj ks).map keyOf) (aT ((bj l).foldl cj ks))):=by
  show (match gK ((bj l).map keyOf) with | some ns=>if (aT ks).length+(aT (bj l)).length<=lim/\((ks.map keyOf).isEmpty=true->(ns.map gY).Nodup) then some (C.dct (cN (ks.map keyOf) (aT ks) ((bj l).map keyOf) (aT (bj l))).1 (cN (ks.map keyOf) (aT ks) ((bj l).map keyOf) (aT (bj l))).2) else none | none=>none)=_;rw[nA];show (if (aT ks).length+(aT (bj l)).length<=lim/\((ks.map keyOf).isEmpty=true->(((bj l).map ic).map gY).Nodup) then some (C.dct (cN (ks.map keyOf) (aT ks) ((bj l).map keyOf) (aT (bj l))).1 (cN (ks.map keyOf) (aT ks) ((bj l).map keyOf) (aT (bj l))).2) else none)=_;have c1:(aT ks).length+(aT (bj l)).length<=lim:=by
   have:=nL l;unfold aT;rw[Xh,Xh,cF];omega
  have c2:(ks.map keyOf).isEmpty=true->(((bj l).map ic).map gY).Nodup:=λz=>by
   rw[Yn];exact hh (by cases ks with | nil=>rfl | cons _ _=>cases z)
  rw[adY ⟨c1,c2⟩,qV]
 rw[this]
theorem zA(hg:Brd bd W)(hs:bd.length*W<64)(hw:Ways w){x:Cell}(hx:On bd.length W x){ρ:bb}(h0:dV 0 ρ=ae (brd bd))(h1:dV 1 ρ=ae (iW w))(h4:dV 4 ρ=ae (cD x)):
 dA u3 (aC (az 3 dW (aC (dV 0) (aC (dV 4) (aC (dV 1) aN)))) aN) ρ=ae (cL (bc bd W w x)):=by
 obtain⟨k,ks,ps,q1,q2,q3⟩:=si hg hw hx;have e1:az 3 dW (aC (dV 0) (aC (dV 4) (aC (dV 1) aN))) ρ=ae (BJ ks ps):=(av (ds:=[brd bd,cD x,iW w]) (aW h0 (aW h4 (aW h1 rfl))) rfl).trans q3;refine(bY (xs:=[BJ ks ps]) (aW e1 rfl)).trans ((zB q1.nd (abM (lO q1.nd q2) hs)).trans ?_);have:pb ks=bc bd W w x:=IsPatch.one ⟨se q1.nd,λx=>nO.trans (q1.last x)⟩ (cw hw hx);rw[this]
theorem jd(s:List Cell)(x:Cell):bZ bd W w (s++[x])=if Least bd W w x x then bZ bd W w s++[x] else bZ bd W w s:=by
 unfold bZ;rw[adJ];by_cases h:Least bd W w x x
 ·rw[adY h,aa8 (by rw[adZ];exact h),abm]
 ·rw[ad0 h,aa9 (by rw[adZ];exact h),abm,X0]
theorem H0(hg:Brd bd W)(hs:bd.length*W<64)(hw:Ways w){L:Cell->Cell}(hL:∀x,On bd.length W x->Least bd W w x (L x)){s r ks:List Cell}{x:Cell}(e:s++x::r=ax bd.length W)(h:Seen bd W w s ks):
 ∃ks',Seen bd W w (s++[x]) ks'/\Rc (HJ bd W w s ks (fz (cD x)) none)=ae (.nx (HJ bd W w (s++[x]) ks' none none)):=by
 have hx:On bd.length W x:=aD.mp (by rw[<-e];simp);have ug:=eK bd.length W;rw[<-e] at ug;have QL:∀y∈s,On bd.length W y:=λy hy=>aD.mp (by rw[<-e];simp[hy]);have R7:∀y∈r,On bd.length W y:=λy hy=>aD.mp (by rw[<-e];simp[hy]);have IA:∀y∈s,rank W y<rank W x:=λy hy=>(d8 (QL y hy) hx).mp ((Zr.mp ug).2.2 y hy x (Xk ..));have LO:∀y∈r,rank W x<rank W y:=λy hy=>(d8 hx (R7 y hy)).mp ((YQ.mp (Zr.mp ug).2.1).1 y hy);have QG:ks.length<=64:=by have:=lO (bd:=bd) (W:=W) h.nd h.on;omega
 have Ax:s.length<64:=by
  have:=ad7 adq e;rw[bo,Xq,Xo] at this;omega
 have ht:Kk (bU (d2 (lj true) (dV 4) (dV 3))) (HJ bd W w s ks (fz (cD x)) none)=ae (!decide (x∈ks)):=
  CM (dF ((aB (x:=cD x) (y:= .dct (ks.map keyOf) (aT ks)) rfl rfl).trans (vR (neg:=true) (by simp[aT]))))
 by_cases hl:Least bd W w x x
 ·have Sd:x∉ks:=λz=>by
   obtain⟨m,hm,hc⟩:=(h.mem x).mp z;unfold bZ at hm;rw[XY,adZ] at hm;have h1:=IA m hm.1;have h2:=hl.2 m (hc.symm hw (QL m hm.1));omega
  rw[ad2 Sd] at ht;have hP:=cw hw hx (bd:=bd) (W:=W);have LM:∀y∈bc bd W w x,On bd.length W y:=λy hy=>((hP.mem y).mp hy).on hw hx;have Om:(bc bd W w x).length<=64:=by have:=lO (bd:=bd) (W:=W) hP.rise.nodup LM;omega
  have Du:(CS bd W w s).length<lim:=by
   unfold CS;rw[Xh,cF];have:=Yw (λx=>decide (Least bd W w x x)) s;unfold bZ;omega
  refine⟨(bj (bc bd W w x)).foldl cj ks,⟨Fj h.nd,λy hy=>?_,λy=>?_⟩,?_⟩
  ·rcases((lX (bj (bc bd W w x)) ks).2.1 y).mp hy with q | q
   ·exact h.on y q
   ·exact LM y (gA.mp q)
  ·rw[(lX (bj (bc bd W w x)) ks).2.1 y,gA,h.mem y,jd,adY hl,hP.mem y];constructor
   ·rintro(⟨m,hm,hc⟩ | hc)
    ·exact⟨m,X4.mpr (.inl hm),hc⟩
    ·exact⟨x,by simp,hc⟩
   ·rintro⟨m,hm,hc⟩;rcases X4.mp hm with hm | hm
    ·exact .inl ⟨m,hm,hc⟩
    ·rw[Yc.mp hm] at hc;exact .inr hc
  ·have ef:CS bd W w (s++[x])=CS bd W w s++[cL (bc bd W w x)]:=by
    unfold CS;rw[jd,adY hl,Yv];rfl
   refine(aQ (ρ':=[fz (brd bd),fz (iW w),some (.ow (.lst (CS bd W w s++[cL (bc bd W w x)]))),some (.ow (.dct (((bj (bc bd W w x)).foldl cj ks).map keyOf) (aT ((bj (bc bd W w x)).foldl cj ks)))),fz (cD x),fz (cL (bc bd W w x))]) (eQ ht (ak (ρ':=HJ bd W w s ks (fz (cD x)) (fz (cL (bc bd W w x)))) ((aG (zA hg hs hw hx rfl rfl rfl)).trans rfl) (ak (ρ':=[fz (brd bd),fz (iW w),some (.ow (.lst (CS bd W w s++[cL (bc bd W w x)]))),some (.ow (.dct (ks.map keyOf) (aT ks))),fz (cD x),fz (cL (bc bd W w x))]) ?_ ?_)))).trans ?_
   ·show (if (CS bd W w s).length<lim then ae (Out.nx [fz (brd bd),fz (iW w),some (.ow (.lst (CS bd W w s++[cL (bc bd W w x)]))),some (.ow (.dct (ks.map keyOf) (aT ks))),fz (cD x),fz (cL (bc bd W w x))]) else ag)=_;rw[adY Du]
   ·exact(HH (ks:=ks) (l:=bc bd W w x) rfl ((av (ds:=[cL (bc bd W w x)]) rfl rfl).trans (uu (by omega))) (by omega) (λ_=>Iz hg.r8 hg.w8 (q_ _) λy hy=>LM y (gA.mp hy))).trans rfl
   ·unfold HJ;rw[ef];rfl
 ·have hm:=hL x hx;have iT:L x≠x:=λz=>hl (by rw[z] at hm;exact hm);have eM:rank W (L x)<rank W x:=by
   have h1:=hm.2 x Cn.refl;have h2:rank W (L x)≠rank W x:=λz=>iT (mM (hm.on hw hx) hx z);omega
  have VZ:L x∈s:=by
   have:L x∈s++x::r:=by rw[e];exact aD.mpr (hm.on hw hx)
   rcases X4.mp this with q | q
   ·exact q
   ·rcases Xs.mp q with q | q
    ·exact ad3 q iT
    ·have:=LO _ q;omega
  have Sd:x∈ks:=(h.mem x).mpr ⟨L x,by unfold bZ;rw[XY,adZ];exact⟨VZ,hm.self hw hx⟩,hm.1.symm hw hx⟩;rw[ad1 Sd] at ht;refine⟨ks,⟨h.nd,h.on,λy=>by rw[jd,ad0 hl];exact h.mem y⟩,?_⟩;have ef:CS bd W w (s++[x])=CS bd W w s:=by
   unfold CS;rw[jd,ad0 hl]
  refine(aQ (c9 ht rfl)).trans ?_;unfold HJ;rw[ef];rfl
theorem BF(hg:Brd bd W)(hs:bd.length*W<64)(hw:Ways w){L:Cell->Cell}(hL:∀x,On bd.length W x->Least bd W w x (L x)):∀(r s ks:List Cell),s++r=ax bd.length W->Seen bd W w s ks->
 ∃ks',forL (putN 4) Rc (r.map cD) (HJ bd W w s ks none none)=ae (.nx (HJ bd W w (ax bd.length W) ks' none none))
 |[],s,ks,e,h=>by
  rw[X0] at e;exact⟨ks,by rw[e];rfl⟩
 |x::r,s,ks,e,h=>by
  obtain⟨Sn,h1,e1⟩:=H0 hg hs hw hL e h;obtain⟨So,e2⟩:=BF hg hs hw hL r (s++[x]) Sn (by rw[Y7];exact e) h1;exact⟨So,(bF rfl e1).trans e2⟩
theorem pE(hg:Brd bd W)(hs:bd.length*W<64)(hw:Ways w):d_ [brd bd,iW w]=ae (j2 bd W w):=by
 obtain⟨L,hL⟩:=ux (bd:=bd) (W:=W) hw;obtain⟨ks,e⟩:=BF hg hs hw hL (ax bd.length W) [] [] rfl ⟨aan,(λy hy=>(by cases hy)),(λy=>⟨λz=>(by cases z),λ⟨m,hm,_⟩=>(by cases hm)⟩)⟩;refine ba (ak (ρ':=[fz (brd bd),fz (iW w),some (.ow (.lst [])),none,none,none]) rfl (ak (ρ':=HJ bd W w [] [] none none) rfl (ak (ρ':=HJ bd W w (ax bd.length W) ks none none) (bW (c8 (ds:=(ax bd.length W).map cD) (DH ((av (ds:=[brd bd]) rfl rfl).trans (kI hg))) e)) rfl)))
end
structure NumOk (R W:Nat) (Ps:List (List Cell)) (ks:List Cell) (f:Cell->Nat):Prop where
 nd:ks.Nodup
 on:∀y∈ks,On R W y
 num:∀y∈ks,∃P,Ps[f y]? =some P/\y∈P
def Uy:DS:=cx [4] (iQ 1 (dV 4) (dV 2))
def K6(Ps:List (List Cell))(ks:List Cell)(f:Cell->Nat)(x2 x3 x4:Option Sl):bb:=[fz (.lst (Ps.map cL)),some (.ow (yd ks λy=> .int (f y:Int))),x2,x3,x4]
theorem tQ{ks:List Cell}{x:Cell}:x∈cj ks x:=eT.mpr (.inr rfl)
theorem K7{R W:Nat}(hm:R*W<=64){Ps:List (List Cell)}{i:Nat}{P:List Cell}(hP:Ps[i]? =some P){x3:Option Sl}(pY:∀y∈P,On R W y):∀(l ks:List Cell) (f:Cell->Nat),(∀y∈l,y∈P)->NumOk R W Ps ks f->
 ∃ks' f',NumOk R W Ps ks' f'/\(∀y∈ks,y∈ks')/\(∀y∈l,y∈ks')/\forL (putN 4) Uy (l.map cD) (K6 Ps ks f (fz (.int (i:Int))) x3 none)=ae (.nx (K6 Ps ks' f' (fz (.int (i:Int))) x3 none))
 |[],ks,f,_,h=>⟨ks,f,h,λy hy=>hy,(λy hy=>(by cases hy)),rfl⟩
 |x::l,ks,f,hl,h=>by
  have hx:=hl x (Xk ..);have QG:ks.length<=64:=by
   have h1:=iF h.nd λy hy=>aD.mpr (h.on y hy);rw[bo] at h1;omega
  have h1:NumOk R W Ps (cj ks x) (λy=>if y=x then i else f y):=by
   refine⟨(lX [x] ks).1 h.nd,λy hy=>?_,λy hy=>?_⟩
   ·rcases eT.mp hy with q | q
    ·exact h.on y q
    ·rw[q];exact pY x hx
   ·by_cases e:y=x
    ·refine⟨P,?_,by rw[e];exact hx⟩;show Ps[if y=x then i else f y]? =_;rw[adY e];exact hP
    ·rcases eT.mp hy with q | q
     ·obtain⟨Q,q1,q2⟩:=h.num y q;refine⟨Q,?_,q2⟩;show Ps[if y=x then i else f y]? =_;rw[ad0 e];exact q1
     ·exact ad3 q e
  obtain⟨ks',f',a1,a2,a3,a4⟩:=K7 hm hP pY l (cj ks x) _ (λy hy=>hl y (Xj _ hy)) h1;refine⟨ks',f',a1,λy hy=>a2 y (eT.mpr (.inl hy)),λy hy=>?_,?_⟩
  ·rcases Xs.mp hy with rfl | hy
   ·exact a2 _ tQ
   ·exact a3 y hy
  ·refine(bF (ρ1:=K6 Ps ks f (fz (.int (i:Int))) x3 (fz (cD x))) rfl ?_).trans a4;refine(aQ ((mK (ks:=ks) (f:=λy=> .int (f y:Int)) (x:=x) (d:= .int (i:Int)) rfl rfl rfl (by rw[cF];omega)).trans rfl)).trans ?_;have ef:eF (λy=>D.int (f y:Int)) x (.int (i:Int))=λy=>D.int ((if y=x then i else f y:Nat):Int):=by
    funext y;unfold eF;by_cases e:y=x
    ·rw[adY e,adY e]
    ·rw[ad0 e,ad0 e]
   show ae (Out.nx [fz (.lst (Ps.map cL)),some (.ow (yd (cj ks x) (eF (λy=>D.int (f y:Int)) x (.int (i:Int))))),fz (.int (i:Int)),x3,none])=_;rw[ef];rfl
def KC(q:Nat×List Cell):D:= .tup [.int (q.1:Int),cL q.2]
theorem Gn{R W:Nat}(hm:R*W<=64){Ps:List (List Cell)}(pY:∀P∈Ps,∀y∈P,On R W y):∀(qs:List (Nat×List Cell)) (ks:List Cell) (f:Cell->Nat),(∀q∈qs,Ps[q.1]? =some q.2)->NumOk R W Ps ks f->
 ∃ks' f',NumOk R W Ps ks' f'/\(∀y∈ks,y∈ks')/\(∀q∈qs,∀y∈q.2,y∈ks')/\forL (jy [2,3]) (cx [2,3,4] (cV (putN 4) (dD (dV 3)) Uy)) (qs.map KC) (K6 Ps ks f none none none)=ae (.nx (K6 Ps ks' f' none none none))
 |[],ks,f,_,h=>⟨ks,f,h,λy hy=>hy,(λq hq=>(by cases hq)),rfl⟩
 |q::qs,ks,f,hq,h=>by
  have hP:=hq q (Xk ..);obtain⟨Sn,f1,a1,a2,a3,a4⟩:=K7 hm hP (x3:=fz (cL q.2)) (pY q.2 (Ye hP)) q.2 ks f (λy hy=>hy) h;obtain⟨So,f2,b1,b2,b3,b4⟩:=Gn hm pY qs Sn f1 (λq' LX=>hq q' (Xj _ LX)) a1;refine⟨So,f2,b1,λy hy=>b2 y (a2 y hy),λq' LX y hy=>?_,?_⟩
  ·rcases Xs.mp LX with rfl | LX
   ·exact b2 y (a3 y hy)
   ·exact b3 q' LX y hy
  ·exact(bF (ρ1:=K6 Ps ks f (fz (.int (q.1:Int))) (fz (cL q.2)) none) rfl ((aQ (c8 (ds:=q.2.map cD) (QQ rfl) a4)).trans rfl)).trans b4
theorem uB(Ps:List (List Cell)):(Ps.map cL).mapIdx (λi d=>D.tup [.int (i:Int),d])=(Ps.zipIdx.map λq:List Cell×Nat=>(q.2,q.1)).map KC:=by
 apply List.ext_getElem?;intro i;simp only[adj,Xv,List.getElem?_zipIdx,Option.map_map,abo];cases Ps[i]? <;>simp[KC]
theorem rb{R W:Nat}(hm:R*W<=64){Ps:List (List Cell)}(pY:∀P∈Ps,∀y∈P,On R W y):∃ks f,NumOk R W Ps ks f/\(∀P∈Ps,∀y∈P,y∈ks)/\gh [.lst (Ps.map cL)]=ae (nu ks λy=> .int (f y:Int)):=by
 have hq:∀q∈Ps.zipIdx.map (λq:List Cell×Nat=>(q.2,q.1)),Ps[q.1]? =some q.2:=λq hq=>by
  obtain⟨⟨P,i⟩,h1,rfl⟩:=XE.mp hq;exact ZM.mp h1
 obtain⟨ks,f,a1,a2,a3,a4⟩:=Gn hm pY (Ps.zipIdx.map λq:List Cell×Nat=>(q.2,q.1)) [] (λ_=>0) hq ⟨aan,(λy hy=>(by cases hy)),(λy hy=>(by cases hy))⟩;refine⟨ks,f,a1,λP hP y hy=>?_,?_⟩
 ·obtain⟨i,hi,rfl⟩:=Zc hP;refine a3 (i,Ps[i]) (XE.mpr ⟨(Ps[i],i),ZM.mpr (by rw[Xi hi]),rfl⟩) y hy
 ·refine ba (ak (ρ':=K6 Ps [] (λ_=>0) none none none) rfl (ak (ρ':=K6 Ps ks f none none none) (bW (c8 (ds:=(Ps.zipIdx.map λq:List Cell×Nat=>(q.2,q.1)).map KC) ?_ a4)) rfl));show ae ((Ps.map cL).mapIdx λi d=>D.tup [.int (i:Int),d])=_;rw[uB]
section
open Classical
variable{bd:List Str}{W w:Nat}
noncomputable def ao(bd:List Str)(W w:Nat):List (List Cell):=(bZ bd W w (ax bd.length W)).map (bc bd W w)
theorem rF:j2 bd W w= .lst ((ao bd W w).map cL):=by
 unfold j2 ao;rw[Yn];rfl
theorem e8{m:Cell}(h:m∈bZ bd W w (ax bd.length W)):On bd.length W m:=by
 unfold bZ at h;exact aD.mp (XY.mp h).1
theorem dj(hw:Ways w):∀P∈ao bd W w,∀y∈P,On bd.length W y:=λP hP y hy=>by
 unfold ao at hP;obtain⟨m,hm,rfl⟩:=XE.mp hP;exact(((cw hw (e8 hm)).mem y).mp hy).on hw (e8 hm)
theorem lA(hg:Brd bd W)(hw:Ways w){x:Cell}(hx:On bd.length W x):∃P∈ao bd W w,x∈P:=by
 obtain⟨L,hL⟩:=ux (bd:=bd) (W:=W) hw;have hm:=hL x hx;have NS:=hm.on hw hx;refine⟨bc bd W w (L x),XE.mpr ⟨L x,?_,rfl⟩,((cw hw NS).mem x).mpr (hm.1.symm hw hx)⟩;unfold bZ;rw[XY,adZ];exact⟨aD.mpr NS,hm.self hw hx⟩
theorem eE:(ao bd W w).length<=bd.length*W:=by
 unfold ao bZ;rw[Xh,<-bo bd.length W];exact Yw ..
end
end K1
namespace K1
open PySem L2 L3 HT
def zV(l:List Nat):Str:=⟨l.toArray⟩
theorem jv(l:List Nat):(zV l).cps.toList=l:=by simp[zV]
theorem IZ(l:List Nat):(zV l).length=l.length:=by simp[zV,Str.length]
theorem z3(x y:Str):(x++y).cps.toList=x.cps.toList++y.cps.toList:=by
 show (x.cps++y.cps).toList=_;simp
theorem N7(ds:List D)(d:D):cutD (ds++[d]) none (some (-1))=ds:=by
 unfold cutD;have e:sIx (ds++[d]).length (ds++[d]).length (some (-1))=ds.length:=by
  show (if (-1:Int)<0 then((-1:Int)+((ds++[d]).length:Int)).toNat else min (-1:Int).toNat (ds++[d]).length)=_;rw[adY (by decide),Xq];simp;omega
 rw[e,sIx_none];simp
theorem IT(ds:List D)(d:D):cE (.lst (ds++[d])) (.int (-1))=ae d:=by
 show (match L2.atI (ds++[d]) (-1) with | some d=>ae d | none=>ag)=_;have e:L2.atI (ds++[d]) (-1)=some d:=by
  unfold L2.atI AG;rw[ad0 (by decide),adY (by simp;omega)];show (ds++[d])[((-1:Int)+((ds++[d]).length:Int)).toNat]? =_;have:((-1:Int)+((ds++[d]).length:Int)).toNat=ds.length:=by simp;omega
  rw[this];simp
 rw[e]
end K1
namespace K1
open PySem PySem.Spec L2 L3
open PyProof.Rows hiding St
section
open Classical
variable{bd:List Str}{W w:Nat}
theorem Jh:(bZ bd W w (ax bd.length W)).Nodup:=by
 unfold bZ;exact(RiseC.nodup (eK _ _)).filter _
theorem qR{l:List Cell}{m:Cell}:m∈bZ bd W w l↔m∈l/\Least bd W w m m:=by
 unfold bZ;rw[XY,adZ]
theorem yE(hw:Ways w){m x:Cell}(hm:m∈bZ bd W w (ax bd.length W))(hx:x∈bc bd W w m):Least bd W w x m:=
 (qR.mp hm).2.move hw (e8 hm) (((cw hw (e8 hm)).mem x).mp hx)
theorem uK{i:Nat}{P:List Cell}(h:(ao bd W w)[i]? =some P):∃m,(bZ bd W w (ax bd.length W))[i]? =some m/\P=bc bd W w m:=by
 unfold ao at h;rw[Xv] at h;cases q:(bZ bd W w (ax bd.length W))[i]? with
 |none=>rw[q] at h;cases h
 |some m=>rw[q] at h;cases h;exact⟨m,rfl,rfl⟩
theorem Gh{i j:Nat}{m:Cell}(h:(bZ bd W w (ax bd.length W))[i]? =some m)(h2:(bZ bd W w (ax bd.length W))[j]? =some m):i=j:=
 (List.getElem?_inj (Xy.mp h).1 Jh).mp (h.trans h2.symm)
theorem fI{α:Type}{l:List α}{i:Nat}{x:α}(h:l[i]? =some x):x∈l:=Ye h
theorem pZ(hw:Ways w){i j:Nat}{P Q:List Cell}{x:Cell}(hi:(ao bd W w)[i]? =some P)(hj:(ao bd W w)[j]? =some Q)(hx:x∈P)(hy:x∈Q):i=j:=by
 obtain⟨m,e1,rfl⟩:=uK hi;obtain⟨n,e2,rfl⟩:=uK hj;have hm:=fI e1;have hn:=fI e2;have pY:On bd.length W x:=(((cw hw (e8 hm)).mem x).mp hx).on hw (e8 hm);have:=(yE hw hm hx).one hw pY (yE hw hn hy);subst this;exact Gh e1 e2
theorem A9(hw:Ways w){m:Cell}(hm:m∈bZ bd W w (ax bd.length W)):∃r,bc bd W w m=m::r:=by
 have ho:=e8 hm;have hP:=cw hw ho;cases hp:bc bd W w m with
 |nil=>have:=(hP.mem m).mpr Cn.refl;rw[hp] at this;cases this
 |cons a r=>
  refine⟨r,?_⟩;rw[hp] at hP;by_cases e:a=m
  ·rw[e]
  ·have qw:m∈a::r:=(hP.mem m).mpr Cn.refl;have qw:m∈r:=by
    cases qw with
    |head=>exact ad3 rfl e
    |tail _ q=>exact q
   have hc:=(hP.mem a).mp (Xk ..);have h1:=(d8 (hc.on hw ho) ho).mp ((YQ.mp hP.rise).1 m qw);have:=(qR.mp hm).2.2 a hc;omega
theorem uF(hw:Ways w)(i j:Nat):eS w (i,j) (i,j+1)=true:=by
 rcases hw with rfl | rfl
 ·simp[eS,fw]
 ·simp[eS,fw]
theorem yU(hw:Ways w)(i j:Nat):eS w (i,j) (i+1,j)=true:=by
 rcases hw with rfl | rfl
 ·simp[eS,fw]
 ·simp[eS,fw]
end
end K1
namespace K1
open PySem L2 L3 HT
theorem CN:∀l:List Nat,pS (l.map sg)=some (l.map λc=>(⟨#[c]⟩:Str))
 |[]=>rfl
 |c::r=>by
  show (pS (r.map sg)).map _=_;rw[CN r];rfl
theorem BP:∀l:List Nat,eU (l.map λc=>(⟨#[c]⟩:Str))=zV l
 |[]=>rfl
 |c::r=>by
  refine Kf ?_;show ((⟨#[c]⟩:Str)++eU (r.map λc=>(⟨#[c]⟩:Str))).cps.toList=_;rw[z3,BP r,jv,jv];rfl
theorem Hw:∀l:List Nat,((l.map λc=>(⟨#[c]⟩:Str)).map (·.length)).sum=l.length
 |[]=>rfl
 |c::r=>by
  show 1+((r.map λc=>(⟨#[c]⟩:Str)).map (·.length)).sum=_;rw[Hw r,Xo];omega
theorem B7{l:List Nat}(h:l.length<=4096):joinM (.str "") [.lst (l.map sg)]=ae (.str (zV l)):=by
 show (match pS (l.map sg) with | some (xs:List Str)=>if ("":Str).length=0/\(xs.map λx:Str=>x.length).sum<=lim then ae (D.str (eU xs)) else ag | none=>ag)=_;rw[CN];show (if ("":Str).length=0/\((l.map λc=>(⟨#[c]⟩:Str)).map λx:Str=>x.length).sum<=lim then ae (D.str (eU (l.map λc=>(⟨#[c]⟩:Str)))) else ag)=_;rw[adY ⟨rfl,by have:=Hw l;rw[cF];exact X2 (Nat.le_of_eq this) h⟩,BP]
theorem B2(c:Nat):II ⟨#[c]⟩=decide (c∈[97,98,99,100,101,102]):=StrLaws.found_one "abcdef" c
abbrev Qn:List Nat:=[97,98,99,100,101,102]
theorem J4{W:Nat}{r:Str}(h:Row W r){c:Nat}(hc:c∈r.cps.toList):c∈[97,98,99,100,101,102]:=by
 have:=h.let' c hc;rw[B2] at this;exact ad4 this
def HZ(bd:List Str):List Nat:=(bd.map (·.cps.toList)).flatten
theorem yJ{bd:List Str}{c:Nat}:c∈HZ bd↔∃r∈bd,c∈r.cps.toList:=by
 unfold HZ;rw[List.mem_flatten];constructor
 ·rintro⟨l,hl,h⟩;obtain⟨r,hr,rfl⟩:=XE.mp hl;exact⟨r,hr,h⟩
 ·rintro⟨r,hr,h⟩;exact⟨_,XE.mpr ⟨r,hr,rfl⟩,h⟩
theorem EK{bd:List Str}{W:Nat}(hg:Brd bd W){c:Nat}(h:c∈HZ bd):c∈Qn:=by
 obtain⟨r,hr,h⟩:=yJ.mp h;exact J4 (hg.rows r hr) h
theorem Je{bd:List Str}{W:Nat}(hg:Brd bd W){c:Cell}(hc:On bd.length W c):lt bd c∈HZ bd:=by
 have h1:c.1<bd.length:=hc.1;have hr:(bd.getD c.1 ⟨#[]⟩).cps.toList.length=W:=(hg.rows _ (getD_mem h1)).len;have h2:c.2<(bd.getD c.1 ⟨#[]⟩).cps.toList.length:=by rw[hr];exact hc.2
 refine yJ.mpr ⟨_,getD_mem h1,?_⟩;show ch (bd.getD c.1 ⟨#[]⟩) c.2∈_;generalize bd.getD c.1 ⟨#[]⟩=r at h2;unfold ch;rw[XG,Xi h2];exact Z3 h2
theorem Ia{bd:List Str}{i j:Nat}(hi:i<bd.length)(hj:j<bd[i].cps.toList.length):at2 bd i j=bd[i].cps.toList[j]:=by
 unfold at2 ch;rw[XG (l:=bd),Xi hi,abU,XG,Xi hj,abU]
theorem Fv{α:Type}{l:List α}{i:Nat}{x:α}(h:l[i]? =some x)(hi:i<l.length):l[i]=x:=by
 rw[Xi hi] at h;exact XT h
def Ce(R W:Nat)(g:Nat->Nat->Nat):List Str:=(XQ R).map λi=>zV ((XQ W).map (g i))
theorem p5(R W:Nat)(g:Nat->Nat->Nat):(Ce R W g).length=R:=by simp[Ce]
theorem Ji{R W:Nat}{g:Nat->Nat->Nat}:∀r∈Ce R W g,r.length=W:=λr hr=>by
 obtain⟨i,_,rfl⟩:=XE.mp hr;rw[IZ,Xh,aaZ]
theorem Mt{R W:Nat}{g:Nat->Nat->Nat}{i j:Nat}(hi:i<R)(hj:j<W):at2 (Ce R W g) i j=g i j:=by
 have h1:i<(Ce R W g).length:=by rw[p5];exact hi
 have e0:(Ce R W g)[i]? =some (zV ((XQ W).map (g i))):=by
  unfold Ce;rw[Xv,aaH hi];rfl
 have e1:(Ce R W g)[i].cps.toList=(XQ W).map (g i):=by rw[Fv e0 h1,jv]
 have h2:j<(Ce R W g)[i].cps.toList.length:=by rw[e1,Xh,aaZ];exact hj
 rw[Ia h1 h2];have:(Ce R W g)[i].cps.toList[j]? =some (g i j):=by rw[e1,Xv,aaH hj];rfl
 exact Fv this h2
theorem Gi{R W:Nat}{g:Nat->Nat->Nat}(r1:1<=R)(r5:R<=5)(w1:1<=W)(w5:W<=5)(h:∀i j,i<R->j<W->g i j∈Qn):Good (Ce R W g) W:=by
 refine⟨by rw[p5];exact r1,by rw[p5];exact r5,w1,w5,λr hr=>⟨Ji r hr,λc hc=>?_⟩⟩;obtain⟨i,hi,rfl⟩:=XE.mp hr;rw[jv] at hc;obtain⟨j,hj,rfl⟩:=XE.mp hc;exact(B2 _).trans (ad1 (h i j (Y3.mp hi) (Y3.mp hj)))
theorem BH{bd:List Str}{W i j:Nat}(hg:Brd bd W)(hi:i<bd.length)(hj:j<W):at2 bd i j∈Qn:=EK hg (Je (c:=(i,j)) hg ⟨hi,hj⟩)
def rO(bd:List Str)(W:Nat)(some:List Cell)(c:Nat):List Str:=Ce bd.length W λi j=>if (i,j)∈some then c else at2 bd i j
theorem pT{bd:List Str}{W:Nat}(hg:Brd bd W){so:D}{l ks:List Cell}{ds:List D}(hk:i7 [so]=ae (.dct (ks.map keyOf) ds))(hl:ks.length=ds.length)(hm:∀x,x∈ks↔x∈l)(c:Nat):cS [brd bd,so,sg c]=ae (brd (rO bd W l c)):=by
 have h8:=hg.r8;have w8:=hg.w8;have row:∀{i:Nat},i<bd.length->∀{x4 x5:Option Sl},dM ED joinM (dC (.str "")) (aC (bB 0 (dD (dV 6)) ck (HM (bU (d2 (lj false) (dV 0) (dV 4))) (dV 3) (az 2 bh (aC (dV 1) (aC (dV 0) aN))))) aN) [fz (brd bd),fz so,fz (sg c),fz (.dct (ks.map keyOf) ds),x4,x5,fz (.lst ((b_ W i).map cD))]=ae (.str (zV ((XQ W).map λj=>if (i,j)∈l then c else at2 bd i j))):=by
  intro i hi x4 x5;have cm:bB 0 (dD (dV 6)) ck (HM (bU (d2 (lj false) (dV 0) (dV 4))) (dV 3) (az 2 bh (aC (dV 1) (aC (dV 0) aN)))) [fz (brd bd),fz so,fz (sg c),fz (.dct (ks.map keyOf) ds),x4,x5,fz (.lst ((b_ W i).map cD))]=ae (.lst (((XQ W).map λj=>if (i,j)∈l then c else at2 bd i j).map sg)):=by
   refine bO (ds:=(b_ W i).map cD) rfl ?_ (by simp[cF];omega);unfold b_;rw[Yn,Yn];refine c_ (cD∘λk=>(i,k)) _ _ λj hj=>?_;have hj:=Y3.mp hj;have hc:On bd.length W (i,j):=⟨hi,hj⟩
   rw[ib];have e1:bU (d2 (lj false) (dV 0) (dV 4)) (fz (cD (i,j))::[fz (brd bd),fz so,fz (sg c),fz (.dct (ks.map keyOf) ds),x4,x5,fz (.lst ((b_ W i).map cD))])=ae (decide ((i,j)∈ks)):=dF ((aB (x:=cD (i,j)) (y:= .dct (ks.map keyOf) ds) rfl rfl).trans (vR hl));have e2:HM (bU (d2 (lj false) (dV 0) (dV 4))) (dV 3) (az 2 bh (aC (dV 1) (aC (dV 0) aN))) (fz (cD (i,j))::[fz (brd bd),fz so,fz (sg c),fz (.dct (ks.map keyOf) ds),x4,x5,fz (.lst ((b_ W i).map cD))])=ae (sg (if (i,j)∈l then c else at2 bd i j)):=by
    rw[Kt e1];by_cases h:(i,j)∈l
    ·rw[adY h,adY (ad1 ((hm _).mpr h))];rfl
    ·rw[ad0 h,ad0 (λz=>h ((hm _).mp (ad4 z)))];exact(av (ds:=[brd bd,cD (i,j)]) rfl rfl).trans (fN hg hc)
   exact(ad7 (· >>=λy=>ae (some y)) e2).trans rfl
  show (if ED (.str "") then((aC _ aN) [fz (brd bd),fz so,fz (sg c),fz (.dct (ks.map keyOf) ds),x4,x5,fz (.lst ((b_ W i).map cD))]>>=λds=>joinM (.str "") ds) else ag)=_;rw[adY (show ED (.str "")=true from rfl),aW cm (xs:=[]) rfl,ay];exact B7 (by simp;omega)
 have lp:=eh (put:=putN 5) (body:=cx [5,6] (aI (bg 6 (az 2 bK (aC (dV 0) (aC (dV 5) aN)))) (jC 4 (dM ED joinM (dC (.str "")) (aC (bB 0 (dD (dV 6)) ck (HM (bU (d2 (lj false) (dV 0) (dV 4))) (dV 3) (az 2 bh (aC (dV 1) (aC (dV 0) aN))))) aN))))) (λ(k:Nat)=>D.int (k:Int)) (λacc=>[fz (brd bd),fz so,fz (sg c),fz (.dct (ks.map keyOf) ds),some (.ow (.lst acc)),none,none]) (λi=>[.str (zV ((XQ W).map λj=>if (i,j)∈l then c else at2 bd i j))]) (B:=100) (XQ bd.length) [] (by
  have:∀l':List Nat,(l'.flatMap λi=>[D.str (zV ((XQ W).map λj=>if (i,j)∈l then c else at2 bd i j))]).length=l'.length:=by
   intro l';induction l' with
   |nil=>rfl
   |cons a l' ih=>rw[YZ,Xq,ih,Xo];simp;omega
  rw[XW,this,aaZ];omega) λi hi acc ha=>by
  have hi:=Y3.mp hi;refine⟨[fz (brd bd),fz so,fz (sg c),fz (.dct (ks.map keyOf) ds),some (.ow (.lst acc)),fz (.int (i:Int)),none],rfl,?_⟩;refine(aQ (ρ':=[fz (brd bd),fz so,fz (sg c),fz (.dct (ks.map keyOf) ds),some (.ow (.lst (acc++[.str (zV ((XQ W).map λj=>if (i,j)∈l then c else at2 bd i j))]))),fz (.int (i:Int)),fz (.lst ((b_ W i).map cD))]) (ak (ρ':=[fz (brd bd),fz so,fz (sg c),fz (.dct (ks.map keyOf) ds),some (.ow (.lst acc)),fz (.int (i:Int)),fz (.lst ((b_ W i).map cD))]) ((aG ((av (ds:=[brd bd, .int (i:Int)]) rfl rfl).trans (iu hg i))).trans rfl) ?_)).trans rfl;show (dM ED joinM _ _ _>>=λd=>if acc.length<lim then ae (Out.nx _) else ag)=_;rw[row hi,ay,adY (by rw[cF];rw[Xq] at ha;simp at ha;omega)];rfl
 refine ba (ak (ρ':=[fz (brd bd),fz so,fz (sg c),fz (.dct (ks.map keyOf) ds),none,none,none]) ((aG ((av (ds:=[so]) rfl rfl).trans hk)).trans rfl) (ak (ρ':=[fz (brd bd),fz so,fz (sg c),fz (.dct (ks.map keyOf) ds),some (.ow (.lst [])),none,none]) rfl (ak (bW (c8 (zp (n:=bd.length) (DN (i:=0) rfl) (by omega)) lp)) (br ?_))));refine(bY (xs:=[.lst ((XQ bd.length).flatMap λi=>[.str (zV ((XQ W).map λj=>if (i,j)∈l then c else at2 bd i j))])]) rfl).trans ?_;show ae (D.tup _)=ae (D.tup ((rO bd W l c).map D.str));unfold rO Ce;rw[Yn];have:∀l':List Nat,(l'.flatMap λi=>[D.str (zV ((XQ W).map λj=>if (i,j)∈l then c else at2 bd i j))])=l'.map (D.str∘λi=>zV ((XQ W).map λj=>if (i,j)∈l then c else at2 bd i j)):=by
  intro l';induction l' with
  |nil=>rfl
  |cons a l' ih=>rw[YZ,ih];rfl
 rw[this]
theorem ot{bd:List Str}{W:Nat}(hg:Brd bd W){l:List Cell}(hl:l.length<4000)(c:Nat):cS [brd bd,cL l,sg c]=ae (brd (rO bd W l c)):=
 pT hg (uu hl) (by simp[aT]) (λx=>gA) c
theorem JY{bd:List Str}{W:Nat}{l:List Cell}{c i j:Nat}(hi:i<bd.length)(hj:j<W):at2 (rO bd W l c) i j=if (i,j)∈l then c else at2 bd i j:=Mt hi hj
theorem G6(bd:List Str)(W:Nat)(l:List Cell)(c:Nat):(rO bd W l c).length=bd.length:=p5 ..
theorem Eh{bd:List Str}{W:Nat}(hG:Good bd W){l:List Cell}{c:Nat}(hc:c∈Qn):Good (rO bd W l c) W:=Gi hG.r1 hG.r5 hG.w1 hG.w5 λi j hi hj=>by
 split
 ·exact hc
 ·exact BH hG.brd hi hj
end K1
namespace K1
open PySem L2 L3
section
open Classical
variable{bd:List Str}{W w:Nat}
theorem p4{P:List Cell}{c:Nat}{x:Cell}(hx:On bd.length W x):lt (rO bd W P c) x=if x∈P then c else lt bd x:=by
 show at2 (rO bd W P c) x.1 x.2=_;rw[JY hx.1 hx.2]
theorem iI(hw:Ways w){P:List Cell}(hP:P∈ao bd W w){x:Cell}(hx:x∈P):bc bd W w x=P:=by
 obtain⟨m,hm,rfl⟩:=XE.mp (show P∈(bZ bd W w (ax bd.length W)).map (bc bd W w) from hP);have NS:=e8 hm;have h1:=cw hw NS;have hc:=(h1.mem x).mp hx;have h2:=cw hw (hc.on hw NS);exact iN h2.rise h1.rise λy=>by
  rw[h2.mem,h1.mem];exact⟨λq=>hc.trans q,λq=>(hc.symm hw NS).trans q⟩
theorem iH(hw:Ways w){P:List Cell}(hP:P∈ao bd W w){x y:Cell}(hx:x∈P):y∈P↔Cn bd W w x y:=by
 rw[<-iI hw hP hx];exact(cw hw (dj hw P hP x hx)).mem y
theorem kB(hw:Ways w){P Q:List Cell}(hP:P∈ao bd W w)(hQ:Q∈ao bd W w){x:Cell}(h1:x∈P)(h2:x∈Q):P=Q:=(iI hw hP h1).symm.trans (iI hw hQ h2)
theorem fe(hw:Ways w){P:List Cell}(hP:P∈ao bd W w):∃m,m∈P/\Least bd W w m m/\On bd.length W m/\∃r,P=m::r:=by
 obtain⟨m,hm,rfl⟩:=XE.mp (show P∈(bZ bd W w (ax bd.length W)).map (bc bd W w) from hP);obtain⟨r,hr⟩:=A9 hw hm;exact⟨m,by rw[hr];exact Xk ..,(qR.mp hm).2,e8 hm,r,hr⟩
structure Adj (bd:List Str) (W w:Nat) (P Q:List Cell) (x y:Cell):Prop where
 p:P∈ao bd W w
 q:Q∈ao bd W w
 ne:P≠Q
 xp:x∈P
 yq:y∈Q
 nx:eS 4 x y=true
theorem Pj(hw:Ways w){x y:Cell}(h:eS 4 x y=true):eS w x y=true:=by
 rcases hw with rfl | rfl
 ·exact h
 ·exact Ph h
variable{P Q:List Cell}{x y:Cell}
theorem Adj.ox(h:Adj bd W w P Q x y)(hw:Ways w):On bd.length W x:=dj hw P h.p x h.xp
theorem Adj.oy(h:Adj bd W w P Q x y)(hw:Ways w):On bd.length W y:=dj hw Q h.q y h.yq
theorem Adj.yn(h:Adj bd W w P Q x y)(hw:Ways w):y∉P:=λq=>h.ne (kB hw h.p h.q q h.yq)
abbrev EE(bd:List Str)(W:Nat)(P:List Cell)(y:Cell):List Str:=rO bd W P (lt bd y)
theorem kz:(EE bd W P y).length=bd.length:=G6 ..
theorem AR(hw:Ways w)(hP:P∈ao bd W w){a:Cell}(ha:On bd.length W a):∀{j:Nat}{b:Cell},Rb (bE bd W w) a j b->Rb (bE (EE bd W P y) W w) a j b
 |0,b,h=>h
 |j+1,b,h=>h.elim (λq=> .inl (AR hw hP ha q)) λ⟨z,q1,q2⟩=>by
  have hz:=uQ hw ha q1;have hb:=(di hw).mp q2;refine .inr ⟨z,AR hw hP ha q1,(di hw).mpr ⟨by rw[kz];exact hb.1,hb.2.1,?_⟩⟩;rw[p4 hb.1,p4 hz];have:b∈P↔z∈P:=⟨λq=>(iH hw hP q).mpr ((Cn.step Cn.refl q2).symm hw hz),λq=>(iH hw hP q).mpr (Cn.step Cn.refl q2)⟩
  by_cases e:z∈P
  ·rw[adY e,adY (this.mpr e)]
  ·rw[ad0 e,ad0 (λq=>e (this.mp q)),hb.2.2]
theorem AQ(hw:Ways w)(hP:P∈ao bd W w){a b:Cell}(ha:On bd.length W a)(h:Cn bd W w a b):Cn (EE bd W P y) W w a b:=let ⟨j,q⟩:=h;⟨j,AR hw hP ha q⟩
theorem Adj.join(h:Adj bd W w P Q x y)(hw:Ways w):Cn (EE bd W P y) W w x y:=by
 refine Cn.step Cn.refl ((di hw).mpr ⟨by rw[kz];exact h.oy hw,Pj hw h.nx,?_⟩);rw[p4 (h.oy hw),p4 (h.ox hw),adY h.xp,ad0 (h.yn hw)]
theorem x_{α:Type}{p q:α->Bool}:∀{l:List α},(∀x∈l,p x=true->q x=true)->(∃a∈l,q a=true/\p a=false)->(l.filter p).length<(l.filter q).length
 |[],_,h=>by obtain⟨a,ha,_⟩:=h;cases ha
 |b::l,h,⟨a,ha,a1,a2⟩=>by
  have le:(l.filter p).length<=(l.filter q).length:=by
   rw[<-aaB,<-aaB];exact List.countP_mono_left λx hx=>h x (Xj _ hx)
  rw[YG,YG];rcases Xs.mp ha with e | ha
  ·subst e;rw[a1,a2];simp;omega
  ·have ih:=x_ (λx hx=>h x (Xj _ hx)) ⟨a,ha,a1,a2⟩;have hb:=h b (Xk ..);cases hp:p b<;>cases hq:q b
   ·simpa[hp,hq] using ih
   ·simp;omega
   ·rw[hp,hq] at hb;exact ad3 (hb rfl) (by simp)
   ·simp;omega
theorem uA:(ao bd W w).length=((ax bd.length W).filter λx=>decide (Least bd W w x x)).length:=by
 unfold ao bZ;rw[Xh]
theorem Adj.fewer(h:Adj bd W w P Q x y)(hw:Ways w):(ao (EE bd W P y) W w).length<(ao bd W w).length:=by
 rw[uA,uA,kz];refine x_ (λz hz q=>?_) ?_
 ·have hz:=aD.mp hz;exact ad1 ⟨Cn.refl,λu hu=>(ad4 q).2 u (AQ hw h.p hz hu)⟩
 ·obtain⟨m,m1,m2,m3,_⟩:=fe hw h.p;obtain⟨n,n1,n2,n3,_⟩:=fe hw h.q;have OL:m≠n:=λe=>h.ne (kB hw h.p h.q m1 (e▸n1));have c:Cn (EE bd W P y) W w m n:=((AQ hw h.p m3 ((iH hw h.p m1).mp h.xp)).trans (h.join hw)).trans (AQ hw h.p (h.oy hw) ((iH hw h.q h.yq).mp n1));have WA:On (EE bd W P y).length W m:=by rw[kz];exact m3
  by_cases q:Least (EE bd W P y) W w m m
  ·refine⟨n,aD.mpr n3,ad1 n2,ad2 λq2=>OL ?_⟩;exact(q.move hw WA c).one hw (by rw[kz];exact n3) q2
  ·exact⟨m,aD.mpr m3,ad1 m2,ad2 q⟩
theorem Fw{R:Nat}{p:Cell->Prop}(h:∀u v,On R W u->On R W v->eS 4 u v=true->p u->p v){a b:Cell}(ha:On R W a)(hb:On R W b)(hp:p a):p b:=by
 have dn:∀i j,i+1<R->j<W->(p (i+1,j)↔p (i,j)):=λi j hi hj=>
  ⟨h _ _ ⟨hi,hj⟩ ⟨ZX hi,hj⟩ (by rw[fc];exact yU (.inl rfl) i j),h _ _ ⟨ZX hi,hj⟩ ⟨hi,hj⟩ (yU (.inl rfl) i j)⟩
 have rt:∀i j,i<R->j+1<W->(p (i,j+1)↔p (i,j)):=λi j hi hj=>
  ⟨h _ _ ⟨hi,hj⟩ ⟨hi,ZX hj⟩ (by rw[fc];exact uF (.inl rfl) i j),h _ _ ⟨hi,ZX hj⟩ ⟨hi,hj⟩ (uF (.inl rfl) i j)⟩
 have col:∀i j,i<R->j<W->(p (i,j)↔p (0,j)):=by
  intro i j hi hj;induction i with
  |zero=>exact Iff.rfl
  |succ i ih=>exact(dn i j hi hj).trans (ih (ZX hi))
 have row:∀i j,i<R->j<W->(p (i,j)↔p (i,0)):=by
  intro i j hi hj;induction j with
  |zero=>exact Iff.rfl
  |succ j ih=>exact(rt i j hi hj).trans (ih (ZX hj))
 have all:∀c:Cell,On R W c->(p c↔p (0,0)):=λc hc=>(col c.1 c.2 hc.1 hc.2).trans (row 0 c.2 (abM (Yo _) hc.1) hc.2);exact(all b hb).mpr ((all a ha).mp hp)
theorem Hn(hg:Brd bd W)(hw:Ways w){P:List Cell}(hP:P∈ao bd W w)(h1:(ao bd W w).length≠1):∃Q x y,Adj bd W w P Q x y:=by
 obtain⟨m,m1,_,m3,_⟩:=fe hw hP;obtain⟨P2,Qy,iT⟩:∃P2∈ao bd W w,P2≠P:=by
  cases hl:ao bd W w with
  |nil=>rw[hl] at hP;cases hP
  |cons a r=>
   cases r with
   |nil=>rw[hl] at h1;exact ad3 rfl h1
   |cons b r=>
    have FJ:(ao bd W w).Nodup:=by
     rw[List.nodup_iff_pairwise_ne] at*;refine Zm.mpr λi j hi hj zU e=>?_;have e1:(ao bd W w)[i]? =some (ao bd W w)[i]:=Xi hi;have e2:(ao bd W w)[j]? =some (ao bd W w)[i]:=by rw[Xi hj,e]
     obtain⟨u,u1,_⟩:=fe hw (Z3 hi);have:=pZ hw e1 e2 u1 u1;omega
    rw[hl] at FJ;have LN:a≠b:=by
     have:=(Zb.mp FJ).1;intro e;rw[e] at this;exact this (Xk ..)
    by_cases e:a=P
    ·exact⟨b,by simp,λq=>LN (e.trans q.symm)⟩
    ·exact⟨a,by simp,e⟩
 obtain⟨n,n1,_,n3,_⟩:=fe hw Qy;have hn:n∉P:=λq=>iT (kB hw Qy hP n1 q);apply aaF;intro FK;refine hn (Fw (p:=λz=>z∈P) (λu v hu hv V4 Wi=>?_) m3 n3 m1);apply aaF;intro Wj;obtain⟨Q,hQ,Ug⟩:=lA hg hw hv;exact FK ⟨Q,u,v,hP,hQ,λe=>Wj (e▸Ug),Wi,Ug,V4⟩
end
section
open Classical
variable{bd:List Str}{W w:Nat}
abbrev CJ(bd:List Str)(S:D)(nk:List Cell)(f:Cell->Nat)(ks:List Cell)(g:Cell->Int)(x4 x5 x6:Option Sl):bb:=[fz (brd bd),fz S,fz (nu nk λy=> .int (f y:Int)),some (.ow (yd ks λk=> .int (g k))),x4,x5,x6]
structure SOk (bd:List Str) (W n:Nat) (f:Cell->Nat) (ks:List Cell):Prop where
 nd:ks.Nodup
 is:∀k∈ks,∃x y,On bd.length W x/\On bd.length W y/\eS 4 x y=true/\f x<f y/\k=(f x,f y)
noncomputable def KH(ks:List Cell)(g:Cell->Int)(k:Cell):Int:=if k∈ks then g k else 0
def EG(f:Cell->Nat)(k x y:Cell):Bool:=decide (f x<f y/\(f x,f y)=k)
theorem Ke{S:D}{nk:List Cell}{f:Cell->Nat}(hn:∀z,On bd.length W z->z∈nk/\f z<64){x y:Cell}(hx:On bd.length W x)(hy:On bd.length W y)(Ay:eS 4 x y=true){ks:List Cell}{g:Cell->Int}(h:SOk bd W 64 f ks):
 ∃ks' g',SOk bd W 64 f ks'/\(∀k∈ks,k∈ks')/\(f x<f y->(f x,f y)∈ks')/\(∀k,KH ks' g' k=KH ks g k+(if EG f k x y then 1 else 0))/\QX (CJ bd S nk f ks g (fz (cD x)) (fz (cD y)) none)=ae (.nx (CJ bd S nk f ks' g' (fz (cD x)) none none)):=by
 have i4:∀{o x6:Option Sl},d2 ft (dV 2) (dV 4) [fz (brd bd),fz S,fz (nu nk λy=> .int (f y:Int)),o,fz (cD x),fz (cD y),x6]=ae (.int (f x:Int)):=(aB (x:=nu nk λy=> .int (f y:Int)) (y:=cD x) rfl rfl).trans (nG (hn x hx).1);have i5:∀{o x6:Option Sl},d2 ft (dV 2) (dV 5) [fz (brd bd),fz S,fz (nu nk λy=> .int (f y:Int)),o,fz (cD x),fz (cD y),x6]=ae (.int (f y:Int)):=(aB (x:=nu nk λy=> .int (f y:Int)) (y:=cD y) rfl rfl).trans (nG (hn y hy).1);have p_:bU (d2 HQ (d2 ft (dV 2) (dV 4)) (d2 ft (dV 2) (dV 5))) (CJ bd S nk f ks g (fz (cD x)) (fz (cD y)) none)=ae (decide (f x<f y)):=by
  refine dF ((aB i4 i5).trans ?_);show ae (D.bl (decide ((f x:Int)<(f y:Int))))=_;congr 2;exact ad5.mpr (by omega)
 have QG:ks.length<lim:=by
  have:ks.length<=(ax 63 64).length:=iF h.nd λk hk=>by
   obtain⟨a,b,ha,hb,_,LN,rfl⟩:=h.is k hk;have:=(hn b hb).2;exact aD.mpr ⟨by show f a<63;omega,this⟩
  rw[bo] at this;rw[cF];omega
 by_cases eM:f x<f y
 ·rw[ad1 eM] at p_;refine⟨cj ks (f x,f y),λk=>if k=(f x,f y) then(if (f x,f y)∈ks then g (f x,f y) else 0)+1 else g k,⟨(lX [(f x,f y)] ks).1 h.nd,λk hk=>?_⟩,λk hk=>eT.mpr (.inl hk),λ_=>tQ,λk=>?_,?_⟩
  ·rcases eT.mp hk with q | q
   ·exact h.is k q
   ·exact⟨x,y,hx,hy,Ay,eM,q⟩
  ·unfold KH EG;by_cases e:k=(f x,f y)
   ·subst e;rw[adY (eT.mpr (.inr rfl)),ad1 ⟨eM,rfl⟩];simp only[if_true]
   ·rw[ad2 λq=>e q.2.symm];have:k∈cj ks (f x,f y)↔k∈ks:=eT.trans ⟨λq=>q.resolve_right e, .inl⟩;simp only[this,ad0 e];simp
  ·have hv:NO (d2 dN (lQ (dV 3) (dV 6) (dC (.int 0))) (dC (.int 1))) (CJ bd S nk f ks g (fz (cD x)) (fz (cD y)) (fz (cD (f x,f y))))=ae (.int ((if (f x,f y)∈ks then g (f x,f y) else 0)+1)):=by
    refine Kx ?_ rfl;have e:lQ (dV 3) (dV 6) (dC (.int 0)) (sG (CJ bd S nk f ks g (fz (cD x)) (fz (cD y)) (fz (cD (f x,f y)))))=ae (.int (if (f x,f y)∈ks then g (f x,f y) else 0)):=by
     show getM (nu ks λk=> .int (g k)) (cD (f x,f y)) (.int 0)=_;by_cases q:(f x,f y)∈ks
     ·rw[BY q,adY q]
     ·rw[yt q,ad0 q]
    exact(aB e (y:= .int 1) rfl).trans rfl
   refine(aQ (ρ':=CJ bd S nk f (cj ks (f x,f y)) (λk=>if k=(f x,f y) then(if (f x,f y)∈ks then g (f x,f y) else 0)+1 else g k) (fz (cD x)) (fz (cD y)) (fz (cD (f x,f y)))) (eQ p_ (ak (ρ':=CJ bd S nk f ks g (fz (cD x)) (fz (cD y)) (fz (cD (f x,f y)))) ((aG ((bY (aW i4 (aW i5 rfl))).trans rfl)).trans rfl) ?_))).trans rfl;refine(mK (ks:=ks) (f:=λk=> .int (g k)) (x:=(f x,f y)) rfl hv rfl QG).trans ?_;have ef:eF (λk=>D.int (g k)) (f x,f y) (.int ((if (f x,f y)∈ks then g (f x,f y) else 0)+1))=λk=>D.int (if k=(f x,f y) then(if (f x,f y)∈ks then g (f x,f y) else 0)+1 else g k):=by
    funext k;unfold eF;by_cases e:k=(f x,f y)
    ·rw[adY e,adY e]
    ·rw[ad0 e,ad0 e]
   rw[ef];rfl
 ·rw[ad2 eM] at p_;exact⟨ks,g,h,λk hk=>hk,λq=>ad3 q eM,λk=>by unfold EG;rw[ad2 λq=>eM q.1];simp,(aQ (c9 p_ rfl)).trans rfl⟩
theorem Lb{S:D}{nk:List Cell}{f:Cell->Nat}(hn:∀z,On bd.length W z->z∈nk/\f z<64){x:Cell}(hx:On bd.length W x):∀(l:List Cell) (ks:List Cell) (g:Cell->Int),(∀y∈l,On bd.length W y/\eS 4 x y=true)->SOk bd W 64 f ks->
 ∃ks' g',SOk bd W 64 f ks'/\(∀k∈ks,k∈ks')/\(∀y∈l,f x<f y->(f x,f y)∈ks')/\(∀k,KH ks' g' k=KH ks g k+((l.filter (EG f k x)).length:Int))/\forL (putN 5) QX (l.map cD) (CJ bd S nk f ks g (fz (cD x)) none none)=ae (.nx (CJ bd S nk f ks' g' (fz (cD x)) none none))
 |[],ks,g,_,h=>⟨ks,g,h,λk hk=>hk,(λy hy=>(by cases hy)),λk=>by simp,rfl⟩
 |y::l,ks,g,hl,h=>by
  obtain⟨y1,y2⟩:=hl y (Xk ..);obtain⟨k1,g1,a1,a2,a3,a5,a4⟩:=Ke (S:=S) (g:=g) hn hx y1 y2 h;obtain⟨k2,g2,b1,b2,b3,b5,b4⟩:=Lb (S:=S) hn hx l k1 g1 (λz hz=>hl z (Xj _ hz)) a1;refine⟨k2,g2,b1,λk hk=>b2 k (a2 k hk),λz hz q=>?_,λk=>?_,(bF rfl a4).trans b4⟩
  ·rcases Xs.mp hz with e | hz
   ·subst e;exact b2 _ (a3 q)
   ·exact b3 z hz q
  ·rw[b5 k,a5 k,YG];cases EG f k x y
   ·simp
   ·simp;omega
theorem Hr(hg:Brd bd W){S:D}{nk:List Cell}{f:Cell->Nat}(hn:∀z,On bd.length W z->z∈nk/\f z<64):∀(l:List Cell) (ks:List Cell) (g:Cell->Int),(∀x∈l,On bd.length W x)->SOk bd W 64 f ks->
 ∃ks' g',SOk bd W 64 f ks'/\(∀k∈ks,k∈ks')/\(∀x∈l,∀y,On bd.length W y->eS 4 x y=true->f x<f y->(f x,f y)∈ks')/\(∀k,KH ks' g' k=KH ks g k+(((l.map λx=>((eN bd.length W 4 x).filter (EG f k x)).length).sum:Nat):Int))/\
  forL (putN 4) (cx [4,5,6] (cV (putN 5) (dD (az 3 bM (aC (dV 0) (aC (dV 4) (aC (dC (.int 4)) aN))))) QX)) (l.map cD) (CJ bd S nk f ks g none none none)=ae (.nx (CJ bd S nk f ks' g' none none none))
 |[],ks,g,_,h=>⟨ks,g,h,λk hk=>hk,(λy hy=>(by cases hy)),λk=>by simp,rfl⟩
 |x::l,ks,g,hl,h=>by
  have hx:=hl x (Xk ..);have OX:Ways 4:= .inl rfl;obtain⟨k1,g1,a1,a2,a3,a5,a4⟩:=Lb (S:=S) hn hx (eN bd.length W 4 x) ks g (λy hy=>(iE OX).mp hy) h;obtain⟨k2,g2,b1,b2,b3,b5,b4⟩:=Hr hg (S:=S) hn l k1 g1 (λz hz=>hl z (Xj _ hz)) a1;refine⟨k2,g2,b1,λk hk=>b2 k (a2 k hk),λz hz y hy q1 q2=>?_,λk=>by rw[b5 k,a5 k,Xp,Yq,Int.natCast_add,Int.add_assoc],(bF (ρ1:=CJ bd S nk f ks g (fz (cD x)) none none) (ρ2:=CJ bd S nk f k1 g1 none none none) rfl ((aQ (c8 (ds:=(eN bd.length W 4 x).map cD) ?_ a4)).trans rfl)).trans b4⟩
  ·rcases Xs.mp hz with e | hz
   ·subst e;exact b2 _ (a3 y ((iE OX).mpr ⟨hy,q1⟩) q2)
   ·exact b3 z hz y hy q1 q2
  ·show (az 3 bM (aC (dV 0) (aC (dV 4) (aC (dC (.int 4)) aN))) _>>=lstM)=_;rw[(av (ds:=[brd bd,cD x, .int ((4:Nat):Int)]) rfl rfl:az 3 bM (aC (dV 0) (aC (dV 4) (aC (dC (.int 4)) aN))) _=_),jU hg OX hx];rfl
theorem Bj(hg:Brd bd W)(hs:bd.length*W<64)(hw:Ways w):∃(f:Cell->Nat) (ks:List Cell) (g:Cell->Int),(∀x,On bd.length W x->∃P,(ao bd W w)[f x]? =some P/\x∈P)/\SOk bd W 64 f ks/\(∀x y,On bd.length W x->On bd.length W y->eS 4 x y=true->f x<f y->(f x,f y)∈ks)/\(∀k∈ks,g k=((((ax bd.length W).map λx=>((eN bd.length W 4 x).filter (EG f k x)).length).sum:Nat):Int))/\
 cR [brd bd, .lst ((ao bd W w).map cL)]=ae (nu ks λk=> .int (g k)):=by
 obtain⟨nk,f,h1,h2,h3⟩:=rb (R:=bd.length) (W:=W) (Y6 hs) (dj (bd:=bd) (W:=W) (w:=w) hw);have hf:∀x,On bd.length W x->x∈nk/\∃P,(ao bd W w)[f x]? =some P/\x∈P:=λx hx=>by
  obtain⟨P,p1,p2⟩:=lA hg hw hx;have:=h2 P p1 x p2;exact⟨this,h1.num x this⟩
 have hl:=eE (bd:=bd) (W:=W) (w:=w);obtain⟨ks,g,a1,a2,a3,a5,a4⟩:=Hr hg (S:= .lst ((ao bd W w).map cL)) (nk:=nk) (f:=f) (λz hz=>⟨(hf z hz).1,by
  obtain⟨P,e,_⟩:=(hf z hz).2;have:=(Xy.mp e).1;omega⟩) (ax bd.length W) [] (λ_=>0) (λx hx=>aD.mp hx) ⟨aan,(λk hk=>(by cases hk))⟩
 refine⟨f,ks,g,λx hx=>(hf x hx).2,a1,λx y hx hy=>a3 x (aD.mpr hx) y hy,λk hk=>by have:=a5 k;unfold KH at this;rw[adY hk] at this;simpa using this,?_⟩;refine ba (ak (ρ':=[fz (brd bd),fz (.lst ((ao bd W w).map cL)),fz (nu nk λy=> .int (f y:Int)),none,none,none,none]) ((aG ((av (ds:=[.lst ((ao bd W w).map cL)]) rfl rfl).trans h3)).trans rfl) (ak (ρ':=CJ bd (.lst ((ao bd W w).map cL)) nk f [] (λ_=>0) none none none) rfl (ak (bW (c8 (ds:=(ax bd.length W).map cD) ?_ a4)) rfl)));show (az 1 cX (aC (dV 0) aN) _>>=lstM)=_;rw[(av (ds:=[brd bd]) rfl rfl:az 1 cX (aC (dV 0) aN) _=_),kI hg];rfl
end
section
def sh(P Q:List Cell):Nat:=(P.map λx=>(Q.filter λy=>eS 4 x y).length).sum
theorem zE{α:Type}(f g:α->Nat):∀l:List α,(l.map λx=>f x+g x).sum=(l.map f).sum+(l.map g).sum
 |[]=>rfl
 |a::l=>by
  simp only[Xp,Yq,zE f g l];omega
theorem CL{α:Type}(p:α->Bool):∀l:List α,(l.map λx=>if p x then 1 else 0).sum=(l.filter p).length
 |[]=>rfl
 |a::l=>by
  rw[Xp,Yq,CL p l,YG];cases p a
  ·simp
  ·simp;omega
theorem zF{α β:Type}(r:α->β->Bool):∀(P:List α) (Q:List β),(P.map λx=>(Q.filter (r x)).length).sum=(Q.map λy=>(P.filter λx=>r x y).length).sum
 |[],Q=>by
  have:∀Q:List β,(Q.map λy=>(([]:List α).filter λx=>r x y).length).sum=0:=λQ=>by
   induction Q with
   |nil=>rfl
   |cons a l ih=>rw[Xp,Yq,ih];rfl
  rw[this];rfl
 |a::P,Q=>by
  rw[Xp,Yq,zF r P Q,<-CL,<-zE];congr 1;refine ZA λy _=>?_;rw[YG];cases r a y
  ·simp
  ·simp;omega
theorem CH(P Q:List Cell):sh P Q=sh Q P:=by
 unfold sh;rw[zF];congr 1;refine ZA λy _=>?_;congr 1;exact adW λx _=>by rw[fc]
theorem CK{α:Type}(p:α->Bool)(c:α->Nat):∀l:List α,(l.map λx=>if p x then c x else 0).sum=((l.filter p).map c).sum
 |[]=>rfl
 |a::l=>by
  rw[Xp,Yq,CK p c l,YG];cases p a
  ·simp
  ·simp
theorem yP(R W w:Nat)(c:Cell):RiseC (eN R W w c):=by
 unfold eN RiseC;refine ac_.mpr ⟨λr _=>List.Pairwise.filter _ (Zt.mpr ?_),?_⟩
 ·refine Z4 (λ{a b} h=>?_) (aa6 ..);show (if r=r then decide (a<b) else _)=true;rw[adY rfl,ad1 h]
 ·refine Z4 (λ{a b} h x hx y hy=>?_) (aa6 ..);obtain⟨_,_,rfl⟩:=XE.mp (XY.mp hx).1;obtain⟨_,_,rfl⟩:=XE.mp (XY.mp hy).1;show (if a=b then _ else decide (a<b))=true;rw[ad0 (XS h),ad1 h]
end
section
open Classical
variable{bd:List Str}{W w:Nat}
theorem lB(hw:Ways w){P:List Cell}(hP:P∈ao bd W w):RiseC P:=by
 obtain⟨m,h1,_,h3,_⟩:=fe hw hP;rw[<-iI hw hP h1];exact(cw hw h3).rise
theorem je(hw:Ways w){f:Cell->Nat}(hf:∀x,On bd.length W x->∃P,(ao bd W w)[f x]? =some P/\x∈P){j:Nat}{Q:List Cell}(hj:(ao bd W w)[j]? =some Q){y:Cell}:y∈Q↔On bd.length W y/\f y=j:=by
 refine⟨λh=>?_,λ⟨h1,h2⟩=>?_⟩
 ·have ho:=dj hw Q (fI hj) y h;obtain⟨R,r1,r2⟩:=hf y ho;exact⟨ho,pZ hw r1 hj r2 h⟩
 ·obtain⟨R,r1,r2⟩:=hf y h1;rw[h2,hj] at r1;cases r1;exact r2
theorem vA(hw:Ways w){f:Cell->Nat}(hf:∀x,On bd.length W x->∃P,(ao bd W w)[f x]? =some P/\x∈P){i j:Nat}{P Q:List Cell}(hi:(ao bd W w)[i]? =some P)(hj:(ao bd W w)[j]? =some Q)(zU:i<j):
 ((ax bd.length W).map λx=>((eN bd.length W 4 x).filter (EG f (i,j) x)).length).sum=sh P Q:=by
 have OX:Ways 4:= .inl rfl;have e1:((ax bd.length W).map λx=>((eN bd.length W 4 x).filter (EG f (i,j) x)).length)=(ax bd.length W).map λx=>if decide (f x=i) then(Q.filter λy=>eS 4 x y).length else 0:=by
  refine ZA λx hx=>?_;by_cases h:f x=i
  ·rw[ad1 h,adY rfl];congr 1;refine iN ((yP ..).filter _) ((lB hw (fI hj)).filter _) λy=>?_;rw[XY,XY,iE OX,je hw hf hj];unfold EG;rw[adZ,aaW];exact⟨λ⟨⟨q1,q2⟩,q3,q4,q5⟩=>⟨⟨q1,q5⟩,q2⟩,λ⟨⟨q1,q2⟩,q3⟩=>⟨⟨q1,q3⟩,by omega,h,q2⟩⟩
  ·rw[ad2 h];have:(eN bd.length W 4 x).filter (EG f (i,j) x)=[]:=abd.mpr λy _ q=>by
    unfold EG at q;rw[adZ,aaW] at q;exact h q.2.1
   rw[this];rfl
 rw[e1,CK (λx=>decide (f x=i)) (λx=>(Q.filter λy=>eS 4 x y).length)];unfold sh;congr 2;refine iN ((eK _ _).filter _) (lB hw (fI hi)) λx=>?_;rw[XY,aD,adZ,je hw hf hi]
abbrev fL(t:Int×Int×Nat):List Int:=[t.1,t.2.1,(t.2.2:Int)]
def Ew(a b:Int×Int×Nat):Prop:=a.1<b.1\/(a.1=b.1/\(a.2.1<b.2.1\/(a.2.1=b.2.1/\a.2.2<b.2.2)))
theorem Su(a b:Int×Int×Nat):HT.lexLt (fL a) (fL b)=decide (Ew a b):=by
 rw[Zd,adZ];unfold Ew fL;rw[HT.lexLt_cons,HT.lexLt_cons,HT.lexLt_cons];by_cases h1:a.1=b.1
 ·rw[adY h1];by_cases h2:a.2.1=b.2.1
  ·rw[adY h2];by_cases h3:(a.2.2:Int)=(b.2.2:Int)
   ·rw[adY h3,HT.lexLt_nil_nil];simp;omega
   ·rw[ad0 h3,adZ];omega
  ·rw[ad0 h2,adZ];omega
 ·rw[ad0 h1,adZ];omega
theorem Ks(k:Nat->Int×Int×Nat):∀m j,j<=m->¬Ew (k j) (k (Zn (λa b=>decide (Ew (k a) (k b))) m))
 |0,j,h=>by
  obtain rfl:j=0:=by omega
  unfold Ew Zn;omega
 |m+1,j,h=>by
  have ih:=Ks k m;simp only[Zn];by_cases hc:Ew (k (m+1)) (k (Zn (λa b=>decide (Ew (k a) (k b))) m))
  ·rw[adY (ad1 hc)];by_cases hj:j=m+1
   ·subst hj;unfold Ew;omega
   ·have:=ih j (by omega);unfold Ew at*;omega
  ·rw[ad0 λq=>hc (ad4 q)];by_cases hj:j=m+1
   ·subst hj;exact hc
   ·exact ih j (by omega)
theorem EN{acc:List (Int×Int×Nat)}(t0:Int×Int×Nat):dG (acc.map fL)=Zn (λa b=>decide (Ew (acc.getD a t0) (acc.getD b t0))) (acc.length - 1):=by
 unfold dG;rw[Xh];have:∀(m:Nat) (f g:Nat->Nat->Bool),(∀a b,a<=m->b<=m->f a b=g a b)->Zn f m=Zn g m:=by
  intro m f g;induction m with
  |zero=>intro _;rfl
  |succ m ih=>
   intro h;have e:=ih λa b ha hb=>h a b (by omega) (by omega);simp only[Zn];rw[e,h (m+1) (Zn g m) (by omega) (X2 (iV g m) (by omega))]
 by_cases hz:acc=[]
 ·subst hz;rfl
 ·have hp:=abw.mpr hz;refine this _ _ _ λa b ha hb=>?_;have e:∀a,a<=acc.length - 1->(acc.map fL).getD a []=fL (acc.getD a t0):=λa ha=>by
   rw[XG,XG,Xv,Xi (by omega)];rfl
  show HT.lexLt _ _=_;rw[e a ha,e b hb,Su]
theorem CV{acc:List (Int×Int×Nat)}(hb:dG (acc.map fL)<acc.length):∀t∈acc,¬Ew t acc[dG (acc.map fL)]:=λt ht=>by
 obtain⟨j,hj,rfl⟩:=Zc ht;have h:=Ks (λa=>acc.getD a acc[j]) (acc.length - 1) j (by omega);rw[<-EN acc[j]] at h;simp only[XG,Xi hj,Xi hb,abU] at h;exact h
end
section
open Classical
variable{bd:List Str}{W w:Nat}
def Bt(S L j S' L' j':Nat):Prop:=S'<S\/(S'=S/\(L'<L\/(L'=L/\j<=j')))
theorem Hk{P Q:List Cell}(h:0<sh P Q):∃x y,x∈P/\y∈Q/\eS 4 x y=true:=by
 unfold sh at h;induction P with
 |nil=>cases h
 |cons a P ih=>
  rw[Xp,Yq] at h;by_cases q:0<(Q.filter λy=>eS 4 a y).length
  ·obtain⟨y,hy⟩:=List.exists_mem_of_length_pos q;exact⟨a,y,Xk ..,(XY.mp hy).1,(XY.mp hy).2⟩
  ·obtain⟨x,y,h1,h2,h3⟩:=ih (by omega);exact⟨x,y,Xj _ h1,h2,h3⟩
theorem oi{P Q:List Cell}{x y:Cell}(hx:x∈P)(hy:y∈Q)(h:eS 4 x y=true):0<sh P Q:=by
 unfold sh;induction P with
 |nil=>cases hx
 |cons a P ih=>
  rw[Xp,Yq];rcases Xs.mp hx with e | hx
  ·subst e;have:0<(Q.filter λy=>eS 4 x y).length:=abc (XY.mpr ⟨hy,h⟩);omega
  ·have:=ih hx;omega
def pR(t:Int×Int×Nat):D:= .tup [.int t.1, .int t.2.1, .int (t.2.2:Int)]
def Uw(bd:List Str)(W w i:Nat)(k:Cell)(v:Int)(t:Int×Int×Nat):Prop:=(k.1=i\/k.2=i)/\∃Q,(ao bd W w)[k.1+k.2 - i]? =some Q/\t=(-v,-(Q.length:Int),k.1+k.2 - i)
abbrev HW(bd:List Str)(S:D)(i:Nat)(acc:List (Int×Int×Nat))(x4 x5 x6:Option Sl):bb:=[fz (brd bd),fz S,fz (.int (i:Int)),some (.ow (.lst (acc.map pR))),x4,x5,x6]
theorem Jf{f:Cell->Nat}(hf:∀x,On bd.length W x->∃P,(ao bd W w)[f x]? =some P/\x∈P){i:Nat}{k:Cell}(hk:∃x y,On bd.length W x/\On bd.length W y/\eS 4 x y=true/\f x<f y/\k=(f x,f y)){v:Int}{acc:List (Int×Int×Nat)}(hl:acc.length<4000):
 ∃u_,(∀t,t∈u_↔t∈acc\/Uw bd W w i k v t)/\u_.length<=acc.length+1/\
  Sx (HW bd (.lst ((ao bd W w).map cL)) i acc (fz (cD k)) (fz (.int v)) none)=ae (.nx (HW bd (.lst ((ao bd W w).map cL)) i u_ none none none)):=by
 obtain⟨x,y,hx,hy,Ay,eM,rfl⟩:=hk;have p_:bU (d2 (Ao false) (dV 2) (dV 4)) (HW bd (.lst ((ao bd W w).map cL)) i acc (fz (cD (f x,f y))) (fz (.int v)) none)=ae (decide (f x=i\/f y=i)):=by
  refine dF ((aB (x:= .int (i:Int)) (y:=cD (f x,f y)) rfl rfl).trans ?_);show ae (D.bl ([(f x:Int),(f y:Int)].contains (i:Int)))=_;congr 2;rw[Zd,List.contains_iff_mem,adZ];simp only[Xs,Yz,or_false];omega
 by_cases h:f x=i\/f y=i
 ·rw[ad1 h] at p_;obtain⟨j,hj,P,hP,OF⟩:∃j:Nat,(f x:Int)+(f y:Int) - (i:Int)=(j:Int)/\∃P,(ao bd W w)[j]? =some P/\f x+f y - i=j:=by
   rcases h with h | h
   ·obtain⟨P,hP,_⟩:=hf y hy;exact⟨f y,by omega,P,hP,by omega⟩
   ·obtain⟨P,hP,_⟩:=hf x hx;exact⟨f x,by omega,P,hP,by omega⟩
  refine⟨acc++[(-v,-(P.length:Int),j)],λt=>?_,by simp,?_⟩
  ·rw[X4,Yc];refine or_congr Iff.rfl ⟨λq=>⟨h,P,by show (ao bd W w)[f x+f y - i]? =_;rw[OF];exact hP,by show t=(_,_,f x+f y - i);rw[OF];exact q⟩,λ⟨_,Q,q1,q2⟩=>?_⟩;have q1:(ao bd W w)[f x+f y - i]? =some Q:=q1;have q2:t=(-v,-(Q.length:Int),f x+f y - i):=q2;rw[OF] at q1 q2;rw[hP] at q1;cases q1;exact q2
  ·have e6:d2 jz (d2 dN (d2 aU (dV 4) (dC (.int 0))) (d2 aU (dV 4) (dC (.int 1)))) (dV 2) (HW bd (.lst ((ao bd W w).map cL)) i acc (fz (cD (f x,f y))) (fz (.int v)) none)=ae (.int (j:Int)):=by
    refine(aB (x:= .int ((f x:Int)+(f y:Int))) (y:= .int (i:Int)) ((aB (x:= .int (f x:Int)) (y:= .int (f y:Int)) ((aB (x:=cD (f x,f y)) (y:= .int 0) rfl rfl).trans rfl) ((aB (x:=cD (f x,f y)) (y:= .int 1) rfl rfl).trans rfl)).trans rfl) rfl).trans ?_;rw[Ft,hj]
   have eP:dA bq (aC (d2 cE (dV 1) (dV 6)) aN) (HW bd (.lst ((ao bd W w).map cL)) i acc (fz (cD (f x,f y))) (fz (.int v)) (fz (.int (j:Int))))=ae (.int (P.length:Int)):=by
    refine(bY (xs:=[cL P]) (aW ((aB (x:= .lst ((ao bd W w).map cL)) (y:= .int (j:Int)) rfl rfl).trans ?_) rfl)).trans ?_
    ·show (match L2.atI ((ao bd W w).map cL) (j:Int) with | some d=>ae d | none=>ag)=_;rw[d7 (x:=cL P) (by rw[Xv,hP];rfl)]
    ·show ae (D.int ((P.map cD).length:Int))=_;rw[Xh]
   refine(aQ (ρ':=HW bd (.lst ((ao bd W w).map cL)) i (acc++[(-v,-(P.length:Int),j)]) (fz (cD (f x,f y))) (fz (.int v)) (fz (.int (j:Int)))) (eQ p_ (ak (ρ':=HW bd (.lst ((ao bd W w).map cL)) i acc (fz (cD (f x,f y))) (fz (.int v)) (fz (.int (j:Int)))) ((aG e6).trans rfl) ?_))).trans rfl;show (dA aY _ _>>=λd=>if (acc.map pR).length<lim then ae (Out.nx _) else ag)=_;rw[bY (xs:=[.int (-v), .int (-(P.length:Int)), .int (j:Int)]) (aW (show d1 ra (dV 5) _=ae (.int (-v)) from rfl) (aW (by show (dA bq _ _>>=ra)=_;rw[eP];rfl) (aW rfl rfl)))];show (if (acc.map pR).length<lim then ae (Out.nx _) else ag)=_;rw[adY (by rw[Xh,cF];omega)];exact ad7 (λl=>ae (Out.nx [fz (brd bd),fz (.lst ((ao bd W w).map cL)),fz (.int (i:Int)),some (.ow (.lst l)),fz (cD (f x,f y)),fz (.int v),fz (.int (j:Int))])) (Yv (l₁:=acc) (l₂:=[(-v,-(P.length:Int),j)]) (f:=pR)).symm
 ·rw[ad2 h] at p_;exact⟨acc,λt=>⟨.inl,λq=>q.resolve_right λz=>h z.1⟩,acs _,(aQ (c9 p_ rfl)).trans rfl⟩
theorem Cd{f:Cell->Nat}(hf:∀x,On bd.length W x->∃P,(ao bd W w)[f x]? =some P/\x∈P){i:Nat}{g:Cell->Int}:∀(l:List Cell) (acc:List (Int×Int×Nat)),(∀k∈l,∃x y,On bd.length W x/\On bd.length W y/\eS 4 x y=true/\f x<f y/\k=(f x,f y))->acc.length+l.length<=4000->
 ∃u_,(∀t,t∈u_↔t∈acc\/∃k∈l,Uw bd W w i k (g k) t)/\u_.length<=4000/\
  forL (jy [4,5]) Sx (l.map λk=> .tup [cD k, .int (g k)]) (HW bd (.lst ((ao bd W w).map cL)) i acc none none none)=ae (.nx (HW bd (.lst ((ao bd W w).map cL)) i u_ none none none))
 |[],acc,_,hl=>⟨acc,λt=>by simp,by simpa using hl,rfl⟩
 |k::l,acc,h,hl=>by
  rw[Xo] at hl;obtain⟨a1,b1,b4,b5⟩:=Jf (w:=w) hf (i:=i) (h k (Xk ..)) (v:=g k) (acc:=acc) (by omega);obtain⟨a2,c1,c4,c5⟩:=Cd hf (i:=i) (g:=g) l a1 (λz hz=>h z (Xj _ hz)) (by omega);refine⟨a2,λt=>?_,c4,(bF rfl b5).trans c5⟩;rw[c1 t,b1 t,or_assoc];simp only[Xs,or_and_right,exists_or,exists_eq_left]
theorem FZ{ks:List Cell}{g:Cell->Int}:nE (nu ks λk=> .int (g k))=ae (ks.map λk=> .tup [cD k, .int (g k)]):=by
 have ok:(ks.map keyOf).all (λk=>decide (k.length<=lim)&&k.all oV)=true:=by
  rw[aao];exact Yl.mpr λ_ _=>rfl
 show (if (ks.map keyOf).all (λk=>decide (k.length<=lim)&&k.all oV)=true then ae (((ks.map keyOf).zip (ks.map λk=>D.int (g k))).map λq=>D.tup [tupK q.1,q.2]) else ag)=_;rw[adY ok,sx,Yn];rfl
theorem yz:∀l:List (Int×Int×Nat),lq (l.map pR)=some (l.map λt=>[t.1,t.2.1,(t.2.2:Int)])
 |[]=>rfl
 |t::l=>by
  show (match KY (pR t),lq (l.map pR) with | some k,some ks=>some (k::ks) | _,_=>none)=_;rw[yz l];rfl
theorem DW(hg:Brd bd W)(hs:bd.length*W<64)(hw:Ways w){i:Nat}{P:List Cell}(hi:(ao bd W w)[i]? =some P)(h1:(ao bd W w).length≠1):
 ∃(j:Nat) (Q:List Cell) (x y:Cell),(ao bd W w)[j]? =some Q/\Adj bd W w P Q x y/\eY [brd bd, .lst ((ao bd W w).map cL), .int (i:Int)]=ae (.int (j:Int))/\0<sh P Q/\∀j' Q',(ao bd W w)[j']? =some Q'->j'≠i->0<sh P Q'->Bt (sh P Q) Q.length j (sh P Q') Q'.length j':=by
 obtain⟨f,ks,g,hf,hS,Fy,Rz,es⟩:=Bj hg hs hw;have hl:=eE (bd:=bd) (W:=W) (w:=w);have flt:∀x,On bd.length W x->f x<63:=λx hx=>by
  obtain⟨P,e,_⟩:=hf x hx;have:=(Xy.mp e).1;omega
 have QG:ks.length<=63*63:=by
  have:ks.length<=(ax 63 63).length:=iF hS.nd λk hk=>by
   obtain⟨a,b,ha,hb,_,LN,rfl⟩:=hS.is k hk;exact aD.mpr ⟨flt a ha,flt b hb⟩
  rw[bo] at this;exact this
 obtain⟨acc,b1,b4,b5⟩:=Cd (w:=w) hf (i:=i) (g:=g) ks [] hS.is (by rw[X5];omega);have Qz:=fI hi;have fi:∀z∈P,f z=i:=λz hz=>by
  obtain⟨R,r1,r2⟩:=hf z (dj hw P Qz z hz);exact pZ hw r1 hi r2 hz
 have key:∀j Q,(ao bd W w)[j]? =some Q->j≠i->0<sh P Q->(-(sh P Q:Int),-(Q.length:Int),j)∈acc:=λj Q hj VI R8=>by
  obtain⟨x,y,hx,hy,Ay⟩:=Hk R8;have ox:=dj hw P Qz x hx;have oy:=dj hw Q (fI hj) y hy;have fx:=fi x hx;have fy:=((je hw hf hj).mp hy).2;refine(b1 _).mpr (.inr ?_);rcases Nat.lt_or_gt_of_ne VI with q | q
  ·refine⟨(j,i),?_, .inr rfl,Q,by rw[show j+i - i=j by omega];exact hj,?_⟩
   ·have:=Fy y x oy ox (by rw[fc];exact Ay) (by omega);rw[fx,fy] at this;exact this
   ·have hk:(j,i)∈ks:=by
     have:=Fy y x oy ox (by rw[fc];exact Ay) (by omega);rw[fx,fy] at this;exact this
    show (_,_,_)=(-(g (j,i)),_,j+i - i)
    rw[Rz _ hk,vA hw hf hj hi q,CH,show j+i - i=j by omega]
  ·have hk:(i,j)∈ks:=by
    have:=Fy x y ox oy Ay (by omega);rw[fx,fy] at this;exact this
   refine⟨(i,j),hk, .inl rfl,Q,by rw[show i+j - i=j by omega];exact hj,?_⟩;show (_,_,_)=(-(g (i,j)),_,i+j - i)
   rw[Rz _ hk,vA hw hf hi hj q,show i+j - i=j by omega]
 have back:∀t∈acc,∃Q,(ao bd W w)[t.2.2]? =some Q/\t.2.2≠i/\0<sh P Q/\t=(-(sh P Q:Int),-(Q.length:Int),t.2.2):=λt ht=>by
  rcases(b1 t).mp ht with q | ⟨k,hk,h3,Q,h4,rfl⟩
  ·cases q
  ·obtain⟨x,y,hx,hy,Ay,eM,rfl⟩:=hS.is k hk;have h4:(ao bd W w)[f x+f y - i]? =some Q:=h4;have T4:=Rz _ hk;rcases h3 with h3 | h3
   ·have h3:f x=i:=h3;have e:f x+f y - i=f y:=by omega
    rw[e] at h4;have Wm:=(je hw hf hi).mpr ⟨hx,h3⟩;have Wr:=(je hw hf h4).mpr ⟨hy,rfl⟩;refine⟨Q,by show (ao bd W w)[f x+f y - i]? =_;rw[e];exact h4,by show f x+f y - i≠i;omega,oi Wm Wr Ay,?_⟩;show (-(g (f x,f y)),_,f x+f y - i)=_;rw[T4,h3,vA hw hf hi h4 (by omega)]
   ·have h3:f y=i:=h3;have e:f x+f y - i=f x:=by omega
    rw[e] at h4;have Wq:=(je hw hf hi).mpr ⟨hy,h3⟩;have Wn:=(je hw hf h4).mpr ⟨hx,rfl⟩;refine⟨Q,by show (ao bd W w)[f x+f y - i]? =_;rw[e];exact h4,by show f x+f y - i≠i;omega,oi Wq Wn (by rw[fc];exact Ay),?_⟩;show (-(g (f x,f y)),_,f x+f y - i)=_;rw[T4,h3,vA hw hf h4 hi (by omega),CH]
 have iT:acc≠[]:=by
  obtain⟨Q,x,y,ha⟩:=Hn hg hw Qz h1;obtain⟨R,r1,r2⟩:=hf y (ha.oy hw);have Vh:R=Q:=kB hw (fI r1) ha.q r2 ha.yq;subst Vh;have:f y≠i:=λe=>by
   rw[e,hi] at r1;cases r1;exact ha.ne rfl
  exact List.ne_nil_of_mem (key (f y) R r1 this (oi ha.xp ha.yq ha.nx))
 have Aw:0<(acc.map fL).length:=by
  rw[Xh];exact abw.mpr iT
 have hb:dG (acc.map fL)<acc.length:=by
  have:=iV (λa b=>HT.lexLt ((acc.map fL).getD a []) ((acc.map fL).getD b [])) ((acc.map fL).length - 1);have:dG (acc.map fL)<=(acc.map fL).length - 1:=this;rw[Xh] at this Aw;omega
 have em:wa [.lst (acc.map pR)]=ae (pR acc[dG (acc.map fL)]):=by
  show (match lq (acc.map pR) with | some ks=>if 0<ks.length/\(ks.getD (dG ks) []).length<=lim then ae (tupI (ks.getD (dG ks) [])) else ag | none=>ag)=_;rw[yz];have eg:(acc.map fL).getD (dG (acc.map fL)) []=[acc[dG (acc.map fL)].1,acc[dG (acc.map fL)].2.1,(acc[dG (acc.map fL)].2.2:Int)]:=by
   rw[XG,Xv,Xi hb];rfl
  show (if 0<(acc.map fL).length/\((acc.map fL).getD (dG (acc.map fL)) []).length<=lim then ae (tupI ((acc.map fL).getD (dG (acc.map fL)) [])) else ag)=_;rw[eg,adY ⟨Aw,by show 3<=lim;decide⟩];rfl
 have ht:=Z3 hb;have ID:=CV hb;generalize acc[dG (acc.map fL)]=t at*;obtain⟨Q,q1,q2,q3,q4⟩:=back t ht;obtain⟨x,y,hx,hy,Ay⟩:=Hk q3;refine⟨t.2.2,Q,x,y,q1,⟨Qz,fI q1,λe=>q2 ?_,hx,hy,Ay⟩,?_,q3,λj' Q' U7 Qv U8=>?_⟩
 ·subst e;exact(pZ hw hi q1 hx hx).symm
 ·refine ba (ak (ρ':=HW bd (.lst ((ao bd W w).map cL)) i [] none none none) rfl (ak (bW (c8 (ds:=ks.map λk=> .tup [cD k, .int (g k)]) ?_ b5)) ?_))
  ·show (az 2 cR (aC (dV 0) (aC (dV 1) aN)) _>>=nE)=_;rw[(av (ds:=[brd bd, .lst ((ao bd W w).map cL)]) rfl rfl:az 2 cR (aC (dV 0) (aC (dV 1) aN)) _=_),es,ay,FZ]
  ·refine br ((aB (x:=pR t) (y:= .int 2) ((bY (xs:=[.lst (acc.map pR)]) rfl).trans em) rfl).trans rfl)
 ·have:=ID _ (key j' Q' U7 Qv U8);rw[q4] at this;unfold Ew at this;unfold Bt;simp only at this;omega
end
section
open Classical
variable{bd:List Str}{W w:Nat}
noncomputable def cu(bd:List Str)(V w:Nat):List Int:=(ao bd V w).map λP=>(P.length:Int)
theorem nR:∀l:List Int,nums (l.map D.int)=some l
 |[]=>rfl
 |x::r=>by
  show (nums (r.map D.int)).map _=_;rw[nR r];rfl
theorem DQ(hs:bd.length*W<64){δ:DE}{ρ:bb}(h:δ ρ=ae (.lst ((ao bd W w).map cL))):bB 0 (dD δ) ck (dA bq (aC (dV 0) aN)) ρ=ae (.lst ((cu bd W w).map D.int)):=by
 have hl:=eE (bd:=bd) (W:=W) (w:=w);refine bO (ds:=(ao bd W w).map cL) ?_ ?_ (by unfold cu;rw[Xh,Xh,cF];omega)
 ·show (δ ρ>>=lstM)=_;rw[h];rfl
 ·unfold cu;rw[Yn];refine c_ cL _ _ λP hP=>?_;rw[ib];show (ae (D.int ((P.map cD).length:Int))>>=λy=>ae (some y))=_;rw[Xh];rfl
theorem jg(hg:Brd bd W)(hw:Ways w):0<(ao bd W w).length:=by
 obtain⟨P,hP,_⟩:=lA hg hw (x:=(0,0)) ⟨hg.r1,hg.w1⟩;exact abc hP
theorem Gf(hg:Brd bd W)(hw:Ways w):kL [.lst ((cu bd W w).map D.int)]=ae (.int (dX (cu bd W w))):=by
 show (match nums ((cu bd W w).map D.int) with | some ns=>if 0<ns.length then ae (D.int (dX ns)) else ag | none=>ag)=_;rw[nR];exact adY (by unfold cu;rw[Xh];exact jg hg hw)
def Stop(bd:List Str)(W w least:Nat):Prop:=(ao bd W w).length=1\/∀P∈ao bd W w,least<=P.length
structure AX (bd:List Str) (W w least i j:Nat) (P Q:List Cell) (x y:Cell):Prop where
 hi:(ao bd W w)[i]? =some P
 hj:(ao bd W w)[j]? =some Q
 ad:Adj bd W w P Q x y
 fst:∀i' P',(ao bd W w)[i']? =some P'->P.length<=P'.length/\(i'<i->P.length<P'.length)
 lt:P.length<least
 pos:0<sh P Q
 bst:∀j' Q',(ao bd W w)[j']? =some Q'->j'≠i->0<sh P Q'->Bt (sh P Q) Q.length j (sh P Q') Q'.length j'
def AO(bd:List Str)(W w least:Nat)(HK:List Str):Prop:=∃i j P Q x y,AX bd W w least i j P Q x y/\HK=EE bd W P y/\bw [brd bd,iW w,iW least]=ae (brd HK)
theorem yx:∀{l:List Int}{i:Nat}{a:Int},l[i]? =some a->l.idxOf a<=i
 |[],_,_,h=>by cases h
 |b::l,0,a,h=>by
  cases h;simp[List.idxOf_cons]
 |b::l,i+1,a,h=>by
  have:=yx (l:=l) (i:=i) (a:=a) (by simpa using h);rw[List.idxOf_cons];cases b==a
  ·simp;omega
  ·simp
theorem DJ{Ps:List (List Cell)}{i:Nat}{P:List Cell}(h:Ps[i]? =some P):cE (.lst (Ps.map cL)) (.int (i:Int))=ae (cL P):=by
 show (match L2.atI (Ps.map cL) (i:Int) with | some d=>ae d | none=>ag)=_;rw[d7 (x:=cL P) (by rw[Xv,h];rfl)]
theorem kH(hg:Brd bd W)(hs:bd.length*W<64)(hw:Ways w)(least:Nat):(Stop bd W w least/\bw [brd bd,iW w,iW least]=ae .non)\/(¬Stop bd W w least/\∃HK,AO bd W w least HK):=by
 have W9:=eE (bd:=bd) (W:=W) (w:=w);have Aw:=jg hg hw;have VU:0<(cu bd W w).length:=by unfold cu;rw[Xh];exact Aw
 obtain⟨m1,m2⟩:=nP VU;have sH:Stop bd W w least↔((ao bd W w).length=1\/(least:Int)<=dX (cu bd W w)):=by
  refine or_congr_right ⟨λh=>?_,λh P hP=>?_⟩
  ·obtain⟨P,hP,e⟩:=XE.mp (show dX (cu bd W w)∈(ao bd W w).map λP=>(P.length:Int) from m1);rw[<-e];have:=h P hP;omega
  ·have:=m2 (P.length:Int) (XE.mpr ⟨P,hP,rfl⟩);omega
 let S:D:= .lst ((ao bd W w).map cL)
 let Z:D:= .lst ((cu bd W w).map D.int)
 have e3:az 2 d_ (aC (dV 0) (aC (dV 1) aN)) [fz (brd bd),fz (iW w),fz (iW least),none,none,none,none]=ae S:=(av (ds:=[brd bd,iW w]) rfl rfl).trans ((pE hg hs hw).trans (by rw[rF]));have UQ:dA bq (aC (dV 3) aN) [fz (brd bd),fz (iW w),fz (iW least),fz S,fz Z,none,none]=ae (.int ((ao bd W w).length:Int)):=by
  refine(bY (xs:=[S]) rfl).trans ?_;show ae (D.int (((ao bd W w).map cL).length:Int))=_;rw[Xh]
 have Tx:∀{x5 x6:Option Sl},dA kL (aC (dV 4) aN) [fz (brd bd),fz (iW w),fz (iW least),fz S,fz Z,x5,x6]=ae (.int (dX (cu bd W w))):=(bY (xs:=[Z]) rfl).trans (Gf hg hw);have p_:lS (bU (d2 iz (dA bq (aC (dV 3) aN)) (dC (.int 1)))) (bU (d2 Qt (dA kL (aC (dV 4) aN)) (dV 2))) [fz (brd bd),fz (iW w),fz (iW least),fz S,fz Z,none,none]=ae (decide (Stop bd W w least)):=by
  refine(t6 (p:=decide ((ao bd W w).length=1)) (q:=decide ((least:Int)<=dX (cu bd W w))) (dF ((aB UQ (y:= .int 1) rfl).trans ?_)) (dF ((aB Tx (y:=iW least) rfl).trans rfl))).trans ?_
  ·rw[eq_int];congr 2;rw[Zd,beq_iff_eq,adZ];omega
  ·congr 1;rw[Zd,Bool.or_eq_true,adZ,adZ,adZ];exact sH.symm
 have top:∀{d:D},aI (iP (lS (bU (d2 iz (dA bq (aC (dV 3) aN)) (dC (.int 1)))) (bU (d2 Qt (dA kL (aC (dV 4) aN)) (dV 2)))) (bI (dC .non)) dE) (aI (bg 5 (dM iC yw (dV 4) (aC (dA kL (aC (dV 4) aN)) aN))) (aI (bg 6 (az 3 eY (aC (dV 0) (aC (dV 3) (aC (dV 5) aN))))) (bI (az 3 cS (aC (dV 0) (aC (d2 cE (dV 3) (dV 5)) (aC (az 2 bh (aC (dV 0) (aC (d2 cE (d2 cE (dV 3) (dV 6)) (dC (.int 0))) aN))) aN))))))) [fz (brd bd),fz (iW w),fz (iW least),fz S,fz Z,none,none]=ae (.rt d)->bw [brd bd,iW w,iW least]=ae d:=λ{d} h=>
  ba (ak (ρ':=[fz (brd bd),fz (iW w),fz (iW least),fz S,none,none,none]) ((aG e3).trans rfl) (ak (ρ':=[fz (brd bd),fz (iW w),fz (iW least),fz S,fz Z,none,none]) ((aG (DQ hs (δ:=dV 3) rfl)).trans rfl) h))
 by_cases hS:Stop bd W w least
 ·rw[ad1 hS] at p_;exact .inl ⟨hS,top (hJ (eQ p_ rfl))⟩
 ·rw[ad2 hS] at p_;refine .inr ⟨hS,?_⟩;have eM:(cu bd W w).idxOf (dX (cu bd W w))<(cu bd W w).length:=aa0.mpr m1;obtain⟨P,hP,Om⟩:∃P,(ao bd W w)[(cu bd W w).idxOf (dX (cu bd W w))]? =some P/\dX (cu bd W w)=(P.length:Int):=by
   have e:(cu bd W w)[(cu bd W w).idxOf (dX (cu bd W w))]? =some (dX (cu bd W w)):=by rw[Xi eM,abK eM]
   have e2:((ao bd W w).map λP=>(P.length:Int))[(cu bd W w).idxOf (dX (cu bd W w))]? =some (dX (cu bd W w)):=e;rw[Xv] at e2;cases q:(ao bd W w)[(cu bd W w).idxOf (dX (cu bd W w))]? with
   |none=>rw[q] at e2;cases e2
   |some P=>rw[q] at e2;exact⟨P,rfl,(XT e2).symm⟩
  have h1:(ao bd W w).length≠1:=λq=>hS (.inl q);have RT:P.length<least:=by
   have:¬(least:Int)<=dX (cu bd W w):=λq=>hS (sH.mpr (.inr q));omega
  obtain⟨j,Q,x,y,hQ,hA,em,uh,QC⟩:=DW hg hs hw hP h1;obtain⟨m,n1,_,n3,r,hr⟩:=fe hw hA.q;have QH:lt bd y=lt bd m:=((iH hw hA.q n1).mp hA.yq).letter hw;have TR:P.length<64:=by
   obtain⟨m',p1,_,p3,_⟩:=fe hw hA.p;have V9:RiseC P:=by rw[<-iI hw hA.p hA.xp];exact(cw hw (hA.ox hw)).rise
   have:=lO (bd:=bd) (W:=W) (RiseC.nodup V9) λz hz=>dj hw P hA.p z hz;omega
  refine⟨EE bd W P y,_,j,P,Q,x,y,⟨hP,hQ,hA,λi' P' h'=>?_,RT,uh,QC⟩,rfl,top ?_⟩
  ·have h2:(P'.length:Int)∈cu bd W w:=XE.mpr ⟨P',fI h',rfl⟩;have h3:=m2 _ h2;refine⟨by omega,λeM=>?_⟩;by_cases e:P'.length=P.length
   ·have h4:(cu bd W w)[i']? =some (dX (cu bd W w)):=by
     unfold cu;rw[Xv,h',<-show cu bd W w=(ao bd W w).map λP=>(P.length:Int) from rfl,Om,<-e];rfl
    have:=yx h4;omega
   ·omega
  refine ak (c9 p_ rfl) ?_;refine ak (ρ':=[fz (brd bd),fz (iW w),fz (iW least),fz S,fz Z,fz (.int (((cu bd W w).idxOf (dX (cu bd W w)):Nat):Int)),none]) ((aG ?_).trans rfl) ?_
  ·show (if iC Z then(aC (dA kL (aC (dV 4) aN)) aN) _>>=λds=>yw Z ds else ag)=_;rw[adY (show iC Z=true from rfl),aW Tx (xs:=[]) rfl,ay];show (match nums ((cu bd W w).map D.int) with | some ns=>if ns.contains (dX (cu bd W w)) then ae (D.int (ns.idxOf (dX (cu bd W w)):Nat)) else ag | none=>ag)=_;rw[nR];exact adY (by simpa using m1)
  refine ak (ρ':=[fz (brd bd),fz (iW w),fz (iW least),fz S,fz Z,fz (.int (((cu bd W w).idxOf (dX (cu bd W w)):Nat):Int)),fz (.int (j:Int))]) ((aG ((av (ds:=[brd bd,S, .int (((cu bd W w).idxOf (dX (cu bd W w)):Nat):Int)]) rfl rfl).trans em)).trans rfl) ?_;have e1:d2 cE (dV 3) (dV 5) [fz (brd bd),fz (iW w),fz (iW least),fz S,fz Z,fz (.int (((cu bd W w).idxOf (dX (cu bd W w)):Nat):Int)),fz (.int (j:Int))]=ae (cL P):=(aB (x:=S) rfl rfl).trans (DJ hP);have e2:d2 cE (d2 cE (dV 3) (dV 6)) (dC (.int 0)) [fz (brd bd),fz (iW w),fz (iW least),fz S,fz Z,fz (.int (((cu bd W w).idxOf (dX (cu bd W w)):Nat):Int)),fz (.int (j:Int))]=ae (cD m):=by
   refine(aB (x:=cL Q) (y:= .int ((0:Nat):Int)) ((aB (x:=S) rfl rfl).trans (DJ hQ)) rfl).trans (F4 ?_);rw[hr];rfl
  refine br ((av (ds:=[brd bd,cL P,sg (lt bd m)]) (aW rfl (aW e1 (aW ((av (ds:=[brd bd,cD m]) (aW rfl (aW e2 rfl)) rfl).trans (fN hg n3)) rfl))) rfl).trans ((ot hg (by omega) _).trans ?_));rw[<-QH]
def Run(W w least:Nat):List Str->List (List Str)->Prop
 |b,[]=>Stop b W w least
 |b,b'::r=>AO b W w least b'/\Run W w least b' r
theorem Ge(hG:Good bd W){P:List Cell}{y:Cell}(hy:On bd.length W y):Good (EE bd W P y) W:=Eh hG (BH hG.brd hy.1 hy.2)
theorem i9(hG:Good bd W):bd.length*W<64:=by
 have:=Zo hG.r5 hG.w5;omega
theorem AO.good{least:Nat}{b':List Str}(h:AO bd W w least b')(hG:Good bd W)(hw:Ways w):Good b' W/\b'.length=bd.length/\(ao b' W w).length<(ao bd W w).length:=by
 obtain⟨_,_,P,Q,x,y,hA,rfl,_⟩:=h;exact⟨Ge hG (hA.ad.oy hw),kz,hA.ad.fewer hw⟩
abbrev NL(b0:D)(w least:Nat)(acc:List (List Str))(d:D):bb:=[fz b0,fz (iW w),fz (iW least),some (.ow (.lst (acc.map brd))),fz d]
theorem BG{b0:D}{least:Nat}{acc:List (List Str)}{b:List Str}{d:D}(ha:acc.length<4000)(e:bw [brd b,iW w,iW least]=ae d):Rf (NL b0 w least acc (brd b))=ae (.nx (NL b0 w least (acc++[b]) d)):=by
 refine ak (ρ':=NL b0 w least (acc++[b]) (brd b)) ?_ ((aG ((av (ds:=[brd b,iW w,iW least]) rfl rfl).trans e)).trans rfl);show (if (acc.map brd).length<lim then ae (Out.nx _) else ag)=_;rw[adY (by rw[Xh,cF];omega)];exact ad7 (λl=>ae (Out.nx [fz b0,fz (iW w),fz (iW least),some (.ow (.lst l)),fz (brd b)])) (Yv (l₁:=acc) (l₂:=[b]) (f:=brd)).symm
theorem H_(hw:Ways w){b0:D}{least:Nat}:∀(n:Nat) (b:List Str) (acc:List (List Str)) (N:Nat),Good b W->(ao b W w).length<=n->acc.length+n<4000->n+2<=N->
 ∃r,Run W w least b r/\eG (bU (d2 (vI true) (dV 4) (dC .non))) Rf N (NL b0 w least acc (brd b))=ae (.nx (NL b0 w least (acc++b::r) .non)):=by
 intro n;induction n with
 |zero=>
  intro b acc N hG hp ha hN;have:=jg hG.brd hw;omega
 |succ n ih=>
  intro b acc N hG hp ha hN;obtain⟨N,rfl⟩:∃k,N=k+2:=⟨N - 2,by omega⟩
  rcases kH hG.brd (i9 hG) hw least with⟨hS,e⟩ | ⟨_,b',Ro⟩
  ·exact⟨[],hS,iS rfl (BG (by omega) e) (mZ rfl)⟩
  ·obtain⟨g1,g2,g3⟩:=Ro.good hG hw;obtain⟨r,r1,r2⟩:=ih b' (acc++[b]) (N+1) g1 (by omega) (by rw[Xq];simp;omega) (by omega);obtain⟨_,_,_,_,_,_,_,_,e⟩:=id Ro;refine⟨b'::r,⟨Ro,r1⟩,iS rfl (BG (by omega) e) (r2.trans ?_)⟩;rw[Y7];rfl
theorem sJ(hG:Good bd W)(hw:Ways w)(least:Nat):∃r,Run W w least bd r/\cY [brd bd,iW w,iW least]=ae (.lst ((bd::r).map brd)):=by
 have hl:=eE (bd:=bd) (W:=W) (w:=w);have hs:=i9 hG;obtain⟨r,r1,r2⟩:=H_ hw (b0:=brd bd) (least:=least) 64 bd [] lim hG (by omega) (by simp) (by rw[cF];decide);refine⟨r,r1,ba (ak (ρ':=[fz (brd bd),fz (iW w),fz (iW least),some (.ow (.lst [])),none]) rfl (ak (ρ':=NL (brd bd) w least [] (brd bd)) rfl (ak (bW r2) ?_)))⟩;rfl
theorem nQ(hg:Brd bd W)(hw:Ways w){least:Nat}(h1:1<=least)(h2:least<=64):a_ [brd bd,iW w,iW least]=ae .non:=by
 refine CB (ρ:=[fz (brd bd),fz (iW w),fz (iW least)]) (ak (fY ((av (ds:=[brd bd]) rfl rfl).trans hg.nb)) (ak (fY ((av (ds:=[iW w]) rfl rfl).trans hw.nw)) (c9 (t6 (p:=false) (q:=false) (vB (b:=true) (jJ ((av (ds:=[iW least]) rfl rfl).trans ((Eu (d:=iW least) trivial).trans rfl)))) (vB (b:=true) (dF ?_))) rfl)));show (if decide ((1:Int)<=(least:Int))=true then ae (D.bl (decide ((least:Int)<=64))) else ae (D.bl false))=_;rw[adY (by rw[adZ];omega),ad1 (by omega)]
theorem xq(hG:Good bd W)(hw:Ways w){least:Nat}(h1:1<=least)(h2:least<=64){r:List (List Str)}(e:cY [brd bd,iW w,iW least]=ae (.lst ((bd::r).map brd))):eD [brd bd,iW w,iW least]=ae (.lst ((bd::r).map brd)):=
 ba (ak (fY ((av (ds:=[brd bd,iW w,iW least]) rfl rfl).trans (nQ hG.brd hw h1 h2))) (br ((av (ds:=[brd bd,iW w,iW least]) rfl rfl).trans e)))
theorem jx(hg:Brd bd W)(hw:Ways w){least:Nat}(h1:1<=least)(h2:least<=64){d:D}(e:bw [brd bd,iW w,iW least]=ae d):cK [brd bd,iW w,iW least]=ae d:=
 ba (ak (fY ((av (ds:=[brd bd,iW w,iW least]) rfl rfl).trans (nQ hg hw h1 h2))) (br ((av (ds:=[brd bd,iW w,iW least]) rfl rfl).trans e)))
theorem B_{r:List (List Str)}{l:List Str}(h:r.getLast? =some l):cE (.lst (r.map brd)) (.int (-1))=ae (brd l):=by
 obtain⟨q,rfl⟩:=List.getLast?_eq_some_iff.mp h;rw[Yv];exact IT ..
theorem AS(hG:Good bd W)(hw:Ways w){least:Nat}(h1:1<=least)(h2:least<=64){r:List (List Str)}{l:List Str}(e:cY [brd bd,iW w,iW least]=ae (.lst ((bd::r).map brd)))(hl:(bd::r).getLast? =some l):gH [brd bd,iW w,iW least]=ae (brd l):=
 ba (ak (fY ((av (ds:=[brd bd,iW w,iW least]) rfl rfl).trans (nQ hG.brd hw h1 h2))) (br ((aB (x:= .lst ((bd::r).map brd)) (y:= .int (-1)) ((av (ds:=[brd bd,iW w,iW least]) rfl rfl).trans e) rfl).trans (B_ hl))))
end
theorem mQ{δ:DE}{ρ:bb}{n:Nat}(h:δ ρ=bR n):rS δ ρ=bR n:=by
 unfold rS;rw[h];rfl
theorem mS{a b:DS}{ρ:bb}{n:Nat}(h:a ρ=bR n):aI a b ρ=bR n:=by
 unfold aI;rw[h];rfl
def jB(n:Nat):D:= .tup [.str "refused", .int (n:Int)]
def Kl(m:M D):M D:=match m with
 |some (.ex n)=>noex (KP n)
 |r=>r
theorem xx{n:Nat}{τ:DS}{ds:List D}{m:M D}(h:τ (ds.map (λd=>some (Sl.fz d))++XC (n - ds.length) none)=(m>>=λd=>ae (Out.rt d))):bX n (Hi τ λk=>noex (KP k)) ds=Kl m:=by
 unfold bX Hi;rw[h]
 match m with
 |none=>rfl
 |some (.ok a)=>rfl
 |some (.ex n)=>rfl
theorem sV{d:D}(h:Plain2 d)(hb:ni d=false):eZ [d]=bR 0:=by
 refine jk (eQ (vB (b:=false) (jJ ((av (ds:=[d]) rfl rfl).trans ((l7 h).trans (by rw[hb]))))) rfl)
section
open Classical
variable{bd:List Str}{W w:Nat}
theorem N4{α β:Type}{m:M α}{x:α}{f:α->M β}{r:M β}(h:m=ae x)(h2:f x=r):(m>>=f)=r:=by
 rw[h];exact h2
def HV(P Q:List Cell)(n:Nat)(x3 x4:Option Sl):bb:=[fz (cL P),fz (cL Q),fz (.int (n:Int)),x3,x4]
theorem Jd{P Q:List Cell}(hQ:Q.length<=4096){n:Nat}{x:Cell}:Sw (HV P Q n (fz (.int (x.1:Int))) (fz (.int (x.2:Int))))=ae (.nx (HV P Q (n+(Q.filter λy=>eS 4 x y).length) none none)):=by
 have hc:bB 0 (dD (dV 1)) (bU (d2 iz (d2 dN (dA nh (aC (d2 jz (d2 aU (dV 0) (dC (.int 0))) (dV 4)) aN)) (dA nh (aC (d2 jz (d2 aU (dV 0) (dC (.int 1))) (dV 5)) aN))) (dC (.int 1)))) (dV 0) (HV P Q n (fz (.int (x.1:Int))) (fz (.int (x.2:Int))))=ae (cL (Q.filter λy=>eS 4 x y)):=by
  refine bO (QQ rfl) (nj cD (λy=>eS 4 x y) Q λy hy=>?_) (by rw[Xh];exact X2 (Yw ..) hQ);rw[E5];have:bU (d2 iz (d2 dN (dA nh (aC (d2 jz (d2 aU (dV 0) (dC (.int 0))) (dV 4)) aN)) (dA nh (aC (d2 jz (d2 aU (dV 0) (dC (.int 1))) (dV 5)) aN))) (dC (.int 1))) (fz (cD y)::HV P Q n (fz (.int (x.1:Int))) (fz (.int (x.2:Int))))=ae (eS 4 x y):=by
   have e1:dA nh (aC (d2 jz (d2 aU (dV 0) (dC (.int 0))) (dV 4)) aN) (fz (cD y)::HV P Q n (fz (.int (x.1:Int))) (fz (.int (x.2:Int))))=ae (.int (fw y.1 x.1:Int)):=pV y.1 x.1;have e2:dA nh (aC (d2 jz (d2 aU (dV 0) (dC (.int 1))) (dV 5)) aN) (fz (cD y)::HV P Q n (fz (.int (x.1:Int))) (fz (.int (x.2:Int))))=ae (.int (fw y.2 x.2:Int)):=pV y.2 x.2;refine dF ((aB (x:= .int ((fw y.1 x.1:Int)+(fw y.2 x.2:Int))) (y:= .int 1) ((aB e1 e2).trans rfl) rfl).trans ?_);rw[eq_int,fc];congr 2;show _=decide (fw y.1 x.1+fw y.2 x.2=1);rw[Zd,beq_iff_eq,adZ];omega
  rw[this];cases eS 4 x y<;>rfl
 refine(aQ (aG (d:= .int ((n+(Q.filter λy=>eS 4 x y).length:Nat):Int)) ((aB (x:= .int (n:Int)) rfl ((bY (aW hc rfl)).trans (vZ _))).trans rfl))).trans rfl
theorem Cb{P Q:List Cell}(hQ:Q.length<=4096):∀(l:List Cell) (n:Nat),forL (jy [3,4]) Sw (l.map cD) (HV P Q n none none)=ae (.nx (HV P Q (n+sh l Q) none none))
 |[],n=>rfl
 |x::l,n=>by
  refine(bF (ρ1:=HV P Q n (fz (.int (x.1:Int))) (fz (.int (x.2:Int)))) rfl (Jd hQ)).trans ((Cb hQ l _).trans ?_);rw[Nat.add_assoc];rfl
theorem qL{P Q:List Cell}(hQ:Q.length<=4096):eX [cL P,cL Q]=ae (.int (sh P Q:Int)):=by
 have:=Cb (P:=P) hQ P 0;rw[abo] at this;exact ba (ak (ρ':=HV P Q 0 none none) rfl (ak (bW (c8 (QQ rfl) this)) rfl))
noncomputable def HX(bd:List Str)(W w:Nat):List (Nat×List Cell):=(ao bd W w).zipIdx.map λq:List Cell×Nat=>(q.2,q.1)
theorem jc{q:Nat×List Cell}:q∈HX bd W w↔(ao bd W w)[q.1]? =some q.2:=by
 unfold HX;rw[XE];constructor
 ·rintro⟨⟨P,i⟩,h,rfl⟩;exact ZM.mp h
 ·intro h;exact⟨(q.2,q.1),ZM.mpr h,rfl⟩
theorem zi:(HX bd W w).Pairwise λa b=>a.1<b.1:=by
 unfold HX;rw[Zt];have:((ao bd W w).zipIdx.map (·.2)).Pairwise (· < ·):=by
  rw[List.zipIdx_map_snd];exact aa6
 exact Zt.mp this
theorem I_:(HX bd W w).length=(ao bd W w).length:=by simp[HX]
theorem yg{i:Nat}{ρ:bb}(h:dV i ρ=ae (.lst ((ao bd W w).map cL))):(aC (dV i) aN ρ>>=oB)=ae ((HX bd W w).map KC):=
 N4 (aW h rfl) (by
  show ae (((ao bd W w).map cL).mapIdx λi d=>D.tup [.int (i:Int),d])=_;rw[uB];rfl)
theorem tZ{α:Type}{f:D->M (Option D)}(enc g:α->D)(p:α->Bool):∀xs:List α,(∀x∈xs,f (enc x)=ae (if p x then some (g x) else none))->d9 f (xs.map enc)=ae ((xs.filter p).map g)
 |[],_=>rfl
 |x::xs,h=>by
  rw[Xp,fC,h x (Xk ..),tZ enc g p xs λy hy=>h y (Xj _ hy),YG];cases p x<;>rfl
noncomputable def CI(bd:List Str)(W w least:Nat):List (Nat×List Cell):=(HX bd W w).filter λq=>decide (q.2.length<least)
abbrev nD(q:Nat×List Cell):D:= .int (q.1:Int)
def oR(bd:List Str)(W w least:Nat)(x3 x4 x5 x6 x7 x8 x9 x10 WW WX WY:Option Sl):bb:=[fz (brd bd),fz (iW w),fz (iW least),x3,x4,x5,x6,x7,x8,x9,x10,WW,WX,WY]
noncomputable def iG(bd:List Str)(W w:Nat):Option Sl:=fz (.lst ((ao bd W w).map cL))
theorem vY{i:Nat}{P:List Cell}{j k:Nat}{ρ:bb}(hi:(ao bd W w)[i]? =some P)(h1:dV j ρ=ae (.lst ((ao bd W w).map cL)))(h2:dV k ρ=ae (.int (i:Int))):dA bq (aC (d2 cE (dV j) (dV k)) aN) ρ=ae (.int (P.length:Int)):=
 (bY (aW ((aB h1 h2).trans (DJ hi)) rfl)).trans (vZ _)
structure Ow (l:List (Nat×List Cell)) (o:Nat×List Cell):Prop where
 mem:o∈l
 le:∀e∈l,o.2.length<=e.2.length/\(e.1<o.1->o.2.length<e.2.length)
theorem wI{least:Nat}{x4:Option Sl}:∀(l d:List (Nat×List Cell)) (o:Nat×List Cell),(∀q∈d++l,(ao bd W w)[q.1]? =some q.2)->(d++l).Pairwise (λa b=>a.1<b.1)->Ow d o->
 ∃o',Ow (d++l) o'/\forL (putN 6) SI (l.map nD) (oR bd W w least (iG bd W w) x4 (fz (nD o)) none none none none none none none none)=ae (.nx (oR bd W w least (iG bd W w) x4 (fz (nD o')) none none none none none none none none))
 |[],d,o,_,_,h=>⟨o,by rw[X0];exact h,rfl⟩
 |q::l,d,o,hm,hp,h=>by
  have ho:=hm o (YC _ h.mem);have hq:=hm q (X_ _ (Xk ..));have e:d++q::l=(d++[q])++l:=by simp
  rw[e] at hm hp;have eM:∀e∈d,e.1<q.1:=λe he=>by
   have:=(Zr.mp (Zr.mp hp).1).2.2 e he q (by simp);exact this
  have p_:bU (d2 HQ (dA bq (aC (d2 cE (dV 3) (dV 6)) aN)) (dA bq (aC (d2 cE (dV 3) (dV 5)) aN))) (oR bd W w least (iG bd W w) x4 (fz (nD o)) (fz (nD q)) none none none none none none none)=ae (decide (q.2.length<o.2.length)):=by
   refine dF ((aB (vY hq rfl rfl) (vY ho rfl rfl)).trans ?_);show ae (D.bl (decide ((q.2.length:Int)<(o.2.length:Int))))=_;congr 2;exact ad5.mpr (by omega)
  by_cases hc:q.2.length<o.2.length
  ·rw[ad1 hc] at p_;obtain⟨o',o1,o2⟩:=wI l (d++[q]) q hm hp ⟨by simp,λe he=>by
    rcases X4.mp he with h1 | h1
    ·have:=(h.le e h1).1;omega
    ·rw[show e=q by simpa using h1];omega⟩
   exact⟨o',by rw[e];exact o1,(bF (ρ1:=oR bd W w least (iG bd W w) x4 (fz (nD o)) (fz (nD q)) none none none none none none none) (ρ2:=oR bd W w least (iG bd W w) x4 (fz (nD q)) none none none none none none none none) rfl ((aQ (eQ p_ rfl)).trans rfl)).trans o2⟩
  ·rw[ad2 hc] at p_;obtain⟨o',o1,o2⟩:=wI l (d++[q]) o hm hp ⟨YC _ h.mem,λe he=>by
    rcases X4.mp he with h1 | h1
    ·exact h.le e h1
    ·have:=eM o h.mem;rw[show e=q by simpa using h1];omega⟩
   exact⟨o',by rw[e];exact o1,(bF (ρ1:=oR bd W w least (iG bd W w) x4 (fz (nD o)) (fz (nD q)) none none none none none none none) (ρ2:=oR bd W w least (iG bd W w) x4 (fz (nD o)) none none none none none none none none) rfl ((aQ (c9 p_ rfl)).trans rfl)).trans o2⟩
end
section
open Classical
variable{bd:List Str}{W w:Nat}
def bD(P:List Cell):Option (Nat×List Cell)->D
 |none=> .non
 |some q=> .tup [.tup [.int (sh P q.2:Int), .int (q.2.length:Int)], .int (q.1:Int)]
def zX(P:List Cell)(i:Nat)(q:Nat×List Cell):Prop:=q.1≠i/\0<sh P q.2
def Bs(P:List Cell)(i:Nat)(l:List (Nat×List Cell)):Option (Nat×List Cell)->Prop
 |none=>∀e∈l,¬zX P i e
 |some q=>q∈l/\zX P i q/\∀e∈l,zX P i e->Bt (sh P q.2) q.2.length q.1 (sh P e.2) e.2.length e.1
theorem Rm(a b c d:Nat):An (.tup [.int (a:Int), .int (b:Int)]) (.tup [.int (c:Int), .int (d:Int)])=ae (.bl (decide (c<a\/(c=a/\d<b)))):=by
 show ae (D.bl (HT.lexLt [(c:Int),(d:Int)] [(a:Int),(b:Int)]))=_;congr 2;rw[Zd,adZ,HT.lexLt_cons,HT.lexLt_cons,HT.lexLt_nil_nil];by_cases h1:(c:Int)=(a:Int)
 ·rw[adY h1];by_cases h2:(d:Int)=(b:Int)
  ·rw[adY h2];simp;omega
  ·rw[ad0 h2,adZ];omega
 ·rw[ad0 h1,adZ];omega
theorem Ie(hw:Ways w)(hs:bd.length*W<64){least i:Nat}{P:List Cell}(hi:(ao bd W w)[i]? =some P){x4:Option Sl}{q:Nat×List Cell}(hq:(ao bd W w)[q.1]? =some q.2){d:List (Nat×List Cell)}{b:Option (Nat×List Cell)}(hb:Bs P i d b)(eM:∀e∈d,e.1<q.1):
 ∃b',Bs P i (d++[q]) b'/\Qo (oR bd W w least (iG bd W w) x4 (fz (.int (i:Int))) (fz (.int (q.1:Int))) (fz (bD P b)) (fz (cL q.2)) none none none none none)=ae (.nx (oR bd W w least (iG bd W w) x4 (fz (.int (i:Int))) none (fz (bD P b')) none none none none none none)):=by
 have V8:q.2.length<=4096:=by
  have:=lO (bd:=bd) (W:=W) (lB hw (fI hq)).nodup λz hz=>dj hw _ (fI hq) z hz;omega
 have e9:dA aY (aC (az 2 eX (aC (d2 cE (dV 3) (dV 5)) (aC (dV 8) aN))) (aC (dA bq (aC (dV 8) aN)) aN)) (oR bd W w least (iG bd W w) x4 (fz (.int (i:Int))) (fz (.int (q.1:Int))) (fz (bD P b)) (fz (cL q.2)) none none none none none)=ae (.tup [.int (sh P q.2:Int), .int (q.2.length:Int)]):=
  (bY (aW ((av (ds:=[cL P,cL q.2]) (aW ((aB (x:= .lst ((ao bd W w).map cL)) (y:= .int (i:Int)) rfl rfl).trans (DJ hi)) rfl) rfl).trans (qL V8)) (aW ((bY (xs:=[cL q.2]) rfl).trans (vZ _)) rfl))).trans rfl
 have s1:=(aG (i:=9) e9).trans rfl;have t1:∀{x9:Option Sl},bU (d2 ny (dV 6) (dV 5)) (oR bd W w least (iG bd W w) x4 (fz (.int (i:Int))) (fz (.int (q.1:Int))) (fz (bD P b)) (fz (cL q.2)) x9 none none none none)=ae (decide (q.1≠i)):=λ{x9}=>by
  refine dF ((aB (x:= .int (q.1:Int)) (y:= .int (i:Int)) rfl rfl).trans ((Pc _ _).trans ?_));congr 2;rw[Zd,adZ,Bool.not_eq_true',ad6]
 have t2:bU (d2 Qu (d2 aU (dV 9) (dC (.int 0))) (dC (.int 0))) (oR bd W w least (iG bd W w) x4 (fz (.int (i:Int))) (fz (.int (q.1:Int))) (fz (bD P b)) (fz (cL q.2)) (fz (.tup [.int (sh P q.2:Int), .int (q.2.length:Int)])) none none none none)=ae (decide (0<sh P q.2)):=
  dF ((aB (x:= .int (sh P q.2:Int)) (y:= .int ((0:Nat):Int)) ((aB (x:= .tup [.int (sh P q.2:Int), .int (q.2.length:Int)]) (y:= .int 0) rfl rfl).trans rfl) rfl).trans (Pb _ _))
 have keep:(¬zX P i q\/(zX P i q/\∃r,b=some r/\¬(sh P r.2<sh P q.2\/(sh P r.2=sh P q.2/\r.2.length<q.2.length))))->Bs P i (d++[q]) b:=λh=>by
  cases b with
  |none=>
   have h:¬zX P i q:=h.resolve_right λ⟨_,r,e,_⟩=>(by cases e)
   intro e he;rcases X4.mp he with h1 | h1
   ·exact hb e h1
   ·rw[show e=q by simpa using h1];exact h
  |some r=>
   refine⟨YC _ hb.1,hb.2.1,λe he hc=>?_⟩;rcases X4.mp he with h1 | h1
   ·exact hb.2.2 e h1 hc
   ·rw[show e=q by simpa using h1] at hc⊢;rcases h with h | ⟨_,r',e',h⟩
    ·exact ad3 hc h
    ·cases e';have:=eM r hb.1;unfold Bt;omega
 by_cases c1:q.1≠i
 ·rw[ad1 c1] at t1;by_cases c2:0<sh P q.2
  ·rw[ad1 c2] at t2;have set:bU (d2 An (dV 9) (d2 aU (dV 7) (dC (.int 0)))) (oR bd W w least (iG bd W w) x4 (fz (.int (i:Int))) (fz (.int (q.1:Int))) (fz (bD P b)) (fz (cL q.2)) (fz (.tup [.int (sh P q.2:Int), .int (q.2.length:Int)])) none none none none)=ae true\/b=none->Qo (oR bd W w least (iG bd W w) x4 (fz (.int (i:Int))) (fz (.int (q.1:Int))) (fz (bD P b)) (fz (cL q.2)) none none none none none)=ae (.nx (oR bd W w least (iG bd W w) x4 (fz (.int (i:Int))) none (fz (bD P (some q))) none none none none none none)):=λh=>by
    refine(aQ (ak s1 (eQ (jI (p:=true) (q:=true) t1 (jI (p:=true) (q:=true) t2 ?_)) ((aG (d:=bD P (some q)) rfl).trans rfl)))).trans rfl;rcases h with h | rfl
    ·cases b with
     |none=>exact Kv (dF rfl)
     |some r=>exact(t6 (p:=false) (q:=true) (dF rfl) h).trans rfl
    ·exact Kv (dF rfl)
   cases b with
   |none=>
    refine⟨some q,⟨by simp,⟨c1,c2⟩,λe he hc=>?_⟩,set (.inr rfl)⟩;rcases X4.mp he with h1 | h1
    ·exact ad3 hc (hb e h1)
    ·rw[show e=q by simpa using h1];unfold Bt;omega
   |some r=>
    have tg:bU (d2 An (dV 9) (d2 aU (dV 7) (dC (.int 0)))) (oR bd W w least (iG bd W w) x4 (fz (.int (i:Int))) (fz (.int (q.1:Int))) (fz (bD P (some r))) (fz (cL q.2)) (fz (.tup [.int (sh P q.2:Int), .int (q.2.length:Int)])) none none none none)=ae (decide (sh P r.2<sh P q.2\/(sh P r.2=sh P q.2/\r.2.length<q.2.length))):=
     dF ((aB (x:= .tup [.int (sh P q.2:Int), .int (q.2.length:Int)]) (y:= .tup [.int (sh P r.2:Int), .int (r.2.length:Int)]) rfl rfl).trans (Rm _ _ _ _))
    by_cases c3:sh P r.2<sh P q.2\/(sh P r.2=sh P q.2/\r.2.length<q.2.length)
    ·rw[ad1 c3] at tg;refine⟨some q,⟨by simp,⟨c1,c2⟩,λe he hc=>?_⟩,set (.inl tg)⟩;rcases X4.mp he with h1 | h1
     ·have:=hb.2.2 e h1 hc;unfold Bt at*;omega
     ·rw[show e=q by simpa using h1];unfold Bt;omega
    ·rw[ad2 c3] at tg;exact⟨some r,keep (.inr ⟨⟨c1,c2⟩,r,rfl,c3⟩),(aQ (ak s1 (c9 (jI (p:=true) (q:=false) t1 (jI (p:=true) (q:=false) t2 (t6 (p:=false) (q:=false) (dF rfl) tg))) rfl))).trans rfl⟩
  ·rw[ad2 c2] at t2;exact⟨b,keep (.inl λh=>c2 h.2),(aQ (ak s1 (c9 (jI (p:=true) (q:=false) t1 (E6 t2)) rfl))).trans rfl⟩
 ·rw[ad2 c1] at t1;exact⟨b,keep (.inl λh=>c1 h.1),(aQ (ak s1 (c9 (E6 t1) rfl))).trans rfl⟩
theorem BN(hw:Ways w)(hs:bd.length*W<64){least i:Nat}{P:List Cell}(hi:(ao bd W w)[i]? =some P){x4:Option Sl}:∀(l d:List (Nat×List Cell)) (b:Option (Nat×List Cell)),(∀q∈l,(ao bd W w)[q.1]? =some q.2)->(d++l).Pairwise (λa b=>a.1<b.1)->Bs P i d b->
 ∃b',Bs P i (d++l) b'/\forL (jy [6,8]) Qo (l.map KC) (oR bd W w least (iG bd W w) x4 (fz (.int (i:Int))) none (fz (bD P b)) none none none none none none)=ae (.nx (oR bd W w least (iG bd W w) x4 (fz (.int (i:Int))) none (fz (bD P b')) none none none none none none))
 |[],d,b,_,_,h=>⟨b,by rw[X0];exact h,rfl⟩
 |q::l,d,b,hm,hp,h=>by
  have e:d++q::l=(d++[q])++l:=by simp
  rw[e] at hp;obtain⟨b1,a1,a2⟩:=Ie hw hs hi (x4:=x4) (least:=least) (hm q (Xk ..)) h λe he=>(Zr.mp (Zr.mp hp).1).2.2 e he q (by simp);obtain⟨b2,c1,c2⟩:=BN hw hs hi (x4:=x4) (least:=least) l (d++[q]) b1 (λz hz=>hm z (Xj _ hz)) hp a1;exact⟨b2,by rw[e];exact c1,(bF rfl a2).trans c2⟩
def Bg(bd:List Str)(W:Nat)(P:List Cell)(c r:Nat):Str:=zV ((XQ W).map λj=>if (r,j)∈P then c else at2 bd r j)
theorem J8(hg:Brd bd W){least i c r:Nat}(hr:r<bd.length){P:List Cell}(hi:(ao bd W w)[i]? =some P){x4 x7 x10:Option Sl}{acc:List Str}(ha:acc.length<=100):
 SV (oR bd W w least (iG bd W w) x4 (fz (.int (i:Int))) none x7 (fz (.int (r:Int))) none x10 (fz (sg c)) (fz (brd acc)) none)=ae (.nx (oR bd W w least (iG bd W w) x4 (fz (.int (i:Int))) none x7 none none x10 (fz (sg c)) (fz (brd (acc++[Bg bd W P c r]))) none)):=by
 have w8:=hg.w8;have cm:bB 0 (λρ=>(aC (dA bq (aC (d2 aU (dV 0) (dC (.int 0))) aN)) aN) ρ>>=eO) ck (HM (bU (d2 (Ap false) (dA aY (aC (dV 9) (aC (dV 0) aN))) (d2 cE (dV 4) (dV 6)))) (dV 12) (d2 jK (d2 aU (dV 1) (dV 9)) (dV 0))) (oR bd W w least (iG bd W w) x4 (fz (.int (i:Int))) none x7 (fz (.int (r:Int))) none x10 (fz (sg c)) (fz (brd acc)) none)=ae (.lst (((XQ W).map λj=>if (r,j)∈P then c else at2 bd r j).map sg)):=by
  refine bO (zp (n:=W) (hg.len0 (i:=0) rfl) (by omega)) ?_ (by simp[cF];omega);rw[Yn];refine c_ (λ(k:Nat)=>D.int (k:Int)) _ _ λj hj=>?_;have hj:=Y3.mp hj;rw[ib];refine N4 (x:=sg (if (r,j)∈P then c else at2 bd r j)) ?_ rfl;have e1:bU (d2 (Ap false) (dA aY (aC (dV 9) (aC (dV 0) aN))) (d2 cE (dV 4) (dV 6))) (fz (.int (j:Int))::oR bd W w least (iG bd W w) x4 (fz (.int (i:Int))) none x7 (fz (.int (r:Int))) none x10 (fz (sg c)) (fz (brd acc)) none)=ae (decide ((r,j)∈P)):=
   dF ((aB (x:=cD (r,j)) (y:=cL P) rfl ((aB (x:= .lst ((ao bd W w).map cL)) (y:= .int (i:Int)) rfl rfl).trans (DJ hi))).trans IJ)
  rw[Kt e1];by_cases h:(r,j)∈P
  ·rw[adY h,adY (ad1 h)];rfl
  ·rw[ad0 h,ad0 λz=>h (ad4 z)];refine(aB (x:= .str (bd.getD r ⟨#[]⟩)) (y:= .int (j:Int)) ((aB (x:=brd bd) (y:= .int (r:Int)) rfl rfl).trans (AH hr)) rfl).trans ?_;exact xb (by rw[(hg.rows _ (getD_mem hr)).len];exact hj)
 have jn:dM ED joinM (dC (.str "")) (aC (dV 13) aN) (oR bd W w least (iG bd W w) x4 (fz (.int (i:Int))) none x7 (fz (.int (r:Int))) none x10 (fz (sg c)) (fz (brd acc)) (fz (.lst (((XQ W).map λj=>if (r,j)∈P then c else at2 bd r j).map sg))))=ae (.str (Bg bd W P c r)):=by
  show joinM (.str "") [.lst (((XQ W).map λj=>if (r,j)∈P then c else at2 bd r j).map sg)]=_;exact B7 (by simp;omega)
 refine(aQ (ak ((aG cm).trans rfl) ((aG (d:=brd (acc++[Bg bd W P c r])) ((aB (x:=brd acc) (y:= .tup [.str (Bg bd W P c r)]) rfl ((bY (aW jn rfl)).trans rfl)).trans ?_)).trans rfl))).trans rfl;show (if (acc.map D.str).length+1<=lim then ae (D.tup (acc.map D.str++[.str (Bg bd W P c r)])) else ag)=_;rw[adY (by rw[Xh,cF];omega)];simp[brd]
theorem CD(hg:Brd bd W){least i c:Nat}{P:List Cell}(hi:(ao bd W w)[i]? =some P){x4 x7 x10:Option Sl}:∀(l:List Nat) (acc:List Str),(∀r∈l,r<bd.length)->acc.length+l.length<=100->
 forL (putN 8) SV (l.map λ(k:Nat)=>D.int (k:Int)) (oR bd W w least (iG bd W w) x4 (fz (.int (i:Int))) none x7 none none x10 (fz (sg c)) (fz (brd acc)) none)=ae (.nx (oR bd W w least (iG bd W w) x4 (fz (.int (i:Int))) none x7 none none x10 (fz (sg c)) (fz (brd (acc++l.map (Bg bd W P c)))) none))
 |[],acc,_,_=>by rw[Y0,Y0,X0];rfl
 |r::l,acc,h,hl=>by
  rw[Xo] at hl;refine(bF rfl (J8 hg (h r (Xk ..)) hi (by omega))).trans ((CD hg hi l _ (λz hz=>h z (Xj _ hz)) (by rw[Xq];simp;omega)).trans ?_);rw[Y7];rfl
end
section
open Classical
variable{bd:List Str}{W w:Nat}
theorem UT{a:Nat}{b:Nat}:iz (.int (a:Int)) (.int (b:Int))=ae (.bl (decide (a=b))):=by
 rw[eq_int];congr 2;rw[Zd,beq_iff_eq,adZ];omega
theorem Ht{least:Nat}:Stop bd W w least↔CI bd W w least=[]\/(ao bd W w).length=1:=by
 unfold Stop CI;rw[abd,or_comm];refine or_congr_left ⟨λh q hq=>?_,λh P hP=>?_⟩
 ·have:=h q.2 (fI (jc.mp hq));rw[adZ];omega
 ·obtain⟨i,hi,rfl⟩:=Zc hP;have:=h (i,(ao bd W w)[i]) (jc.mpr (Xi hi));rw[adZ] at this;show least<=((ao bd W w)[i]).length;have this:¬((ao bd W w)[i]).length<least:=this;omega
theorem uZ(hs:bd.length*W<64){least:Nat}:bB 2 (λρ=>(aC (dV 3) aN) ρ>>=oB) (bU (d2 HQ (dA bq (aC (dV 1) aN)) (dV 4))) (dV 0) (oR bd W w least (iG bd W w) none none none none none none none none none none)=ae (.lst ((CI bd W w least).map nD)):=by
 have hl:=eE (bd:=bd) (W:=W) (w:=w);refine bO (yg rfl) (tZ KC nD (λq=>decide (q.2.length<least)) _ λq _=>?_) ?_
 ·have:bU (d2 HQ (dA bq (aC (dV 1) aN)) (dV 4)) (fz (.int (q.1:Int))::fz (cL q.2)::oR bd W w least (iG bd W w) none none none none none none none none none none)=ae (decide (q.2.length<least)):=by
   refine dF ((aB (x:= .int (q.2.length:Int)) (y:=iW least) ((bY (xs:=[cL q.2]) rfl).trans (vZ _)) rfl).trans ?_);show ae (D.bl (decide ((q.2.length:Int)<(least:Int))))=_;congr 2;exact ad5.mpr (by omega)
  have e:iw 2 (bU (d2 HQ (dA bq (aC (dV 1) aN)) (dV 4))) (dV 0) (oR bd W w least (iG bd W w) none none none none none none none none none none) (KC q)=(bU (d2 HQ (dA bq (aC (dV 1) aN)) (dV 4)) (fz (.int (q.1:Int))::fz (cL q.2)::oR bd W w least (iG bd W w) none none none none none none none none none none)>>=λb=>if b then ae (some (nD q)) else ae none):=rfl;rw[e,this];by_cases h:q.2.length<least
  ·rw[ad1 h];rfl
  ·rw[ad2 h];rfl
 ·rw[Xh];unfold CI;refine X2 (Yw ..) ?_;rw[I_,cF];omega
theorem za(hg:Brd bd W)(hs:bd.length*W<64)(hw:Ways w)(least:Nat):
 (Stop bd W w least/\bw [brd bd,iW w,iW least]=ae .non/\bL [brd bd,iW w,iW least]=ae .non)\/
 (∃HK,¬Stop bd W w least/\AO bd W w least HK/\bw [brd bd,iW w,iW least]=ae (brd HK)/\bL [brd bd,iW w,iW least]=ae (brd HK)):=by
 have hR:=hg.r8;have e3:az 2 dh (aC (dV 0) (aC (dV 1) aN)) (oR bd W w least none none none none none none none none none none none)=ae (.lst ((ao bd W w).map cL)):=(av (ds:=[brd bd,iW w]) rfl rfl).trans ((pI hg hs hw).trans (by rw[rF]));have p_:lS (bU (d2 iz (dV 4) (dA b7 aN))) (bU (d2 iz (dA bq (aC (dV 3) aN)) (dC (.int 1)))) (oR bd W w least (iG bd W w) (fz (.lst ((CI bd W w least).map nD))) none none none none none none none none none)=ae (decide (Stop bd W w least)):=by
  refine(t6 (p:=((CI bd W w least).map nD).isEmpty) (q:=decide ((ao bd W w).length=1)) (dF ((aB (x:= .lst ((CI bd W w least).map nD)) (y:= .lst []) rfl rfl).trans (eq_nil _))) (dF ((aB (x:= .int ((ao bd W w).length:Int)) (y:= .int ((1:Nat):Int)) ((bY (xs:=[.lst ((ao bd W w).map cL)]) rfl).trans ?_) rfl).trans UT))).trans ?_
  ·show ae (D.int (((ao bd W w).map cL).length:Int))=_;rw[Xh]
  ·congr 1;rw[Zd,Bool.or_eq_true,adZ,adZ,Ht,List.isEmpty_iff,List.map_eq_nil_iff]
 rcases kH hg hs hw least with⟨hS,e⟩ | ⟨hS,HK,hA⟩
 ·rw[ad1 hS] at p_;exact .inl ⟨hS,e,ba (ak ((aG e3).trans rfl) (ak ((aG (uZ hs)).trans rfl) (hJ (eQ p_ rfl))))⟩
 ·rw[ad2 hS] at p_;obtain⟨i,j,P,Q,x,y,hX,eb,ea⟩:=id hA;refine .inr ⟨HK,hS,hA,ea,?_⟩;have R9:(i,P)∈CI bd W w least:=XY.mpr ⟨jc.mpr hX.hi,ad1 hX.lt⟩;have ug:(CI bd W w least).Pairwise λa b=>a.1<b.1:=zi.filter _;have qw:∀q∈CI bd W w least,(ao bd W w)[q.1]? =some q.2:=λq hq=>jc.mp (XY.mp hq).1;refine ba (ak ((aG e3).trans rfl) (ak ((aG (uZ hs)).trans rfl) (ak (c9 p_ rfl) ?_)));show aI _ _ (oR bd W w least (iG bd W w) (fz (.lst ((CI bd W w least).map nD))) none none none none none none none none none)=_;generalize Uj:fz (.lst ((CI bd W w least).map nD))=x4;cases Ax:CI bd W w least with
  |nil=>rw[Ax] at R9;cases R9
  |cons o W1=>
   have e5:d2 cE (dV 4) (dC (.int 0)) (oR bd W w least (iG bd W w) x4 none none none none none none none none none)=ae (nD o):=by
    rw[<-Uj,Ax];refine(aB (x:= .lst (nD o::W1.map nD)) (y:= .int ((0:Nat):Int)) rfl rfl).trans ?_;show (match L2.atI (nD o::W1.map nD) ((0:Nat):Int) with | some x=>ae x | none=>ag)=_;rw[d7 (x:=nD o) rfl]
   refine ak ((aG e5).trans rfl) ?_;have LQ:∀q∈[o]++W1,(ao bd W w)[q.1]? =some q.2:=λq hq=>qw q (by rw[Ax];exact hq);obtain⟨o',o1,o2⟩:=wI (bd:=bd) (W:=W) (w:=w) (least:=least) (x4:=x4) W1 [o] o LQ (by rw[Ax] at ug;exact ug) ⟨by simp,λe he=>by rw[show e=o by simpa using he];omega⟩;have o1:Ow (CI bd W w least) o':=by rw[Ax];exact o1
   have ho:o'=(i,P):=by
    have h1:=qw o' o1.mem;obtain⟨f1,f2⟩:=hX.fst o'.1 o'.2 h1;obtain⟨g1,g2⟩:=o1.le _ R9;have g1:o'.2.length<=P.length:=g1;have g2:i<o'.1->o'.2.length<P.length:=g2;have:o'.1=i:=by omega
    rw[this,hX.hi] at h1;exact abG this (XT h1).symm
   subst ho;have first:SI (oR bd W w least (iG bd W w) x4 (fz (nD o)) (fz (nD o)) none none none none none none none)=ae (.nx (oR bd W w least (iG bd W w) x4 (fz (nD o)) none none none none none none none none)):=by
    refine(aQ (c9 (dF ((aB (vY (LQ o (by simp)) rfl rfl) (vY (LQ o (by simp)) rfl rfl)).trans ?_)) rfl)).trans rfl;show ae (D.bl (decide ((o.2.length:Int)<(o.2.length:Int))))=_;rw[ad2 (Int.lt_irrefl _)]
   have Ww:dD (dV 4) (oR bd W w least (iG bd W w) x4 (fz (nD o)) none none none none none none none none)=ae ((o::W1).map nD):=by
    rw[<-Uj,Ax];exact QQ rfl
   refine ak (ρ':=oR bd W w least (iG bd W w) x4 (fz (.int (i:Int))) none none none none none none none none) (bW (c8 Ww ((bF (ρ1:=oR bd W w least (iG bd W w) x4 (fz (nD o)) (fz (nD o)) none none none none none none none) rfl first).trans o2))) ?_;refine ak (ρ':=oR bd W w least (iG bd W w) x4 (fz (.int (i:Int))) none (fz .non) none none none none none none) rfl ?_;obtain⟨b',c1,c2⟩:=BN hw hs hX.hi (x4:=x4) (least:=least) (HX bd W w) [] none (λq hq=>jc.mp hq) zi (λe he=>by cases he);rw[XW] at c1;have T6:zX P i (j,Q):=⟨λ(e:j=i)=>by
    have:=hX.hj;rw[e,hX.hi] at this;exact hX.ad.ne (XT this),hX.pos⟩
   have T7:(j,Q)∈HX bd W w:=jc.mpr hX.hj;have hb:b'=some (j,Q):=by
    cases b' with
    |none=>exact ad3 T6 (c1 _ T7)
    |some q=>
     obtain⟨d1,Tv,d3⟩:=c1;have k1:=jc.mp d1;have k2:=d3 _ T7 T6;have k3:=hX.bst q.1 q.2 k1 Tv.1 Tv.2;have:q.1=j:=by
      unfold Bt at k2 k3;simp only at k2 k3;omega
     rw[this,hX.hj] at k1;exact ad7 some (abG this (XT k1).symm)
   subst hb;refine ak (ρ':=oR bd W w least (iG bd W w) x4 (fz (.int (i:Int))) none (fz (bD P (some (j,Q)))) none none none none none none) (bW (c8 (yg rfl) c2)) ?_;obtain⟨m,n1,_,n3,r,hr⟩:=fe hw hX.ad.q;have QH:lt bd y=lt bd m:=((iH hw hX.ad.q n1).mp hX.ad.yq).letter hw;have UO:d2 cE (d2 cE (dV 3) (d2 aU (dV 7) (dC (.int 1)))) (dC (.int 0)) (oR bd W w least (iG bd W w) x4 (fz (.int (i:Int))) none (fz (bD P (some (j,Q)))) none none none none none none)=ae (cD m):=by
    refine(aB (x:=cL Q) (y:= .int ((0:Nat):Int)) ((aB (x:= .lst ((ao bd W w).map cL)) (y:= .int (j:Int)) rfl ((aB (x:=bD P (some (j,Q))) (y:= .int 1) rfl rfl).trans rfl)).trans (DJ hX.hj)) rfl).trans (F4 ?_);rw[hr];rfl
   refine ak ((aG UO).trans rfl) ?_;refine ak ((aG (Kc hg n3 rfl rfl)).trans rfl) ?_;refine ak (ρ':=oR bd W w least (iG bd W w) x4 (fz (.int (i:Int))) none (fz (bD P (some (j,Q)))) none none (fz (cD m)) (fz (sg (lt bd m))) (fz (brd [])) none) rfl ?_;have lp:=CD hg hX.hi (least:=least) (c:=lt bd m) (x4:=x4) (x7:=fz (bD P (some (j,Q)))) (x10:=fz (cD m)) (XQ bd.length) [] (λr hr=>Y3.mp hr) (by simp;omega);refine ak (bW (c8 (zp (n:=bd.length) (DN (i:=0) rfl) (by omega)) lp)) ?_;rw[eb];show ae (Out.rt (brd ([]++(XQ bd.length).map (Bg bd W P (lt bd m)))))=_;rw[XW];unfold EE rO Ce;rw[QH];rfl
end
theorem H8{i:Nat}{ρ:bb}{ds:List D}{δ:DE}{d:D}(h:A7 ρ i=some ds)(h2:δ ρ=ae d)(hl:ds.length<lim):jC i δ ρ=ae (.nx (ρ.set i (some (.ow (.lst (ds++[d])))))):=by
 unfold jC;rw[h];exact N4 h2 (adY hl)
theorem B6{l:List D}{i:Nat}{d:D}(h:l[i]? =some d):cE (.lst l) (.int (i:Int))=ae d:=by
 show (match L2.atI l (i:Int) with | some x=>ae x | none=>ag)=_;rw[d7 h]
theorem HC{x w l:D}:aH [.int 0,x,w,l]=Kl (cK [x,w,l]):=xx (m:=cK [x,w,l]) rfl
theorem Le{x w l:D}:aH [.int 1,x,w,l]=Kl (gH [x,w,l]):=xx (m:=gH [x,w,l]) rfl
theorem Lf{x w l:D}:aH [.int 2,x,w,l]=Kl (eD [x,w,l]):=xx (m:=eD [x,w,l]) rfl
theorem xu{x w l:D}{n:Nat}(h:a_ [x,w,l]=bR n)(k:Nat)(hk:k<3):aH [.int (k:Int),x,w,l]=noex (KP n):=by
 have e0:cK [x,w,l]=bR n:=jk (mS (mQ ((av (ds:=[x,w,l]) rfl rfl).trans h)));have e1:gH [x,w,l]=bR n:=jk (mS (mQ ((av (ds:=[x,w,l]) rfl rfl).trans h)));have e2:eD [x,w,l]=bR n:=jk (mS (mQ ((av (ds:=[x,w,l]) rfl rfl).trans h)))
 match k,hk with
 |0,_=>exact HC.trans (by rw[e0];rfl)
 |1,_=>exact Le.trans (by rw[e1];rfl)
 |2,_=>exact Lf.trans (by rw[e2];rfl)
theorem three{δ:DE}{ρ:bb}{d:D}(h:∀k:Nat,k<3->δ (fz (.int (k:Int))::ρ)=ae d):bB 0 (λρ=>(aC (dC (.int 3)) aN) ρ>>=eO) ck δ ρ=ae (.lst [d,d,d]):=by
 refine bO (zp (n:=3) (δ:=dC (.int 3)) rfl (by decide)) ?_ (show 3<=lim by decide);refine(c_ (λ(k:Nat)=>D.int (k:Int)) (λ_=>d) (XQ 3) λk hk=>?_).trans rfl;rw[ib,h k (Y3.mp hk)];rfl
section
variable{bd:List Str}{W w:Nat}
def fM:List (List Str)->D
 |[]=> .non
 |b::_=>brd b
theorem zr(hG:Good bd W)(hw:Ways w){least:Nat}{r:List (List Str)}(h:Run W w least bd r):bL [brd bd,iW w,iW least]=ae (fM r)/\bw [brd bd,iW w,iW least]=ae (fM r):=by
 rcases za hG.brd (i9 hG) hw least with⟨hS,e1,e2⟩ | ⟨b',hS,_,e1,e2⟩
 ·cases r with
  |nil=>exact⟨e2,e1⟩
  |cons b r=>
   obtain⟨⟨_,_,_,_,_,_,_,_,e⟩,_⟩:=h;rw[e1] at e;cases e
 ·cases r with
  |nil=>exact ad3 h hS
  |cons b r=>
   obtain⟨⟨_,_,_,_,_,_,_,_,e⟩,_⟩:=h;rw[e] at e1;have:brd b=brd b':=by
    injection e1 with e1
    injection e1
   rw[<-this] at e2;exact⟨e2,e⟩
theorem CC(hw:Ways w){least:Nat}:∀(r:List (List Str)) (b:List Str),Good b W->Run W w least b r->r.length+1<=(ao b W w).length
 |[],b,hG,_=>jg hG.brd hw
 |b'::r,b,hG,⟨hA,hR⟩=>by
  obtain⟨g1,_,g3⟩:=hA.good hG hw;have:=CC hw r b' g1 hR;rw[Xo];omega
def lR(s:D)(bd:List Str)(w least:Nat)(acc:List (List Str))(x5 x6 x7 x8:Option Sl):bb:=[fz s,fz (brd bd),fz (iW w),fz (iW least),some (.ow (.lst (acc.map brd))),x5,x6,x7,x8]
theorem CO(hw:Ways w){s:D}{b0:List Str}{least:Nat}:∀(r:List (List Str)) (b:List Str) (acc:List (List Str)) (N:Nat),Good b W->Run W w least b r->acc.length+r.length<4000->r.length+1<=N->
 eG (bU (d2 (vI true) (dV 5) (dC .non))) UI N (lR s b0 w least acc (fz (fM r)) none none none)=ae (.nx (lR s b0 w least (acc++r) (fz .non) none none none))
 |[],b,acc,N,hG,hR,ha,hN=>by
  obtain⟨N,rfl⟩:∃k,N=k+1:=⟨N - 1,by omega⟩
  rw[X0];exact mZ rfl
 |b'::r,b,acc,N,hG,hR,ha,hN=>by
  obtain⟨N,rfl⟩:∃k,N=k+1:=⟨N - 1,by omega⟩
  rw[Xo] at ha hN;obtain⟨hA,QA⟩:=hR;have g1:=(hA.good hG hw).1;have ih:=CO hw (s:=s) (b0:=b0) r b' (acc++[b']) N g1 QA (by rw[Xq];simp;omega) (by omega);refine iS (ρ':=lR s b0 w least (acc++[b']) (fz (fM r)) none none none) rfl ?_ (ih.trans (by rw[Y7];rfl));refine ak (ρ':=lR s b0 w least (acc++[b']) (fz (brd b')) none none none) ?_ ((aG ((av (ds:=[brd b',iW w,iW least]) rfl rfl).trans (zr g1 hw QA).1)).trans rfl);refine(H8 (ds:=acc.map brd) rfl (d:=brd b') rfl (by rw[Xh,cF];omega)).trans ?_;rw[show∀l:List (List Str),l.map brd++[brd b']=(l++[b']).map brd from λl=>by simp];rfl
theorem ne_self{d:D}(h:iZ 6 d d=some true):ny d d=ae (.bl false):=by
 show (match iZ 6 d d with | some b=>ae (D.bl (!b)) | none=>ag)=_;rw[h];rfl
theorem yo(r:List (List Str)):ny (fM r) (fM r)=ae (.bl false):=by
 cases r with
 |nil=>rfl
 |cons b r=>exact(Fc vD (by decide) b b).trans (by rw[ad1 rfl];rfl)
theorem D_(l:List Str)(r:List (List Str)):ny (.lst [brd l, .lst (r.map brd)]) (.lst [brd l, .lst (r.map brd)])=ae (.bl false):=by
 refine ne_self ?_;show (match iZ 5 (brd l) (brd l),(match iZ 5 (.lst (r.map brd)) (.lst (r.map brd)),some true with | some b,some r=>some (b&&r) | _,_=>none) with | some b,some r=>some (b&&r) | _,_=>none)=_;rw[show iZ 5 (brd l) (brd l)=some (decide (l=l)) from vD 4 l l,show iZ 5 (.lst (r.map brd)) (.lst (r.map brd))=some (decide (r=r)) from Io vD 3 r r,ad1 rfl,ad1 rfl];rfl
end
def qJ:List (List Str):=[["aabccc"],["cccbaa"],["aabcc"],["abacc"],["aabb","acbb"],["bbaa","bbca"]]
theorem og{V:Nat}{r:Str}(h:r.length=V)(h2:r.cps.toList.all (λc=>II ⟨#[c]⟩)=true):Row V r:=⟨h,λc hc=>Yl.mp h2 c hc⟩
theorem F8:∀b∈qJ,∃V,Brd b V/\b.length*V<64:=by
 intro b hb;simp only[qJ,Xs,Yz,or_false] at hb;rcases hb with rfl | rfl | rfl | rfl | rfl | rfl
 ·exact⟨6,⟨by decide,by decide,by decide,by decide,λr hr=>by rw[show r="aabccc" by simpa using hr];exact og (by decide) (by decide+kernel)⟩,by decide⟩
 ·exact⟨6,⟨by decide,by decide,by decide,by decide,λr hr=>by rw[show r="cccbaa" by simpa using hr];exact og (by decide) (by decide+kernel)⟩,by decide⟩
 ·exact⟨5,⟨by decide,by decide,by decide,by decide,λr hr=>by rw[show r="aabcc" by simpa using hr];exact og (by decide) (by decide+kernel)⟩,by decide⟩
 ·exact⟨5,⟨by decide,by decide,by decide,by decide,λr hr=>by rw[show r="abacc" by simpa using hr];exact og (by decide) (by decide+kernel)⟩,by decide⟩
 ·exact⟨4,⟨by decide,by decide,by decide,by decide,λr hr=>by
   rcases(show r="aabb"\/r="acbb" by simpa using hr) with rfl | rfl<;>exact og (by decide) (by decide+kernel)⟩,by decide⟩
 ·exact⟨4,⟨by decide,by decide,by decide,by decide,λr hr=>by
   rcases(show r="bbaa"\/r="bbca" by simpa using hr) with rfl | rfl<;>exact og (by decide) (by decide+kernel)⟩,by decide⟩
theorem Ib{w:Nat}(hw:Ways w){s:D}{bd b:List Str}{least:Nat}{acc:List (List Str)}{x5:Option Sl}(hb:b∈qJ):Rh (lR s bd w least acc x5 (fz (brd b)) none none)=ae (.nx (lR s bd w least acc x5 none none none)):=by
 obtain⟨V,hg,hs⟩:=F8 b hb;obtain⟨d,e1,e2,e3⟩:∃d,bw [brd b,iW w, .int ((2:Nat):Int)]=ae d/\bL [brd b,iW w, .int ((2:Nat):Int)]=ae d/\ny d d=ae (.bl false):=by
  rcases za hg hs hw 2 with⟨_,e1,e2⟩ | ⟨b',_,_,e1,e2⟩
  ·exact⟨.non,e1,e2,rfl⟩
  ·exact⟨brd b',e1,e2,yo [b']⟩
 have e4:=jx (least:=2) hg hw (by decide) (by decide) e1;have t0:aH [.int 0,brd b,iW w, .int ((2:Nat):Int)]=ae d:=HC.trans (by rw[e4];rfl);exact(aQ (c9 (dF ((aB (x:=d) (y:=d) ((av (ds:=[.int 0,brd b,iW w, .int ((2:Nat):Int)]) rfl rfl).trans t0) ((av (ds:=[brd b,iW w, .int ((2:Nat):Int)]) rfl rfl).trans e2)).trans e3)) rfl)).trans rfl
def Jn:List D:=[.int 0, .int 65, .non, .bl true, .str "2"]
def Jm:List D:=[.int 0, .int 5, .non, .bl true]
theorem My{bd:List Str}{W w:Nat}(hg:Brd bd W)(hw:Ways w){d:D}(h:d∈Jn):a_ [brd bd,iW w,d]=bR 4:=by
 refine jk (ak (fY ((av (ds:=[brd bd]) rfl rfl).trans hg.nb)) (ak (fY ((av (ds:=[iW w]) rfl rfl).trans hw.nw)) (eQ ?_ rfl)));unfold Jn at h;simp only[Xs,Yz,or_false] at h;rcases h with rfl | rfl | rfl | rfl | rfl<;>rfl
theorem Mw{bd:List Str}{W:Nat}(hg:Brd bd W){o d:D}(h:o∈Jm):a_ [brd bd,o,d]=bR 1:=by
 refine jk (ak (fY ((av (ds:=[brd bd]) rfl rfl).trans hg.nb)) (mS (mQ ((av (ds:=[o]) rfl rfl).trans ?_))));unfold Jm at h;simp only[Xs,Yz,or_false] at h;rcases h with rfl | rfl | rfl | rfl<;>rfl
theorem Mr{bd:List Str}{o d:D}:a_ [.lst (bd.map D.str),o,d]=bR 0:=
 jk (mS (mQ ((av (ds:=[.lst (bd.map D.str)]) rfl rfl).trans (sV (d:= .lst (bd.map D.str)) Zs rfl))))
theorem F9(ns:List Int)(hl:ns.length<=63):kq [.scr ns]=ae (.bl true):=by
 obtain⟨bd,W,hG,eb⟩:=CW ns hl 0 4 (by decide) (by decide);have hg:=hG.brd;refine ba ?_;refine ak (ρ':=[fz (.scr ns),fz (brd bd),none,none,none,none,none,none,none]) ((aG (d:=brd bd) ((av (ds:=[.scr ns, .int 0, .int 4]) rfl rfl).trans eb)).trans rfl) ?_;obtain⟨i,hi,ei⟩:=dS ns hl 50 2 (by decide);obtain⟨w,hw,ew⟩:∃w:Nat,Ways w/\cE (.lst [.int 4, .int 8]) (.int (i:Int))=ae (iW w):=by
  match i,hi with
  |0,_=>exact⟨4, .inl rfl,rfl⟩
  |1,_=>exact⟨8, .inr rfl,rfl⟩
 refine ak (ρ':=[fz (.scr ns),fz (brd bd),fz (iW w),none,none,none,none,none,none]) ((aG (d:=iW w) ((aB (x:= .lst [.int 4, .int 8]) (y:= .int (i:Int)) rfl ((av (ds:=[.scr ns, .int 50, .int 2]) rfl rfl).trans ei)).trans ew)).trans rfl) ?_;obtain⟨u,hu,eu⟩:=dS ns hl 52 3 (by decide);obtain⟨m,hm,LS,em⟩:∃m:Nat,0<m/\m<=64/\cE (.lst [.int 3, .int 6, .int 64]) (.int (u:Int))=ae (.int (m:Int)):=by
  match u,hu with
  |0,_=>exact⟨3,by decide,by decide,rfl⟩
  |1,_=>exact⟨6,by decide,by decide,rfl⟩
  |2,_=>exact⟨64,by decide,by decide,rfl⟩
 obtain⟨v,hv,ev⟩:=dS ns hl 51 m hm;obtain⟨least,hle⟩:∃k,k=1+v:=⟨_,rfl⟩
 have l1:1<=least:=by omega
 have l2:least<=64:=by omega
 refine ak (ρ':=[fz (.scr ns),fz (brd bd),fz (iW w),fz (iW least),none,none,none,none,none]) ((aG (d:=iW least) ((aB (x:= .int 1) (y:= .int (v:Int)) rfl ((av (ds:=[.scr ns, .int 51, .int (m:Int)]) (aW rfl (aW rfl (aW ((aB (x:= .lst [.int 3, .int 6, .int 64]) (y:= .int (u:Int)) rfl ((av (ds:=[.scr ns, .int 52, .int 3]) rfl rfl).trans eu)).trans em) rfl))) rfl).trans ev)).trans ?_)).trans rfl) ?_
 ·rw[iy,hle];rfl
 refine ak (ρ':=lR (.scr ns) bd w least [bd] none none none none) rfl ?_;obtain⟨r,hR,eA⟩:=sJ (w:=w) hG hw least;obtain⟨o1,o2⟩:=zr hG hw hR;refine ak (ρ':=lR (.scr ns) bd w least [bd] (fz (fM r)) none none none) ((aG ((av (ds:=[brd bd,iW w,iW least]) rfl rfl).trans o1)).trans rfl) ?_;have t0:aH [.int 0,brd bd,iW w,iW least]=ae (fM r):=HC.trans (by rw[jx hg hw l1 l2 o2];rfl);refine ak (c9 (dF ((aB (x:=fM r) (y:=fM r) ((av (ds:=[.int 0,brd bd,iW w,iW least]) rfl rfl).trans t0) rfl).trans (yo r))) rfl) ?_;have Xc:r.length<100:=by
  have h1:=CC hw r bd hG hR;have h2:=eE (bd:=bd) (W:=W) (w:=w);have h3:=i9 hG;omega
 refine ak (ρ':=lR (.scr ns) bd w least ([bd]++r) (fz .non) none none none) (bW (CO hw r bd [bd] lim hG hR (by simp;omega) (by rw[cF];omega))) ?_;obtain⟨l,KS⟩:∃l,(bd::r).getLast? =some l:=⟨(bd::r).getLast (by simp),List.getLast?_eq_some_getLast (by simp)⟩
 have t1:aH [.int 1,brd bd,iW w,iW least]=ae (brd l):=Le.trans (by rw[AS hG hw l1 l2 eA KS];rfl);have t2:aH [.int 2,brd bd,iW w,iW least]=ae (.lst ((bd::r).map brd)):=Lf.trans (by rw[xq hG hw l1 l2 eA];rfl);refine ak (c9 (CM (dF ((aB (x:= .lst [brd l, .lst ((bd::r).map brd)]) (y:= .lst [brd l, .lst ((bd::r).map brd)]) ?_ ?_).trans (D_ l (bd::r))))) rfl) ?_
 ·refine bO (ds:=[1,2].map λ(k:Nat)=>D.int (k:Int)) (ys:=[1,2].map λ(k:Nat)=>if k=1 then brd l else .lst ((bd::r).map brd)) rfl (c_ (λ(k:Nat)=>D.int (k:Int)) _ [1,2] λk hk=>?_) (by simp[cF]);rw[ib];have hk:k=1\/k=2:=by simpa using hk
  rcases hk with rfl | rfl
  ·exact N4 (x:=brd l) ((av (ds:=[.int 1,brd bd,iW w,iW least]) rfl rfl).trans t1) rfl
  ·exact N4 (x:= .lst ((bd::r).map brd)) ((av (ds:=[.int 2,brd bd,iW w,iW least]) rfl rfl).trans t2) rfl
 ·exact(bY (xs:=[brd l, .lst ((bd::r).map brd)]) (aW ((aB (x:= .lst ((bd::r).map brd)) (y:= .int (-1)) rfl rfl).trans (B_ KS)) rfl)).trans rfl
 refine ak (ρ':=lR (.scr ns) bd w least ([bd]++r) (fz .non) none none none) (bW (c8 (ds:=qJ.map brd) rfl (ud (body:=Rh) brd _ qJ λb hb=>⟨_,rfl,Ib hw hb⟩))) ?_;obtain⟨z,hz,ez⟩:=dS ns hl 53 5 (by decide);obtain⟨d,hd⟩:∃d,Jn[z]? =some d:=⟨_,Xi (show z<5 from hz)⟩
 refine ak (ρ':=lR (.scr ns) bd w least ([bd]++r) (fz .non) none (fz d) none) ((aG (d:=d) ((aB (x:= .lst Jn) (y:= .int (z:Int)) rfl ((av (ds:=[.scr ns, .int 53, .int 5]) rfl rfl).trans ez)).trans (B6 hd))).trans rfl) ?_;refine ak (c9 (dF ((aB (x:= .lst [jB 4,jB 4,jB 4]) (y:= .lst [jB 4,jB 4,jB 4]) (three λk hk=>(av (ds:=[.int (k:Int),brd bd,iW w,d]) rfl rfl).trans (xu (My hg hw (Ye hd)) k hk)) rfl).trans rfl)) rfl) ?_;obtain⟨y,hy,ey⟩:=dS ns hl 54 4 (by decide);obtain⟨o,ho⟩:∃o,Jm[y]? =some o:=⟨_,Xi (show y<4 from hy)⟩
 refine ak (ρ':=lR (.scr ns) bd w least ([bd]++r) (fz .non) none (fz d) (fz o)) ((aG (d:=o) ((aB (x:= .lst Jm) (y:= .int (y:Int)) rfl ((av (ds:=[.scr ns, .int 54, .int 4]) rfl rfl).trans ey)).trans (B6 ho))).trans rfl) ?_;refine ak (c9 (dF ((aB (x:= .lst [jB 1,jB 1,jB 1]) (y:= .lst [jB 1,jB 1,jB 1]) (three λk hk=>(av (ds:=[.int (k:Int),brd bd,o,d]) rfl rfl).trans (xu (Mw hg (Ye ho)) k hk)) rfl).trans rfl)) rfl) ?_;exact br ((aB (x:= .lst [jB 0,jB 0,jB 0]) (y:= .lst [jB 0,jB 0,jB 0]) (three λk hk=>(av (ds:=[.int (k:Int), .lst (bd.map D.str),o,d]) rfl rfl).trans (xu Mr k hk)) rfl).trans rfl)
end K1
namespace K1
open PySem PySem.Spec L2 L3
open PyProof.Rows hiding St
def Pa(c0 c1 c2 c3 c4 c5 c6:Addr):Nat->Addr
 |0=>c0
 |1=>c1
 |2=>c2
 |3=>c3
 |4=>c4
 |5=>c5
 |_=>c6
def DF(K:Xr)(x:Str)(s:Stmt):Prop:=∃(f:Addr) (oc:Value) (od an:Option Addr) (sl:Array (Option Value)) (kV dc pm cd ct:Value),XU K XJ x=some (some (.ref f))/\K.lookup f=some ⟨oc,od, .func (YN x x (eV s) (aZ s) (ai s) .none kV dc pm an cd ct),sl⟩/\ZW K cd x=true/\YV K (.ref f)=true
theorem DF.mk{K:Xr}{x:Str}{s:Stmt}{f:Addr}{oc:Value}{od an:Option Addr}{sl:Array (Option Value)}{kV dc pm cd ct:Value}(a:XU K XJ x=some (some (.ref f)))(l:K.lookup f=some ⟨oc,od, .func (YN x x (eV s) (aZ s) (ai s) .none kV dc pm an cd ct),sl⟩)(c:ZW K cd x=true)(k:YV K (.ref f)=true):DF K x s:=⟨f,oc,od,an,sl,kV,dc,pm,cd,ct,a,l,c,k⟩
theorem DF.at{K:Xr}{x:Str}{s:Stmt}{h:Heap}{mg:Str->Option Value}(X:K.In h)(G:h.Ns XJ mg)(d:DF K x s):∃f,bJ K mg x s f:=by
 obtain⟨f,oc,od,an,sl,kV,dc,pm,cd,ct,a,l,c,k⟩:=d;exact⟨f,Yy X G a,_,Fl (st:=s) l c k⟩
theorem all_mk{P:XR}{w:World}{K:Xr}{h:Heap}{mg:Str->Option Value}{fa:Addr}(X:K.In h)(G:h.Ns XJ mg)(Vv:mg "law"=some (.ref fa))
 {lh:Addr}{A2 qb:Option Addr}{Bn:Array (Option Value)}{A1 qF ql rM la qk:Value}
 {En:Tok}
 {zG:Tok}
 {sm:Tok}
 {om:Tok}
 {C0 C1 C2 C3 C4 C5 C6 Cp:Addr}{r0:ClassData}{r1:ClassData}{r4:ClassData}
 (d_is_whole:DF K "is_whole" lG)
 (d_is_letter:DF K "is_letter" j_)
 (d_cells_of_row:DF K "cells_of_row" fj)
 (d_letter_of:DF K "letter_of" ke)
 (d_are_next:DF K "are_next" lF)
 (d_keyed:DF K "keyed" w6)
 (d_numbers_of:DF K "numbers_of" jr)
 (d_law_cell:DF K "_law_cell" lH)
 (d_law_cells:DF K "_law_cells" h9)
 (d_law_beside:DF K "_law_beside" jl)
 (d_law_refused:DF K "_law_refused" ik)
 (d_law_shared:DF K "_law_shared" gu)
 (d_is_row:DF K "is_row" mT)
 (d_need_ways:DF K "need_ways" kf)
 (d_all_cells:DF K "all_cells" j8)
 (d_next_cells:DF K "next_cells" jq)
 (d_with_letters:DF K "with_letters" fk)
 (d_law_drawn:DF K "_law_drawn" kc)
 (d_law_labels:DF K "_law_labels" gr)
 (d_is_board:DF K "is_board" gQ)
 (d_like_cells:DF K "like_cells" gw)
 (d_shared_sides:DF K "shared_sides" gT)
 (d_law_board:DF K "_law_board" h7)
 (d_law_patches:DF K "_law_patches" fQ)
 (d_need_board:DF K "need_board" jo)
 (d_steps_back:DF K "steps_back" js)
 (d_melts_into:DF K "melts_into" jm)
 (d_law_once:DF K "_law_once" gR)
 (d_all_patches:DF K "all_patches" ij)
 (d_need_melting:DF K "need_melting" gS)
 (d_after_one:DF K "after_one" hZ)
 (d_all_steps:DF K "all_steps" j9)
 (d_melted_once:DF K "melted_once" ip)
 (d_melted:DF K "melted" rX)
 (d_steps_of:DF K "steps_of" lI)
 (d_law_told_v8:DF K "_law_told" il)
 (a_law_k50:XU K XJ "law"=some (some (.ref lh)))(l_law_k50:K.lookup lh=some ⟨A1,A2, .func (YN "law" "law" (eV au) (aZ au) (ai au) .none qF ql rM qb la qk),Bn⟩)(c_law_k50:ZW K la "law"=true)(k_law_k50:YV K (.ref lh)=true)
 (z_len:XU K XJ "len"=some none)
 (z_isinstance:XU K XJ "isinstance"=some none)
 (z_all:XU K XJ "all"=some none)
 (z_abs:XU K XJ "abs"=some none)
 (z_max:XU K XJ "max"=some none)
 (z_min:XU K XJ "min"=some none)
 (z_range:XU K XJ "range"=some none)
 (z_str:XU K XJ "str"=some none)
 (z_int:XU K XJ "int"=some none)
 (z_bool:XU K XJ "bool"=some none)
 (z_tuple:XU K XJ "tuple"=some none)
 (z_list:XU K XJ "list"=some none)
 (z_dict:XU K XJ "dict"=some none)
 (z_sorted:XU K XJ "sorted"=some none)
 (z_enumerate:XU K XJ "enumerate"=some none)
 (z_ValueError:XU K XJ "ValueError"=some none)
 (y_LETTERS:XU K XJ "LETTERS"=some (some (.str "abcdef" En)))
 (y_MOST_ROWS:XU K XJ "MOST_ROWS"=some (some (.int 8 zG)))
 (y_MOST_COLUMNS:XU K XJ "MOST_COLUMNS"=some (some (.int 8 sm)))
 (y_GREATEST_LEAST:XU K XJ "GREATEST_LEAST"=some (some (.int 64 om)))
 (e0:XU K XJ "NoBoard"=some (some (.ref C0)))
 (e1:XU K XJ "NoWays"=some (some (.ref C1)))
 (e2:XU K XJ "NoCell"=some (some (.ref C2)))
 (e3:XU K XJ "NoLetter"=some (some (.ref C3)))
 (e4:XU K XJ "NoNumber"=some (some (.ref C4)))
 (e5:XU K XJ "NoFit"=some (some (.ref C5)))
 (e6:XU K XJ "Nothing"=some (some (.ref C6)))
 (ep:XU K XJ "PatchError"=some (some (.ref Cp)))
 (sp:PySem.W.subIn K (.ref Cp) (.type "BaseException")=some true)
 (q0:aaU K C0 [.type "ValueError", .type "Exception", .type "BaseException", .type "object"] "ValueError.__new__"=true)
 (ga0:YW K (.ref C0) "__getattribute__"=some (some (.builtin "BaseException.__getattribute__")))(gt0:YW K (.ref C0) "__getattr__"=some none)(ca0:YW K (.ref C0) "__class__"=some (some (.builtin "object.__class__")))(mo0:Z5 K C0 (.type "object")=some true)(mb0:Z5 K C0 (.type "BaseException")=some true)(cl0:aap K C0=some r0)
 (kp0:XD K (.ref C0) (.ref Cp)=some true)(kv0:XD K (.ref C0) (.type "ValueError")=some true)(np0:((XX C0)==(XX Cp))=false)
 (k00:XD K (.ref C0) (.ref C0)=some true)
 (k01:XD K (.ref C0) (.ref C1)=some false)
 (k02:XD K (.ref C0) (.ref C2)=some false)
 (k03:XD K (.ref C0) (.ref C3)=some false)
 (k04:XD K (.ref C0) (.ref C4)=some false)
 (k05:XD K (.ref C0) (.ref C5)=some false)
 (k06:XD K (.ref C0) (.ref C6)=some false)
 (q1:aaU K C1 [.type "ValueError", .type "Exception", .type "BaseException", .type "object"] "ValueError.__new__"=true)
 (ga1:YW K (.ref C1) "__getattribute__"=some (some (.builtin "BaseException.__getattribute__")))(gt1:YW K (.ref C1) "__getattr__"=some none)(ca1:YW K (.ref C1) "__class__"=some (some (.builtin "object.__class__")))(mo1:Z5 K C1 (.type "object")=some true)(mb1:Z5 K C1 (.type "BaseException")=some true)(cl1:aap K C1=some r1)
 (kp1:XD K (.ref C1) (.ref Cp)=some true)(kv1:XD K (.ref C1) (.type "ValueError")=some true)(np1:((XX C1)==(XX Cp))=false)
 (k10:XD K (.ref C1) (.ref C0)=some false)
 (k11:XD K (.ref C1) (.ref C1)=some true)
 (k12:XD K (.ref C1) (.ref C2)=some false)
 (k13:XD K (.ref C1) (.ref C3)=some false)
 (k14:XD K (.ref C1) (.ref C4)=some false)
 (k15:XD K (.ref C1) (.ref C5)=some false)
 (k16:XD K (.ref C1) (.ref C6)=some false)
 (q4:aaU K C4 [.type "ValueError", .type "Exception", .type "BaseException", .type "object"] "ValueError.__new__"=true)
 (ga4:YW K (.ref C4) "__getattribute__"=some (some (.builtin "BaseException.__getattribute__")))(gt4:YW K (.ref C4) "__getattr__"=some none)(ca4:YW K (.ref C4) "__class__"=some (some (.builtin "object.__class__")))(mo4:Z5 K C4 (.type "object")=some true)(mb4:Z5 K C4 (.type "BaseException")=some true)(cl4:aap K C4=some r4)
 (kp4:XD K (.ref C4) (.ref Cp)=some true)(kv4:XD K (.ref C4) (.type "ValueError")=some true)(np4:((XX C4)==(XX Cp))=false)
 (k40:XD K (.ref C4) (.ref C0)=some false)
 (k41:XD K (.ref C4) (.ref C1)=some false)
 (k42:XD K (.ref C4) (.ref C2)=some false)
 (k43:XD K (.ref C4) (.ref C3)=some false)
 (k44:XD K (.ref C4) (.ref C4)=some true)
 (k45:XD K (.ref C4) (.ref C5)=some false)
 (k46:XD K (.ref C4) (.ref C6)=some false):
 ∃(cv:Nat->Value) (fd:ZC),(∀(s:Xl) (u:Value),ac3 s fd ⟨[u],[]⟩ [("_law_script",u)])/\∀base:Heap,K.In base->base.Ns XJ mg->FnOk P w K mg base (cW P w cv) 10 fa fd ["_law_script"] (EI K cv 1 kq):=by
 have ea:=Vv.symm.trans (Yy X G a_law_k50);cases ea;refine⟨λn=> .ref (cB (Pa C0 C1 C2 C3 C4 C5 C6) n),YN "law" "law" (eV au) (aZ au) (ai au) .none qF ql rM qb la qk,λs v=> .of_eq rfl,λbase KB GB=>?_⟩;have B:Bl K mg base (λn=> .ref (cB (Pa C0 C1 C2 C3 C4 C5 C6) n)) (Pa C0 C1 C2 C3 C4 C5 C6) Cp:=by
  refine⟨X3 X G z_len,X3 X G z_isinstance,X3 X G z_all,X3 X G z_abs,X3 X G z_max,X3 X G z_min,X3 X G z_range,X3 X G z_str,X3 X G z_int,X3 X G z_bool,X3 X G z_tuple,X3 X G z_list,X3 X G z_dict,X3 X G z_sorted,X3 X G z_enumerate,X3 X G z_ValueError,⟨_,Yy X G y_LETTERS⟩,⟨_,Yy X G y_MOST_ROWS⟩,⟨_,Yy X G y_MOST_COLUMNS⟩,⟨_,Yy X G y_GREATEST_LEAST⟩,?cls,A8 KB GB e0 q0,A8 KB GB e1 q1,A8 KB GB e4 q4,λ_=>rfl,Yy X G ep,?exm,?exs,?kit,?kitV⟩
  case cls=>
   intro n x e
   match n,e with
   |0,e=>cases e;exact Yy X G e0
   |1,e=>cases e;exact Yy X G e1
   |2,e=>cases e;exact Yy X G e2
   |3,e=>cases e;exact Yy X G e3
   |4,e=>cases e;exact Yy X G e4
   |5,e=>cases e;exact Yy X G e5
   |6,e=>cases e;exact Yy X G e6
   |n+7,e=>cases e
  case exm=>
   intro n;have h:∀m,m∈[0,1,4]->aaL K (.ref ((Pa C0 C1 C2 C3 C4 C5 C6) m)) (.ref Cp)=some true:=by
    intro m hm;simp only[Xs,Yz,or_false] at hm;rcases hm with rfl | rfl | rfl
    ·exact Aj sp kp0 np0
    ·exact Aj sp kp1 np1
    ·exact Aj sp kp4 np4
   exact h (NV n) (CF n)
  case exs=>
   intro C hC;simp only[vh,Pa,Xs,Yz,or_false] at hC;rcases hC with e | e | e<;>subst e
   ·exact⟨ga0,gt0,ca0,mo0,mb0,by rw[cl0];rfl⟩
   ·exact⟨ga1,gt1,ca1,mo1,mb1,by rw[cl1];rfl⟩
   ·exact⟨ga4,gt4,ca4,mo4,mb4,by rw[cl4];rfl⟩
  case kit=>
   intro n m hn hm;simp only[Xs,Yz,or_false] at hn;rcases hn with rfl | rfl | rfl
   ·match m,hm with
    |0,_=>exact k00
    |1,_=>exact k01
    |2,_=>exact k02
    |3,_=>exact k03
    |4,_=>exact k04
    |5,_=>exact k05
    |6,_=>exact k06
    |m+7,hm=>exact ad3 hm (by omega)
   ·match m,hm with
    |0,_=>exact k10
    |1,_=>exact k11
    |2,_=>exact k12
    |3,_=>exact k13
    |4,_=>exact k14
    |5,_=>exact k15
    |6,_=>exact k16
    |m+7,hm=>exact ad3 hm (by omega)
   ·match m,hm with
    |0,_=>exact k40
    |1,_=>exact k41
    |2,_=>exact k42
    |3,_=>exact k43
    |4,_=>exact k44
    |5,_=>exact k45
    |6,_=>exact k46
    |m+7,hm=>exact ad3 hm (by omega)
  case kitV=>
   intro n hn;simp only[Xs,Yz,or_false] at hn;rcases hn with rfl | rfl | rfl
   ·exact kv0
   ·exact kv1
   ·exact kv4
 have rf:=(DF.at X G d_is_whole).elim λ_ t=>y7 (P:=P) (w:=w) B t;have yV:=(DF.at X G d_is_letter).elim λ_ t=>wA (P:=P) (w:=w) B t;have jV:=(DF.at X G d_cells_of_row).elim λ_ t=>pJ (P:=P) (w:=w) B t;have jW:=(DF.at X G d_letter_of).elim λ_ t=>wF (P:=P) (w:=w) B t;have AV:=(DF.at X G d_are_next).elim λ_ t=>yZ (P:=P) (w:=w) B t;have Ck:=(DF.at X G d_keyed).elim λ_ t=>Gz (P:=P) (w:=w) B t;have wt:=(DF.at X G d_numbers_of).elim λ_ t=>tB (P:=P) (w:=w) B t;have AY:=(DF.at X G d_law_cell).elim λ_ t=>y8 (P:=P) (w:=w) B t;have oT:=(DF.at X G d_law_cells).elim λ_ t=>wC (P:=P) (w:=w) B t;have we:=(DF.at X G d_law_beside).elim λ_ t=>s_ (P:=P) (w:=w) B t;have sY:=(DF.at X G d_law_refused).elim λ_ t=>rl (P:=P) (w:=w) B t;have wj:=(DF.at X G d_law_shared).elim λ_ t=>th (P:=P) (w:=w) B t;have Gv:=(DF.at X G d_is_row).elim λ_ t=>D4 (P:=P) (w:=w) B yV t;have yX:=(DF.at X G d_need_ways).elim λ_ t=>wG (P:=P) (w:=w) B rf t;have oQ:=(DF.at X G d_all_cells).elim λ_ t=>wy (P:=P) (w:=w) B jV t;have mv:=(DF.at X G d_next_cells).elim λ_ t=>tw (P:=P) (w:=w) B AV t;have ri:=(DF.at X G d_with_letters).elim λ_ t=>pM (P:=P) (w:=w) B Ck jV jW t;have oU:=(DF.at X G d_law_drawn).elim λ_ t=>wD (P:=P) (w:=w) B AY t;have wg:=(DF.at X G d_law_labels).elim λ_ t=>tf (P:=P) (w:=w) B oT we t;have AW:=(DF.at X G d_is_board).elim λ_ t=>y0 (P:=P) (w:=w) B Gv t;have wk:=(DF.at X G d_like_cells).elim λ_ t=>tm (P:=P) (w:=w) B jW mv t;have rh:=(DF.at X G d_shared_sides).elim λ_ t=>pL (P:=P) (w:=w) B wt oQ mv t;have yW:=(DF.at X G d_law_board).elim λ_ t=>wB (P:=P) (w:=w) B oU t;have sX:=(DF.at X G d_law_patches).elim λ_ t=>rk (P:=P) (w:=w) B wg oT t;have wo:=(DF.at X G d_need_board).elim λ_ t=>tu (P:=P) (w:=w) B AW t;have wu:=(DF.at X G d_steps_back).elim λ_ t=>tE (P:=P) (w:=w) B wk t;have wm:=(DF.at X G d_melts_into).elim λ_ t=>tq (P:=P) (w:=w) B rh t;have AZ:=(DF.at X G d_law_once).elim λ_ t=>y9 (P:=P) (w:=w) B sX wj t;have sW:=(DF.at X G d_all_patches).elim λ_ t=>rj (P:=P) (w:=w) B oQ wu Ck t;have gN:=(DF.at X G d_need_melting).elim λ_ t=>pK (P:=P) (w:=w) B wo yX rf t;have oP:=(DF.at X G d_after_one).elim λ_ t=>wx (P:=P) (w:=w) B sW wm ri jW t;have oS:=(DF.at X G d_all_steps).elim λ_ t=>wz (P:=P) (w:=w) B oP t;have s9:=(DF.at X G d_melted_once).elim λ_ t=>rn (P:=P) (w:=w) B gN oP t;have Gw:=(DF.at X G d_melted).elim λ_ t=>D5 (P:=P) (w:=w) B gN oS t;have A0:=(DF.at X G d_steps_of).elim λ_ t=>y_ (P:=P) (w:=w) B gN oS t;have sZ:=(DF.at X G d_law_told_v8).elim λ_ t=>rm (P:=P) (w:=w) B sY s9 Gw A0 t;exact yY B yW AZ oU sZ (Fl (st:=au) l_law_k50 c_law_k50 k_law_k50)
end K1
open PySem PySem.W PyProof.Rows
theorem PySem.Challenge.cw_cellpatches_k50_melting_holds : PySem.Challenge.rw_cellpatches_k50_melting.Holds := by
 w_on;refine holds_law (by kernel_rfl) λWK=>?_
 refine holds_open (q:=K1.zI) (loose:=[]) (Xt:=λs=>xlAt K1.zI [] s&&recOk (RowW.records (OpenRow.toRowW _)) s) (XP:=XL K1.zI []) (Yf:=Hook.obs (kHook K1.qu K1.qt (λ_=>by kernel_rfl))) (Ya:=Hook.val (kHook K1.qu K1.qt (λ_=>by kernel_rfl))) (YP:=Hook.says (kHook K1.qu K1.qt (λ_=>by kernel_rfl))) (N:=5870) ?hl (Hook.of (kHook K1.qu K1.qt (λ_=>by kernel_rfl))) (Hook.keeps (kHook K1.qu K1.qt (λ_=>by kernel_rfl))) (λs e=>xl_of s (adl.mp e).1) XL.keeps (by rfl) (by rfl) (by rfl) (λs e=>recFacts_of (adl.mp e).2) (by rfl) (by first | assumption | decide+kernel) (by decide+kernel) ⟨rfl,rfl,rfl,rfl,rfl,by decide+kernel⟩ ?hw ?hc
 case hl=>exact K1.OI
 (case hw=>w_witness2)
 k_fill
 refine L3.Qi (l:=PySem.Challenge.rw_cellpatches_k50_melting) (k:=10) (n:=63) (x:="_law_script") (g:=K1.kq) rfl (by decide) rfl ⟨rfl,by decide,by decide⟩ (λw h Y=>PySem.W.kIn_of Y) K1.F9 ?F
 case F=>
  intro w mg fa h KX G LU;refine' K1.all_mk KX G LU ?d_is_whole ?d_is_letter ?d_cells_of_row ?d_letter_of ?d_are_next ?d_keyed ?d_numbers_of ?d_law_cell ?d_law_cells ?d_law_beside ?d_law_refused ?d_law_shared ?d_is_row ?d_need_ways ?d_all_cells ?d_next_cells ?d_with_letters ?d_law_drawn ?d_law_labels ?d_is_board ?d_like_cells ?d_shared_sides ?d_law_board ?d_law_patches ?d_need_board ?d_steps_back ?d_melts_into ?d_law_once ?d_all_patches ?d_need_melting ?d_after_one ?d_all_steps ?d_melted_once ?d_melted ?d_steps_of ?d_law_told_v8 ?a_law_k50 ?l_law_k50 ?c_law_k50 ?k_law_k50 ?z_len ?z_isinstance ?z_all ?z_abs ?z_max ?z_min ?z_range ?z_str ?z_int ?z_bool ?z_tuple ?z_list ?z_dict ?z_sorted ?z_enumerate ?z_ValueError ?y_LETTERS ?y_MOST_ROWS ?y_MOST_COLUMNS ?y_GREATEST_LEAST ?e0 ?e1 ?e2 ?e3 ?e4 ?e5 ?e6 ?ep ?sp ?q0 ?ga0 ?gt0 ?ca0 ?mo0 ?mb0 ?cl0 ?kp0 ?kv0 ?np0 ?k00 ?k01 ?k02 ?k03 ?k04 ?k05 ?k06 ?q1 ?ga1 ?gt1 ?ca1 ?mo1 ?mb1 ?cl1 ?kp1 ?kv1 ?np1 ?k10 ?k11 ?k12 ?k13 ?k14 ?k15 ?k16 ?q4 ?ga4 ?gt4 ?ca4 ?mo4 ?mb4 ?cl4 ?kp4 ?kv4 ?np4 ?k40 ?k41 ?k42 ?k43 ?k44 ?k45 ?k46
  any_goals (refine' K1.DF.mk ?a ?l ?c ?k;(case a=>k_is);(case l=>k_is);(case c=>k_is);(case k=>k_is))
  any_goals first | k_is | kit_is | k_exc | rfl
