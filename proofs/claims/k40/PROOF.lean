import PyProof.Rows.All
import KE.KDictOf
import KE.KDictSum
import KE.KSortTup
import KE.KTryMore
import KE.RegKIsAll
import Lean
import PySem.Challenge.RW_cellpatches_k40_painting
open PySem renaming wpAny_bind->Wb,Shared->We,wpAny_pure->Wk,starEach->Wt,sizeLine->WB,mainGlobals->WH,Program->WQ,Around->WX,bootBuiltins->W8,compareOp->Xh,wpAny_mono->Xp,behindInMarks->Xv,wpAny_newObj_type->Xz,wpAny_truthy_bool->XO,sysModules->XQ,wpAny_holding->XR,mem_of_lookup->XY,backTo->X2,wpAny_dictEntries->X3,wpAny_call_entry->Yd,tupleKind->Ye,FuncData->Yk,DictEntry->Ym,sizeLine_eq->Yq,attributeBase->Yr,wpAny_typeNameOfWhole_keyiter->Yu,tupleKind_room_in1->Yz,wpAny_passesOwn->YH,keywordEach->YI,Keyword->YS,wpAny_typeNameOf_keyiter->Y6,wpAny_getItem_str_slice->Za,wpAny_callSpecial?_slot->Zb,codeAny_builtin->Zc,binaryOp->Zd,storedH->Zs,plainId_quiet->Zu,wpAny_execs_nil->Zz,wpAny_dictEpoch->ZA,sliceBounds->ZC,codeAny->ZD,wpAny_typeOf->ZL,wpAny_Call_Name_kw->ZM,backToKw->ZN,NameKind->ZO,wpAny_tryCatch->ZQ,swapsWith->ZU,foldedSetIterable->ZV,call_meets->ZW,assignEach->ZX,Builtin->Z8,wpAny_notOrdered_dict->aah,pyNext->aai,post_val_or_str->aaj,letOwnedTupleGo->aak,getItem->aal,typeLookup->aat,typeIs_str->aau,wpAny_seqItems->aaI,recursionLimit->aaJ,rawInt->aaK,Paired->aaL,swapsWithSole->aaU,dictSetHashed->aaV,wpAny_pyIter_list->aa6,wpAny_loadPart_at->aa7,wpAny_assign_Name->aa8,wpAny_Call_method->aa9,callerA->aa_,codeAny_mono->abk,call_meetsIn->abl,IsPart->abn,wpAny_forIn_list->abr,noFill_tuple_add->abt,wpAny_updateSeq->abB,wpAny_specialOf->abC,wpAny_letGo->abD,valueAt->abE,size_of_entries->abF,richCompare->abG,cellsFrom->abH,BindsTo->abP,wpAny_newFunctionEnv_cells->abR,wpAny_rule->ab3,wpAny_comprehension_free->ab4,entryOfKey->ab5,IsTupleKey->ab9,wpAny_newList->ab_,seq_tuple_add->acd,notedBy->ace,call->ach
open List renaming length_map->Wc,mem_cons_of_mem->Wf,mem_cons_self->Wh,getElem?_eq_getElem->Wi,length_append->Wj,length_cons->Wl,replicate->Wm,size_toArray->Wo,map_cons->Wq,mem_cons->Wu,getElem?_set_ne->Wx,getElem?_eq_some_iff->Wy,getElem?_map->Wz,mem_map->WC,range->WD,getElem?_set_self->WG,nil_append->WJ,getD_eq_getElem?_getD->WK,mem_filter->WN,append_nil->WU,getElem?_cons_zero->WV,getElem?_cons_succ->WZ,mem_singleton->W2,all_eq_true->W3,getElem?_append_left->W5,mem_append->W6,map_map->W7,range'->W9,getElem?_append_right->W_,mem_append_right->Xa,length_nil->Xb,length_filter_le->Xg,not_mem_nil->Xi,flatMap_cons->Xj,append_assoc->Xk,Nodup->Xl,map_append->Xo,mem_of_getElem?->Xu,pairwise_cons->XB,getElem?_replicate->XC,map_nil->XE,nodup_append->XI,length_take->XS,cons_append->XT,toArray->XU,mem_range->XW,replicate_succ->XZ,nodup_cons->X0,mem_flatMap->X6,lookup_cons->X7,zip_cons_cons->X9,set_cons_zero->X_,set_cons_succ->Yb,mem_append_left->Yg,length_drop->Yo,getElem_mem->Yp,filter_nil->Yv,sum_cons->YA,flatten_cons->YB,mem_iff_getElem->YF,pairwise_iff_getElem->YL,nodup_nil->YM,filter_cons->YN,all_map->YR,pairwise_singleton->YX,foldl_cons->YY,find?_cons->YZ,filter_cons_of_pos->Y0,filter_cons_of_neg->Y1,any_cons->Y2,all_cons->Y3,length_range->Y_,length_replicate->Zg,range'_succ->Zj,map_flatMap->Zk,pairwise_append->Zn,of_mem_zip->Zq,getElem?_range->Zr,pairwise_map->ZH,filter_congr->ZI,length_eq_zero_iff->ZP,take_length->ZR,getElem?_eq_none->Z0,map_congr_left->aad,filterMap_cons->aae,set_eq_take_append_cons_drop->aay,mem_filterMap->aaz,length_range'->aaA,filter_append->aaB,ext_getElem->aaT,length_zip->aa0,forIn_cons->aa1,filter_map->aa2,drop_eq_getElem_cons->abm,length_erase_of_mem->aby,take_of_length_le->abM,range_succ_eq_map->abN,length_singleton->abV,range_eq_range'->ab0,length_flatMap->ab7,length->ab8,mem_range'_1->acu,getElem?_set->acv,foldl_append->acw,foldl->acx
open PySem.Heap renaming get?_push_of_some->Wg,lt_size->Ww,get?_push_size->WA,get?_update_self->XN,SameBut->Yj,size_push->Zx,get?_update_other->ZT,get?_none_of_le->ab1
open PySem.W renaming Frag->Wn,kitOne->Ws,nsIn->WR,mg_none_of->W0,kia_one->Xm,findIn->Xn,mg_of->Xx,fnOf->XA,keepIn->XF,mroIn->Yh,codeIn->YD,clsIn->YO,excIn->Zh,hideAll->Zl,exmOne->Zt,cellsFrom_some->ZJ,looks_findIn->ZY,callWith_K->Z_,methodObj->aan,instObj->aaP,lookIn->aaW,looks_mroIn->abK,hideAll_get->abL,of_hideAll->abS,codeRec_of->abT,kitx_list->abW,kitx_dict->abX,plainGet->ab6,OpenLaw->aci
open Nat renaming le_refl->Wr,le_trans->WM,ne_of_lt->WS,lt_of_lt_of_le->WW,zero_le->Xe,lt_irrefl->Xr,mul_le_mul->XM,le_of_lt->XX,lt_trans->YT,lt_succ_of_lt->Ze,lt_succ_self->Zm,mul_le_mul_right->Zp,ne_of_gt->Zw,lt_of_le_of_lt->aaE,add_comm->aaS,le_antisymm->abe,div_div_eq_div_mul->abU,zero_add->abY,mul_comm->abZ,one_mul->ack,add_mul->acm,add_right_comm->acr
open Bool renaming and_eq_true->Wv,false_ne_true->WO,false_eq_true->Xf,not_false->aab,and_false->aac,eq_false_iff->aaN,false_and->abq,true_and->abz,and_true->abA,and_eq_true_iff->ab2
open PySem.Data renaming fields->WE,dict->Y4,cls->Z7
open PySem.PassesOwn renaming never->WI
open Array renaming length_toList->WL,getElem?_toList->X8,getElem?_eq_getElem->YK,append_assoc->aar,isEmpty_iff->aco
open PySem.Value renaming ref->WT,none->Xy,bool->Yn,builtin->YU,type->aaC,str->abI,int->abJ
open Option.some renaming inj->WY
open PySem.Str renaming ofString->W4
open Option renaming isSome_iff_exists->Xc,map_eq_some_iff->Y5,isSome_map->aax,getD_some->aaM,getD_none->acj
open PySem.Heap.SameBut renaming update->Xd,refl->abo
open Ne renaming symm->Xq
open ForInStep renaming yield->Xs
open PyProof.Rows renaming envOfC->XD,slot_tuple_getitem->X5,seqObj->Yc,IntsAre->Yl,callWith_type1->Y9,kindOf->Z9,AllBare->aas,lt_int->aaZ,subscriptTail->acb,subscriptTail_builtinR->acp
open False renaming elim->XG
open True renaming intro->XH
open PySem.Obj renaming mapSeq->XJ,data_mapDictKeys->Zo,isFreed_of_dict->aao,data_mapFields->acq
open PySem.F renaming excBase_ValueError->X1,slot_dict_get->X4,plain_min_loop->Ys,slot_dict_keyiterator_next->Yw,plainAttrs_list->YQ,entry_dict_get->YW,args_tuple_add_2->Zv,plainAttrs_dict->ZE,entry_tuple_add->ZF,slot_tuple_add->ZK,slot_dict_update->aaY,args_dict_keyiterator_next_1->aa4,args_dict_get_3->abb,args_dict_get_2->abc,entry_min_loop->abh,entry_dict_keyiterator_next->abi,type_dict_get->abx,typeOf_object_class->acn
open PySem.Paired renaming length->Yi
open PySem.Builtin.Slice renaming slicePlaces->Yt,sliceAdjust->Zi,sliceApplied->aag
open PySem.Builtin.Tuple renaming tupleExact->Yx,tupleItemsOf->aaf,tupleHashOf->aaq
open PySem.Builtin.List renaming listTooLong->Yy
open PySem.Around renaming under_plainId->YC,frames_deeper->abQ
open PySem.Calls renaming evalArgs_plain->YE,spliced_cons->YV,callWith_builtin->Y7,spliced_nil->ZG,Name_function_global->aa5,call_function_entry->abj
open PySem.Builtin.Dict renaming updateFrom->YG,showsAll->Zy,entriesForEmpty->aaa,selfAndRest->aaG,addKeywords->aaH,pairItems->aaQ,mergeDict->aaR
open PySem.Builtin.Str renaming occurrences->YJ
open PUnit renaming unit->Y8
open Int renaming toNat_natCast->Zf,toNat_of_nonneg->aap,emod_lt_of_pos->aaF,emod_nonneg->abg
open PySem.Builtin.Dict_items renaming ownsTuple->ZS
open List.Pairwise renaming imp->ZZ,nil->abf
open PySem.Builtin.Builtins renaming bindParams->Z4
open PySem.Txt renaming slice_le->Z5,slice->aaD
open Int.ofNat renaming inj->Z6
open LawfulBEq renaming eq_of_beq->aam
open ToString renaming toString->aav
open Prod renaming ext->aaw
open Sum renaming inl->aaO,inr->aba
open Classical renaming propDecidable->aaX,not_forall->abp,not_imp->abO
open Function renaming comp->aa3
open Prod.mk renaming injEq->abd
open PySem.SeqAt.EqAt renaming str_int->abu,int_str->abv,int_int->abw
open MonadExcept renaming tryCatch->aca
open PySem.Value.ref renaming inj->acf
open PySem.SeqAt renaming EqAt->acg
open PySem.NameKind renaming free->acs
set_option maxHeartbeats 0
set_option Elab.async false
set_option linter.all false
set_option maxRecDepth 100000
abbrev acy:=@if_pos
abbrev acz:=@if_neg
abbrev acA:=@decide_eq_true_eq
abbrev acB:=@decide_eq_true
abbrev acC:=@decide_eq_false
abbrev acD:=@of_decide_eq_true
abbrev acE:=@absurd
abbrev acF:=@decide_eq_decide
abbrev acG:=@beq_eq_false_iff_ne
abbrev acH:=@congrArg
namespace L2
open PySem
def fb(s:Stmt):Arguments:=match s with
 | .FunctionDef _ a _ _ _ _ _ _ _ _=>a
 |_=>{posonlyargs:=[],args:=[],vararg:=none,kwonlyargs:=[],kw_defaults:=[],kwarg:=none,defaults:=[]}
def aV(s:Stmt):List Stmt:=match s with
 | .FunctionDef _ _ b _ _ _ _ _ _ _=>b
 |_=>[]
def ai(s:Stmt):Scope:=match s with
 | .FunctionDef _ _ _ _ _ _ sc _ _ _=>sc
 |_=>{kind:= .function,names:=[],isGenerator:=false,isCoroutine:=false}
end L2
namespace K1
open PySem PySem.Spec
def top(i:Nat):Stmt:=PySem.Challenge.pw_cellpatches_k40_painting.main.body.getD i (.Pass ⟨0,0,0,0⟩)
abbrev hS(s:String)(t:Tok):Value:= .str (W4 s) t
abbrev hE(P:Params)(s:String)(t:Tok)(v:Value):Ym:={hash:=PyData.keyHash P (W4 s),key:=hS s t,val:=v}
abbrev hT(xs:Array Value):Obj:={cls:= .type "tuple",data:=Data.seq xs}
abbrev hF(s:String)(t:Stmt)(m:Value)(c:Addr):Obj:={cls:= .type "function",data:=Data.func {name:=W4 s,qualname:=W4 s,params:=L2.fb t,body:=FuncBody.stmts (L2.aV t),scope:=L2.ai t,globals:=3,closure:=[],defaults:= .none,kwdefaults:= .none,pyModule:=m,code:= .ref c} }
def mE:Params->Wn:=λP=>(nat_lit 2,{cls:= .none,data:=Y4 #[]})::
 (nat_lit 3,{cls:= .type "dict",data:=Y4 #[hE P "__name__" 165 (hS "law_cellpatches_k40_painting" 580),hE P "__doc__" 166 .none,hE P "__package__" 167 .none,hE P "__loader__" 168 (.builtin "__main__.__loader__#opaque"),hE P "__spec__" 169 .none,hE P "__annotations__" 170 (.ref 6),hE P "__builtins__" 171 (.ref 4),hE P "__file__" 173 (hS "/claim/cut.py" 172),hE P "__cached__" 174 .none,hE P "PatchError" 206 (.ref 24),hE P "NoBoard" 222 (.ref 37),hE P "NoWays" 238 (.ref 49),hE P "NoCell" 254 (.ref 61),hE P "NoLetter" 270 (.ref 73),hE P "NoNumber" 286 (.ref 85),hE P "NoFit" 302 (.ref 97),hE P "Nothing" 318 (.ref 109),hE P "LETTERS" 322 (hS "abcdef" 321),hE P "MOST_ROWS" 324 (.int 8 323),hE P "MOST_COLUMNS" 326 (.int 8 325),hE P "is_whole" 333 (.ref 118),hE P "is_letter" 340 (.ref 125),hE P "is_row" 346 (.ref 130),hE P "is_board" 352 (.ref 135),hE P "is_cell" 360 (.ref 142),hE P "need_board" 367 (.ref 149),hE P "need_cell" 375 (.ref 156),hE P "need_letter" 382 (.ref 163),hE P "need_letters" 388 (.ref 168),hE P "need_ways" 395 (.ref 175),hE P "cells_of_row" 401 (.ref 180),hE P "all_cells" 410 (.ref 187),hE P "letter_of" 418 (.ref 194),hE P "are_next" 429 (.ref 201),hE P "next_cells" 441 (.ref 208),hE P "keyed" 450 (.ref 215),hE P "with_letters" 456 (.ref 220),hE P "like_cells" 464 (.ref 225),hE P "steps_back" 478 (.ref 232),hE P "all_patches" 490 (.ref 239),hE P "near_among" 496 (.ref 244),hE P "distances" 509 (.ref 251),hE P "parts_of" 523 (.ref 258),hE P "need_paint" 535 (.ref 265),hE P "holds_together" 541 (.ref 270),hE P "painted" 551 (.ref 277),hE P "change" 562 (.ref 284),hE P "cuts" 568 (.ref 289),hE P "paints_over" 579 (.ref 296),hE P "_law_cell" 589 (.ref 303),hE P "_law_drawn" 599 (.ref 310),hE P "_law_board" 605 (.ref 315),hE P "_law_cells" 611 (.ref 320),hE P "_law_beside" 626 (.ref 327),hE P "_law_labels" 632 (.ref 332),hE P "_law_patches" 638 (.ref 337),hE P "_law_refused" 646 (.ref 344),hE P "_law_told" 658 (.ref 351),hE P "_law_painted" 664 (.ref 356),hE P "_law_changed" 675 (.ref 363),hE P "_law_cuts" 688 (.ref 370),hE P "law" 694 (.ref 375)] 62})::
 (nat_lit 15,hT #[.type "ValueError"])::
 (nat_lit 22,hT #[])::
 (nat_lit 23,{cls:= .type "dict",data:=Y4 #[hE P "__module__" 196 (hS "cellpatches.errors" 187),hE P "__firstlineno__" 200 (.int 2 199),hE P "__static_attributes__" 201 (.ref 22),hE P "__weakref__" 203 (.ref 25),hE P "__doc__" 204 .none] 3})::
 (nat_lit 24,{cls:= .type "type",data:=Z7 {name:=W4 "PatchError",bases:=[.type "ValueError"],mro:=[.ref 24, .type "ValueError", .type "Exception", .type "BaseException", .type "object"],ns:=23,qualname:=W4 "PatchError",subclasses:=[.ref 37, .ref 49, .ref 61, .ref 73, .ref 85, .ref 97, .ref 109]},slots:= #[some (.ref 15),none,some (hS "PatchError" 189),some (hS "PatchError" 197),some (.builtin "ValueError.__new__"),some (.bool true)]})::
 (nat_lit 25,{cls:= .type "getset_descriptor",data:=WE #[hS "__weakref__" 202, .ref 24, .builtin "ExceptionGroup.__weakref__", .none]})::
 (nat_lit 28,hT #[.ref 24])::
 (nat_lit 35,hT #[])::
 (nat_lit 36,{cls:= .type "dict",data:=Y4 #[hE P "__module__" 214 (hS "cellpatches.errors" 187),hE P "__firstlineno__" 218 (.int 4 217),hE P "__static_attributes__" 219 (.ref 35),hE P "__doc__" 220 .none] 2})::
 (nat_lit 37,{cls:= .type "type",data:=Z7 {name:=W4 "NoBoard",bases:=[.ref 24],mro:=[.ref 37, .ref 24, .type "ValueError", .type "Exception", .type "BaseException", .type "object"],ns:=36,qualname:=W4 "NoBoard"},slots:= #[some (.ref 28),none,some (hS "NoBoard" 207),some (hS "NoBoard" 215),some (.builtin "ValueError.__new__"),some (.bool true)]})::
 (nat_lit 40,hT #[.ref 24])::
 (nat_lit 47,hT #[])::
 (nat_lit 48,{cls:= .type "dict",data:=Y4 #[hE P "__module__" 230 (hS "cellpatches.errors" 187),hE P "__firstlineno__" 234 (.int 6 233),hE P "__static_attributes__" 235 (.ref 47),hE P "__doc__" 236 .none] 2})::
 (nat_lit 49,{cls:= .type "type",data:=Z7 {name:=W4 "NoWays",bases:=[.ref 24],mro:=[.ref 49, .ref 24, .type "ValueError", .type "Exception", .type "BaseException", .type "object"],ns:=48,qualname:=W4 "NoWays"},slots:= #[some (.ref 40),none,some (hS "NoWays" 223),some (hS "NoWays" 231),some (.builtin "ValueError.__new__"),some (.bool true)]})::
 (nat_lit 52,hT #[.ref 24])::
 (nat_lit 59,hT #[])::
 (nat_lit 60,{cls:= .type "dict",data:=Y4 #[hE P "__module__" 246 (hS "cellpatches.errors" 187),hE P "__firstlineno__" 250 (.int 8 249),hE P "__static_attributes__" 251 (.ref 59),hE P "__doc__" 252 .none] 2})::
 (nat_lit 61,{cls:= .type "type",data:=Z7 {name:=W4 "NoCell",bases:=[.ref 24],mro:=[.ref 61, .ref 24, .type "ValueError", .type "Exception", .type "BaseException", .type "object"],ns:=60,qualname:=W4 "NoCell"},slots:= #[some (.ref 52),none,some (hS "NoCell" 239),some (hS "NoCell" 247),some (.builtin "ValueError.__new__"),some (.bool true)]})::
 (nat_lit 64,hT #[.ref 24])::
 (nat_lit 71,hT #[])::
 (nat_lit 72,{cls:= .type "dict",data:=Y4 #[hE P "__module__" 262 (hS "cellpatches.errors" 187),hE P "__firstlineno__" 266 (.int 10 265),hE P "__static_attributes__" 267 (.ref 71),hE P "__doc__" 268 .none] 2})::
 (nat_lit 73,{cls:= .type "type",data:=Z7 {name:=W4 "NoLetter",bases:=[.ref 24],mro:=[.ref 73, .ref 24, .type "ValueError", .type "Exception", .type "BaseException", .type "object"],ns:=72,qualname:=W4 "NoLetter"},slots:= #[some (.ref 64),none,some (hS "NoLetter" 255),some (hS "NoLetter" 263),some (.builtin "ValueError.__new__"),some (.bool true)]})::
 (nat_lit 76,hT #[.ref 24])::
 (nat_lit 83,hT #[])::
 (nat_lit 84,{cls:= .type "dict",data:=Y4 #[hE P "__module__" 278 (hS "cellpatches.errors" 187),hE P "__firstlineno__" 282 (.int 12 281),hE P "__static_attributes__" 283 (.ref 83),hE P "__doc__" 284 .none] 2})::
 (nat_lit 85,{cls:= .type "type",data:=Z7 {name:=W4 "NoNumber",bases:=[.ref 24],mro:=[.ref 85, .ref 24, .type "ValueError", .type "Exception", .type "BaseException", .type "object"],ns:=84,qualname:=W4 "NoNumber"},slots:= #[some (.ref 76),none,some (hS "NoNumber" 271),some (hS "NoNumber" 279),some (.builtin "ValueError.__new__"),some (.bool true)]})::
 (nat_lit 88,hT #[.ref 24])::
 (nat_lit 95,hT #[])::
 (nat_lit 96,{cls:= .type "dict",data:=Y4 #[hE P "__module__" 294 (hS "cellpatches.errors" 187),hE P "__firstlineno__" 298 (.int 14 297),hE P "__static_attributes__" 299 (.ref 95),hE P "__doc__" 300 .none] 2})::
 (nat_lit 97,{cls:= .type "type",data:=Z7 {name:=W4 "NoFit",bases:=[.ref 24],mro:=[.ref 97, .ref 24, .type "ValueError", .type "Exception", .type "BaseException", .type "object"],ns:=96,qualname:=W4 "NoFit"},slots:= #[some (.ref 88),none,some (hS "NoFit" 287),some (hS "NoFit" 295),some (.builtin "ValueError.__new__"),some (.bool true)]})::
 (nat_lit 100,hT #[.ref 24])::
 (nat_lit 107,hT #[])::
 (nat_lit 108,{cls:= .type "dict",data:=Y4 #[hE P "__module__" 310 (hS "cellpatches.errors" 187),hE P "__firstlineno__" 314 (.int 16 313),hE P "__static_attributes__" 315 (.ref 107),hE P "__doc__" 316 .none] 2})::
 (nat_lit 109,{cls:= .type "type",data:=Z7 {name:=W4 "Nothing",bases:=[.ref 24],mro:=[.ref 109, .ref 24, .type "ValueError", .type "Exception", .type "BaseException", .type "object"],ns:=108,qualname:=W4 "Nothing"},slots:= #[some (.ref 100),none,some (hS "Nothing" 303),some (hS "Nothing" 311),some (.builtin "ValueError.__new__"),some (.bool true)]})::
 (nat_lit 112,hT #[])::
 (nat_lit 114,hT #[hS "thing" 330])::
 (nat_lit 115,hT #[])::
 (nat_lit 117,{cls:= .type "code",data:=WE #[hS "is_whole" 327,hS "is_whole" 328,hS "/claim/cut.py" 329, .int 22 0, .int 1 0, .int 0 0, .int 0 0, .int 3 0, .ref 112, .bool true, .int 181 0, .ref 113, .none, .ref 114, .ref 115, .ref 116, .int 331 0, .int 22 0,hS "/claim/cut.py" 332]})::
 (nat_lit 118,hF "is_whole" (top 13) (hS "cellpatches.boards" 319) 117)::
 (nat_lit 119,hT #[])::
 (nat_lit 121,hT #[hS "thing" 337])::
 (nat_lit 122,hT #[])::
 (nat_lit 124,{cls:= .type "code",data:=WE #[hS "is_letter" 334,hS "is_letter" 335,hS "/claim/cut.py" 336, .int 24 0, .int 1 0, .int 0 0, .int 0 0, .int 3 0, .ref 119, .bool true, .int 181 0, .ref 120, .none, .ref 121, .ref 122, .ref 123, .int 338 0, .int 24 0,hS "/claim/cut.py" 339]})::
 (nat_lit 125,hF "is_letter" (top 14) (hS "cellpatches.boards" 319) 124)::
 (nat_lit 126,hT #[])::
 (nat_lit 129,{cls:= .type "code",data:=WE #[hS "is_row" 341,hS "is_row" 342,hS "/claim/cut.py" 343, .int 26 0, .int 1 0, .int 0 0, .int 0 0, .int 3 0, .ref 126, .bool true, .int 181 0, .ref 127, .none, .none, .none, .ref 128, .int 344 0, .int 26 0,hS "/claim/cut.py" 345]})::
 (nat_lit 130,hF "is_row" (top 15) (hS "cellpatches.boards" 319) 129)::
 (nat_lit 131,hT #[])::
 (nat_lit 134,{cls:= .type "code",data:=WE #[hS "is_board" 347,hS "is_board" 348,hS "/claim/cut.py" 349, .int 30 0, .int 1 0, .int 0 0, .int 0 0, .int 3 0, .ref 131, .bool true, .int 181 0, .ref 132, .none, .none, .none, .ref 133, .int 350 0, .int 30 0,hS "/claim/cut.py" 351]})::
 (nat_lit 135,hF "is_board" (top 16) (hS "cellpatches.boards" 319) 134)::
 (nat_lit 136,hT #[])::
 (nat_lit 138,hT #[hS "board" 356,hS "thing" 357])::
 (nat_lit 139,hT #[])::
 (nat_lit 141,{cls:= .type "code",data:=WE #[hS "is_cell" 353,hS "is_cell" 354,hS "/claim/cut.py" 355, .int 36 0, .int 2 0, .int 0 0, .int 0 0, .int 3 0, .ref 136, .bool true, .int 181 0, .ref 137, .none, .ref 138, .ref 139, .ref 140, .int 358 0, .int 36 0,hS "/claim/cut.py" 359]})::
 (nat_lit 142,hF "is_cell" (top 17) (hS "cellpatches.boards" 319) 141)::
 (nat_lit 143,hT #[])::
 (nat_lit 145,hT #[hS "thing" 364])::
 (nat_lit 146,hT #[])::
 (nat_lit 148,{cls:= .type "code",data:=WE #[hS "need_board" 361,hS "need_board" 362,hS "/claim/cut.py" 363, .int 42 0, .int 1 0, .int 0 0, .int 0 0, .int 3 0, .ref 143, .bool true, .int 181 0, .ref 144, .none, .ref 145, .ref 146, .ref 147, .int 365 0, .int 42 0,hS "/claim/cut.py" 366]})::
 (nat_lit 149,hF "need_board" (top 18) (hS "cellpatches.boards" 319) 148)::
 (nat_lit 150,hT #[])::
 (nat_lit 152,hT #[hS "board" 371,hS "thing" 372])::
 (nat_lit 153,hT #[])::
 (nat_lit 155,{cls:= .type "code",data:=WE #[hS "need_cell" 368,hS "need_cell" 369,hS "/claim/cut.py" 370, .int 45 0, .int 2 0, .int 0 0, .int 0 0, .int 3 0, .ref 150, .bool true, .int 181 0, .ref 151, .none, .ref 152, .ref 153, .ref 154, .int 373 0, .int 45 0,hS "/claim/cut.py" 374]})::
 (nat_lit 156,hF "need_cell" (top 19) (hS "cellpatches.boards" 319) 155)::
 (nat_lit 157,hT #[])::
 (nat_lit 159,hT #[hS "thing" 379])::
 (nat_lit 160,hT #[])::
 (nat_lit 162,{cls:= .type "code",data:=WE #[hS "need_letter" 376,hS "need_letter" 377,hS "/claim/cut.py" 378, .int 48 0, .int 1 0, .int 0 0, .int 0 0, .int 3 0, .ref 157, .bool true, .int 181 0, .ref 158, .none, .ref 159, .ref 160, .ref 161, .int 380 0, .int 48 0,hS "/claim/cut.py" 381]})::
 (nat_lit 163,hF "need_letter" (top 20) (hS "cellpatches.boards" 319) 162)::
 (nat_lit 164,hT #[])::
 (nat_lit 167,{cls:= .type "code",data:=WE #[hS "need_letters" 383,hS "need_letters" 384,hS "/claim/cut.py" 385, .int 51 0, .int 1 0, .int 0 0, .int 0 0, .int 3 0, .ref 164, .bool true, .int 181 0, .ref 165, .none, .none, .none, .ref 166, .int 386 0, .int 51 0,hS "/claim/cut.py" 387]})::
 (nat_lit 168,hF "need_letters" (top 21) (hS "cellpatches.boards" 319) 167)::
 (nat_lit 169,hT #[])::
 (nat_lit 171,hT #[hS "thing" 392])::
 (nat_lit 172,hT #[])::
 (nat_lit 174,{cls:= .type "code",data:=WE #[hS "need_ways" 389,hS "need_ways" 390,hS "/claim/cut.py" 391, .int 54 0, .int 1 0, .int 0 0, .int 0 0, .int 3 0, .ref 169, .bool true, .int 181 0, .ref 170, .none, .ref 171, .ref 172, .ref 173, .int 393 0, .int 54 0,hS "/claim/cut.py" 394]})::
 (nat_lit 175,hF "need_ways" (top 22) (hS "cellpatches.boards" 319) 174)::
 (nat_lit 176,hT #[])::
 (nat_lit 179,{cls:= .type "code",data:=WE #[hS "cells_of_row" 396,hS "cells_of_row" 397,hS "/claim/cut.py" 398, .int 57 0, .int 2 0, .int 0 0, .int 0 0, .int 3 0, .ref 176, .bool true, .int 181 0, .ref 177, .none, .none, .none, .ref 178, .int 399 0, .int 57 0,hS "/claim/cut.py" 400]})::
 (nat_lit 180,hF "cells_of_row" (top 23) (hS "cellpatches.boards" 319) 179)::
 (nat_lit 181,hT #[])::
 (nat_lit 183,hT #[hS "board" 405,hS "found" 406,hS "row" 407])::
 (nat_lit 184,hT #[])::
 (nat_lit 186,{cls:= .type "code",data:=WE #[hS "all_cells" 402,hS "all_cells" 403,hS "/claim/cut.py" 404, .int 59 0, .int 1 0, .int 0 0, .int 0 0, .int 3 0, .ref 181, .bool true, .int 181 0, .ref 182, .none, .ref 183, .ref 184, .ref 185, .int 408 0, .int 59 0,hS "/claim/cut.py" 409]})::
 (nat_lit 187,hF "all_cells" (top 24) (hS "cellpatches.boards" 319) 186)::
 (nat_lit 188,hT #[])::
 (nat_lit 190,hT #[hS "board" 414,hS "cell" 415])::
 (nat_lit 191,hT #[])::
 (nat_lit 193,{cls:= .type "code",data:=WE #[hS "letter_of" 411,hS "letter_of" 412,hS "/claim/cut.py" 413, .int 64 0, .int 2 0, .int 0 0, .int 0 0, .int 3 0, .ref 188, .bool true, .int 181 0, .ref 189, .none, .ref 190, .ref 191, .ref 192, .int 416 0, .int 64 0,hS "/claim/cut.py" 417]})::
 (nat_lit 194,hF "letter_of" (top 25) (hS "cellpatches.boards" 319) 193)::
 (nat_lit 195,hT #[])::
 (nat_lit 197,hT #[hS "one" 422,hS "other" 423,hS "ways" 424,hS "down" 425,hS "along" 426])::
 (nat_lit 198,hT #[])::
 (nat_lit 200,{cls:= .type "code",data:=WE #[hS "are_next" 419,hS "are_next" 420,hS "/claim/cut.py" 421, .int 66 0, .int 3 0, .int 0 0, .int 0 0, .int 3 0, .ref 195, .bool true, .int 181 0, .ref 196, .none, .ref 197, .ref 198, .ref 199, .int 427 0, .int 66 0,hS "/claim/cut.py" 428]})::
 (nat_lit 201,hF "are_next" (top 26) (hS "cellpatches.boards" 319) 200)::
 (nat_lit 202,hT #[])::
 (nat_lit 204,hT #[hS "board" 433,hS "cell" 434,hS "ways" 435,hS "found" 436,hS "row" 437,hS "column" 438])::
 (nat_lit 205,hT #[])::
 (nat_lit 207,{cls:= .type "code",data:=WE #[hS "next_cells" 430,hS "next_cells" 431,hS "/claim/cut.py" 432, .int 72 0, .int 3 0, .int 0 0, .int 0 0, .int 3 0, .ref 202, .bool true, .int 181 0, .ref 203, .none, .ref 204, .ref 205, .ref 206, .int 439 0, .int 72 0,hS "/claim/cut.py" 440]})::
 (nat_lit 208,hF "next_cells" (top 27) (hS "cellpatches.boards" 319) 207)::
 (nat_lit 209,hT #[])::
 (nat_lit 211,hT #[hS "things" 445,hS "found" 446,hS "thing" 447])::
 (nat_lit 212,hT #[])::
 (nat_lit 214,{cls:= .type "code",data:=WE #[hS "keyed" 442,hS "keyed" 443,hS "/claim/cut.py" 444, .int 79 0, .int 1 0, .int 0 0, .int 0 0, .int 3 0, .ref 209, .bool true, .int 181 0, .ref 210, .none, .ref 211, .ref 212, .ref 213, .int 448 0, .int 79 0,hS "/claim/cut.py" 449]})::
 (nat_lit 215,hF "keyed" (top 28) (hS "cellpatches.boards" 319) 214)::
 (nat_lit 216,hT #[])::
 (nat_lit 219,{cls:= .type "code",data:=WE #[hS "with_letters" 451,hS "with_letters" 452,hS "/claim/cut.py" 453, .int 84 0, .int 3 0, .int 0 0, .int 0 0, .int 3 0, .ref 216, .bool true, .int 181 0, .ref 217, .none, .none, .none, .ref 218, .int 454 0, .int 84 0,hS "/claim/cut.py" 455]})::
 (nat_lit 220,hF "with_letters" (top 29) (hS "cellpatches.boards" 319) 219)::
 (nat_lit 221,hT #[])::
 (nat_lit 224,{cls:= .type "code",data:=WE #[hS "like_cells" 459,hS "like_cells" 460,hS "/claim/cut.py" 461, .int 92 0, .int 3 0, .int 0 0, .int 0 0, .int 3 0, .ref 221, .bool true, .int 181 0, .ref 222, .none, .none, .none, .ref 223, .int 462 0, .int 92 0,hS "/claim/cut.py" 463]})::
 (nat_lit 225,hF "like_cells" (top 31) (hS "cellpatches.patches" 457) 224)::
 (nat_lit 226,hT #[])::
 (nat_lit 228,hT #[hS "board" 468,hS "start" 469,hS "ways" 470,hS "back" 471,hS "ring" 472,hS "further" 473,hS "cell" 474,hS "near" 475])::
 (nat_lit 229,hT #[])::
 (nat_lit 231,{cls:= .type "code",data:=WE #[hS "steps_back" 465,hS "steps_back" 466,hS "/claim/cut.py" 467, .int 95 0, .int 3 0, .int 0 0, .int 0 0, .int 3 0, .ref 226, .bool true, .int 181 0, .ref 227, .none, .ref 228, .ref 229, .ref 230, .int 476 0, .int 95 0,hS "/claim/cut.py" 477]})::
 (nat_lit 232,hF "steps_back" (top 32) (hS "cellpatches.patches" 457) 231)::
 (nat_lit 233,hT #[])::
 (nat_lit 235,hT #[hS "board" 482,hS "ways" 483,hS "found" 484,hS "seen" 485,hS "cell" 486,hS "patch" 487])::
 (nat_lit 236,hT #[])::
 (nat_lit 238,{cls:= .type "code",data:=WE #[hS "all_patches" 479,hS "all_patches" 480,hS "/claim/cut.py" 481, .int 107 0, .int 2 0, .int 0 0, .int 0 0, .int 3 0, .ref 233, .bool true, .int 181 0, .ref 234, .none, .ref 235, .ref 236, .ref 237, .int 488 0, .int 107 0,hS "/claim/cut.py" 489]})::
 (nat_lit 239,hF "all_patches" (top 33) (hS "cellpatches.patches" 457) 238)::
 (nat_lit 240,hT #[])::
 (nat_lit 243,{cls:= .type "code",data:=WE #[hS "near_among" 491,hS "near_among" 492,hS "/claim/cut.py" 493, .int 116 0, .int 3 0, .int 0 0, .int 0 0, .int 3 0, .ref 240, .bool true, .int 181 0, .ref 241, .none, .none, .none, .ref 242, .int 494 0, .int 116 0,hS "/claim/cut.py" 495]})::
 (nat_lit 244,hF "near_among" (top 34) (hS "cellpatches.patches" 457) 243)::
 (nat_lit 245,hT #[])::
 (nat_lit 247,hT #[hS "near" 500,hS "start" 501,hS "far" 502,hS "ring" 503,hS "further" 504,hS "thing" 505,hS "other" 506])::
 (nat_lit 248,hT #[])::
 (nat_lit 250,{cls:= .type "code",data:=WE #[hS "distances" 497,hS "distances" 498,hS "/claim/cut.py" 499, .int 122 0, .int 2 0, .int 0 0, .int 0 0, .int 3 0, .ref 245, .bool true, .int 181 0, .ref 246, .none, .ref 247, .ref 248, .ref 249, .int 507 0, .int 122 0,hS "/claim/cut.py" 508]})::
 (nat_lit 251,hF "distances" (top 35) (hS "cellpatches.patches" 457) 250)::
 (nat_lit 252,hT #[])::
 (nat_lit 254,hT #[hS "board" 513,hS "some" 514,hS "ways" 515,hS "near" 516,hS "parts" 517,hS "seen" 518,hS "cell" 519,hS "part" 520])::
 (nat_lit 255,hT #[])::
 (nat_lit 257,{cls:= .type "code",data:=WE #[hS "parts_of" 510,hS "parts_of" 511,hS "/claim/cut.py" 512, .int 134 0, .int 3 0, .int 0 0, .int 0 0, .int 3 0, .ref 252, .bool true, .int 181 0, .ref 253, .none, .ref 254, .ref 255, .ref 256, .int 521 0, .int 134 0,hS "/claim/cut.py" 522]})::
 (nat_lit 258,hF "parts_of" (top 36) (hS "cellpatches.patches" 457) 257)::
 (nat_lit 259,hT #[])::
 (nat_lit 261,hT #[hS "board" 529,hS "cell" 530,hS "ways" 531,hS "letter" 532])::
 (nat_lit 262,hT #[])::
 (nat_lit 264,{cls:= .type "code",data:=WE #[hS "need_paint" 526,hS "need_paint" 527,hS "/claim/cut.py" 528, .int 145 0, .int 4 0, .int 0 0, .int 0 0, .int 3 0, .ref 259, .bool true, .int 181 0, .ref 260, .none, .ref 261, .ref 262, .ref 263, .int 533 0, .int 145 0,hS "/claim/cut.py" 534]})::
 (nat_lit 265,hF "need_paint" (top 38) (hS "cellpatches.painting" 524) 264)::
 (nat_lit 266,hT #[])::
 (nat_lit 269,{cls:= .type "code",data:=WE #[hS "holds_together" 536,hS "holds_together" 537,hS "/claim/cut.py" 538, .int 150 0, .int 4 0, .int 0 0, .int 0 0, .int 3 0, .ref 266, .bool true, .int 181 0, .ref 267, .none, .none, .none, .ref 268, .int 539 0, .int 150 0,hS "/claim/cut.py" 540]})::
 (nat_lit 270,hF "holds_together" (top 39) (hS "cellpatches.painting" 524) 269)::
 (nat_lit 271,hT #[])::
 (nat_lit 273,hT #[hS "board" 545,hS "cell" 546,hS "ways" 547,hS "letter" 548])::
 (nat_lit 274,hT #[])::
 (nat_lit 276,{cls:= .type "code",data:=WE #[hS "painted" 542,hS "painted" 543,hS "/claim/cut.py" 544, .int 153 0, .int 4 0, .int 0 0, .int 0 0, .int 3 0, .ref 271, .bool true, .int 181 0, .ref 272, .none, .ref 273, .ref 274, .ref 275, .int 549 0, .int 153 0,hS "/claim/cut.py" 550]})::
 (nat_lit 277,hF "painted" (top 40) (hS "cellpatches.painting" 524) 276)::
 (nat_lit 278,hT #[])::
 (nat_lit 280,hT #[hS "board" 555,hS "cell" 556,hS "ways" 557,hS "letter" 558,hS "then" 559])::
 (nat_lit 281,hT #[])::
 (nat_lit 283,{cls:= .type "code",data:=WE #[hS "change" 552,hS "change" 553,hS "/claim/cut.py" 554, .int 156 0, .int 4 0, .int 0 0, .int 0 0, .int 3 0, .ref 278, .bool true, .int 181 0, .ref 279, .none, .ref 280, .ref 281, .ref 282, .int 560 0, .int 156 0,hS "/claim/cut.py" 561]})::
 (nat_lit 284,hF "change" (top 41) (hS "cellpatches.painting" 524) 283)::
 (nat_lit 285,hT #[])::
 (nat_lit 288,{cls:= .type "code",data:=WE #[hS "cuts" 563,hS "cuts" 564,hS "/claim/cut.py" 565, .int 160 0, .int 2 0, .int 0 0, .int 0 0, .int 3 0, .ref 285, .bool true, .int 181 0, .ref 286, .none, .none, .none, .ref 287, .int 566 0, .int 160 0,hS "/claim/cut.py" 567]})::
 (nat_lit 289,hF "cuts" (top 42) (hS "cellpatches.painting" 524) 288)::
 (nat_lit 290,hT #[])::
 (nat_lit 292,hT #[hS "board" 572,hS "ways" 573,hS "letters" 574,hS "now" 575,hS "letter" 576])::
 (nat_lit 293,hT #[])::
 (nat_lit 295,{cls:= .type "code",data:=WE #[hS "paints_over" 569,hS "paints_over" 570,hS "/claim/cut.py" 571, .int 167 0, .int 3 0, .int 0 0, .int 0 0, .int 3 0, .ref 290, .bool true, .int 181 0, .ref 291, .none, .ref 292, .ref 293, .ref 294, .int 577 0, .int 167 0,hS "/claim/cut.py" 578]})::
 (nat_lit 296,hF "paints_over" (top 43) (hS "cellpatches.painting" 524) 295)::
 (nat_lit 297,hT #[])::
 (nat_lit 299,hT #[hS "_law_script" 585,hS "_law_k" 586])::
 (nat_lit 300,hT #[])::
 (nat_lit 302,{cls:= .type "code",data:=WE #[hS "_law_cell" 582,hS "_law_cell" 583,hS "/claim/cut.py" 584, .int 176 0, .int 2 0, .int 0 0, .int 0 0, .int 3 0, .ref 297, .bool true, .int 181 0, .ref 298, .none, .ref 299, .ref 300, .ref 301, .int 587 0, .int 176 0,hS "/claim/cut.py" 588]})::
 (nat_lit 303,hF "_law_cell" (top 45) (hS "law_cellpatches_k40_painting" 580) 302)::
 (nat_lit 304,hT #[])::
 (nat_lit 306,hT #[hS "_law_script" 593,hS "_law_k" 594,hS "_law_many" 595,hS "_law_cell_here" 596])::
 (nat_lit 307,hT #[])::
 (nat_lit 309,{cls:= .type "code",data:=WE #[hS "_law_drawn" 590,hS "_law_drawn" 591,hS "/claim/cut.py" 592, .int 180 0, .int 3 0, .int 0 0, .int 0 0, .int 3 0, .ref 304, .bool true, .int 181 0, .ref 305, .none, .ref 306, .ref 307, .ref 308, .int 597 0, .int 180 0,hS "/claim/cut.py" 598]})::
 (nat_lit 310,hF "_law_drawn" (top 46) (hS "law_cellpatches_k40_painting" 580) 309)::
 (nat_lit 311,hT #[])::
 (nat_lit 314,{cls:= .type "code",data:=WE #[hS "_law_board" 600,hS "_law_board" 601,hS "/claim/cut.py" 602, .int 184 0, .int 3 0, .int 0 0, .int 0 0, .int 3 0, .ref 311, .bool true, .int 181 0, .ref 312, .none, .none, .none, .ref 313, .int 603 0, .int 184 0,hS "/claim/cut.py" 604]})::
 (nat_lit 315,hF "_law_board" (top 47) (hS "law_cellpatches_k40_painting" 580) 314)::
 (nat_lit 316,hT #[])::
 (nat_lit 319,{cls:= .type "code",data:=WE #[hS "_law_cells" 606,hS "_law_cells" 607,hS "/claim/cut.py" 608, .int 193 0, .int 1 0, .int 0 0, .int 0 0, .int 3 0, .ref 316, .bool true, .int 181 0, .ref 317, .none, .none, .none, .ref 318, .int 609 0, .int 193 0,hS "/claim/cut.py" 610]})::
 (nat_lit 320,hF "_law_cells" (top 48) (hS "law_cellpatches_k40_painting" 580) 319)::
 (nat_lit 321,hT #[])::
 (nat_lit 323,hT #[hS "_law_board_here" 615,hS "_law_cell_here" 616,hS "_law_ways" 617,hS "_law_found" 618,hS "_law_down" 619,hS "_law_right" 620,hS "_law_row" 621,hS "_law_column" 622,hS "_law_inside" 623])::
 (nat_lit 324,hT #[])::
 (nat_lit 326,{cls:= .type "code",data:=WE #[hS "_law_beside" 612,hS "_law_beside" 613,hS "/claim/cut.py" 614, .int 198 0, .int 3 0, .int 0 0, .int 0 0, .int 3 0, .ref 321, .bool true, .int 181 0, .ref 322, .none, .ref 323, .ref 324, .ref 325, .int 624 0, .int 198 0,hS "/claim/cut.py" 625]})::
 (nat_lit 327,hF "_law_beside" (top 49) (hS "law_cellpatches_k40_painting" 580) 326)::
 (nat_lit 328,hT #[])::
 (nat_lit 331,{cls:= .type "code",data:=WE #[hS "_law_labels" 627,hS "_law_labels" 628,hS "/claim/cut.py" 629, .int 208 0, .int 2 0, .int 0 0, .int 0 0, .int 3 0, .ref 328, .bool true, .int 181 0, .ref 329, .none, .none, .none, .ref 330, .int 630 0, .int 208 0,hS "/claim/cut.py" 631]})::
 (nat_lit 332,hF "_law_labels" (top 50) (hS "law_cellpatches_k40_painting" 580) 331)::
 (nat_lit 333,hT #[])::
 (nat_lit 336,{cls:= .type "code",data:=WE #[hS "_law_patches" 633,hS "_law_patches" 634,hS "/claim/cut.py" 635, .int 226 0, .int 2 0, .int 0 0, .int 0 0, .int 3 0, .ref 333, .bool true, .int 181 0, .ref 334, .none, .none, .none, .ref 335, .int 636 0, .int 226 0,hS "/claim/cut.py" 637]})::
 (nat_lit 337,hF "_law_patches" (top 51) (hS "law_cellpatches_k40_painting" 580) 336)::
 (nat_lit 338,hT #[])::
 (nat_lit 340,hT #[hS "_law_e" 642,hS "_law_flags" 643])::
 (nat_lit 341,hT #[])::
 (nat_lit 343,{cls:= .type "code",data:=WE #[hS "_law_refused" 639,hS "_law_refused" 640,hS "/claim/cut.py" 641, .int 232 0, .int 1 0, .int 0 0, .int 0 0, .int 3 0, .ref 338, .bool true, .int 181 0, .ref 339, .none, .ref 340, .ref 341, .ref 342, .int 644 0, .int 232 0,hS "/claim/cut.py" 645]})::
 (nat_lit 344,hF "_law_refused" (top 52) (hS "law_cellpatches_k40_painting" 580) 343)::
 (nat_lit 345,hT #[])::
 (nat_lit 347,hT #[hS "_law_which" 650,hS "_law_board_here" 651,hS "_law_cell_here" 652,hS "_law_ways" 653,hS "_law_thing" 654,hS "_law_e" 655])::
 (nat_lit 348,hT #[])::
 (nat_lit 350,{cls:= .type "code",data:=WE #[hS "_law_told" 647,hS "_law_told" 648,hS "/claim/cut.py" 649, .int 239 0, .int 5 0, .int 0 0, .int 0 0, .int 3 0, .ref 345, .bool true, .int 181 0, .ref 346, .none, .ref 347, .ref 348, .ref 349, .int 656 0, .int 239 0,hS "/claim/cut.py" 657]})::
 (nat_lit 351,hF "_law_told" (top 53) (hS "law_cellpatches_k40_painting" 580) 350)::
 (nat_lit 352,hT #[])::
 (nat_lit 355,{cls:= .type "code",data:=WE #[hS "_law_painted" 659,hS "_law_painted" 660,hS "/claim/cut.py" 661, .int 246 0, .int 4 0, .int 0 0, .int 0 0, .int 3 0, .ref 352, .bool true, .int 181 0, .ref 353, .none, .none, .none, .ref 354, .int 662 0, .int 246 0,hS "/claim/cut.py" 663]})::
 (nat_lit 356,hF "_law_painted" (top 54) (hS "law_cellpatches_k40_painting" 580) 355)::
 (nat_lit 357,hT #[])::
 (nat_lit 359,hT #[hS "_law_board_here" 668,hS "_law_row" 669,hS "_law_column" 670,hS "_law_letter" 671,hS "_law_line" 672])::
 (nat_lit 360,hT #[])::
 (nat_lit 362,{cls:= .type "code",data:=WE #[hS "_law_changed" 665,hS "_law_changed" 666,hS "/claim/cut.py" 667, .int 253 0, .int 4 0, .int 0 0, .int 0 0, .int 3 0, .ref 357, .bool true, .int 181 0, .ref 358, .none, .ref 359, .ref 360, .ref 361, .int 673 0, .int 253 0,hS "/claim/cut.py" 674]})::
 (nat_lit 363,hF "_law_changed" (top 55) (hS "law_cellpatches_k40_painting" 580) 362)::
 (nat_lit 364,hT #[])::
 (nat_lit 366,hT #[hS "_law_board_here" 679,hS "_law_ways" 680,hS "_law_found" 681,hS "_law_many" 682,hS "_law_row" 683,hS "_law_column" 684,hS "_law_fresh" 685])::
 (nat_lit 367,hT #[])::
 (nat_lit 369,{cls:= .type "code",data:=WE #[hS "_law_cuts" 676,hS "_law_cuts" 677,hS "/claim/cut.py" 678, .int 256 0, .int 2 0, .int 0 0, .int 0 0, .int 3 0, .ref 364, .bool true, .int 181 0, .ref 365, .none, .ref 366, .ref 367, .ref 368, .int 686 0, .int 256 0,hS "/claim/cut.py" 687]})::
 (nat_lit 370,hF "_law_cuts" (top 56) (hS "law_cellpatches_k40_painting" 580) 369)::
 (nat_lit 371,hT #[])::
 (nat_lit 374,{cls:= .type "code",data:=WE #[hS "law" 689,hS "law" 690,hS "/claim/cut.py" 691, .int 264 0, .int 1 0, .int 0 0, .int 0 0, .int 3 0, .ref 371, .bool true, .int 181 0, .ref 372, .none, .none, .none, .ref 373, .int 692 0, .int 264 0,hS "/claim/cut.py" 693]})::
 (nat_lit 375,hF "law" (top 57) (hS "law_cellpatches_k40_painting" 580) 374)::[]
def mD:List Nat:=[2,3,15,22,23,24,25,28,35,36,37,40,47,48,49,52,59,60,61,64,71,72,73,76,83,84,85,88,95,96,97,100,107,108,109,112,114,115,117,118,119,121,122,124,125,126,129,130,131,134,135,136,138,139,141,142,143,145,146,148,149,150,152,153,155,156,157,159,160,162,163,164,167,168,169,171,172,174,175,176,179,180,181,183,184,186,187,188,190,191,193,194,195,197,198,200,201,202,204,205,207,208,209,211,212,214,215,216,219,220,221,224,225,226,228,229,231,232,233,235,236,238,239,240,243,244,245,247,248,250,251,252,254,255,257,258,259,261,262,264,265,266,269,270,271,273,274,276,277,278,280,281,283,284,285,288,289,290,292,293,295,296,297,299,300,302,303,304,306,307,309,310,311,314,315,316,319,320,321,323,324,326,327,328,331,332,333,336,337,338,340,341,343,344,345,347,348,350,351,352,355,356,357,359,360,362,363,364,366,367,369,370,371,374,375]
def p3:WQ:={PySem.Challenge.pw_cellpatches_k40_painting with main:={PySem.Challenge.pw_cellpatches_k40_painting.main with body:=[top 1,top 2,top 3,top 4,top 5,top 6,top 7,top 8,top 10,top 11,top 12,top 13,top 14,top 15,top 16,top 17,top 18,top 19,top 20,top 21,top 22,top 23,top 24,top 25,top 26,top 27,top 28,top 29,top 31,top 32,top 33,top 34,top 35,top 36,top 38,top 39,top 40,top 41,top 42,top 43,top 45,top 46,top 47,top 48,top 49,top 50,top 51,top 52,top 53,top 54,top 55,top 56,top 57]} }
open PySem.W PyProof.Rows in
theorem Rg:∀w,(openEnds treeTable PySem.Challenge.rw_cellpatches_k40_painting.row.prog w 6136).map (λs=>(kHook mE mD (λ_=>by kernel_rfl)).obs s)=some ((kHook mE mD (λ_=>by kernel_rfl)).val w):=λw=>by kernel_rfl
open PySem.W PyProof.Rows in
theorem Rf:∀w,(openEnds treeTable PySem.Challenge.rw_cellpatches_k40_painting.row.prog w 6136).map (λs=>openSeen p3 [] (importedModules PySem.Challenge.rw_cellpatches_k40_painting.row.prog.main.body) (λs=>xlAt p3 [] s&&recOk PySem.Challenge.rw_cellpatches_k40_painting.row.records s) true s)=some (openGood p3 []):=λw=>by kernel_rfl
open PySem.W PyProof.Rows in
theorem OG:LeftO PySem.Challenge.rw_cellpatches_k40_painting.row.prog p3 [] (λs=>xlAt p3 [] s&&recOk PySem.Challenge.rw_cellpatches_k40_painting.row.records s) (kHook mE mD (λ_=>by kernel_rfl)).obs (kHook mE mD (λ_=>by kernel_rfl)).val 6136:=λw=>by
 obtain⟨s,e,h⟩:=Y5.mp (Rf w);obtain⟨s',e',h'⟩:=Y5.mp (Rg w);cases WY (e.symm.trans e');exact Y5.mpr ⟨s,e,aaw h h'⟩
end K1
namespace L2
open PySem PySem.Spec PyProof.Rows
abbrev Key:=Sum Int Str
def rF:Key->Value->Bool
 | .inl k,v=>Value.isInt k v
 | .inr x,v=>Value.isStrOf x v
def O4(w:World):Key->Int
 | .inl k=>hashInt k
 | .inr x=>hashStr w x
theorem cQ:∀{k:Key}{v:Value},rF k v=true->(∃i t,k=aaO i/\v=abJ i t)\/(∃x t,k=aba x/\v=abI x t)
 | .inl i,v,h=>by
   obtain⟨t,e⟩:=Value.isInt_shape (k:=i) (v:=v) h;exact .inl ⟨i,t,rfl,e⟩
 | .inr x,v,h=>by
   obtain⟨t,e⟩:=Value.isStrOf_shape (x:=x) (v:=v) h;exact .inr ⟨x,t,rfl,e⟩
theorem D6(i:Int)(t:Tok):rF (.inl i) (.int i t)=true:=by simp[rF,Value.isInt]
theorem D7(x:Str)(t:Tok):rF (.inr x) (.str x t)=true:=by simp[rF,Value.isStrOf]
theorem Mo(a b:Int):decide ((aaO a:Key)=aaO b)=(a==b):=by
 by_cases e:a=b
 ·subst e;simp
 ·have h:¬(aaO a:Key)=aaO b:=λq=>e (Sum.inl.inj q);rw[acC h];exact(acG.mpr e).symm
theorem Mr(a b:Str):decide ((aba a:Key)=aba b)=decide (a=b):=by
 by_cases e:a=b
 ·subst e;simp
 ·have h:¬(aba a:Key)=aba b:=λq=>e (Sum.inr.inj q);rw[acC h,acC e]
theorem Mp(a:Int)(b:Str):decide ((aaO a:Key)=aba b)=false:=acC (λq=>nomatch q)
theorem Mq(a:Str)(b:Int):decide ((aba a:Key)=aaO b)=false:=acC (λq=>nomatch q)
def bp(prog:WQ)(w:World):PySem.KeyKind prog w Key where
 is:=rF
 hash:=O4 w
 inj:=λv a b ha hb=>by
  rcases cQ ha with⟨i,t,rfl,rfl⟩ | ⟨x,t,rfl,rfl⟩
  ·rcases cQ hb with⟨j,u,rfl,e⟩ | ⟨y,u,rfl,e⟩
   ·injection e with e1 _;rw[e1]
   ·exact nomatch e
  ·rcases cQ hb with⟨j,u,rfl,e⟩ | ⟨y,u,rfl,e⟩
   ·exact nomatch e
   ·injection e with e1 _;rw[e1]
 byValue:=λk v h=>by
  rcases cQ h with⟨i,t,rfl,rfl⟩ | ⟨x,t,rfl,rfl⟩<;>rfl
 pyHash:=λhv h=>by
  rcases cQ hv with⟨i,t,rfl,rfl⟩ | ⟨x,t,rfl,rfl⟩
  ·exact wpAny_pyHash_int h
  ·exact wpAny_pyHash_str h
 eqBool:=λhu hv h=>by
  rcases cQ hu with⟨i,t,rfl,rfl⟩ | ⟨x,t,rfl,rfl⟩
  ·rcases cQ hv with⟨j,u,rfl,rfl⟩ | ⟨y,u,rfl,rfl⟩
   ·rw[Mo] at h;exact wpAny_eqBool_int h
   ·rw[Mp] at h;exact abv i t y u _ _ _ _ h
  ·rcases cQ hv with⟨j,u,rfl,rfl⟩ | ⟨y,u,rfl,rfl⟩
   ·rw[Mq] at h;exact abu x t j u _ _ _ _ h
   ·rw[Mr] at h;exact wpAny_eqBool_str h
 «strs» :=λk x t v h=>by
  rcases cQ h with⟨i,u,rfl,e⟩ | ⟨y,u,rfl,e⟩
  ·exact nomatch e
  ·injection e with e1 _
   subst e1;cases v<;>rfl
theorem zm(prog:WQ)(w:World)(i:Int)(t:Tok):(bp prog w).is (.inl i) (.int i t)=true:=D6 i t
theorem zo(prog:WQ)(w:World)(x:Str)(t:Tok):(bp prog w).is (.inr x) (.str x t)=true:=D7 x t
inductive V where
 |non | bl (b:Bool) | int (i:Int) | str (x:Str) | byt (b:Array UInt8) | flt (b:UInt64) | ref (a:Addr) | ty (n:String)
 deriving DecidableEq
def RelV:V->Value->Prop
 | .non,u=>u=Xy
 | .bl b,u=>u=Yn b
 | .int i,u=>∃t,u=abJ i t
 | .str x,u=>∃t,u=abI x t
 | .byt b,u=>∃t,u=Value.bytes b t
 | .flt b,u=>∃t,u=Value.float b t
 | .ref a,u=>u=WT a
 | .ty n,u=>u=aaC n
abbrev Vals:List V->List Value->Prop:=aaL RelV
theorem Vals.length{xs:List V}{us:List Value}(r:Vals xs us):xs.length=us.length:=Yi r
theorem Vals.get:∀{xs:List V}{us:List Value}{i:Nat}{x:V},Vals xs us->xs[i]? =some x->∃u,us[i]? =some u/\RelV x u
 |_,_,_,_, .nil,e=>by simp at e
 |_,_,0,_, .cons r _,e=>by simp at e;subst e;exact⟨_,rfl,r⟩
 |_,_,i+1,x, .cons _ t,e=>by
  obtain⟨u,h1,h2⟩:=Vals.get (i:=i) (x:=x) t (by simpa using e);exact⟨u,by simpa using h1,h2⟩
theorem Vals.append:∀{xs ys:List V}{us ws:List Value},Vals xs us->Vals ys ws->Vals (xs++ys) (us++ws)
 |_,_,_,_, .nil,s=>s
 |_,_,_,_, .cons r t,s=> .cons r (Vals.append t s)
theorem Vals.take:∀{xs:List V}{us:List Value}(n:Nat),Vals xs us->Vals (xs.take n) (us.take n)
 |_,_,0,_=> .nil
 |_,_,_+1, .nil=> .nil
 |_,_,n+1, .cons r t=> .cons r (Vals.take n t)
theorem Vals.drop:∀{xs:List V}{us:List Value}(n:Nat),Vals xs us->Vals (xs.drop n) (us.drop n)
 |_,_,0,r=>r
 |_,_,_+1, .nil=> .nil
 |_,_,n+1, .cons _ t=>Vals.drop n t
def RelO:Option V->Option Value->Prop
 |some v,some u=>RelV v u
 |none,none=>True
 |_,_=>False
def KV{κ:Type}:List (κ×V)->List (κ×Value)->Prop:=aaL λ(p:κ×V) (q:κ×Value)=>p.1=q.1/\RelV p.2 q.2
def kV:Key->V
 | .inl i=> .int i
 | .inr x=> .str x
inductive HO where
 |lst (xs:List V)
 |tup (xs:List V)
 |dK (aI:List (Key×V)) | dT (aI:List (List Key×V))
 |set (S:Int->Bool) (n:Nat)
 |ins (C dx:Addr) (fs:List (Str×V))
 |own (x:Addr)
 |xd (fs:List (Str×V))
 |met (f x:Addr)
 |rng (lo hi:Int)
 |frz (o:Obj) (u:HO)
 |tbl (ps:Array Value)
 |ext (φ:Heap->Prop)
abbrev Hp:=Addr->Option HO
def upd(H:Hp)(a:Addr)(o:HO):Hp:=λb=>if b=a then some o else H b
theorem aQ{H:Hp}{a:Addr}{o:HO}:upd H a o a=some o:=by unfold upd;rw[acy rfl]
theorem aE{H:Hp}{a b:Addr}{o:HO}(h:b≠a):upd H a o b=H b:=by unfold upd;rw[acz h]
theorem Gj{H:Hp}{a b:Addr}{o u:HO}(h:H a=some o)(h':H b=some u)(d:o≠u):a≠b:=by
 intro e;subst e;rw[h] at h';exact d (WY h')
theorem cU{H:Hp}{a b:Addr}{o:HO}(h:H a=some o)(h':H b=none):a≠b:=by
 intro e;subst e;rw[h] at h';cases h'
section
variable(P:WQ)(w:World)
def ObjOk(H:Hp)(h:Heap)(a:Addr):HO->Prop
 | .lst xs=>xs.length<=WB/\∃(aS:List Value) (n:Nat),Vals xs aS/\h.get? a=some {cls:= .type "list",data:= .seq aS.toArray n}
 | .tup xs=>xs.length<=WB/\∃aS:List Value,Vals xs aS/\IsTup h a aS.toArray
 | .dK aI=>aI.length<=WB/\(a==XQ)=false/\∃vs,KV aI vs/\h.DictOf (bp P w) a vs
 | .dT aI=>aI.length<=WB/\(a==XQ)=false/\∃xs:List (List Key×Addr×Value),
    aaL (λ(p:List Key×V) (q:List Key×Addr×Value)=>p.1=q.1/\H q.2.1=some (.tup (p.1.map kV))/\RelV p.2 q.2.2) aI xs/\
    ∃o es ep,h.get? a=some o/\o.ExactDict/\o.data= .dict es ep/\es.toList=xs.map (ab5 (Ye (bp P w)))/\(xs.map (·.1)).Nodup
 | .set S n=>h.SetOf (intKind P w) a S n
 | .ins C dx fs=>H dx=some (.own a)/\fs.length<=1000/\dx≠a/\h.get? a=some (aaP C dx)/\
    ∃mA,h.Ns1 dx mA/\(∀f,RelO (fs.lookup f) (mA f))/\PySem.Within mA (fs.map (·.1))
 | .own _=>∃o,h.get? a=some o
 | .xd fs=>∃mA,h.Ns1 a mA/\∀f,RelO (fs.lookup f) (mA f)
 | .rng lo hi=>∃t u v,h.get? a=some {cls:= .type "range",data:= .fields #[.int lo t, .int hi u, .int 1 v]}
 | .frz o u=>h.get? a=some o/\ObjOk H h a u
 | .tbl ps=>h.get? a=some {cls:= .none,data:= .fields ps}
 | .met f x=>h.get? a=some (aan (.ref f) (.ref x))
 | .ext φ=>φ h/\(∃o,h.get? a=some o)/\∀h1 h2:Heap,φ h1->(∀o,h1.get? a=some o->h2.get? a=some o)->φ h2
def HOk(H:Hp)(h:Heap):Prop:=∀a o,H a=some o->ObjOk P w H h a o
end
section
variable{P:WQ}{w:World}{H H':Hp}{h h':Heap}{a:Addr}{o:HO}
theorem ObjOk.lt(x:ObjOk P w H h a o):a<h.objs.size:=by
 cases o with
 |lst xs=>obtain⟨_,_,_,_,e⟩:=x;exact Ww e
 |tup xs=>obtain⟨_,_,_,p⟩:=x;exact p.lt
 |dK aI=>obtain⟨_,_,_,_,o,_,_,e,_⟩:=x;exact Ww e
 |dT aI=>obtain⟨_,_,_,_,o,_,_,e,_⟩:=x;exact Ww e
 |set S n=>obtain⟨o,_,_,_,e,_⟩:=x;exact Ww e
 |ins C dx fs=>obtain⟨_,_,_,e,_⟩:=x;exact Ww e
 |own y=>obtain⟨_,e⟩:=x;exact Ww e
 |xd fs=>obtain⟨_,⟨_,_,_,e,_⟩,_⟩:=x;exact Ww e
 |rng lo hi=>obtain⟨_,_,_,e⟩:=x;exact Ww e
 |frz ob u=>obtain⟨e,_⟩:=x;exact Ww e
 |tbl ps=>exact Ww (show h.get? a=some _ from x)
 |met f y=>exact Ww (show h.get? a=some _ from x)
 |ext φ=>obtain⟨_,⟨_,e⟩,_⟩:=x;exact Ww e
theorem Paired.mapP{α β:Type}{F G:α->β->Prop}:∀{l₁:List α}{l₂:List β},aaL F l₁ l₂->(∀a b,F a b->G a b)->aaL G l₁ l₂
 |_,_, .nil,_=> .nil
 |_,_, .cons r t,f=> .cons (f _ _ r) (Paired.mapP t f)
theorem ObjOk.stay(x:ObjOk P w H h a o)(k:∀b u,(b=a\/H b=some (.own a))->h.get? b=some u->h'.get? b=some u)
 (ho:∀b,H b=some (.own a)->H' b=some (.own a))(ht:∀b xs,H b=some (.tup xs)->H' b=some (.tup xs)):ObjOk P w H' h' a o:=by
 induction o with
 |lst xs=>obtain⟨z,aS,n,r,e⟩:=x;exact⟨z,aS,n,r,k _ _ (.inl rfl) e⟩
 |tup xs=>obtain⟨z,aS,r,ob,e,c⟩:=x;exact⟨z,aS,r,ob,k _ _ (.inl rfl) e,c⟩
 |dK aI=>obtain⟨z,y,vs,r,ob,es,ep,e,c⟩:=x;exact⟨z,y,vs,r,ob,es,ep,k _ _ (.inl rfl) e,c⟩
 |dT aI=>
  obtain⟨z,y,xs,r,ob,es,ep,e,c⟩:=x;exact⟨z,y,xs,Paired.mapP r λp q z=>⟨z.1,ht _ _ z.2.1,z.2.2⟩,ob,es,ep,k _ _ (.inl rfl) e,c⟩
 |set S n=>obtain⟨ob,es,ep,t,e,c⟩:=x;exact⟨ob,es,ep,t,k _ _ (.inl rfl) e,c⟩
 |ins C dx fs=>
  obtain⟨d,z,ne,e,mA,⟨od,es,ep,e2,c⟩,r⟩:=x;exact⟨ho _ d,z,ne,k _ _ (.inl rfl) e,mA,⟨od,es,ep,k _ _ (.inr d) e2,c⟩,r⟩
 |own y=>obtain⟨ob,e⟩:=x;exact⟨ob,k _ _ (.inl rfl) e⟩
 |xd fs=>obtain⟨mA,⟨od,es,ep,e,c⟩,r⟩:=x;exact⟨mA,⟨od,es,ep,k _ _ (.inl rfl) e,c⟩,r⟩
 |rng lo hi=>obtain⟨t,u,v,e⟩:=x;exact⟨t,u,v,k _ _ (.inl rfl) e⟩
 |frz ob u ih=>obtain⟨e,q⟩:=x;exact⟨k _ _ (.inl rfl) e,ih q⟩
 |tbl ps=>
  have e:h.get? a=some {cls:= .none,data:= .fields ps}:=x;show h'.get? a=some {cls:= .none,data:= .fields ps};exact k a _ (.inl rfl) e
 |met f y=>
  have e:h.get? a=some (aan (.ref f) (.ref y)):=x;show h'.get? a=some (aan (.ref f) (.ref y));exact k a _ (.inl rfl) e
 |ext φ=>obtain⟨p,⟨o,e⟩,st⟩:=x;exact⟨st _ _ p λo q=>k _ _ (.inl rfl) q,⟨o,k _ _ (.inl rfl) e⟩,st⟩
theorem HOk.lt(x:HOk P w H h)(e:H a=some o):a<h.objs.size:=(x a o e).lt
theorem HOk.fresh(x:HOk P w H h)(e:h.objs.size<=a):H a=none:=by
 cases q:H a with
 |none=>rfl
 |some u=>exact acE (WW (x.lt q) e) (Xr _)
theorem HOk.kept(x:HOk P w H h)(k:∀b u,h.get? b=some u->h'.get? b=some u):HOk P w H h':=λa o e=>
 (x a o e).stay (λb u _ q=>k b u q) (λ_ q=>q) λ_ _ q=>q
theorem HOk.laid(x:HOk P w H h)(k:∀b u,h.get? b=some u->h'.get? b=some u)(hp:h.objs.size<=a)(new:ObjOk P w (upd H a o) h' a o):HOk P w (upd H a o) h':=λb u e=>by
 have hn:=x.fresh hp;by_cases hb:b=a
 ·subst hb;rw[aQ] at e;cases e;exact new
 ·rw[aE hb] at e;exact(x b u e).stay (λc v _ q=>k c v q) (λc q=>by rw[aE (cU q hn)];exact q) λc xs q=>by rw[aE (cU q hn)];exact q
end
def Rd(H:Hp)(a:Addr)(u:HO):Prop:=H a=some u\/∃o,H a=some (.frz o u)
theorem Rd.ok{P:WQ}{w:World}{H:Hp}{h:Heap}{a:Addr}{u:HO}(r:Rd H a u)(x:HOk P w H h):ObjOk P w H h a u:=by
 rcases r with r | ⟨o,r⟩
 ·exact x a u r
 ·obtain⟨_,q⟩:=x a _ r;exact q
def N3:Option HO->Prop
 |some (.lst _)=>True
 |some (.dK _)=>True
 |some (.dT _)=>True
 |some (.set _ _)=>True
 |some (.ins _ _ _)=>True
 |some (.ext _)=>True
 |_=>False
section
variable{P:WQ}{w:World}{H:Hp}{h h':Heap}{x e:Addr}{o':HO}
theorem HOk.write(ok:HOk P w H h)(mu:N3 (H x))(he:e=x\/H e=some (.own x))(k:∀b u,b≠e->h.get? b=some u->h'.get? b=some u)(ER:∃u,h'.get? e=some u)
 (new:ObjOk P w (upd H x o') h' x o'):HOk P w (upd H x o') h':=λb u q=>by
 have Pc:∀c y,H c=some (.own y)->c≠x:=λc y r z=>by subst z;rw[r] at mu;exact mu
 have RL:∀c xs,H c=some (.tup xs)->c≠x:=λc xs r z=>by subst z;rw[r] at mu;exact mu
 by_cases hb:b=x
 ·subst hb;rw[aQ] at q;cases q;exact new
 ·rw[aE hb] at q;by_cases HU:b=e
  ·have q':H b=some (.own x):=by
    rcases he with z | z
    ·exact acE (HU.trans z) hb
    ·rw[HU];exact z
   rw[q] at q';cases q';obtain⟨v,hv⟩:=ER;exact⟨v,by rw[HU];exact hv⟩
  ·refine(ok b u q).stay (λc v hc r=>k c v ?_ r) (λc r=>by rw[aE (Pc c b r)];exact r) λc xs r=>by rw[aE (RL c xs r)];exact r
   rcases hc with rfl | hc
   ·exact HU
   ·rintro rfl;rcases he with z | z
    ·exact Pc c b hc z
    ·rw[hc] at z;cases z;exact hb rfl
end
structure Un (fs ex:List Addr) (H H':Hp) (h h':Heap):Prop where
 keep:∀b o,h.get? b=some o->H b=none->b∉fs->b∉ex->h'.get? b=some o
 slot:∀b o,h.get? b=some o->H b=none->b∈fs->b∉ex->∃sl,h'.get? b=some {o with slots:=sl}
 free:∀b o,h.get? b=some o->H b=none->b∉ex->H' b=none
 there:∀b o,h.get? b=some o->b∉ex->∃o',h'.get? b=some o'
 tups:∀b xs,H b=some (.tup xs)->H' b=some (.tup xs)
 frzs:∀b o u,H b=some (.frz o u)->H' b=some (.frz o u)
 tbls:∀b ps,H b=some (.tbl ps)->∃more,H' b=some (.tbl (ps++more))
section
variable{fs Sz ex AU:List Addr}{H H1 H2:Hp}{h h1 h2 h':Heap}{a x e:Addr}{o:HO}
theorem Un.any(u:Un fs ex H H1 h h1){b:Addr}{ob:Obj}(q:h.get? b=some ob)(n:H b=none)(hx:b∉ex):∃sl,h1.get? b=some {ob with slots:=sl}:=by
 by_cases hb:b∈fs
 ·exact u.slot b ob q n hb hx
 ·exact⟨ob.slots,u.keep b ob q n hb hx⟩
theorem Un.trans(a:Un fs ex H H1 h h1)(b:Un fs ex H1 H2 h1 h2):Un fs ex H H2 h h2 where
 keep:=λc ob q n hc hx=>b.keep c ob (a.keep c ob q n hc hx) (a.free c ob q n hx) hc hx
 slot:=λc ob q n hc hx=>by
  obtain⟨sl,e1⟩:=a.slot c ob q n hc hx;obtain⟨Ke,e2⟩:=b.slot c _ e1 (a.free c ob q n hx) hc hx;exact⟨Ke,e2⟩
 free:=λc ob q n hx=>by
  obtain⟨o',e1⟩:=a.there c ob q hx;exact b.free c o' e1 (a.free c ob q n hx) hx
 there:=λc ob q hx=>by
  obtain⟨o',e1⟩:=a.there c ob q hx;exact b.there c o' e1 hx
 tups:=λc xs q=>b.tups c xs (a.tups c xs q)
 frzs:=λc ob xs q=>b.frzs c ob xs (a.frzs c ob xs q)
 tbls:=λc ps q=>by
  obtain⟨m1,e1⟩:=a.tbls c ps q;obtain⟨m2,e2⟩:=b.tbls c _ e1;exact⟨m1++m2,by rw[e2,aar]⟩
theorem Un.kept(k:∀b u,h.get? b=some u->h'.get? b=some u):Un fs ex H H h h':=
 ⟨λb ob q _ _ _=>k b ob q,λb ob q _ _ _=>⟨ob.slots,k b ob q⟩,λ_ _ _ n _=>n,λb ob q _=>⟨ob,k b ob q⟩,λ_ _ q=>q,λ_ _ _ q=>q,λ_ ps q=>⟨#[],by rw[q];simp⟩⟩
theorem Un.refl:Un fs ex H H h h:=Un.kept λ_ _ q=>q
theorem Un.laid(k:∀b u,h.get? b=some u->h'.get? b=some u)(hp:h.objs.size<=a)(hn:H a=none):Un fs ex H (upd H a o) h h' where
 keep:=λb u q _ _ _=>k b u q
 slot:=λb u q _ _ _=>⟨u.slots,k b u q⟩
 free:=λb u q n _=>by rw[aE (WS (WW (Ww q) hp))];exact n
 there:=λb u q _=>⟨u,k b u q⟩
 tups:=λb xs q=>by rw[aE (cU q hn)];exact q
 frzs:=λb u xs q=>by rw[aE (cU q hn)];exact q
 tbls:=λb ps q=>⟨#[],by rw[aE (cU q hn),q];simp⟩
theorem Un.write(mu:N3 (H x))(he:e=x\/H e=some (.own x))(k:∀b u,b≠e->h.get? b=some u->h'.get? b=some u)(ER:∃u,h'.get? e=some u):Un fs ex H (upd H x o) h h':=by
 have hx:∀b,H b=none->b≠x:=λb n z=>by subst z;rw[n] at mu;exact mu
 have hb:∀b,H b=none->b≠e:=λb n z=>by
  subst z;rcases he with r | r
  ·exact hx b n r
  ·rw[n] at r;cases r
 have hm:∀b u,H b=some u->¬N3 (some u)->b≠x:=λb u q nm z=>by subst z;rw[q] at mu;exact nm mu
 refine⟨λb u q n _ _=>k b u (hb b n) q,λb u q n _ _=>⟨u.slots,k b u (hb b n) q⟩,λb u q n _=>by rw[aE (hx b n)];exact n,λb u q _=>?_,
  λb xs q=>by rw[aE (hm b _ q λz=>z)];exact q,λb u xs q=>by rw[aE (hm b _ q λz=>z)];exact q,λb ps q=>⟨#[],by rw[aE (hm b _ q λz=>z),q];simp⟩⟩
 by_cases HU:b=e
 ·subst HU;exact ER
 ·exact⟨u,k b u HU q⟩
theorem Un.mono(u:Un fs ex H H1 h h1)(hs:∀b∈fs,b∈Sz)(hx:∀b∈ex,b∈AU):Un Sz AU H H1 h h1:=
 ⟨λb ob q n hb he=>u.keep b ob q n (λz=>hb (hs b z)) λz=>he (hx b z),λ_ _ q n _ he=>u.any q n λz=>he (hx _ z),λb ob q n he=>u.free b ob q n λz=>he (hx b z),λb ob q he=>u.there b ob q λz=>he (hx b z),u.tups,u.frzs,u.tbls⟩
end
def Qz(h:Heap)(H:Hp):List Addr:=(WD h.objs.size).filter λa=>(H a).isSome
def wu(h:Heap)(H:Hp):Heap:=Zl h (Qz h H)
theorem DU(h:Heap)(H:Hp):(wu h H).objs.size=h.objs.size:=PySem.W.hideAll_size _ _
theorem FN{h:Heap}{H:Hp}{b:Addr}{o:Obj}(e:h.get? b=some o)(n:H b=none):(wu h H).get? b=some o:=
 abL _ e λhm=>by
  have q:(H b).isSome=true:=(WN.mp hm).2;rw[n] at q;simp at q
theorem Jr{h:Heap}{H:Hp}{b:Addr}{o:Obj}(e:(wu h H).get? b=some o):h.get? b=some o/\H b=none:=by
 have e':h.get? b=some o:=abS (Qz h H) e;refine⟨e',?_⟩;cases q:H b with
 |none=>rfl
 |some x=>
  have hm:b∈Qz h H:=WN.mpr ⟨XW.mpr (Ww e'),by simp[q]⟩;have z:(wu h H).get? b=none:=PySem.W.hideAll_none (Qz h H) hm;rw[z] at e;cases e
def H8(g h:Heap)(L:Addr):List (Addr×Obj):=(WD h.objs.size).filterMap λa=>if a=L\/(g.get? a).isSome=true then none else(h.get? a).map λo=>(a,o)
def rest(g h:Heap)(L d:Addr):List (Addr×Obj):=(H8 g h L).filter λp=>decide (p.1≠d)
structure Mod (K:Wn) (mg:Str->Option Value) (base:Heap):Prop where
 kin:K.In base
 glob:base.Ns WH mg
 blt:∃mb,base.Ns builtinsNs mb/\∀x:Str,x≠"__name__"->mb x=W8 x
 nolimit:base.NoLimit
structure Cx where
 prog:WQ
 w:World
 K:Wn
 mg:Str->Option Value
 base:Heap
 A:WX
 N:List Str
 acJ:We
 acI:Hp
 env:Env
 outer:List Env
 stack:List Env
 ex:List Addr
 fn:Str->Bool
 calm:Bool
 pn:List (Addr×Obj)
 xe:Value->We->Prop
def iC(l:List Env):List Addr:=l.filterMap (·.frame)
abbrev Cx.fs(X:Cx):List Addr:=iC X.outer
def QK(sc:Scope)(x:Str):Prop:=sc.names.lookup x=some .local\/sc.names.lookup x=some .cell\/sc.names.lookup x=some .free
def Loc(sc:Scope)(x:Str):Prop:=sc.names.lookup x=some .local\/sc.names.lookup x=some .cell
def Look(env:Env)(h:Heap)(m:Str->Option Value)(x:Str)(u:Value):Prop:=
 (env.kindOf x=some .local/\m x=some u)\/((env.kindOf x=some .cell\/env.kindOf x=some .free)/\∃c,env.cells.lookup x=some c/\h.IsCell c (some u))
structure Cx.Ok (X:Cx):Prop where
 mod:Mod X.K X.mg X.base
 kind:X.env.scope.kind= .function
 glob:X.env.globals=WH
 blt:X.env.builtins=builtinsNs
 above:X.acJ.heap.objs.size<=X.env.locals
 inj:∀x y c,X.env.cells.lookup x=some c->X.env.cells.lookup y=some c->x=y
 has:∀x,(X.env.kindOf x=some .cell\/X.env.kindOf x=some .free)->∃c,X.env.cells.lookup x=some c
 cab:∀x c,X.fn x=true->X.env.cells.lookup x=some c->X.acJ.heap.objs.size<=c
 hd:X.calm=true->X.A.handled=none
 frames:X.A.frames=some X.stack
 stk:X.stack=X.outer\/(X.stack=X.env::X.outer/\X.env.frame=some X.env.locals)
 exf:∀b∈X.ex,b≠X.env.locals/\∀x c,X.env.cells.lookup x=some c->c≠b
 bs:∀b o,X.base.get? b=some o->X.acJ.heap.get? b=some o/\X.acI b=none
 bsz:X.base.objs.size<=X.acJ.heap.objs.size
 noex:∀b o,X.base.get? b=some o->b∉X.ex
 exfs:∀b∈X.ex,b∉X.fs
 funs:X.acJ.heap.FunFrames X.base X.outer
 frf:∀b∈X.fs,X.acI b=none
structure Inv (X:Cx) (f8:List (Addr×Obj)) (σ:List (Option V)) (H:Hp) (s:We):Prop where
 ok:X.Ok
 os:s.os=X.acJ.os
 bare:aas s.gens
 base:Un X.fs X.ex X.acI H X.acJ.heap s.heap
 loc:∃m,s.heap.Ns X.env.locals m/\∀(i:Nat) (x:Str) (v:V),X.N[i]? =some x->σ[i]? =some (some v)->QK X.env.scope x->∃u,RelV v u/\Look X.env s.heap m x u
 cell:∀x c,X.env.cells.lookup x=some c->∃v,s.heap.IsCell c v
 free:H X.env.locals=none
 freeC:∀x c,X.env.cells.lookup x=some c->H c=none
 pin:∀p∈X.pn++f8,s.heap.get? p.1=some p.2/\H p.1=none/\p.1≠X.env.locals/\p.1∉X.fs/\∀v,p.2.data≠ .cell v
 hok:HOk X.prog X.w H s.heap
 len:σ.length=X.N.length
section
variable{X:Cx}{f8:List (Addr×Obj)}{σ:List (Option V)}{H H':Hp}{s:We}{h':Heap}
theorem Cx.Ok.nofr(ok:X.Ok){b:Addr}{o:Obj}(e:X.base.get? b=some o):b∉X.fs:=λhb=>by
 have:=(ok.funs.mem hb).1;rw[e] at this;cases this
theorem Inv.bs(I:Inv X f8 σ H s):∀b o,X.base.get? b=some o->s.heap.get? b=some o/\H b=none:=λb o e=>
 ⟨I.base.keep b o (I.ok.bs b o e).1 (I.ok.bs b o e).2 (I.ok.nofr e) (I.ok.noex b o e),I.base.free b o (I.ok.bs b o e).1 (I.ok.bs b o e).2 (I.ok.noex b o e)⟩
theorem Inv.bk(I:Inv X f8 σ H s):∀b o,X.base.get? b=some o->s.heap.get? b=some o:=λb o e=>(I.bs b o e).1
theorem Inv.mod(I:Inv X f8 σ H s):Mod X.K X.mg X.base:=I.ok.mod
theorem Inv.kIn(I:Inv X f8 σ H s):X.K.In s.heap:=I.ok.mod.kin.keeps I.bk
theorem Inv.nolimit(I:Inv X f8 σ H s):s.heap.NoLimit:=I.ok.mod.nolimit.keeps I.bk
theorem Inv.lt(I:Inv X f8 σ H s):X.env.locals<s.heap.objs.size:=let ⟨_,hn,_⟩:=I.loc;hn.lt
theorem Inv.sz(I:Inv X f8 σ H s):X.acJ.heap.objs.size<=s.heap.objs.size:=WM I.ok.above (XX I.lt)
theorem Inv.nofs(I:Inv X f8 σ H s){a:Addr}(h:s.heap.objs.size<=a):a∉X.fs:=λhb=>by
 obtain⟨_,o,ho,_⟩:=I.ok.funs.mem hb;exact acE (WW (Ww ho) (WM I.sz h)) (Xr _)
theorem Inv.cne(I:Inv X f8 σ H s):∀x c,X.env.cells.lookup x=some c->c≠X.env.locals:=λx c e z=>by
 obtain⟨v,o,ho,hd⟩:=I.cell x c e;obtain⟨m,⟨o',es,ep,mF,u0,_⟩,_⟩:=I.loc;rw[z,mF] at ho;cases ho;rw[u0] at hd;cases hd
theorem Inv.funs(I:Inv X f8 σ H s):s.heap.FunFrames X.base X.outer:=by
 have all:∀(l:List Env),(∀b∈iC l,b∈X.fs)->X.acJ.heap.FunFrames X.base l->s.heap.FunFrames X.base l:=by
  intro l;induction l with
  |nil=>intro _ _;trivial
  |cons env r ih=>
   intro hs hl;obtain⟨hk,⟨L,o,hf,hn,ho,hd⟩,hr⟩:=hl;have hL:L∈X.fs:=hs L (by unfold iC;rw[aae,hf];exact Wh);obtain⟨sl,e⟩:=I.base.slot L o ho (I.ok.frf L hL) hL λz=>I.ok.exfs L z hL;exact⟨hk,⟨L,_,hf,hn,e,hd⟩,ih (λb hb=>hs b (by unfold iC;rw[aae,hf];exact Wf _ hb)) hr⟩
 exact all X.outer (λ_ hb=>hb) I.ok.funs
theorem Inv.stack(I:Inv X f8 σ H s):s.heap.FunFrames X.base X.stack:=by
 rcases I.ok.stk with e | ⟨e,hf⟩
 ·rw[e];exact I.funs
 ·rw[e];obtain⟨m,hn,_⟩:=I.loc;refine .cons (by rw[I.ok.kind];decide) hf hn ?_ I.funs;exact ab1 (WM I.ok.bsz I.ok.above)
theorem Inv.stkSub(I:Inv X f8 σ H s):∀b∈iC X.stack,b∈X.env.locals::X.fs:=λb hb=>by
 rcases I.ok.stk with e | ⟨e,hf⟩
 ·rw[e] at hb;exact Wf _ hb
 ·rw[e] at hb;unfold iC at hb;rw[aae,hf] at hb;exact hb
theorem Inv.stkFree(I:Inv X f8 σ H s):∀b∈iC X.stack,H b=none:=λb hb=>by
 rcases Wu.mp (I.stkSub b hb) with e | hb
 ·rw[e];exact I.free
 ·obtain⟨_,o,ho,_⟩:=I.ok.funs.mem hb;exact I.base.free b o ho (I.ok.frf b hb) λz=>I.ok.exfs b z hb
theorem Inv.step{g':Array GenState}{t':Nat}{d':Drawn}{ch:List Addr}(I:Inv X f8 σ H s)
 (HW:∀b∈ch,(b∈X.ex\/X.acJ.heap.objs.size<=b)/\b≠X.env.locals/\(∀x c,X.env.cells.lookup x=some c->c≠b)/\∀p∈X.pn++f8,p.1≠b)
 (keep:∀b o,b≠X.env.locals->b∉X.fs->b∉ch->s.heap.get? b=some o->H b=none->h'.get? b=some o)
 (slot:∀b o,b≠X.env.locals->b∈X.fs->b∉ch->s.heap.get? b=some o->H b=none->∃sl,h'.get? b=some {o with slots:=sl})(free:∀b o,b∉ch->s.heap.get? b=some o->H b=none->H' b=none)
 (there:∀b o,b∉ch->s.heap.get? b=some o->∃o',h'.get? b=some o')
 (tups:∀b xs,H b=some (.tup xs)->H' b=some (.tup xs))(frzs:∀b o u,H b=some (.frz o u)->H' b=some (.frz o u))(tbls:∀b ps,H b=some (.tbl ps)->∃more,H' b=some (.tbl (ps++more)))
 (ns:∀m,s.heap.Ns X.env.locals m->h'.Ns X.env.locals m)(hok:HOk X.prog X.w H' h')(hg:aas g'):
 Inv X f8 σ H' {s with heap:=h',gens:=g',drawn:=d',toks:=t'}:=by
 have NS:∀b o,X.acJ.heap.get? b=some o->b≠X.env.locals:=λb o e=>WS (WW (Ww e) I.ok.above);have Qw:∀b o,X.acJ.heap.get? b=some o->b∉X.ex->b∉ch:=λb o e hx hb=>by
  rcases(HW b hb).1 with z | z
  ·exact hx z
  ·exact acE (WW (Ww e) z) (Xr _)
 have cellK:∀x c,X.env.cells.lookup x=some c->∀v,s.heap.IsCell c v->h'.IsCell c v:=λx c e v ⟨o,ho,hd⟩=>by
  have O9:c∉ch:=λz=>(HW c z).2.2.1 x c e rfl;by_cases hc:c∈X.fs
  ·obtain⟨sl,q⟩:=slot c o (I.cne x c e) hc O9 ho (I.freeC x c e);exact⟨_,q,hd⟩
  ·exact⟨o,keep c o (I.cne x c e) hc O9 ho (I.freeC x c e),hd⟩
 refine⟨I.ok,I.os,hg,⟨λb o e n hb hx=>?_,λb o e n hb hx=>?_,λb o e n hx=>?_,λb o e hx=>?_,λb xs e=>tups b xs (I.base.tups b xs e),λb o xs e=>frzs b o xs (I.base.frzs b o xs e),λb ps e=>?_⟩,?_,λx c e=>?_,?_,λx c e=>?_,λp hp=>?_,hok,I.len⟩
 ·exact keep b o (NS b o e) hb (Qw b o e hx) (I.base.keep b o e n hb hx) (I.base.free b o e n hx)
 ·obtain⟨sl,e1⟩:=I.base.slot b o e n hb hx;obtain⟨Ke,e2⟩:=slot b _ (NS b o e) hb (Qw b o e hx) e1 (I.base.free b o e n hx);exact⟨Ke,e2⟩
 ·obtain⟨o',e1⟩:=I.base.there b o e hx;exact free b o' (Qw b o e hx) e1 (I.base.free b o e n hx)
 ·obtain⟨o',e1⟩:=I.base.there b o e hx;exact there b o' (Qw b o e hx) e1
 ·obtain⟨m1,e1⟩:=I.base.tbls b ps e;obtain⟨m2,e2⟩:=tbls b _ e1;exact⟨m1++m2,by rw[e2,aar]⟩
 ·obtain⟨m,hn,hl⟩:=I.loc;refine⟨m,ns m hn,λi x v e1 e2 e3=>?_⟩;obtain⟨u,r,l⟩:=hl i x v e1 e2 e3;refine⟨u,r,?_⟩;rcases l with l | ⟨k,c,e,z⟩
  ·exact .inl l
  ·exact .inr ⟨k,c,e,cellK x c e _ z⟩
 ·obtain⟨v,z⟩:=I.cell x c e;exact⟨v,cellK x c e v z⟩
 ·obtain⟨m,⟨o,_,_,ho,_⟩,_⟩:=I.loc;exact free _ o (λz=>(HW _ z).2.1 rfl) ho I.free
 ·obtain⟨v,o,ho,hd⟩:=I.cell x c e;exact free c o (λz=>(HW c z).2.2.1 x c e rfl) ho (I.freeC x c e)
 ·obtain⟨e,n,ne,nf,d⟩:=I.pin p hp;have O9:p.1∉ch:=λz=>(HW p.1 z).2.2.2 p hp rfl;exact⟨keep p.1 p.2 ne nf O9 e n,free p.1 p.2 O9 e n,ne,nf,d⟩
theorem Inv.un{t':Nat}(I:Inv X f8 σ H s)(u:Un X.fs [] H H' s.heap h')(hok:HOk X.prog X.w H' h'):Inv X f8 σ H' {s with heap:=h',toks:=t'}:=by
 obtain⟨m,⟨o,es,ep,ho,r⟩,_⟩:=id I.loc;obtain⟨sl,hL⟩:=u.any ho I.free (by simp);exact I.step (g':=s.gens) (d':=s.drawn) (ch:=[]) (λ_ z=>nomatch z) (λb o _ hb _ e n=>u.keep b o e n hb (by simp)) (λb o _ hb _ e n=>u.slot b o e n hb (by simp)) (λb o _ e n=>u.free b o e n (by simp)) (λb o _ e=>u.there b o e (by simp)) u.tups u.frzs u.tbls (λm' hm=>by
  obtain⟨o',NM,IC,mF,r'⟩:=hm;rw[ho] at mF;cases mF;exact⟨_,NM,IC,hL,r'⟩) hok I.bare
theorem Inv.call{g':Array GenState}{t':Nat}{d':Drawn}{ch:List Addr}(I:Inv X f8 σ H s)(u:Un (iC X.stack) ch H H' s.heap h')(hok:HOk X.prog X.w H' h')(hg:aas g')
 (HW:∀b∈ch,(b∈X.ex\/X.acJ.heap.objs.size<=b)/\b≠X.env.locals/\(∀x c,X.env.cells.lookup x=some c->c≠b)/\∀p∈X.pn++f8,p.1≠b):
 Inv X f8 σ H' {s with heap:=h',gens:=g',drawn:=d',toks:=t'}:=by
 obtain⟨m,⟨o,es,ep,ho,r⟩,_⟩:=id I.loc;obtain⟨sl,hL⟩:=u.any ho I.free λz=>(HW _ z).2.1 rfl;exact I.step (ch:=ch) HW (λb o hL hb hc e n=>u.keep b o e n (λz=>(Wu.mp (I.stkSub b z)).elim hL hb) hc) (λb o _ _ hc e n=>u.any e n hc) (λb o hc e n=>u.free b o e n hc) (λb o hc e=>u.there b o e hc) u.tups u.frzs u.tbls (λm' hm=>by
  obtain⟨o',NM,IC,mF,r'⟩:=hm;rw[ho] at mF;cases mF;exact⟨_,NM,IC,hL,r'⟩) hok hg
theorem Inv.turned{t':Nat}{it:Addr}(I:Inv X f8 σ H s)(k:∀b o,b≠it->s.heap.get? b=some o->h'.get? b=some o)(hn:H it=none)(hL:it≠X.env.locals)
 (h1:it∈X.ex\/X.acJ.heap.objs.size<=it)(h2:∀x c,X.env.cells.lookup x=some c->c≠it)(h3:∀p∈X.pn++f8,p.1≠it):Inv X f8 σ H {s with heap:=h',toks:=t'}:=by
 have Ts:∀b u,H b=some u->b≠it:=λb u e z=>by rw[z,hn] at e;cases e
 refine I.step (g':=s.gens) (d':=s.drawn) (ch:=[it]) (λb hb=>?_) (λb o _ _ hc e _=>k b o (λz=>hc (by simp[z])) e) (λb o _ _ hc e _=>⟨o.slots,k b o (λz=>hc (by simp[z])) e⟩) (λ_ _ _ _ n=>n)
  (λb o hc e=>⟨o,k b o (λz=>hc (by simp[z])) e⟩) (λ_ _ e=>e) (λ_ _ _ e=>e) (λb ps e=>⟨#[],by rw[e];simp⟩) (λm hm=>?_) (λb u e=>?_) I.bare
 ·have e:b=it:=by simpa using hb
  subst e;exact⟨h1,hL,h2,h3⟩
 ·obtain⟨o,es,ep,ho,r⟩:=hm;exact⟨o,es,ep,k _ o (Xq hL) ho,r⟩
 ·refine(I.hok b u e).stay (λc v hc q=>k c v ?_ q) (λ_ q=>q) λ_ _ q=>q;rcases hc with z | z
  ·rw[z];exact Ts b u e
  ·exact Ts c _ z
theorem Inv.tok(I:Inv X f8 σ H s)(t:Nat):Inv X f8 σ H {s with toks:=t}:=I.un (h':=s.heap) (t':=t) Un.refl I.hok
theorem Inv.kept{t':Nat}(I:Inv X f8 σ H s)(k:∀b u,s.heap.get? b=some u->h'.get? b=some u):Inv X f8 σ H {s with heap:=h',toks:=t'}:=I.un (Un.kept k) (I.hok.kept k)
theorem Inv.laid{a:Addr}{o:HO}{t':Nat}(I:Inv X f8 σ H s)(k:∀b u,s.heap.get? b=some u->h'.get? b=some u)(hp:s.heap.objs.size<=a)(new:ObjOk X.prog X.w (upd H a o) h' a o):
 Inv X f8 σ (upd H a o) {s with heap:=h',toks:=t'}:=I.un (Un.laid k hp (I.hok.fresh hp)) (I.hok.laid k hp new)
theorem Inv.write{x e:Addr}{o:HO}{t':Nat}(I:Inv X f8 σ H s)(mu:N3 (H x))(he:e=x\/H e=some (.own x))(k:∀b u,b≠e->s.heap.get? b=some u->h'.get? b=some u)(ER:∃u,h'.get? e=some u)
 (new:ObjOk X.prog X.w (upd H x o) h' x o):Inv X f8 σ (upd H x o) {s with heap:=h',toks:=t'}:=I.un (Un.write mu he k ER) (I.hok.write mu he k ER new)
theorem Inv.pins_of{zR:List (Addr×Obj)}(I:Inv X f8 σ H s)(h:∀p∈zR,s.heap.get? p.1=some p.2/\H p.1=none/\p.1≠X.env.locals/\p.1∉X.fs/\∀v,p.2.data≠ .cell v):Inv X zR σ H s:=
 ⟨I.ok,I.os,I.bare,I.base,I.loc,I.cell,I.free,I.freeC,λp hp=>(W6.mp hp).elim (λz=>I.pin p (Yg _ z)) (h p),I.hok,I.len⟩
theorem zt{N:List Str}(hN:N.Nodup){i j:Nat}{x:Str}(a:N[i]? =some x)(b:N[j]? =some x):i=j:=by
 obtain⟨h1,e1⟩:=Wy.mp a;obtain⟨h2,e2⟩:=Wy.mp b;exact(List.getElem_inj hN).mp (e1.trans e2.symm)
theorem o6{M:Model}{A:WX}{E:Value->We->Prop}{i:Nat}{x:Str}{v:V}{u:Value}{Q:Unit->We->Prop}(I:Inv X f8 σ H s)(hN:X.N.Nodup)(hi:X.N[i]? =some x)(hx:Loc X.env.scope x)(r:RelV v u)
 (h:∀s',Inv X f8 (σ.set i (some v)) H s'->(∃a,Yj a s.heap s'.heap/\(a=X.env.locals\/X.env.cells.lookup x=some a))->Q () s')(hf:X.fn x=true\/X.env.scope.names.lookup x=some .local:=by first | exact .inl rfl | exact .inr rfl | assumption):wpAny M A (storeName X.env x u) Q E s:=by
 obtain⟨m,hn,hl⟩:=id I.loc;have QZ:(X.env.scope.kind== .class||(X.env.scope.kind== .module&&X.env.locals !=X.env.globals))=false:=by rw[I.ok.kind];rfl
 have SQ:i<σ.length:=by rw[I.len];exact(Wy.mp hi).1
 have cne:=I.cne;have tracked:∀{a:Addr}{h':Heap},(∃o,s.heap.get? a=some o/\H a=none)->Yj a s.heap h'->HOk X.prog X.w H h':=λ{a h'} ha hs b ob e=>by
  obtain⟨_,_,KO⟩:=ha;refine(I.hok b ob e).stay (λc w' hc q=>(hs.2 c ?_).trans q) (λ_ q=>q) λ_ _ q=>q;rintro rfl;rcases hc with rfl | hc
  ·rw[KO] at e;cases e
  ·rw[KO] at hc;cases hc
 rcases hx with hk | hk
 ·refine wpAny_storeName_local hk hn (λh' OK hs=>?_) QZ;obtain⟨oL,_,_,LZ,_⟩:=id hn;refine h _ ⟨I.ok,I.os,I.bare,⟨λb o e n hb hx=>?_,λb o e n hb hx=>?_,I.base.free,λb o e hx=>?_,I.base.tups,I.base.frzs,I.base.tbls⟩,⟨_,OK,λj y v' e1 e2 e3=>?_⟩,λy c e=>?_,I.free,I.freeC,λp hp=>?_,tracked ⟨oL,LZ,I.free⟩ hs,by simpa using I.len⟩ ⟨_,hs, .inl rfl⟩
  ·exact(hs.2 b (WS (WW (Ww e) I.ok.above))).trans (I.base.keep b o e n hb hx)
  ·obtain⟨sl,e1⟩:=I.base.slot b o e n hb hx;exact⟨sl,(hs.2 b (WS (WW (Ww e) I.ok.above))).trans e1⟩
  ·obtain⟨o',e1⟩:=I.base.there b o e hx;exact⟨o',(hs.2 b (WS (WW (Ww e) I.ok.above))).trans e1⟩
  ·by_cases hj:j=i
   ·subst hj;rw[hi] at e1;cases e1;rw[WG SQ] at e2;cases e2;exact⟨u,r, .inl ⟨hk,by simp⟩⟩
   ·rw[Wx (Xq hj)] at e2;obtain⟨u',r',q⟩:=hl j y v' e1 e2 e3;refine⟨u',r',?_⟩;rcases q with⟨k,e⟩ | ⟨k,c,e,z⟩
    ·refine .inl ⟨k,?_⟩;have:y≠x:=λe=>hj (zt hN e1 (e▸hi));simp[this,e]
    ·exact .inr ⟨k,c,e,z.sameBut hs (cne y c e)⟩
  ·obtain⟨w',z⟩:=I.cell y c e;exact⟨w',z.sameBut hs (cne y c e)⟩
  ·obtain⟨e,n,ne,nf,d⟩:=I.pin p hp;exact⟨(hs.2 p.1 ne).trans e,n,ne,nf,d⟩
 ·have Q5:X.fn x=true:=by
   rcases hf with z | z
   ·exact z
   ·rw[z] at hk;cases hk
  obtain⟨c,hc⟩:=I.ok.has x (.inl hk);obtain⟨w',z⟩:=I.cell x c hc;refine wpAny_storeName_cell I.ok.kind hk hc z (λh' HV hs=>?_);obtain⟨oc,Qp,Rl⟩:=id z;refine h {s with heap:=h'} ⟨I.ok,I.os,I.bare,⟨λb o e n hb hx=>?_,λb o e n hb hx=>?_,I.base.free,λb o e hx=>?_,I.base.tups,I.base.frzs,I.base.tbls⟩,⟨m,hn.sameBut hs (Xq (cne x c hc)),λj y v' e1 e2 e3=>?_⟩,λy c' e=>?_,I.free,I.freeC,λp hp=>?_,tracked ⟨oc,Qp,I.freeC x c hc⟩ hs,by simpa using I.len⟩ ⟨c,hs, .inr hc⟩
  ·exact(hs.2 b (WS (WW (Ww e) (I.ok.cab x c Q5 hc)))).trans (I.base.keep b o e n hb hx)
  ·obtain⟨sl,e1⟩:=I.base.slot b o e n hb hx;exact⟨sl,(hs.2 b (WS (WW (Ww e) (I.ok.cab x c Q5 hc)))).trans e1⟩
  ·obtain⟨o',e1⟩:=I.base.there b o e hx;exact⟨o',(hs.2 b (WS (WW (Ww e) (I.ok.cab x c Q5 hc)))).trans e1⟩
  ·by_cases hj:j=i
   ·subst hj;rw[hi] at e1;cases e1;rw[WG SQ] at e2;cases e2;exact⟨u,r, .inr ⟨.inl hk,c,hc,HV⟩⟩
   ·rw[Wx (Xq hj)] at e2;obtain⟨u',r',q⟩:=hl j y v' e1 e2 e3;refine⟨u',r',?_⟩;rcases q with q | ⟨k,c',e,z'⟩
    ·exact .inl q
    ·refine .inr ⟨k,c',e,z'.sameBut hs ?_⟩;rintro rfl;exact hj (zt hN e1 (I.ok.inj _ _ _ e hc▸hi))
  ·by_cases Ql:c'=c
   ·subst Ql;exact⟨_,HV⟩
   ·obtain⟨w2,z2⟩:=I.cell y c' e;exact⟨w2,z2.sameBut hs Ql⟩
  ·obtain⟨e,n,ne,nf,d⟩:=I.pin p hp;refine⟨(hs.2 p.1 ?_).trans e,n,ne,nf,d⟩;intro q;rw[q,Qp] at e;have q':oc=p.2:=WY e;exact d w' (by rw[<-q'];exact Rl)
theorem Aa{M:Model}{A:WX}{E:Value->We->Prop}{i:Nat}{x:Str}{v:V}{u:Value}{Q:Unit->We->Prop}(I:Inv X f8 σ H s)(hN:X.N.Nodup)(hi:X.N[i]? =some x)(hx:Loc X.env.scope x)(r:RelV v u)
 (h:∀s',Inv X f8 (σ.set i (some v)) H s'->Q () s')(hf:X.fn x=true\/X.env.scope.names.lookup x=some .local:=by first | exact .inl rfl | exact .inr rfl | assumption):wpAny M A (storeName X.env x u) Q E s:=
 o6 I hN hi hx r (λs' I' _=>h s' I') hf
theorem Inv.call'{s':We}{ch:List Addr}(I:Inv X f8 σ H s)(ho:s'.os=s.os)(u:Un (iC X.stack) ch H H' s.heap s'.heap)(hok:HOk X.prog X.w H' s'.heap)(hg:aas s'.gens)
 (HW:∀b∈ch,(b∈X.ex\/X.acJ.heap.objs.size<=b)/\b≠X.env.locals/\(∀x c,X.env.cells.lookup x=some c->c≠b)/\∀p∈X.pn++f8,p.1≠b):Inv X f8 σ H' s':=by
 obtain⟨h',g',d',t',o'⟩:=s';have e:o'=s.os:=ho;subst e;exact I.call (g':=g') (t':=t') (d':=d') u hok hg HW
end
abbrev XK:=Value->Option Addr->Hp->Prop
abbrev St:=List (Option V)
abbrev VK:=V->Hp->Prop
abbrev TE:=St->Hp->VK->Prop
abbrev TT:=St->Hp->(Bool->Hp->Prop)->Prop
abbrev TA:=St->Hp->(List V->Hp->Prop)->Prop
structure Ends where
 nx:St->Hp->Prop
 rt:VK
 bk:St->Hp->Prop:=λ_ _=>False
 ct:St->Hp->Prop:=λ_ _=>False
abbrev TS:=Ends->St->Hp->Prop
def EP(X:Cx)(f8:List (Addr×Obj))(σ:St)(Q:VK)(u:Value)(s':We):Prop:=∃v H',Inv X f8 σ H' s'/\RelV v u/\Q v H'
def TP(X:Cx)(f8:List (Addr×Obj))(σ:St)(Q:Bool->Hp->Prop)(b:Bool)(s':We):Prop:=∃H',Inv X f8 σ H' s'/\Q b H'
def AP(X:Cx)(f8:List (Addr×Obj))(σ:St)(Q:List V->Hp->Prop)(us:List Value)(s':We):Prop:=∃vs H',Inv X f8 σ H' s'/\Vals vs us/\Q vs H'
def SP(X:Cx)(f8:List (Addr×Obj))(D:Ends)(f:Flow)(s':We):Prop:=
 match f with
 | .next=>∃σ' H',Inv X f8 σ' H' s'/\D.nx σ' H'
 | .brk=>∃σ' H',Inv X f8 σ' H' s'/\D.bk σ' H'
 | .cont=>∃σ' H',Inv X f8 σ' H' s'/\D.ct σ' H'
 | .ret u=>∃v σ' H',Inv X f8 σ' H' s'/\RelV v u/\D.rt v H'
def PE(X:Cx)(e:Expr)(t:TE):Prop:=
 ∀(f8:List (Addr×Obj)) (s:We) (σ:St) (H:Hp) (Q:VK),Inv X f8 σ H s->t σ H Q->wpAny (model X.prog X.w) X.A (eval e X.env) (EP X f8 σ Q) X.xe s
def PT(X:Cx)(e:Expr)(t:TT):Prop:=
 ∀(f8:List (Addr×Obj)) (s:We) (σ:St) (H:Hp) (Q:Bool->Hp->Prop),Inv X f8 σ H s->t σ H Q->wpAny (model X.prog X.w) X.A (isTrue e X.env (eval e X.env)) (TP X f8 σ Q) X.xe s
def PW(X:Cx)(e:Expr)(t:TT):Prop:=
 ∀(whole:Sem Value) (f8:List (Addr×Obj)) (s:We) (σ:St) (H:Hp) (Q:Bool->Hp->Prop),Inv X f8 σ H s->t σ H Q->wpAny (model X.prog X.w) X.A (isTrue e X.env whole) (TP X f8 σ Q) X.xe s
theorem PW.pt{X:Cx}{e:Expr}{t:TT}(h:PW X e t):PT X e t:=h _
def PA(X:Cx)(es:List Expr)(t:TA):Prop:=
 ∀(pos:Pos) (f8:List (Addr×Obj)) (s:We) (σ:St) (H:Hp) (Q:List V->Hp->Prop),Inv X f8 σ H s->t σ H Q->wpAny (model X.prog X.w) X.A (spliced (X2 pos (Wt es X.env))) (AP X f8 σ Q) X.xe s
def PS(X:Cx)(st:Stmt)(t:TS):Prop:=
 ∀(f8:List (Addr×Obj)) (s:We) (σ:St) (H:Hp) (D:Ends),Inv X f8 σ H s->t D σ H->wpAny (model X.prog X.w) X.A (exec st X.env) (SP X f8 D) X.xe s
def PSs(X:Cx)(st:List Stmt)(t:TS):Prop:=
 ∀(f8:List (Addr×Obj)) (s:We) (σ:St) (H:Hp) (D:Ends),Inv X f8 σ H s->t D σ H->wpAny (model X.prog X.w) X.A (execs st X.env) (SP X f8 D) X.xe s
theorem cV{α:Type}{t:Sem α}{Q Q':α->We->Prop}{M:Model}{A:WX}{E:Value->We->Prop}{s:We}(h:wpAny M A t Q E s)(hQ:∀a s,Q a s->Q' a s):wpAny M A t Q' E s:=Xp h hQ λ_ _ x=>x
section
variable{X:Cx}
theorem bin{a b:Expr}{ta tb:TE}(ha:PE X a ta)(hb:PE X b tb){f8:List (Addr×Obj)}{s:We}{σ:St}{H:Hp}{R:V->V->Hp->Prop}(I:Inv X f8 σ H s)(h:ta σ H λx H1=>tb σ H1 λy H2=>R x y H2)
 {α:Type}{Q:α->We->Prop}{f:Value->Value->Sem α}
 (hf:∀v u s2 x y H2,Inv X f8 σ H2 s2->RelV x v->RelV y u->R x y H2->wpAny (model X.prog X.w) X.A (f v u) Q X.xe s2):
 wpAny (model X.prog X.w) X.A (eval a X.env) (λv P3=>wpAny (model X.prog X.w) X.A (eval b X.env) (λu v4=>wpAny (model X.prog X.w) X.A (f v u) Q X.xe v4) X.xe P3) X.xe s:=by
 refine cV (ha f8 s σ H _ I h) λv s1 ⟨x,H1,I1,r1,q1⟩=>?_;refine cV (hb f8 s1 σ H1 _ I1 q1) λu s2 ⟨y,H2,I2,r2,q2⟩=>?_;exact hf v u s2 x y H2 I2 r1 r2 q2
def tm(i:Nat):TE:=λσ H Q=>∃v,σ[i]? =some (some v)/\Q v H
def tC(v:V):TE:=λ_ H Q=>Q v H
theorem M_{i:Nat}{x:Str}{pos:Pos}(hN:X.N[i]? =some x)(hv:QK X.env.scope x)(hd:(x==("__debug__":Str))=false:=by decide)(uZ:(x==("__classdict__":Str))=false:=by decide):PE X (.Name x pos) (tm i):=by
 intro f8 s σ H Q I h;obtain⟨v,e,h⟩:=h;obtain⟨m,hn,hl⟩:=I.loc;obtain⟨u,r,l⟩:=hl i x v hN e hv;have fin:EP X f8 σ Q u s:=⟨v,H,I,r,h⟩
 rcases l with⟨hk,hm⟩ | ⟨hk,c,hc,KL⟩
 ·exact wpAny_Name (wpAny_loadName_local I.ok.kind hk hn hm fin) hd
 ·rcases hk with hk | hk
  ·exact wpAny_Name (wpAny_loadName_cell I.ok.kind hk hc KL fin) hd
  ·exact wpAny_Name (wpAny_loadName_free I.ok.kind hk hc KL fin uZ) hd
theorem MZ{i j pos}:PE X (.Constant (.int i) j pos) (tC (.int i)):=λ_ _ _ H _ I h=>wpAny_Constant_int ⟨.int i,H,I.tok _,⟨_,rfl⟩,h⟩
theorem Pk{b j pos}:PE X (.Constant (.bool b) j pos) (tC (.bl b)):=λ_ _ _ H _ I h=>Constant_bool ⟨.bl b,H,I,rfl,h⟩
theorem M0{j pos}:PE X (.Constant .none j pos) (tC .non):=λ_ _ _ H _ I h=>Constant_none ⟨.non,H,I,rfl,h⟩
theorem M7{x j pos}:PE X (.Constant (.str x) j pos) (tC (.str x)):=λ_ _ _ H _ I h=>Calls.Constant_str ⟨.str x,H,I.tok _,⟨_,rfl⟩,h⟩
def Gl(X:Cx)(x:Str):Prop:=X.env.kindOf x=some .globalImplicit
theorem mL{E:Value->We->Prop}{f8:List (Addr×Obj)}{s:We}{σ:St}{H:Hp}{x:Str}{u:Value}{pos:Pos}{Q:Value->We->Prop}(I:Inv X f8 σ H s)(hg:Gl X x)(hm:X.mg x=some u)(h:Q u s)
 (hd:(x==("__debug__":Str))=false:=by decide):wpAny (model X.prog X.w) X.A (eval (.Name x pos) X.env) Q E s:=
 aa5 I.ok.kind hg (Calls.loadGlobal_global (by rw[I.ok.glob];exact I.mod.glob.keeps I.bk) hm h) hd
theorem rH{E:Value->We->Prop}{f8:List (Addr×Obj)}{s:We}{σ:St}{H:Hp}{x:Str}{u:Value}{pos:Pos}{Q:Value->We->Prop}(I:Inv X f8 σ H s)(hg:Gl X x)(hm:X.mg x=none)(hv:W8 x=some u)(h:Q u s)
 (hn:x≠"__name__":=by decide)(hd:(x==("__debug__":Str))=false:=by decide):wpAny (model X.prog X.w) X.A (eval (.Name x pos) X.env) Q E s:=by
 obtain⟨mb,h1,h2⟩:=I.mod.blt;exact aa5 I.ok.kind hg (Calls.loadGlobal_builtin (by rw[I.ok.glob];exact I.mod.glob.keeps I.bk) hm (by rw[I.ok.blt];exact h1.keeps I.bk) ((h2 x hn).trans hv) h) hd
theorem xp{x:Str}{v:V}{u:Value}{pos:Pos}(hg:Gl X x)(hm:X.mg x=some u)(r:RelV v u)(hd:(x==("__debug__":Str))=false:=by decide):PE X (.Name x pos) (tC v):=
 λ_ _ _ H _ I h=>mL I hg hm ⟨v,H,I,r,h⟩ hd
theorem JJ{x:Str}{v:V}{u:Value}{pos:Pos}(hg:Gl X x)(hm:X.mg x=none)(hv:W8 x=some u)(r:RelV v u)(hn:x≠"__name__":=by decide)(hd:(x==("__debug__":Str))=false:=by decide):PE X (.Name x pos) (tC v):=
 λ_ _ _ H _ I h=>rH I hg hm hv ⟨v,H,I,r,h⟩ hn hd
variable{a b:Expr}{ta tb:TE}{pos:Pos}
def PC(X:Cx)(op:CmpOp)(a b:Expr)(t:TE):Prop:=
 ∀(f8:List (Addr×Obj)) (s:We) (σ:St) (H:Hp) (Q:VK),Inv X f8 σ H s->t σ H Q->
  wpAny (model X.prog X.w) X.A (eval a X.env) (λv P3=>wpAny (model X.prog X.w) X.A (eval b X.env) (λu v4=>wpAny (model X.prog X.w) X.A (Xh op v u) (EP X f8 σ Q) X.xe v4) X.xe P3) X.xe s
theorem Gn(b:Expr){op:CmpOp}(h:op≠ .In)(h2:op≠ .NotIn):Xv op b=false:=by
 have e1:(op==CmpOp.In)=false:=by cases op<;>first | rfl | exact acE rfl h
 have e2:(op==CmpOp.NotIn)=false:=by cases op<;>first | rfl | exact acE rfl h2
 cases b<;>simp[Xv,e1,e2]
theorem MY{op:CmpOp}{t:TE}(h:PC X op a b t)(h1:Xv op b=false:=by first | exact Gn _ (by decide) (by decide) | rfl):PE X (.Compare a [op] [b] pos) t:=λf8 s σ H Q I hw=>wpAny_Compare1 (h f8 s σ H Q I hw) h1
variable{tA cE:TT}{rest:List Expr}
def R6(t u:TT):TT:=λσ H Q=>t σ H λc H1=>if c=true then u σ H1 Q else Q false H1
def VJ(t u:TT):TT:=λσ H Q=>t σ H λc H1=>if c=true then Q true H1 else u σ H1 Q
def Sf(t:TT):TT:=λσ H Q=>t σ H λc H1=>Q (!c) H1
theorem J3(ha:PT X a tA):PW X (.BoolOp .And [a] pos) tA:=by
 intro wh f8 s σ H Q I h;refine isTrue_and (cV (ha f8 s σ H Q I h) λc s1 e=>?_);cases c with
 |true=>exact isTrue_and_nil e
 |false=>exact e
theorem Nk(ha:PT X a tA):PW X (.BoolOp .Or [a] pos) tA:=by
 intro wh f8 s σ H Q I h;refine isTrue_or (cV (ha f8 s σ H Q I h) λc s1 e=>?_);cases c with
 |false=>exact isTrue_or_nil e
 |true=>exact e
theorem Nj(ha:PT X a tA)(hb:PW X (.BoolOp .And (b::rest) pos) cE):PW X (.BoolOp .And (a::b::rest) pos) (R6 tA cE):=by
 intro wh f8 s σ H Q I h;refine isTrue_and (cV (ha f8 s σ H _ I h) λc s1 ⟨H1,I1,q1⟩=>?_);cases c with
 |true=>exact hb wh f8 s1 σ H1 Q I1 q1
 |false=>exact⟨H1,I1,q1⟩
theorem Pt(ha:PT X a tA)(hb:PW X (.BoolOp .Or (b::rest) pos) cE):PW X (.BoolOp .Or (a::b::rest) pos) (VJ tA cE):=by
 intro wh f8 s σ H Q I h;refine isTrue_or (cV (ha f8 s σ H _ I h) λc s1 ⟨H1,I1,q1⟩=>?_);cases c with
 |true=>exact⟨H1,I1,q1⟩
 |false=>exact hb wh f8 s1 σ H1 Q I1 q1
theorem Nh(ha:PT X a tA):PT X (.UnaryOp .Not a pos) (Sf tA):=by
 intro f8 s σ H Q I h;exact isTrue_not (ha f8 s σ H (λc H1=>Q (!c) H1) I h)
def P1(ta tb:TE):TE:=λσ H Q=>ta σ H λx H1=>∃c,x= .bl c/\if c=true then tb σ H1 Q else Q (.bl false) H1
def P6(ta:TE):TE:=λσ H Q=>ta σ H λx H1=>∃c,x= .bl c/\Q (.bl (!c)) H1
theorem M4{op}{t:TE}(h:PE X a t):PE X (.BoolOp op [a] pos) t:=λf8 s σ H Q I hw=>BoolOp_one (h f8 s σ H Q I hw)
theorem MX(ha:PE X a ta)(hb:PE X (.BoolOp .And (b::rest) pos) tb):PE X (.BoolOp .And (a::b::rest) pos) (P1 ta tb):=by
 intro f8 s σ H Q I h;refine BoolOp_and (cV (ha f8 s σ H _ I h) λv s1 ⟨x,H1,I1,r1,q1⟩=>?_);obtain⟨c,rfl,q1⟩:=q1;cases r1;refine XO ?_;cases c with
 |true=>exact hb f8 s1 σ H1 Q I1 q1
 |false=>exact⟨.bl false,H1,I1,rfl,q1⟩
theorem M3(ha:PE X a ta):PE X (.UnaryOp .Not a pos) (P6 ta):=by
 intro f8 s σ H Q I h;refine UnaryOp_ (cV (ha f8 s σ H _ I h) λv s1 ⟨x,H1,I1,r1,q1⟩=>?_);obtain⟨c,rfl,q1⟩:=q1;cases r1;exact not_of (XO ⟨.bl (!c),H1,I1,rfl,q1⟩)
def VI(t:TT)(ta tb:TE):TE:=λσ H Q=>t σ H λc H1=>if c=true then ta σ H1 Q else tb σ H1 Q
theorem G1{c:Expr}(hc:PT X c tA)(ha:PE X a ta)(hb:PE X b tb):PE X (.IfExp c a b pos) (VI tA ta tb):=by
 intro f8 s σ H Q I h;refine wpAny_IfExp (cV (hc f8 s σ H _ I h) λd s1 ⟨H1,I1,q1⟩=>?_);cases d with
 |true=>exact ha f8 s1 σ H1 Q I1 q1
 |false=>exact hb f8 s1 σ H1 Q I1 q1
end
def SqL(K:Wn)(H:Hp)(a:Addr)(xs:List V):Prop:=
 Rd H a (.lst xs)\/
  ∃(o:Obj) (aS:Array Value) (n:Nat),K.lookup a=some o/\o.cls= .type "list"/\o.dict=none/\o.data= .seq aS n/\aS.size<=WB/\Vals xs aS.toList
def SqT(K:Wn)(H:Hp)(a:Addr)(xs:List V):Prop:=
 Rd H a (.tup xs)\/
  ∃(o:Obj) (aS:Array Value) (n:Nat),K.lookup a=some o/\o.cls= .type "tuple"/\o.data= .seq aS n/\aS.size<=WB/\Vals xs aS.toList
def QL:Value->Option V
 | .none=>some .non
 | .bool b=>some (.bl b)
 | .int i _=>some (.int i)
 | .str x _=>some (.str x)
 | .bytes b _=>some (.byt b)
 | .float b _=>some (.flt b)
 | .ref a=>some (.ref a)
 | .type n=>some (.ty n)
 |_=>none
theorem RelV.abs{x:V}{u:Value}(r:RelV x u):QL u=some x:=by
 cases x with
 |non=>cases r;rfl
 |bl _=>cases r;rfl
 |int _=>obtain⟨t,rfl⟩:=r;rfl
 |str _=>obtain⟨t,rfl⟩:=r;rfl
 |byt _=>obtain⟨t,rfl⟩:=r;rfl
 |flt _=>obtain⟨t,rfl⟩:=r;rfl
 |ref _=>cases r;rfl
 |ty _=>cases r;rfl
theorem RelV.inj{x y:V}{u:Value}(r:RelV x u)(q:RelV y u):x=y:=WY (r.abs.symm.trans q.abs)
theorem Vals.inj:∀{xs ys:List V}{us:List Value},Vals xs us->Vals ys us->xs=ys
 |_,_,_, .nil, .nil=>rfl
 |_,_,_, .cons r t, .cons r' t'=>by rw[r.inj r',Vals.inj t t']
section
variable{X:Cx}{f8:List (Addr×Obj)}{σ:St}{H:Hp}{s:We}{a:Addr}{xs ys:List V}
theorem SqL.of{K:Wn}(h:H a=some (.lst xs)):SqL K H a xs:= .inl (.inl h)
theorem SqT.of{K:Wn}(h:H a=some (.tup xs)):SqT K H a xs:= .inl (.inl h)
theorem Inv.list(I:Inv X f8 σ H s)(h:SqL X.K H a xs):∃aS:List Value,Vals xs aS/\PlainL s.heap a aS.toArray/\xs.length<=WB:=by
 rcases h with h | ⟨o,aS,n,hk,hc,hd,hs,hz,r⟩
 ·obtain⟨z,aS,n,r,e⟩:=h.ok I.hok;exact⟨aS,r,⟨_,n,e,rfl,rfl,rfl⟩,z⟩
 ·refine⟨aS.toList,r,⟨o,n,I.kIn a o hk,hc,hd,by simpa using hs⟩,?_⟩;have e:=r.length;simp only[WL] at e;omega
theorem Inv.tuple(I:Inv X f8 σ H s)(h:SqT X.K H a xs):∃aS:List Value,Vals xs aS/\IsTup s.heap a aS.toArray/\xs.length<=WB:=by
 rcases h with h | ⟨o,aS,n,hk,hc,hs,hz,r⟩
 ·obtain⟨z,aS,r,p⟩:=h.ok I.hok;exact⟨aS,r,p,z⟩
 ·refine⟨aS.toList,r,⟨o,I.kIn a o hk,hc,n,by simpa using hs⟩,?_⟩;have e:=r.length;simp only[WL] at e;omega
theorem Inv.list_inj(I:Inv X f8 σ H s)(h:SqL X.K H a xs)(h':SqL X.K H a ys):xs=ys:=by
 obtain⟨aS,r,⟨o,n,e,_,_,d⟩,_⟩:=I.list h;obtain⟨its',r',⟨o',n',e',_,_,d'⟩,_⟩:=I.list h';rw[e] at e';cases e';rw[d] at d';injection d' with d1 _
 have:aS=its':=by simpa using acH Array.toList d1
 subst this;exact r.inj r'
theorem Inv.tuple_inj(I:Inv X f8 σ H s)(h:SqT X.K H a xs)(h':SqT X.K H a ys):xs=ys:=by
 obtain⟨aS,r,⟨o,e,_,n,d⟩,_⟩:=I.tuple h;obtain⟨its',r',⟨o',e',_,n',d'⟩,_⟩:=I.tuple h';rw[e] at e';cases e';rw[d] at d';injection d' with d1 _
 have:aS=its':=by simpa using acH Array.toList d1
 subst this;exact r.inj r'
end
abbrev Cx.wish(X:Cx)(E:Value->We->Prop):Cx:={X with xe:=E}
abbrev Cx.nox(X:Cx):Cx:=X.wish λ_ _=>False
theorem Cx.Ok.wish{X:Cx}(ok:X.Ok)(E:Value->We->Prop):(X.wish E).Ok:=
 ⟨ok.mod,ok.kind,ok.glob,ok.blt,ok.above,ok.inj,ok.has,ok.cab,ok.hd,ok.frames,ok.stk,ok.exf,ok.bs,ok.bsz,ok.noex,ok.exfs,ok.funs,ok.frf⟩
theorem Cx.Ok.unwish{X:Cx}{E:Value->We->Prop}(ok:(X.wish E).Ok):X.Ok:=
 ⟨ok.mod,ok.kind,ok.glob,ok.blt,ok.above,ok.inj,ok.has,ok.cab,ok.hd,ok.frames,ok.stk,ok.exf,ok.bs,ok.bsz,ok.noex,ok.exfs,ok.funs,ok.frf⟩
section
variable{X:Cx}{f8:List (Addr×Obj)}{σ:St}{H:Hp}{s:We}{E:Value->We->Prop}
theorem Inv.wish(I:Inv X f8 σ H s)(E:Value->We->Prop):Inv (X.wish E) f8 σ H s:=⟨I.ok.wish E,I.os,I.bare,I.base,I.loc,I.cell,I.free,I.freeC,I.pin,I.hok,I.len⟩
theorem Inv.unwish(I:Inv (X.wish E) f8 σ H s):Inv X f8 σ H s:=⟨I.ok.unwish,I.os,I.bare,I.base,I.loc,I.cell,I.free,I.freeC,I.pin,I.hok,I.len⟩
theorem SP.unwish{D:Ends}{f:Flow}{s':We}(h:SP (X.wish E) f8 D f s'):SP X f8 D f s':=by
 cases f with
 |next=>obtain⟨σ',H',I,q⟩:=h;exact⟨σ',H',I.unwish,q⟩
 |brk=>obtain⟨σ',H',I,q⟩:=h;exact⟨σ',H',I.unwish,q⟩
 |cont=>obtain⟨σ',H',I,q⟩:=h;exact⟨σ',H',I.unwish,q⟩
 |ret u=>obtain⟨v,σ',H',I,r,q⟩:=h;exact⟨v,σ',H',I.unwish,r,q⟩
theorem PE.nox{e:Expr}{t:TE}(h:PE X.nox e t):PE X e t:=λf8 s σ H Q I hw=>
 Xp (h f8 s σ H Q (I.wish _) hw) (λ_ _ ⟨v,H',I',r,q⟩=>⟨v,H',I'.unwish,r,q⟩) λ_ _ z=>XG z
theorem PT.nox{e:Expr}{t:TT}(h:PT X.nox e t):PT X e t:=λf8 s σ H Q I hw=>
 Xp (h f8 s σ H Q (I.wish _) hw) (λ_ _ ⟨H',I',q⟩=>⟨H',I'.unwish,q⟩) λ_ _ z=>XG z
theorem PSs.nox{st:List Stmt}{t:TS}(h:PSs X.nox st t):PSs X st t:=λf8 s σ H D I hw=>
 Xp (h f8 s σ H D (I.wish _) hw) (λ_ _ q=>q.unwish) λ_ _ z=>XG z
end
section
variable{X:Cx}{st:Stmt}{rest:List Stmt}{t u:TS}{e:Expr}{te:TE}{pos:Pos}
def P5:TS:=λD σ H=>D.nx σ H
def Sh(t u:TS):TS:=λD σ H=>t {D with nx:=u D} σ H
theorem JW:PSs X [] P5:=λ_ _ σ H _ I h=>Zz ⟨σ,H,I,h⟩
theorem G7(h1:PS X st t)(h2:PSs X rest u):PSs X (st::rest) (Sh t u):=by
 intro f8 s σ H D I h;refine wpAny_execs_cons (cV (h1 f8 s σ H {D with nx:=u D} I h) λf s1 q=>?_);cases f with
 |next=>
  obtain⟨σ',H',I',q⟩:=q;exact h2 f8 s1 σ' H' D I' q
 |ret v=>exact q
 |brk=>exact q
 |cont=>exact q
theorem JX(h1:PS X st t):PSs X [st] t:=by
 intro f8 s σ H D I h;refine wpAny_execs_cons (cV (h1 f8 s σ H D I h) λf s1 q=>?_);cases f with
 |next=>exact Zz q
 |ret v=>exact q
 |brk=>exact q
 |cont=>exact q
theorem Inv.quiet{f8:List (Addr×Obj)}{σ:St}{H:Hp}{s:We}(I:Inv X f8 σ H s):interactive X.env=false:=by simp[interactive,I.ok.kind]
def Hy(te:TE):TS:=λD σ H=>te σ H λ_ H1=>D.nx σ H1
theorem qJ(he:PE X e te)(hs:ZU e none pos.line X.env=pure false:=by rfl):PS X (.Expr e pos) (Hy te):=by
 intro f8 s σ H D I h;exact wpAny_Expr_any (cV (he f8 s σ H _ I h) λv s1 ⟨x,H1,I1,r1,q1⟩=>⟨σ,H1,I1,q1⟩) I.quiet hs
def Sg(te:TE):TS:=λD σ H=>te σ H D.rt
theorem Nf(he:PE X e te):PS X (.Return (some e) pos) (Sg te):=by
 intro f8 s σ H D I h;exact wpAny_Return_some (cV (he f8 s σ H _ I h) λv s1 ⟨x,H1,I1,r1,q1⟩=>⟨x,σ,H1,I1,r1,q1⟩)
def Sd(c:TT)(t u:TS):TS:=λD σ H=>c σ H λb H1=>if b=true then t D σ H1 else u D σ H1
theorem Po{c:Expr}{a b:List Stmt}{tc:TT}(hc:PT X c tc)(ha:PSs X a t)(hb:PSs X b u):PS X (.If c a b pos) (Sd tc t u):=by
 intro f8 s σ H D I h;refine wpAny_If (cV (hc f8 s σ H _ I h) λd s1 ⟨H1,I1,q1⟩=>?_);cases d with
 |true=>exact ha f8 s1 σ H1 D I1 q1
 |false=>exact hb f8 s1 σ H1 D I1 q1
end
abbrev TG:=V->St->Hp->(St->Hp->Prop)->Prop
abbrev Kt:=List V->St->Hp->(St->Hp->Prop)->Prop
def PG(X:Cx)(target:Expr)(t:TG):Prop:=
 ∀(f8:List (Addr×Obj)) (s:We) (σ:St) (H:Hp) (v:V) (u:Value) (Q:St->Hp->Prop),Inv X f8 σ H s->RelV v u->t v σ H Q->
  wpAny (model X.prog X.w) X.A (assign target X.env u) (λ_ s'=>∃σ' H',Inv X f8 σ' H' s'/\Q σ' H') X.xe s
def Qf(X:Cx)(ts:List Expr)(t:Kt):Prop:=
 ∀(f8:List (Addr×Obj)) (s:We) (σ:St) (H:Hp) (vs:List V) (us:List Value) (Q:St->Hp->Prop),Inv X f8 σ H s->Vals vs us->t vs σ H Q->
  wpAny (model X.prog X.w) X.A (assignInOrder ((ZX ts X.env).map (·.2)) us) (λ_ s'=>∃σ' H',Inv X f8 σ' H' s'/\Q σ' H') X.xe s
abbrev QH:=V->V->V->Hp->(Hp->Prop)->Prop
section
variable{X:Cx}{pos:Pos}
def FE(i:Nat):TG:=λv σ H Q=>Q (σ.set i (some v)) H
theorem bb{i:Nat}{x:Str}(hN:X.N.Nodup)(hi:X.N[i]? =some x)(hx:Loc X.env.scope x)(hf:X.fn x=true\/X.env.scope.names.lookup x=some .local:=by first | exact .inl rfl | exact .inr rfl | assumption):PG X (.Name x pos) (FE i):=by
 intro f8 s σ H v u Q I r h;exact aa8 (Aa I hN hi hx r (λs' I'=>⟨_,H,I',h⟩) hf)
def Oo:Kt:=λvs σ H Q=>vs=[]/\Q σ H
def KH(t:TG)(u:Kt):Kt:=λvs σ H Q=>∃v r,vs=v::r/\t v σ H λσ' H'=>u r σ' H' Q
theorem xq:Qf X [] Oo:=by
 intro f8 s σ H vs us Q I r h;obtain⟨e,h⟩:=h;subst e;cases r;exact assignInOrder_nil ⟨σ,H,I,h⟩
theorem i8{e:Expr}{es:List Expr}{t:TG}{u:Kt}(h1:PG X e t)(h2:Qf X es u)
 (hs:(ZX (e::es) X.env).map (·.2)=assign e X.env::(ZX es X.env).map (·.2):=by rfl):Qf X (e::es) (KH t u):=by
 intro f8 s σ H vs us Q I r h;obtain⟨v,vr,e1,h⟩:=h;subst e1;cases r with
 |cons r rr=>
  rw[hs];refine assignInOrder_cons (cV (h1 f8 s σ H _ _ _ I r h) λ_ s1 ⟨σ1,H1,I1,q1⟩=>?_);exact h2 f8 s1 σ1 H1 _ _ Q I1 rr q1
def Oq(K:Wn)(n:Nat)(t:Kt):TG:=λv σ H Q=>∃a xs,v= .ref a/\SqT K H a xs/\xs.length=n/\t xs σ H Q
theorem BB{es:List Expr}{k:Nat}{t:Kt}{n:Nat}(hc:X.calm=true)(h:Qf X es t)
 (hn:(ZX es X.env).length=n:=by rfl)(A1:(ZX es X.env).findIdx? (·.1)=none:=by rfl):PG X (.Tuple es k pos) (Oq X.K n t):=by
 intro f8 s σ H v u Q I r hw;obtain⟨a,xs,e1,hq,hl,hw⟩:=hw;subst e1;cases r;obtain⟨aS,rv,ht,hz⟩:=I.tuple hq;refine assign_Tuple_tuple (I.ok.hd hc) ht (by simp[hn,<-hl,rv.length]) A1 λh' hx=>?_;have I1:Inv X f8 σ H {s with heap:=h'}:=I.kept (t':=s.toks) λb o e=>hx b o (WS (Ww e)) e;exact h f8 _ σ H xs _ Q I1 (by simpa using rv) hw
def wm(to ti:TE)(t:QH):TG:=λv σ H Q=>to σ H λo H1=>ti σ H1 λi H2=>t o i v H2 λH3=>Q σ H3
def R7(te:TE)(g:TG):TS:=λD σ H=>te σ H λx H1=>g x σ H1 D.nx
theorem sM{tg e:Expr}{te:TE}{g:TG}(he:PE X e te)(hg:PG X tg g)(hs:aaU [tg] e pos.line X.env=pure false:=by rfl)(hw:swappedStores [tg] e X.env=pure none:=by rfl)
 (h1:(ZX [tg] X.env).map (·.2)=[assign tg X.env]:=by rfl):PS X (.Assign [tg] e pos) (R7 te g):=by
 intro f8 s σ H D I h;refine wpAny_Assign_stores (cV (he f8 s σ H _ I h) λv s1 ⟨x,H1,I1,r1,q1⟩=>?_) hs hw;rw[h1];exact cV (hg f8 s1 σ H1 x v _ I1 r1 q1) λ_ s2 q=>q
end
section
variable{X:Cx}{pos:Pos}
def NF(c:TT)(tb:TS):TS:=λD σ H=>∃W:Nat->St->Hp->Prop,(∃m,W m σ H)/\∀m σ H,W m σ H->
 c σ H λb H1=>if b=true then∃N:St->Hp->Prop,(∀σ' H',N σ' H'->∃m',m'<m/\W m' σ' H')/\tb {D with nx:=N,ct:=N,bk:=D.nx} σ H1 else D.nx σ H1
theorem G6{c:Expr}{body:List Stmt}{tc:TT}{tb:TS}(hp:PassesOwn (model X.prog X.w) X.A X.env X.xe)(hc:PT X c tc)(hb:PSs X body tb):PS X (.While c body [] pos) (NF tc tb):=by
 intro f8 s σ H D I h;obtain⟨W,⟨m0,w0⟩,turn⟩:=h;refine wpAny_While (codeAny_whileLoop (λn s'=>∃σ' H',Inv X f8 σ' H' s'/\W n σ' H') ?_ m0 ⟨σ,H,I,w0⟩);rintro n s1 ⟨σ1,H1,I1,w1⟩;refine YH hp (cV (hc f8 s1 σ1 H1 _ I1 (turn n σ1 H1 w1)) λb s2 ⟨H2,I2,q2⟩=>?_);cases b with
 |true=>
  obtain⟨N,hN,q2⟩:=q2;rw[acy rfl];refine YH hp (cV (hb f8 s2 σ1 H2 _ I2 q2) λf s3 q3=>?_);cases f with
  |next=>
   obtain⟨σ3,H3,I3,n3⟩:=q3;obtain⟨m',hm,w3⟩:=hN σ3 H3 n3;exact⟨m',hm,σ3,H3,I3,w3⟩
  |cont=>
   obtain⟨σ3,H3,I3,n3⟩:=q3;obtain⟨m',hm,w3⟩:=hN σ3 H3 n3;exact⟨m',hm,σ3,H3,I3,w3⟩
  |brk=>exact q3
  |ret v=>exact q3
 |false=>
  rw[acz WO];exact Zz ⟨σ1,H2,I2,q2⟩
end
structure It where
 go:Nat->Hp->Prop
 yld:Nat->Hp->V->Hp->Prop
 stop:Nat->Hp->Prop
def ym(X:Cx)(f8:List (Addr×Obj))(H:Hp)(b:Addr):Prop:=
 H b=none/\b≠X.env.locals/\b∉X.fs/\(b∈X.ex\/X.acJ.heap.objs.size<=b)/\(∀x c,X.env.cells.lookup x=some c->c≠b)/\∀p∈X.pn++f8,p.1≠b
theorem Inv.fpOk{X:Cx}{f8:List (Addr×Obj)}{σ:St}{H H':Hp}{s:We}{b:Addr}(I:Inv X f8 σ H s)(hb:s.heap.objs.size<=b)(hn:H' b=none):ym X f8 H' b:=by
 refine⟨hn,Zw (WW I.lt hb),I.nofs hb, .inr (WM I.sz hb),λx c e z=>?_,λp hp z=>?_⟩
 ·obtain⟨v,q⟩:=I.cell x c e;exact acE (WW q.lt (by rw[z];exact hb)) (Xr _)
 ·exact acE (WW (Ww (I.pin p hp).1) (by rw[z];exact hb)) (Xr _)
structure Turn (P:WQ) (w:World) (K:Wn) (tg:Expr) (J:It) (fp:List Addr) (it:Addr) (tn:Nat->Heap->Prop):Prop where
 mem:it∈fp
 obj:∀i h,tn i h->∀b∈fp,∃o,h.get? b=some o/\∀v,o.data≠ .cell v
 keep:∀i h h',tn i h->(∀b∈fp,∀o,h.get? b=some o->h'.get? b=some o)->tn i h'
 item:∀(X:Cx),X.prog=P->X.w=w->X.K=K->X.calm=true->∀(i:Nat) (f8:List (Addr×Obj)) (s:We) (σ:St) (H:Hp) (E:Value->We->Prop),Inv X f8 σ H s->(∀b∈fp,ym X f8 H b)->tn i s.heap->J.go i H->
  wpAny (model P w) X.A (aai (.ref it)) (λr s1=>∃u,r=some u/\
   wpAny (model P w) X.A (aak tg (.ref it) u) (λ_ s2=>∃x H',Inv X f8 σ H' s2/\RelV x u/\J.yld i H x H'/\tn (i+1) s2.heap/\∀b∈fp,H' b=none) E s1) E s
 done:∀(X:Cx),X.prog=P->X.w=w->X.K=K->X.calm=true->∀(i:Nat) (f8:List (Addr×Obj)) (s:We) (σ:St) (H:Hp) (E:Value->We->Prop),Inv X f8 σ H s->(∀b∈fp,ym X f8 H b)->tn i s.heap->J.stop i H->
  wpAny (model P w) X.A (aai (.ref it)) (λr s1=>r=none/\Inv X f8 σ H s1) E s
 self:∀(A:WX) (i:Nat) (s:We) (Q:Value->We->Prop) (E:Value->We->Prop),tn i s.heap->Q (.ref it) s->wpAny (model P w) A (pyIter (.ref it)) Q E s
abbrev TI:=St->Hp->(It->Hp->Prop)->Prop
def So(X:Cx)(f8:List (Addr×Obj))(σ:St)(tg:Expr)(R:It->Hp->Prop)(Th:Value)(s2:We):Prop:=
 ∃(it:Addr) (fp:List Addr) (tn:Nat->Heap->Prop) (J:It) (H':Hp),Th= .ref it/\Inv X f8 σ H' s2/\Turn X.prog X.w X.K tg J fp it tn/\tn 0 s2.heap/\(∀b∈fp,ym X f8 H' b)/\R J H'
def PI(X:Cx)(tg iter:Expr)(wi:TI):Prop:=
 ∀(f8:List (Addr×Obj)) (s:We) (σ:St) (H:Hp) (R:It->Hp->Prop),Inv X f8 σ H s->wi σ H R->
  wpAny (model X.prog X.w) X.A (eval iter X.env) (λv s1=>wpAny (model X.prog X.w) X.A (pyIter v) (So X f8 σ tg R) X.xe s1) X.xe s
theorem uY{M:Model}{A:WX}{E:Value->We->Prop}{s:We}{tg:Expr}{it:Addr}{u:Value}{o:Obj}{n:String}{vs:Array Value}{Q:Unit->We->Prop}(ho:s.heap.get? it=some o)(hc:o.cls= .type n)(hd:o.data= .fields vs)
 (hn:["enumerate","zip","dict_itemiterator","dict_reverseitemiterator","odict_iterator","itertools.zip_longest","itertools.pairwise"].contains n=false)(hQ:Q () s):wpAny M A (aak tg (.ref it) u) Q E s:=by
 unfold aak;cases tg<;>first
  |exact Wk hQ
  |(cases u<;>first
    |exact Wk hQ
    |(refine Wb (wpAny_load ho ?_)
      rw[hc,hd];show wpAny M A (if (["enumerate","zip","dict_itemiterator","dict_reverseitemiterator","odict_iterator","itertools.zip_longest","itertools.pairwise"].contains n&&vs[0]? ==some (aaK _))=true then _ else _) Q E s;rw[acz (by intro h;rw[hn,abq] at h;cases h)];exact Wk hQ))
def QD(K:Wn)(a:Addr):It:=
 ⟨λi H=>∃xs x,SqL K H a xs/\xs[i]? =some x,λi H x H'=>H'=H/\∀xs,SqL K H a xs->xs[i]? =some x,λi H=>∃xs,SqL K H a xs/\xs.length<=i⟩
def QE(K:Wn)(a:Addr):It:=
 ⟨λi H=>∃xs x,SqT K H a xs/\xs[i]? =some x,λi H x H'=>H'=H/\∀xs,SqT K H a xs->xs[i]? =some x,λi H=>∃xs,SqT K H a xs/\xs.length<=i⟩
def N0(lo:Int)(n:Nat):It:=⟨λi _=>i<n,λi H x H'=>H'=H/\x= .int (lo+i),λi _=>n<=i⟩
theorem EH{P:WQ}{w:World}{K:Wn}{tg:Expr}(a it:Addr):Turn P w K tg (QD K a) [it] it (λi h=>h.IsListIter it a i) where
 mem:=by simp
 obj:=λi h st b hb=>by
  have e:b=it:=by simpa using hb
  subst e;obtain⟨o,e,c,d⟩:=st;exact⟨o,e,λv z=>by rw[d] at z;cases z⟩
 keep:=λi h h' st k=>st.at λo e=>k it (by simp) o e
 item:=by
  intro X hP hw hK hc i f8 s σ H E I hf st hg;subst hP hw hK;obtain⟨xs,x,hq,hx⟩:=hg;obtain⟨aS,rv,p,hz⟩:=I.list hq;obtain⟨u,hu,ru⟩:=rv.get hx;obtain⟨f0,f1,f2,f3,f4,f5⟩:=hf it (by simp);refine wpAny_pyNext_list_item st p.isList (x:=u) (by simpa using hu) λh' s_ sb=>?_;have I1:Inv X f8 σ H {s with heap:=h'}:=I.turned (t':=s.toks) (λb o hb e=>(sb.2 b hb).trans e) f0 f1 f3 f4 f5;obtain⟨o,e,c,d⟩:=id s_;exact⟨u,rfl,uY (s:={s with heap:=h'}) e c d (by decide) ⟨x,H,I1,ru,⟨rfl,λys hy=>by rw[I.list_inj hy hq];exact hx⟩,s_,λb hb=>(hf b hb).1⟩⟩
 done:=by
  intro X hP hw hK hc i f8 s σ H E I hf st hg;subst hP hw hK;obtain⟨xs,hq,hx⟩:=hg;obtain⟨aS,rv,p,hz⟩:=I.list hq;obtain⟨f0,f1,f2,f3,f4,f5⟩:=hf it (by simp);have hl:=rv.length;exact wpAny_pyNext_list_end (I.ok.hd hc) st p.isList (by simp;omega) λh' eb=>⟨rfl,I.turned (t':=s.toks) (λb o hb e=>eb b o hb e) f0 f1 f3 f4 f5⟩
 self:=λ_ _ _ _ _ st h=>wpAny_pyIter_listiter st h
theorem BN{P:WQ}{w:World}{K:Wn}{tg:Expr}(a it:Addr):Turn P w K tg (QE K a) [it] it (λi h=>h.IsTupleIter it a i) where
 mem:=by simp
 obj:=λi h st b hb=>by
  have e:b=it:=by simpa using hb
  subst e;obtain⟨o,e,c,d⟩:=st;exact⟨o,e,λv z=>by rw[d] at z;cases z⟩
 keep:=λi h h' st k=>st.at λo e=>k it (by simp) o e
 item:=by
  intro X hP hw hK hc i f8 s σ H E I hf st hg;subst hP hw hK;obtain⟨xs,x,hq,hx⟩:=hg;obtain⟨aS,rv,p,hz⟩:=I.tuple hq;obtain⟨u,hu,ru⟩:=rv.get hx;obtain⟨f0,f1,f2,f3,f4,f5⟩:=hf it (by simp);refine wpAny_pyNext_tuple_item st (show s.heap.IsTuple a aS.toArray from p) (x:=u) (by simpa using hu) λh' s_ sb=>?_;have I1:Inv X f8 σ H {s with heap:=h'}:=I.turned (t':=s.toks) (λb o hb e=>(sb.2 b hb).trans e) f0 f1 f3 f4 f5;obtain⟨o,e,c,d⟩:=id s_;exact⟨u,rfl,uY (s:={s with heap:=h'}) e c d (by decide) ⟨x,H,I1,ru,⟨rfl,λys hy=>by rw[I.tuple_inj hy hq];exact hx⟩,s_,λb hb=>(hf b hb).1⟩⟩
 done:=by
  intro X hP hw hK hc i f8 s σ H E I hf st hg;subst hP hw hK;obtain⟨xs,hq,hx⟩:=hg;obtain⟨aS,rv,p,hz⟩:=I.tuple hq;obtain⟨f0,f1,f2,f3,f4,f5⟩:=hf it (by simp);have hl:=rv.length;exact wpAny_pyNext_tuple_end (I.ok.hd hc) st (show s.heap.IsTuple a aS.toArray from p) (by simp;omega) λh' eb=>⟨rfl,I.turned (t':=s.toks) (λb o hb e=>eb b o hb e) f0 f1 f3 f4 f5⟩
 self:=λ_ _ _ _ _ st h=>wpAny_pyIter_tupleiter st h
theorem BM{P:WQ}{w:World}{K:Wn}{tg:Expr}(it:Addr)(lo:Int)(n:Nat):Turn P w K tg (N0 lo n) [it] it (λi h=>IsRangeIter h it (lo+(i:Nat)*1) ((n:Int) - (i:Nat)) 1) where
 mem:=by simp
 obj:=λi h st b hb=>by
  have e:b=it:=by simpa using hb
  subst e;exact⟨_,st,λv z=>by
   have z':WE _=Data.cell v:=z;cases z'⟩
 keep:=λi h h' st k=>k it (by simp) _ st
 item:=by
  intro X hP hw hK hc i f8 s σ H E I hf st hg;subst hP hw hK;obtain⟨f0,f1,f2,f3,f4,f5⟩:=hf it (by simp);have W:=Walks.range (prog:=X.prog) (w:=X.w) (I.ok.hd hc) it lo 1 n;refine W.item i s _ _ hg st λv h' tk hv s_ kk=>?_;obtain⟨t,rfl⟩:=hv;have I1:Inv X f8 σ H {s with heap:=h',toks:=tk}:=I.turned (λb o hb e=>kk b o (by simpa using hb) e) f0 f1 f3 f4 f5;refine⟨_,rfl,uY (s:={s with heap:=h',toks:=tk}) (n:="range_iterator") s_ rfl rfl (by decide) ⟨.int (lo+i),H,I1,⟨t,?_⟩,⟨rfl,rfl⟩,s_,λb hb=>(hf b hb).1⟩⟩;rw[Int.mul_one]
 done:=by
  intro X hP hw hK hc i f8 s σ H E I hf st hg;subst hP hw hK;obtain⟨f0,f1,f2,f3,f4,f5⟩:=hf it (by simp);exact wpAny_pyNext_range_end (I.ok.hd hc) st (by have:n<=i:=hg;omega) λh' eb=>⟨rfl,I.turned (t':=s.toks) (λb o hb e=>eb b o hb e) f0 f1 f3 f4 f5⟩
 self:=λ_ _ _ _ _ st h=>wpAny_pyIter_rangeiter st h
section
variable{X:Cx}{tg:Expr}
def OZ(K:Wn)(tl:TE):TI:=λσ H R=>tl σ H λx H1=>∃a,x= .ref a/\(∃xs,SqL K H1 a xs)/\R (QD K a) H1
def RB(K:Wn)(tl:TE):TI:=λσ H R=>tl σ H λx H1=>∃a,x= .ref a/\(∃xs,SqT K H1 a xs)/\R (QE K a) H1
theorem JN{l:Expr}{tl:TE}(hl:PE X l tl):PI X tg l (OZ X.K tl):=by
 intro f8 s σ H R I h;refine cV (hl f8 s σ H _ I h) λv s1 ⟨x,H1,I1,r1,q1⟩=>?_;obtain⟨a,e,⟨xs,hq⟩,q⟩:=q1;subst e;cases r1;obtain⟨aS,rv,p,hz⟩:=I1.list hq;refine aa6 p.isList ?_;refine⟨s1.heap.objs.size,[s1.heap.objs.size],_,_,H1,rfl,I1.kept (t':=s1.toks) λb o e=>Wg _ e,EH a _,⟨_,WA _ rfl,rfl,rfl⟩,λb hb=>?_,q⟩;have e:b=s1.heap.objs.size:=by simpa using hb
 subst e;exact I1.fpOk (Wr _) (I1.hok.fresh (Wr _))
theorem Nb{l:Expr}{tl:TE}(hl:PE X l tl):PI X tg l (RB X.K tl):=by
 intro f8 s σ H R I h;refine cV (hl f8 s σ H _ I h) λv s1 ⟨x,H1,I1,r1,q1⟩=>?_;obtain⟨a,e,⟨xs,hq⟩,q⟩:=q1;subst e;cases r1;obtain⟨aS,rv,p,hz⟩:=I1.tuple hq;refine wpAny_pyIter_tuple (show s1.heap.IsTuple a aS.toArray from p) ?_;refine⟨s1.heap.objs.size,[s1.heap.objs.size],_,_,H1,rfl,I1.kept (t':=s1.toks) λb o e=>Wg _ e,BN a _,⟨_,WA _ rfl,rfl,rfl⟩,λb hb=>?_,q⟩;have e:b=s1.heap.objs.size:=by simpa using hb
 subst e;exact I1.fpOk (Wr _) (I1.hok.fresh (Wr _))
theorem zU{f8:List (Addr×Obj)}{σ:St}{H:Hp}{s:We}{R:It->Hp->Prop}{E:Value->We->Prop}{lo hi:Int}{t u v:Tok}{tk:Nat}(I:Inv X f8 σ H s)(h1: -(2 ^ 62)<=lo)(h2:lo<2 ^ 62)(h3: -(2 ^ 62)<=hi)(h4:hi<2 ^ 62)
 (q:R (N0 lo (hi - lo).toNat) H):wpAny (model X.prog X.w) X.A (pyIter (.ref s.heap.objs.size)) (So X f8 σ tg R) E {s with heap:=s.heap.push {cls:= .type "range",data:= .fields #[.int lo t, .int hi u, .int 1 v]},toks:=tk}:=by
 refine wpAny_pyIter_range (IsRange.new ..) (small_one h1 h2 h3 h4) ?_;have I1:Inv X f8 σ H {s with heap:=s.heap.push {cls:= .type "range",data:= .fields #[.int lo t, .int hi u, .int 1 v]},toks:=tk}:=I.kept λb o e=>Wg _ e;refine⟨(s.heap.push {cls:= .type "range",data:= .fields #[.int lo t, .int hi u, .int 1 v]}).objs.size,[(s.heap.push {cls:= .type "range",data:= .fields #[.int lo t, .int hi u, .int 1 v]}).objs.size],_,_,H,rfl,
  I1.kept (t':=tk) λb o e=>Wg _ e,BM _ lo (hi - lo).toNat,?_,λb hb=>?_,q⟩
 ·have e1:lo+((0:Nat):Int)*1=lo:=by simp
  have e2:(((hi - lo).toNat:Nat):Int) - ((0:Nat):Int)=Builtin.Range.rangeSize lo hi 1:=by rw[rangeSize_one];split<;>omega
  show IsRangeIter _ _ (lo+((0:Nat):Int)*1) ((((hi - lo).toNat:Nat):Int) - ((0:Nat):Int)) 1;rw[e1,e2];exact WA _ rfl
 ·have e:b=(s.heap.push {cls:= .type "range",data:= .fields #[.int lo t, .int hi u, .int 1 v]}).objs.size:=by simpa using hb
  subst e;exact I1.fpOk (Wr _) (I1.hok.fresh (Wr _))
def O0(ta:TA):TI:=λσ H R=>ta σ H λvs H1=>∃j:Int,vs=[.int j]/\ -(2 ^ 62)<=j/\j<2 ^ 62/\R (N0 0 j.toNat) H1
def O1(ta:TA):TI:=λσ H R=>ta σ H λvs H1=>∃i j:Int,vs=[.int i, .int j]/\(-(2 ^ 62)<=i/\i<2 ^ 62/\ -(2 ^ 62)<=j/\j<2 ^ 62)/\R (N0 i (j - i).toNat) H1
theorem EA{a:Expr}{ta:TA}{p pos:Pos}(hg:Gl X "range")(hm:X.mg "range"=none)(ha:PA X [a] ta)(hs:Wt [a] X.env=[(false,eval a X.env)]:=by rfl):PI X tg (.Call (.Name "range" p) [a] [] pos) (O0 ta):=by
 intro f8 s σ H R I h;refine Call_ (rH I hg hm boot_range (Y9 (cV (ha pos f8 s σ H _ I h) λus s1 ⟨vs,H1,I1,r1,q1⟩=>?_) hs rfl));obtain⟨j,e,q1,q2,q⟩:=q1;subst e;cases r1 with
 |cons r rr=>
  cases rr;obtain⟨t,rfl⟩:=r;exact call_range_1 (zU I1 (by omega) (by omega) q1 q2 (by simpa using q))
theorem EB{a b:Expr}{ta:TA}{p pos:Pos}(hg:Gl X "range")(hm:X.mg "range"=none)(ha:PA X [a,b] ta)(hs:Wt [a,b] X.env=[(false,eval a X.env),(false,eval b X.env)]:=by rfl)(L8:Wt [b] X.env=[(false,eval b X.env)]:=by rfl):
 PI X tg (.Call (.Name "range" p) [a,b] [] pos) (O1 ta):=by
 intro f8 s σ H R I h;refine Call_ (rH I hg hm boot_range (Y9 (cV (ha pos f8 s σ H _ I h) λus s1 ⟨vs,H1,I1,r1,q1⟩=>?_) (by rw[hs,L8]) (by rw[L8];rfl)));obtain⟨i,j,e,⟨q1,q2,q3,q4⟩,q⟩:=q1;subst e;cases r1 with
 |cons r rr=>
  cases rr with
  |cons r' rr=>
   cases rr;obtain⟨t,rfl⟩:=r;obtain⟨t',rfl⟩:=r';exact call_range_2 (zU I1 q1 q2 q3 q4 q)
def Sb(wi:TI)(g:TG)(tb:TS):TS:=λD σ H=>wi σ H λJ H1=>∃W:Nat->Nat->St->Hp->Prop,(∃m,W 0 m σ H1)/\∀i m σ H,W i m σ H->
 (J.stop i H/\D.nx σ H)\/(J.go i H/\∃N:St->Hp->Prop,(∀σ' H',N σ' H'->∃m',m'<m/\W (i+1) m' σ' H')/\∀x H',J.yld i H x H'->g x σ H' λσ2 H2=>tb {D with nx:=N,ct:=N,bk:=D.nx} σ2 H2)
def sJ(fp:List Addr)(h:Heap):List (Addr×Obj):=fp.filterMap λb=>(h.get? b).map λo=>(b,o)
theorem jt{fp:List Addr}{h:Heap}{b:Addr}{o:Obj}(hb:b∈fp)(e:h.get? b=some o):(b,o)∈sJ fp h:=aaz.mpr ⟨b,hb,by rw[e];rfl⟩
theorem En{fp:List Addr}{h:Heap}{p:Addr×Obj}(hp:p∈sJ fp h):p.1∈fp/\h.get? p.1=some p.2:=by
 obtain⟨b,hb,e⟩:=aaz.mp hp;cases q:h.get? b with
 |none=>rw[q] at e;cases e
 |some o=>
  rw[q] at e;have e':(b,o)=p:=WY e;subst e';exact⟨hb,q⟩
theorem Inv.pinned{f8:List (Addr×Obj)}{σ:St}{H:Hp}{s:We}{fp:List Addr}(I:Inv X f8 σ H s)(hf:∀b∈fp,ym X f8 H b)(ho:∀b∈fp,∃o,s.heap.get? b=some o/\∀v,o.data≠ .cell v):Inv X (f8++sJ fp s.heap) σ H s:=
 I.pins_of λp hp=>(W6.mp hp).elim (λz=>I.pin p (Xa _ z)) λz=>by
  obtain⟨hb,e⟩:=En z;obtain⟨f0,f1,f2,_⟩:=hf p.1 hb;obtain⟨o,e',d⟩:=ho p.1 hb;rw[e] at e';cases e';exact⟨e,f0,f1,f2,d⟩
theorem Inv.unpinned{f8 pl:List (Addr×Obj)}{σ:St}{H:Hp}{s:We}(I:Inv X (f8++pl) σ H s):Inv X f8 σ H s:=I.pins_of λp hp=>I.pin p (Xa _ (Yg _ hp))
theorem Nd{iter:Expr}{body:List Stmt}{wi:TI}{g:TG}{tb:TS}{pos:Pos}(hp:PassesOwn (model X.prog X.w) X.A X.env X.xe)(hc:X.calm=true)(hi:PI X tg iter wi)(hg:PG X tg g)(hb:PSs X body tb)
 (hs:∀x,ZV iter X.env x=pure x:=by intro _;rfl):PS X (.For tg iter body [] pos) (Sb wi g tb):=by
 intro f8 s σ H D I h;refine wpAny_For (cV (hi f8 s σ H _ I h) λv s1 h1=>cV h1 λTh s2 h2=>?_) hs;obtain⟨it,fp,tn,J,H2,e,I2,T,Lc,f2,W,⟨m0,w0⟩,turn⟩:=h2;subst e;have Nz:∀{H':Hp},(∀b∈fp,H' b=none)->∀b∈fp,ym X f8 H' b:=λhn b hb=>⟨hn b hb,(f2 b hb).2⟩
 refine codeAny_forLoop_any (λn s'=>∃i σ' H',Inv X f8 σ' H' s'/\tn i s'.heap/\(∀b∈fp,H' b=none)/\W i n σ' H') ?_ m0 ⟨0,σ,H2,I2,Lc,λb hb=>(f2 b hb).1,w0⟩;rintro n s3 ⟨i,σ3,H3,I3,Ld,Qj,w3⟩;rcases turn i n σ3 H3 w3 with⟨stop,qn⟩ | ⟨go,N,hN,step⟩
 ·refine YH hp (cV (T.done X rfl rfl rfl hc i f8 s3 σ3 H3 X.xe I3 (Nz Qj) Ld stop) λr s4 ⟨hr,I4⟩=>?_);subst hr;exact Zz ⟨σ3,H3,I4,qn⟩
 ·refine YH hp (cV (T.item X rfl rfl rfl hc i f8 s3 σ3 H3 X.xe I3 (Nz Qj) Ld go) λr s4 ⟨u,hr,h4⟩=>?_);subst hr;refine YH hp (cV h4 λ_ s5 ⟨x,H5,I5,r5,y5,R5,T7⟩=>?_);have I5':=I5.pinned (Nz T7) (T.obj _ _ R5);refine YH hp (cV (hg _ s5 σ3 H5 x u _ I5' r5 (step x H5 y5)) λ_ s6 ⟨σ6,H6,I6,q6⟩=>?_);refine YH hp (cV (hb _ s6 σ6 H6 _ I6 q6) λf s7 q7=>?_);have again:∀{σ7:St}{H7:Hp},Inv X (f8++sJ fp s5.heap) σ7 H7 s7->N σ7 H7->∃m,m<n/\∃i σ' H',Inv X f8 σ' H' s7/\tn i s7.heap/\(∀b∈fp,H' b=none)/\W i m σ' H':=λ{σ7 H7} I7 n7=>by
   obtain⟨m',hm,w7⟩:=hN σ7 H7 n7;refine⟨m',hm,i+1,σ7,H7,I7.unpinned,T.keep _ _ _ R5 λb hb o e=>(I7.pin (b,o) (Xa _ (Xa _ (jt hb e)))).1,λb hb=>?_,w7⟩;obtain⟨o,e,d⟩:=T.obj _ _ R5 b hb;exact(I7.pin (b,o) (Xa _ (Xa _ (jt hb e)))).2.1
  cases f with
  |next=>obtain⟨σ7,H7,I7,n7⟩:=q7;exact again I7 n7
  |cont=>obtain⟨σ7,H7,I7,n7⟩:=q7;exact again I7 n7
  |brk=>obtain⟨σ7,H7,I7,q7⟩:=q7;exact⟨σ7,H7,I7.unpinned,q7⟩
  |ret v=>obtain⟨x7,σ7,H7,I7,r7,q7⟩:=q7;exact⟨x7,σ7,H7,I7.unpinned,r7,q7⟩
end
abbrev R2:=V->V->Hp->VK->Prop
def OpR(X:Cx)(f:Value->Value->Sem Value)(r:R2):Prop:=
 ∀(f8:List (Addr×Obj)) (s:We) (σ:St) (H:Hp) (x y:V) (v u:Value) (Q:VK),Inv X f8 σ H s->RelV x v->RelV y u->r x y H Q->
  wpAny (model X.prog X.w) X.A (f v u) (EP X f8 σ Q) X.xe s
def QJ(X:Cx)(f:Value->Sem Value)(r:V->Hp->VK->Prop):Prop:=
 ∀(f8:List (Addr×Obj)) (s:We) (σ:St) (H:Hp) (x:V) (v:Value) (Q:VK),Inv X f8 σ H s->RelV x v->r x H Q->
  wpAny (model X.prog X.w) X.A (f v) (EP X f8 σ Q) X.xe s
def CallR(X:Cx)(f:Value)(r:List V->Hp->VK->Prop):Prop:=
 ∀(f8:List (Addr×Obj)) (s:We) (σ:St) (H:Hp) (xs:List V) (us:List Value) (Q:VK),Inv X f8 σ H s->Vals xs us->r xs H Q->
  wpAny (model X.prog X.w) X.A (call f us) (EP X f8 σ Q) X.xe s
def QI(X:Cx)(r:V->Hp->(Bool->Hp->Prop)->Prop):Prop:=
 ∀(f8:List (Addr×Obj)) (s:We) (σ:St) (H:Hp) (x:V) (v:Value) (Q:Bool->Hp->Prop),Inv X f8 σ H s->RelV x v->r x H Q->
  wpAny (model X.prog X.w) X.A (truthy v) (TP X f8 σ Q) X.xe s
def P7(r:R2)(ta tb:TE):TE:=λσ H Q=>ta σ H λx H1=>tb σ H1 λy H2=>r x y H2 Q
def VN(r:V->Hp->VK->Prop)(ta:TE):TE:=λσ H Q=>ta σ H λx H1=>r x H1 Q
def rI(C:Int->Int->Prop)(g:Int->Int->V):R2:=λx y H Q=>∃i j,x= .int i/\y= .int j/\C i j/\Q (g i j) H
def C9(g:Int->Int->V):R2:=λx y H Q=>∃i j,x= .int i/\y= .int j/\Q (g i j) H
def rU(g:Int->V):V->Hp->VK->Prop:=λx H Q=>∃i,x= .int i/\Q (g i) H
section
variable{X:Cx}{a b:Expr}{ta tb:TE}{pos:Pos}
theorem Ll(ha:PE X a ta)(hb:PE X b tb){f8:List (Addr×Obj)}{s:We}{σ:St}{H:Hp}{R:V->V->Hp->Prop}(I:Inv X f8 σ H s)
 (h:ta σ H λx H1=>tb σ H1 λy H2=>R x y H2){Q:Value->We->Prop}{f:Value->Value->Sem Value}
 (hf:∀v u s2 x y H2,Inv X f8 σ H2 s2->RelV x v->RelV y u->R x y H2->wpAny (model X.prog X.w) X.A (f v u) Q X.xe s2):
 wpAny (model X.prog X.w) X.A (eval a X.env) (λv P3=>wpAny (model X.prog X.w) X.A (eval b X.env) (λu v4=>wpAny (model X.prog X.w) X.A (f v u) Q X.xe v4) X.xe P3) X.xe s:=by
 refine cV (ha f8 s σ H _ I h) λv s1 ⟨x,H1,I1,r1,q1⟩=>?_;refine cV (hb f8 s1 σ H1 _ I1 q1) λu s2 ⟨y,H2,I2,r2,q2⟩=>?_;exact hf v u s2 x y H2 I2 r1 r2 q2
theorem Pl{op:Operator}{r:R2}(ho:OpR X (Zd op) r)(ha:PE X a ta)(hb:PE X b tb):PE X (.BinOp a op b pos) (P7 r ta tb):=by
 intro f8 s σ H Q I h;exact wpAny_BinOp (Ll ha hb I h λv u s2 x y H2 I2 rx ry q=>ho f8 s2 σ H2 x y v u Q I2 rx ry q)
theorem Pm{op:UnaryOp}{r:V->Hp->VK->Prop}(ho:QJ X (unaryOp op) r)(ha:PE X a ta):PE X (.UnaryOp op a pos) (VN r ta):=by
 intro f8 s σ H Q I h;exact UnaryOp_ (cV (ha f8 s σ H _ I h) λv s1 ⟨x,H1,I1,r1,q1⟩=>ho f8 s1 σ H1 x v Q I1 r1 q1)
theorem RO{f:Value->Value->Sem Value}{C:Int->Int->Prop}{g:Int->Int->Int}
 (rule:∀(i j:Int) (t u:Tok) (s:We) (Q:Value->We->Prop) (E:Value->We->Prop),C i j->Q (.int (g i j) s.toks) {s with toks:=s.toks+1}->wpAny (model X.prog X.w) X.A (f (.int i t) (.int j u)) Q E s):
 OpR X f (rI C λi j=> .int (g i j)):=by
 intro f8 s σ H x y v u Q I rx ry h;obtain⟨i,j,rfl,rfl,hc,q⟩:=h;obtain⟨t,rfl⟩:=rx;obtain⟨t',rfl⟩:=ry;exact rule i j t t' s _ _ hc ⟨.int (g i j),H,I.tok _,⟨_,rfl⟩,q⟩
theorem Pe{f:Value->Value->Sem Value}{g:Int->Int->Int}
 (rule:∀(i j:Int) (t u:Tok) (s:We) (Q:Value->We->Prop) (E:Value->We->Prop),Q (.int (g i j) s.toks) {s with toks:=s.toks+1}->wpAny (model X.prog X.w) X.A (f (.int i t) (.int j u)) Q E s):
 OpR X f (C9 λi j=> .int (g i j)):=by
 intro f8 s σ H x y v u Q I rx ry h;obtain⟨i,j,rfl,rfl,q⟩:=h;obtain⟨t,rfl⟩:=rx;obtain⟨t',rfl⟩:=ry;exact rule i j t t' s _ _ ⟨.int (g i j),H,I.tok _,⟨_,rfl⟩,q⟩
theorem ME{f:Value->Value->Sem Value}{g:Int->Int->Bool}
 (rule:∀(i j:Int) (t u:Tok) (s:We) (Q:Value->We->Prop) (E:Value->We->Prop),Q (.bool (g i j)) s->wpAny (model X.prog X.w) X.A (f (.int i t) (.int j u)) Q E s):
 OpR X f (C9 λi j=> .bl (g i j)):=by
 intro f8 s σ H x y v u Q I rx ry h;obtain⟨i,j,rfl,rfl,q⟩:=h;obtain⟨t,rfl⟩:=rx;obtain⟨t',rfl⟩:=ry;exact rule i j t t' s _ _ ⟨.bl (g i j),H,I,rfl,q⟩
def NW(i j:Int):Prop:=0<j/\j<1073741824
def CMul(i j:Int):Prop:=(-(2 ^ 64)<i/\i<2 ^ 64)\/(-(2 ^ 64)<j/\j<2 ^ 64)
theorem CMul.ok{i j:Int}(h:CMul i j):IntMulOk i j:=by
 rcases h with⟨h1,h2⟩ | ⟨h1,h2⟩
 ·exact .of_left (intBits_le_64 h1 h2)
 ·exact .of_right (intBits_le_64 h1 h2)
theorem MF:OpR X (Zd .Add) (C9 λi j=> .int (i+j)):=Pe λ_ _ _ _ _ _ _ q=>add_int q
theorem MO:OpR X (Zd .Sub) (C9 λi j=> .int (i - j)):=Pe λ_ _ _ _ _ _ _ q=>sub_int q
theorem ML:OpR X (Zd .Mult) (rI CMul λi j=> .int (i*j)):=RO λ_ _ _ _ _ _ _ hc q=>mul_int q hc.ok
theorem Jv:OpR X (Zd .FloorDiv) (rI NW λi j=> .int (i / j)):=RO λi j _ _ _ _ _ hc q=>by
 have h1:(0:Int)<j:=hc.1;have h2:j<1073741824:=hc.2;exact floordiv_int (by omega) (by rw[Int.fdiv_eq_ediv_of_nonneg i (by omega)];exact q) (.inl (PyProof.noPylong_small (by omega)))
theorem MK:OpR X (Zd .Mod) (rI (λ_ j=>0<j) λi j=> .int (i % j)):=RO λi j _ _ _ _ _ hc q=>by
 have h1:(0:Int)<j:=hc;exact mod_int' (by omega) (by rw[Int.fmod_eq_emod_of_nonneg i (by omega)];exact q)
theorem VP{f:Value->Sem Value}{g:Int->Int}
 (rule:∀(i:Int) (t:Tok) (s:We) (Q:Value->We->Prop) (E:Value->We->Prop),Q (.int (g i) s.toks) {s with toks:=s.toks+1}->wpAny (model X.prog X.w) X.A (f (.int i t)) Q E s):
 QJ X f (rU λi=> .int (g i)):=by
 intro f8 s σ H x v Q I rx h;obtain⟨i,rfl,q⟩:=h;obtain⟨t,rfl⟩:=rx;exact rule i t s _ _ ⟨.int (g i),H,I.tok _,⟨_,rfl⟩,q⟩
theorem NI:QJ X (unaryOp .USub) (rU λi=> .int (-i)):=VP λ_ _ _ _ _ q=>neg_int q
end
section
variable{X:Cx}{a b c:Expr}{ta tb tc:TE}{pos:Pos}
theorem LI{f8:List (Addr×Obj)}{σ:St}{H:Hp}{s:We}{Q:VK}{k k':Bool}(I:Inv X f8 σ H s)(q:Q (.bl k) H)(e:k=k'):EP X f8 σ Q (.bool k') s:=by
 subst e;exact⟨.bl k,H,I,rfl,q⟩
theorem zH:OpR X (Xh .Lt) (C9 λi j=> .bl (decide (i<j))):=ME λ_ _ _ _ _ _ _ q=>lt_int q
theorem pK:OpR X (Xh .LtE) (C9 λi j=> .bl (decide (i<=j))):=ME λ_ _ _ _ _ _ _ q=>le_int q
theorem K7:OpR X (Xh .Gt) (C9 λi j=> .bl (decide (j<i))):=ME λ_ _ _ _ _ _ _ q=>gt_int q
theorem Es:OpR X (Xh .In) (λx y H Q=>∃i j,x= .str i/\y= .str j/\Q (.bl (!(YJ j i 0 j.length 1).isEmpty)) H):=by
 intro f8 s σ H x y v u Q I rx ry h;obtain⟨i,j,rfl,rfl,q⟩:=h;obtain⟨t,rfl⟩:=rx;obtain⟨t',rfl⟩:=ry;exact in_str (LI I q rfl)
theorem OpR.or{f:Value->Value->Sem Value}{r r':R2}(h:OpR X f r)(h':OpR X f r'):OpR X f (λx y H Q=>r x y H Q\/r' x y H Q):=by
 intro f8 s σ H x y v u Q I rx ry q;rcases q with q | q
 ·exact h f8 s σ H x y v u Q I rx ry q
 ·exact h' f8 s σ H x y v u Q I rx ry q
theorem Gr(b:Expr){op:CmpOp}(h:op≠ .In:=by decide)(h2:op≠ .NotIn:=by decide):Xv op b=false:=by
 have e1:(op==CmpOp.In)=false:=by cases op<;>first | rfl | exact acE rfl h
 have e2:(op==CmpOp.NotIn)=false:=by cases op<;>first | rfl | exact acE rfl h2
 cases b<;>simp[Xv,e1,e2]
theorem JL{op:CmpOp}{r:R2}(ho:OpR X (Xh op) r)(ha:PE X a ta)(hb:PE X b tb)(hm:Xv op b=false):PE X (.Compare a [op] [b] pos) (P7 r ta tb):=by
 intro f8 s σ H Q I h;exact wpAny_Compare1 (Ll ha hb I h λv u s2 x y H2 I2 rx ry q=>ho f8 s2 σ H2 x y v u Q I2 rx ry q) hm
def Le(t:TE):TT:=λσ H Q=>t σ H λx H'=>∃k,x= .bl k/\Q k H'
theorem JZ{op:CmpOp}{r:R2}(ho:OpR X (Xh op) r)(ha:PE X a ta)(hb:PE X b tb)(hm:Xv op b=false):PT X (.Compare a [op] [b] pos) (Le (P7 r ta tb)):=by
 intro f8 s σ H Q I h;refine wpAny_isTrue_Compare1 (cV (ha f8 s σ H _ I h) λv s1 ⟨x,H1,I1,r1,q1⟩=>cV (hb f8 s1 σ H1 _ I1 q1) λu s2 ⟨y,H2,I2,r2,q2⟩=>
  cV (ho f8 s2 σ H2 x y v u _ I2 r1 r2 q2) λc s3 ⟨z,H3,I3,r3,k,e,q3⟩=>?_) hm
 subst e;cases r3;exact XO ⟨H3,I3,q3⟩
def BK(r r':R2)(ta tb tc:TE):TE:=λσ H Q=>ta σ H λx H1=>tb σ H1 λy H2=>r x y H2 λz H3=>∃k,z= .bl k/\
 (if k=true then tc σ H3 λw' H4=>r' y w' H4 Q else Q (.bl false) H3)
theorem GX{op Br:CmpOp}{r r':R2}(ho:OpR X (Xh op) r)(mF:OpR X (Xh Br) r')(ha:PE X a ta)(hb:PE X b tb)(hc:PE X c tc)
 (hm:lastMarks [op,Br] [b,c]=false:=by with_unfolding_all rfl):PE X (.Compare a [op,Br] [b,c] pos) (BK r r' ta tb tc):=by
 intro f8 s σ H Q I h;refine Compare_chain (cV (ha f8 s σ H _ I h) λv s1 ⟨x,H1,I1,r1,q1⟩=>chain_link (cV (hb f8 s1 σ H1 _ I1 q1) λu s2 ⟨y,H2,I2,r2,q2⟩=>
  cV (ho f8 s2 σ H2 x y v u _ I2 r1 r2 q2) λd s3 ⟨z,H3,I3,r3,k,e,q3⟩=>?_)) hm
 subst e;cases r3;refine XO ?_;cases k with
 |false=>exact ite_ff ⟨.bl false,H3,I3,rfl,q3⟩
 |true=>exact ite_tt (chain_last (cV (hc f8 s3 σ H3 _ I3 q3) λw' s4 ⟨z',H4,I4,r4,q4⟩=>mF f8 s4 σ H4 y z' u w' Q I4 r2 r4 q4))
theorem G9{op Br:CmpOp}{r r':R2}(ho:OpR X (Xh op) r)(mF:OpR X (Xh Br) r')(ha:PE X a ta)(hb:PE X b tb)(hc:PE X c tc)
 (hm:lastMarks [op,Br] [b,c]=false:=by with_unfolding_all rfl):PT X (.Compare a [op,Br] [b,c] pos) (Le (BK r r' ta tb tc)):=by
 intro f8 s σ H Q I h;refine isTrue_chain (cV (ha f8 s σ H _ I h) λv s1 ⟨x,H1,I1,r1,q1⟩=>test_link (cV (hb f8 s1 σ H1 _ I1 q1) λu s2 ⟨y,H2,I2,r2,q2⟩=>
  cV (ho f8 s2 σ H2 x y v u _ I2 r1 r2 q2) λd s3 ⟨z,H3,I3,r3,k,e,q3⟩=>?_)) hm
 subst e;cases r3;refine XO ?_;cases k with
 |false=>
  obtain⟨k',e',q'⟩:=q3;cases e';exact ite_ff ⟨H3,I3,q'⟩
 |true=>
  refine ite_tt (test_last (cV (hc f8 s3 σ H3 _ I3 q3) λw' s4 ⟨z',H4,I4,r4,q4⟩=>cV (mF f8 s4 σ H4 y z' u w' _ I4 r2 r4 q4) λd' s5 ⟨z2,H5,I5,r5,k2,e2,q5⟩=>?_));subst e2;cases r5;exact XO ⟨H5,I5,q5⟩
def N4(K:Wn)(x:V)(H:Hp)(k:Bool):Prop:=
 match x with
 | .non=>k=false
 | .bl b=>k=b
 | .int i=>k=(i !=0)
 | .str y=>y.length<=WB/\k=((y.length:Int) !=0)
 | .byt y=>y.size<=WB/\k=((y.size:Int) !=0)
 | .ref p=>(∃xs,SqL K H p xs/\k=!xs.isEmpty)\/(∃xs,SqT K H p xs/\k=!xs.isEmpty)\/∃aI,H p=some (.dK aI)/\k=!aI.isEmpty
 |_=>False
theorem A5{κ:Type}{aI:List (κ×V)}{vs:List (κ×Value)}(r:KV aI vs):(!vs.isEmpty)=!aI.isEmpty:=by
 cases r<;>rfl
theorem rB{xs:List V}{aS:List Value}(r:Vals xs aS):(!aS.toArray.isEmpty)=!xs.isEmpty:=by
 cases r<;>simp
theorem oC:(WB:Nat)<2 ^ 63:=by rw[Yq];decide
theorem NG:QI X (λx H Q=>∃k,N4 X.K x H k/\Q k H):=by
 intro f8 s σ H x v Q I rx h;obtain⟨k,e,q⟩:=h;have hl:=oC;have hs:WB=16777216:=Yq;cases x with
 |non=>
  cases rx;have e':k=false:=e;subst e';exact truthy_none ⟨H,I,q⟩
 |bl b=>
  cases rx;have e':k=b:=e;subst e';exact XO ⟨H,I,q⟩
 |int i=>
  obtain⟨t,rfl⟩:=rx;have e':k=(i !=0):=e;subst e';exact PySem.P.truthy_int ⟨H,I,q⟩
 |str y=>
  obtain⟨t,rfl⟩:=rx;obtain⟨hy,e'⟩:y.length<=WB/\k=((y.length:Int) !=0):=e;subst e';exact PySem.P.truthy_str (by omega) ⟨H,I.tok _,q⟩
 |byt y=>
  obtain⟨t,rfl⟩:=rx;obtain⟨hy,e'⟩:y.size<=WB/\k=((y.size:Int) !=0):=e;subst e';exact PySem.W.truthy_bytes (by omega) ⟨H,I.tok _,q⟩
 |ref p=>
  cases rx;have e':(∃xs,SqL X.K H p xs/\k=!xs.isEmpty)\/(∃xs,SqT X.K H p xs/\k=!xs.isEmpty)\/∃aI,H p=some (.dK aI)/\k=!aI.isEmpty:=e;rcases e' with⟨xs,hx,e'⟩ | ⟨xs,hx,e'⟩ | ⟨aI,hx,e'⟩
  ·subst e';obtain⟨aS,r,pl,hz⟩:=I.list hx;have T0:=r.length;exact wpAny_truthy_list pl.isList (by simp only[Wo];omega) ⟨H,I.tok _,by rw[rB r];exact q⟩
  ·subst e';obtain⟨aS,r,pl,hz⟩:=I.tuple hx;have T0:=r.length;exact truthy_tuple pl (by simp only[Wo];omega) ⟨H,I.tok _,by rw[rB r];exact q⟩
  ·subst e';obtain⟨hz,hS,vs,r,m⟩:aI.length<=WB/\(p==XQ)=false/\∃vs,KV aI vs/\s.heap.DictOf (bp X.prog X.w) p vs:=I.hok p _ hx;have T0:aI.length=vs.length:=Yi r;exact wpAny_truthy_dict hS m (by omega) ⟨H,I.tok _,by rw[A5 r];exact q⟩
 |_=>exact(show False from e).elim
theorem Hb(ha:PE X a ta)(he:∀whole,isTrue a X.env whole=(do let v<-whole;standAt a.pos;holding [v] (truthy v))):
 PT X a (λσ H Q=>ta σ H λx H'=>∃k,N4 X.K x H' k/\Q k H'):=by
 intro f8 s σ H Q I h;exact isTrue_plain (cV (ha f8 s σ H _ I h) λv s1 ⟨x,H1,I1,r1,q1⟩=>NG f8 s1 σ H1 x v Q I1 r1 q1) (he _)
theorem Bs:OpR X (Zd .Add) (λx y H Q=>∃i j,x= .str i/\y= .str j/\i.length+j.length<=WB/\Q (.str (i++j)) H):=by
 intro f8 s σ H x y v u Q I rx ry h;obtain⟨i,j,rfl,rfl,hz,q⟩:=h;obtain⟨t,rfl⟩:=rx;obtain⟨t',rfl⟩:=ry;exact add_str (λt' tk=>⟨.str (i++j),H,I.tok _,⟨_,rfl⟩,q⟩) hz
theorem vals1{x:V}{us:List Value}(r:Vals [x] us):∃u,us=[u]/\RelV x u:=by
 cases r with
 |cons r1 r2=>cases r2;exact⟨_,rfl,r1⟩
theorem vals2{x y:V}{us:List Value}(r:Vals [x,y] us):∃u w',us=[u,w']/\RelV x u/\RelV y w':=by
 cases r with
 |cons r1 r2=>
  cases r2 with
  |cons r3 r4=>cases r4;exact⟨_,_,rfl,r1,r3⟩
theorem Fb:CallR X (.builtin "abs") (λxs H Q=>∃i,xs=[.int i]/\Q (.int (if i<0 then -i else i)) H):=by
 intro f8 s σ H xs us Q I r h;obtain⟨i,rfl,q⟩:=h;obtain⟨u,rfl,t,rfl⟩:=vals1 r;exact call_abs_int λu tk=>⟨.int (if i<0 then -i else i),H,I.tok _,⟨_,rfl⟩,q⟩
theorem Dx(hc:X.calm=true):CallR X (.builtin "max") (λxs H Q=>∃i j,xs=[.int i, .int j]/\Q (.int (if j>i then j else i)) H):=by
 intro f8 s σ H xs us Q I r h;obtain⟨i,j,rfl,q⟩:=h;obtain⟨u,w',rfl,⟨t,rfl⟩,⟨t',rfl⟩⟩:=vals2 r;refine max_two_ints (I.ok.hd hc) λh' tk k=>⟨_,H,I.kept k,?_,q⟩
 by_cases hj:j>i
 ·rw[acy hj,acy hj];exact⟨_,rfl⟩
 ·rw[acz hj,acz hj];exact⟨_,rfl⟩
theorem Dy(hc:X.calm=true):CallR X (.builtin "min") (λxs H Q=>∃i j,xs=[.int i, .int j]/\Q (.int (if j<i then j else i)) H):=by
 intro f8 s σ H xs us Q I r h;obtain⟨i,j,rfl,q⟩:=h;obtain⟨u,w',rfl,⟨t,rfl⟩,⟨t',rfl⟩⟩:=vals2 r;refine min_two_ints (I.ok.hd hc) λh' tk k=>⟨_,H,I.kept k,?_,q⟩
 by_cases hj:j<i
 ·rw[acy hj,acy hj];exact⟨_,rfl⟩
 ·rw[acz hj,acz hj];exact⟨_,rfl⟩
end
structure ObjM (h:Heap) (x dx C:Addr) (mA:Str->Option Value):Prop where
 obj:h.get? x=some (aaP C dx)
 ns:h.Ns1 dx mA
 ne:dx≠x
theorem Ee{h:Heap}{dx:Addr}{mA:Str->Option Value}(n:h.Ns1 dx mA):∃od,h.get? dx=some od/\∀name,aaW name od=some (mA name):=by
 obtain⟨o,es,ep,ho,hd,hk,_,hm⟩:=n;refine⟨o,ho,λname=>?_⟩;have e:=hm name;unfold nsFind findBy at e;rw[<-Array.find?_toList] at e;unfold aaW;rw[hd]
 dsimp only
 split
 ·rename_i y q;rw[q] at e;exact acH some e
 ·rename_i q;rw[q] at e;have a:es.toList.any (·.refKey)=false:=by
   rw[List.any_eq_false];intro y hy;obtain⟨z,t,IM⟩:=hk y (Array.mem_toList_iff.mp hy);simp[DictEntry.refKey,IM]
  have a':¬es.toList.any (·.refKey)=true:=by rw[a];exact WO
  rw[acz a'];exact acH some e
theorem ObjM.look{h:Heap}{x dx C:Addr}{mA:Str->Option Value}(I:ObjM h x dx C mA):∃od,PySem.W.InstAt h x (aaP C dx) C (some od)/\∀name,aaW name od=some (mA name):=
 let ⟨od,ho,hl⟩:=Ee I.ns
 ⟨od,⟨I.obj,rfl,rfl,ho⟩,hl⟩
theorem RelO.some_of{v:V}{o:Option Value}(r:RelO (some v) o):∃u,o=some u/\RelV v u:=by
 cases o with
 |none=>exact(show False from r).elim
 |some u=>exact⟨u,rfl,r⟩
section
variable{P:WQ}{w:World}{H:Hp}{h:Heap}{a C dx:Addr}{fs:List (Str×V)}
theorem IX(hok:HOk P w H h)(e:H a=some (.ins C dx fs)):∃mA,ObjM h a dx C mA/\(∀f,RelO (fs.lookup f) (mA f))/\PySem.Within mA (fs.map (·.1))/\fs.length<=1000/\H dx=some (.own a):=by
 obtain⟨d,z,ne,ob,mA,n,r,q⟩:=(show ObjOk P w H h a (.ins C dx fs) from hok a _ e)
 exact⟨mA,⟨ob,n,ne⟩,r,q,z,d⟩
end
structure Cls (K:Wn) (C:Addr):Prop where
 pg:ab6 K C Str.empty=true
 hd:PySem.W.hasDictIn K C=true
 po:PySem.W.plainOver K C=true
 sa:Xn K (.ref C) "__setattr__"=some (some (.builtin "object.__setattr__"))
theorem Cls.get{K:Wn}{C:Addr}(c:Cls K C)(f:Str):ab6 K C f=true:=c.pg
section
variable{X:Cx}{f8:List (Addr×Obj)}{σ:St}{H:Hp}{s:We}{A:WX}{E:Value->We->Prop}{Q:Value->We->Prop}{c:Value}{b:Bool}
inductive TyOf (K:Wn) (H:Hp):V->Value->Prop where
 |non:TyOf K H .non (.type "NoneType")
 |bl (x:Bool):TyOf K H (.bl x) (.type "bool")
 |int (i:Int):TyOf K H (.int i) (.type "int")
 |str (x:Str):TyOf K H (.str x) (.type "str")
 |flt (x:UInt64):TyOf K H (.flt x) (.type "float")
 |lst {a:Addr}{xs:List V}(e:H a=some (.lst xs)):TyOf K H (.ref a) (.type "list")
 |frz {a:Addr}{o:Obj}{xs:List V}(e:H a=some (.frz o (.lst xs))):TyOf K H (.ref a) (.type "list")
 |tup {a:Addr}{xs:List V}(e:H a=some (.tup xs)):TyOf K H (.ref a) (.type "tuple")
 |dK {a:Addr}{aI:List (Key×V)}(e:H a=some (.dK aI)):TyOf K H (.ref a) (.type "dict")
 |dT {a:Addr}{aI:List (List Key×V)}(e:H a=some (.dT aI)):TyOf K H (.ref a) (.type "dict")
 |ins {a C dx:Addr}{fs:List (Str×V)}(e:H a=some (.ins C dx fs)) (cl:Cls K C) (ha:Xn K (.ref C) "__class__"=some (some (.builtin "object.__class__")))
   (hn:PySem.W.specialIn K (.builtin "object.__class__") "__get__"=some (some (.builtin "getset_descriptor.__get__"))) (S9:PySem.W.takesIn K (.builtin "object.__class__")=some true)
   (hm:Yh K C (.type "object")=some true):TyOf K H (.ref a) (.ref C)
theorem D4{x:V}{u t:Value}(I:Inv X f8 σ H s)(rx:RelV x u)(ty:TyOf X.K H x t)(e:Ws X.K t c=some b)(h:∀tk,Q (.bool b) {s with toks:=tk}):
 wpAny (model X.prog X.w) A (call (.builtin "isinstance") [u,c]) Q E s:=by
 cases ty with
 |non=>cases (show u=Xy from rx);exact Xm PySem.W.kitx_none I.kIn XH e (λz=>nomatch z) h
 |bl y=>cases (show u=Yn y from rx);exact Xm PySem.W.kitx_bool I.kIn XH e (λz=>nomatch z) h
 |int i=>obtain⟨t,q⟩:=(show∃t,u=abJ i t from rx);cases q;exact Xm PySem.W.kitx_int I.kIn XH e (λz=>nomatch z) h
 |str y=>obtain⟨t,q⟩:=(show∃t,u=abI y t from rx);cases q;exact Xm PySem.W.kitx_str I.kIn XH e (λz=>nomatch z) h
 |flt y=>obtain⟨t,q⟩:=(show∃t,u=Value.float y t from rx);cases q;exact Xm PySem.W.kitx_float I.kIn XH e (λz=>nomatch z) h
 | @lst a xs ea=>
   cases (show u=WT a from rx);obtain⟨_,_,n,_,h1⟩:=(show ObjOk X.prog X.w H s.heap a (.lst xs) from I.hok a _ ea)
   exact Xm abW I.kIn ⟨_,h1,rfl⟩ e (λz=>nomatch z) h
 | @frz a ob xs ea=>
   cases (show u=WT a from rx);obtain⟨_,_,_,n,_,h1⟩:=(show ObjOk X.prog X.w H s.heap a (.frz ob (.lst xs)) from I.hok a _ ea)
   exact Xm abW I.kIn ⟨_,h1,rfl⟩ e (λz=>nomatch z) h
 | @tup a xs ea=>
   cases (show u=WT a from rx);obtain⟨_,_,_,p⟩:=(show ObjOk X.prog X.w H s.heap a (.tup xs) from I.hok a _ ea)
   obtain⟨o,h1,h2,_⟩:=p;exact Xm PySem.W.kitx_tuple I.kIn ⟨o,h1,h2⟩ e (λz=>nomatch z) h
 | @dK a aI ea=>
   cases (show u=WT a from rx);obtain⟨_,_,vs,_,p⟩:=(show ObjOk X.prog X.w H s.heap a (.dK aI) from I.hok a _ ea)
   obtain⟨o,es,ep,h1,h2,_⟩:=p;exact Xm abX I.kIn ⟨o,h1,h2.1⟩ e (λz=>nomatch z) h
 | @dT a aI ea=>
   cases (show u=WT a from rx);obtain⟨_,_,xs,_,o,es,ep,h1,h2,_⟩:=(show ObjOk X.prog X.w H s.heap a (.dT aI) from I.hok a _ ea)
   exact Xm abX I.kIn ⟨o,h1,h2.1⟩ e (λz=>nomatch z) h
 | @ins a C dx fs ea cl ha hn S9 hm=>
   cases (show u=WT a from rx);obtain⟨mA,O,_⟩:=IX I.hok ea;obtain⟨od,J,_⟩:=O.look;exact Xm (PySem.W.kitx_own (cl.get _) cl.hd ha hn S9 hm) I.kIn J e (λz=>nomatch z) h
end
structure Room (k:Nat) (A:WX):Prop where
 hd:A.handled=none
 dp:A.depth+3*k+5<aaJ
 un:A.units+16*k+200<cLine
theorem Room.mono{j k:Nat}{A:WX}(r:Room k A)(h:j<=k):Room j A:=⟨r.hd,by have:=r.dp;omega,by have:=r.un;omega⟩
theorem Room.deeper{k:Nat}{A:WX}(r:Room (k+1) A)(env:Env):Room k (A.deeper env):=
 ⟨r.hd,by have:=r.dp;show A.depth+1+3*k+5<_;omega,by have:=r.un;show A.units+3+16*k+200<_;omega⟩
theorem Room.depth{k:Nat}{A:WX}(r:Room k A):A.depth<aaJ:=by have:=r.dp;omega
theorem Room.units{k:Nat}{A:WX}(r:Room k A):A.units+64<cLine:=by have:=r.un;omega
def ND:TA:=λ_ H Q=>Q [] H
def Hx(ta:TE)(tr:TA):TA:=λσ H Q=>ta σ H λx H1=>tr σ H1 λxs H2=>Q (x::xs) H2
section
variable{X:Cx}{e:Expr}{es:List Expr}{te:TE}{t:TA}{pos:Pos}
theorem sC:PA X [] ND:=λ_ _ _ _ H Q I h=>ZG ⟨[],H,I, .nil,h⟩
theorem nv(ha:PE X e te)(hr:PA X es t)(hs:Wt (e::es) X.env=(false,eval e X.env)::Wt es X.env:=by rfl):PA X (e::es) (Hx te t):=by
 intro pos f8 s σ H Q I h;rw[hs];show wpAny _ _ (spliced ((false,eval e X.env)::X2 pos (Wt es X.env))) _ _ s;refine YV (cV (ha f8 s σ H _ I h) λu s1 ⟨x,H1,I1,r1,q1⟩=>?_);exact cV (hr pos f8 s1 σ H1 _ I1 q1) λus s2 ⟨xs,H2,I2,r2,q2⟩=>⟨x::xs,H2,I2, .cons r1 r2,q2⟩
def Si(t:TA):TE:=λσ H Q=>t σ H λxs H1=>xs.length<=WB/\∀p,H1 p=none->Q (.ref p) (upd H1 p (.tup xs))
def Se(t:TA):TE:=λσ H Q=>t σ H λxs H1=>xs.length<=WB/\∀p,H1 p=none->Q (.ref p) (upd H1 p (.lst xs))
theorem M8{x1}(h:PA X es t):PE X (.Tuple es x1 pos) (Si t):=by
 intro f8 s σ H Q I hq;refine wpAny_Tuple_spliced (cV (h pos f8 s σ H _ I hq) λus s1 ⟨xs,H1,I1,r,z,q⟩=>⟨by rw[<-r.length];exact z,?_⟩);have hf:H1 s1.heap.objs.size=none:=I1.hok.fresh (Wr _);refine⟨.ref s1.heap.objs.size,upd H1 s1.heap.objs.size (.tup xs),I1.laid (t':=s1.toks) (λb u e=>Wg _ e) (Wr _) ?_,rfl,q _ hf⟩;exact⟨z,us,r,⟨_,WA _ rfl,rfl,_,rfl⟩⟩
theorem BA(h:PA X es t):PE X (.List es pos) (Se t):=by
 intro f8 s σ H Q I hq;refine wpAny_List_spliced (cV (h pos f8 s σ H _ I hq) λus s1 ⟨xs,H1,I1,r,z,q⟩=>⟨by rw[<-r.length];exact z,?_⟩);have hf:H1 s1.heap.objs.size=none:=I1.hok.fresh (Wr _);refine⟨.ref s1.heap.objs.size,upd H1 s1.heap.objs.size (.lst xs),I1.laid (t':=s1.toks) (λb u e=>Wg _ e) (Wr _) ?_,rfl,q _ hf⟩;exact⟨z,us,0,r,WA _ rfl⟩
end
abbrev Sp:=List V->Hp->VK->XK->Prop
abbrev BU:=List Env->Hp->We->XK->Value->We->Prop
structure Env0 (P:WQ) (w:World) (K:Wn) (mg:Str->Option Value) (base:Heap) (A:WX) (outer:List Env) (s:We) (H:Hp):Prop where
 frames:A.frames=some outer
 mod:Mod K mg base
 bs:∀b o,base.get? b=some o->s.heap.get? b=some o/\H b=none
 bsz:base.objs.size<=s.heap.objs.size
 funs:s.heap.FunFrames base outer
 frf:∀b∈iC outer,H b=none
 hok:HOk P w H s.heap
 bare:aas s.gens
def CE(outer:List Env)(P:WQ)(w:World)(H:Hp)(s:We)(Q:VK)(u:Value)(s':We):Prop:=
 ∃v H',s'.os=s.os/\aas s'.gens/\Un (iC outer) [] H H' s.heap s'.heap/\HOk P w H' s'.heap/\RelV v u/\Q v H'
def CR(CX:BU)(outer:List Env)(P:WQ)(w:World)(H:Hp)(s:We)(Q:VK)(E:XK)(r:Result)(s':We):Prop:=
 match r with
 | .ok (.ret u)=>CE outer P w H s Q u s'
 | .ok _=>False
 | .error e=>CX outer H s E e s'
structure FnOk (P:WQ) (w:World) (K:Wn) (mg:Str->Option Value) (base:Heap) (CX:BU) (k:Nat) (f:Addr) (fd:Yk) (ps:List Str) (sp:Sp):Prop where
 len:∀vs H Q E,sp vs H Q E->vs.length=ps.length
 run:∀(A:WX) (outer:List Env) (s:We) (H:Hp) (args:Args) (us:List Value) (vs:List V) (Q:VK) (E:XK),Room k A->Env0 P w K mg base A outer s H->abP s fd args (ps.zip us)->Vals vs us->sp vs H Q E->
  ZD (model P w) A (.call (.ref f) args) (CR CX outer P w H s Q E) s
theorem FnOk.mono{P:WQ}{w:World}{K:Wn}{mg:Str->Option Value}{base:Heap}{CX:BU}{j k:Nat}{f:Addr}{fd:Yk}{ps:List Str}{sp:Sp}(F:FnOk P w K mg base CX j f fd ps sp)(h:j<=k):
 FnOk P w K mg base CX k f fd ps sp:=⟨F.len,λA outer s H args us vs Q E hr=>F.run A outer s H args us vs Q E (hr.mono h)⟩
section
variable{X:Cx}{f8:List (Addr×Obj)}{σ:St}{H:Hp}{s s':We}
theorem Inv.env0(I:Inv X f8 σ H s):Env0 X.prog X.w X.K X.mg X.base X.A X.stack s H:=
 ⟨I.ok.frames,I.ok.mod,I.bs,WM I.ok.bsz I.sz,I.stack,I.stkFree,I.hok,I.bare⟩
theorem Inv.after{Q:VK}{u:Value}(I:Inv X f8 σ H s)(h:CE X.stack X.prog X.w H s Q u s'):EP X f8 σ Q u s':=by
 obtain⟨v,H',os,bare,un,hok,r,q⟩:=h;obtain⟨hh,g,d,t,Vx⟩:=s';obtain rfl:Vx=s.os:=os;exact⟨v,H',I.call (h':=hh) (g':=g) (d':=d) (t':=t) (ch:=[]) un hok bare (λb z=>acE z (by simp)),r,q⟩
end
def P2(sp:Sp)(KC:List V)(E:XK)(t:TA):TE:=λσ H Q=>t σ H λvs H1=>sp (vs++KC) H1 Q E
def Binds(K:Wn)(fd:Yk)(ps:List Str)(ds:List Value):Prop:=
 ∀(s:We) (us:List Value),K.In s.heap->(us++ds).length=ps.length->abP s fd ⟨us,[]⟩ (ps.zip (us++ds))
theorem Binds.all{K:Wn}{fd:Yk}{ps:List Str}(h:∀us:List Value,us.length=ps.length->bindArgs fd ⟨us,[]⟩=pure (ps.zip us)):Binds K fd ps []:=λs us _ hl=>by
 rw[WU] at hl⊢;exact .of_eq (h us hl)
def Passes(CX:BU)(X:Cx)(E:XK):Prop:=∀(f8:List (Addr×Obj)) (σ:St) (H:Hp) (s:We) (e:Value) (s':We),Inv X f8 σ H s->CX X.stack H s E e s'->X.xe e s'
section
variable{X:Cx}{CX:BU}{k:Nat}{f:Addr}{fd:Yk}{ps:List Str}{sp:Sp}{KC:List V}{ds:List Value}{E:XK}{x:Str}{p pos:Pos}{e:Expr}{es:List Expr}{t:TA}
theorem Hk{f8:List (Addr×Obj)}{σ:St}{H:Hp}{s:We}{Q:VK}{us:List Value}{vs:List V}(F:FnOk X.prog X.w X.K X.mg X.base CX k f fd ps sp)(hr:Room k X.A)(hb:Binds X.K fd ps ds)(hd:Vals KC ds)(hx:Passes CX X E)
 (I:Inv X f8 σ H s)(r:Vals vs us)(h:sp (vs++KC) H Q E):wpAny (model X.prog X.w) X.A (call (.ref f) us) (EP X f8 σ Q) X.xe s:=by
 have r2:Vals (vs++KC) (us++ds):=r.append hd;have hl:(us++ds).length=ps.length:=by rw[<-r2.length];exact F.len _ _ _ _ h
 refine wpAny_call (abk (F.run X.A X.stack s H ⟨us,[]⟩ (us++ds) (vs++KC) Q E hr I.env0 (hb s us I.kIn hl) r2 h) λr s' hq=>?_);cases r with
 |error e=>exact hx f8 σ H s e s' I hq
 |ok fl=>
  cases fl with
  |ret u=>exact I.after hq
  |next=>exact XG hq
  |brk=>exact XG hq
  |cont=>exact XG hq
theorem JK(F:FnOk X.prog X.w X.K X.mg X.base CX k f fd ps sp)(hr:Room k X.A)(hg:Gl X x)(hm:X.mg x=some (.ref f))(hk:XF X.K (.ref f)=true)(hb:Binds X.K fd ps ds)(hd:Vals KC ds)(hx:Passes CX X E)
 (ha:PA X (e::es) t)(mC:(x==("__debug__":Str))=false:=by decide)(he:Wt (e::es) X.env=(false,eval e X.env)::Wt es X.env:=by rfl)(lb:(X2 pos (Wt es X.env)).any (·.1)=false:=by rfl):
 PE X (.Call (.Name x p) (e::es) [] pos) (P2 sp KC E t):=by
 intro f8 s σ H Q I h;refine ZM (mL I hg hm ?_ mC);refine Z_ (h₀:=X.base) I.ok.mod.kin hk (cV (ha pos f8 s σ H _ I h) λus s1 ⟨vs,H1,I1,r,q⟩=>⟨I1.kIn,?_⟩) he lb;exact Hk F hr hb hd hx I1 r q
end
section
variable{ks:List Str}
end
structure FnScope (N P:List Str) (sc:Scope):Prop where
 kind:sc.kind= .function
 co:sc.isCoroutine=false
 gen:sc.isGenerator=false
 nd:N.Nodup
 pre:N.take P.length=P
 par:∀x∈P,sc.names.lookup x=some .local\/sc.names.lookup x=some .cell
 nofree:∀y∈sc.names,y.2≠ .free
theorem uM{Z9:Str->Option ZO}{x:Str}:∀{binds:List (Str×Value)}{m:Str->Option Value},(∀v,(x,v)∉binds)->bindL Z9 binds m x=m x
 |[],_,_=>rfl
 |(n,v)::r,m,h=>by
  unfold bindL;rw[uM λw hw=>h w (Wf _ hw)];split
  ·have:x≠n:=by rintro rfl;exact h v Wh
   simp[this]
  ·rfl
theorem uK{Z9:Str->Option ZO}{x:Str}:∀{binds:List (Str×Value)}{m:Str->Option Value},(∀v,(x,v)∉binds)->bindC Z9 binds m x=m x
 |[],_,_=>rfl
 |(n,v)::r,m,h=>by
  unfold bindC;rw[uK λw hw=>h w (Wf _ hw)];split
  ·rfl
  ·have:x≠n:=by rintro rfl;exact h v Wh
   simp[this]
theorem uL{Z9:Str->Option ZO}{x:Str}{v:Value}:∀{P:List Str}{vs:List Value}{i:Nat}{m:Str->Option Value},P.Nodup->P[i]? =some x->vs[i]? =some v->Z9 x=some .local->
 bindL Z9 (P.zip vs) m x=some v
 |[],_,_,_,_,h,_,_=>by simp at h
 |_::_,[],_,_,_,_,h,_=>by simp at h
 |p::P,w::vs,0,m,nd,h1,h2,hk=>by
  simp at h1 h2;subst h1;subst h2;show bindL Z9 ((p,w)::P.zip vs) m p=_;unfold bindL;rw[uM λv hv=>(X0.mp nd).1 (Zq hv).1,acy hk];simp
 |p::P,w::vs,i+1,m,nd,h1,h2,hk=>by
  show bindL Z9 ((p,w)::P.zip vs) m x=_;unfold bindL;exact uL (i:=i) (X0.mp nd).2 (by simpa using h1) (by simpa using h2) hk
theorem uJ{Z9:Str->Option ZO}{x:Str}{v:Value}:∀{P:List Str}{vs:List Value}{i:Nat}{m:Str->Option Value},P.Nodup->P[i]? =some x->vs[i]? =some v->Z9 x≠some .local->
 bindC Z9 (P.zip vs) m x=some v
 |[],_,_,_,_,h,_,_=>by simp at h
 |_::_,[],_,_,_,_,h,_=>by simp at h
 |p::P,w::vs,0,m,nd,h1,h2,hk=>by
  simp at h1 h2;subst h1;subst h2;show bindC Z9 ((p,w)::P.zip vs) m p=_;unfold bindC;rw[uK λv hv=>(X0.mp nd).1 (Zq hv).1,acz hk];simp
 |p::P,w::vs,i+1,m,nd,h1,h2,hk=>by
  show bindC Z9 ((p,w)::P.zip vs) m x=_;unfold bindC;exact uJ (i:=i) (X0.mp nd).2 (by simpa using h1) (by simpa using h2) hk
def start(N:List Str)(vs:List V):St:=vs.map some++Wm (N.length - vs.length) none
def ba(CX:BU)(P:WQ)(w:World)(K:Wn)(mg:Str->Option Value)(base:Heap)(N:List Str)(qual:Str)(scope:Scope)(f:Addr)(cd:Value)(A:WX)(outer:List Env)(s:We)(H:Hp)(E:XK):Cx where
 prog:=P
 w:=w
 K:=K
 mg:=mg
 base:=base
 A:=A.deeper (XD qual scope s.heap.objs.size f cd)
 N:=N
 acJ:=s
 acI:=H
 env:=XD qual scope s.heap.objs.size f cd
 outer:=outer
 stack:=XD qual scope s.heap.objs.size f cd::outer
 ex:=[]
 calm:=true
 fn:=λ_=>true
 pn:=[]
 xe:=λe s'=>wpAny (model P w) (A.deeper (XD qual scope s.heap.objs.size f cd)) (leaving (XD qual scope s.heap.objs.size f cd) e) (λ_ R3=>CX outer H s E e R3) (λe' R3=>CX outer H s E e' R3) s'
theorem yD{sc:Scope}{n:Nat}{x:Str}(h:sc.names.lookup x=some .cell):∃c,(abH n sc.names []).lookup x=some c:=by
 have q:=ZJ sc.names n [] (.inl h);exact Xc.mp q
theorem u7{CX:BU}{P:WQ}{w:World}{K:Wn}{mg:Str->Option Value}{base:Heap}{N ps:List Str}{qual:Str}{scope:Scope}{f:Addr}{cd:Value}{A:WX}{outer:List Env}{s s1:We}{H:Hp}{E:XK}{us:List Value}{vs:List V}
 (S:FnScope N ps scope)(hd:A.handled=none)(e0:Env0 P w K mg base A outer s H)(hl:vs.length=ps.length)(r:Vals vs us)
 (x:InCallC s s.heap.objs.size (bindL (XD qual scope s.heap.objs.size f cd).kindOf (ps.zip us) λ_=>none) (abH (s.heap.objs.size+1) scope.names []) (bindC (XD qual scope s.heap.objs.size f cd).kindOf (ps.zip us) λ_=>none) s1):
 Inv (ba CX P w K mg base N qual scope f cd A outer s H E) [] (start N vs) H s1:=by
 have lb:ps.length<=N.length:=by have:=acH ab8 S.pre;rw[XS] at this;omega
 obtain⟨h1,tk,rfl,hk⟩:=x.done;have Pb:∀b:Addr,b∉(ba CX P w K mg base N qual scope f cd A outer s H E).ex:=λb z=>acE (show b∈([]:List Addr) from z) (by simp);refine⟨⟨e0.mod,S.kind,rfl,rfl,Wr _,λy z c h1 h2=>?_,λy hy=>?_,λy c _ h=>?_,λ_=>hd,abQ e0.frames, .inr ⟨rfl,rfl⟩,λb z=>acE z (Pb b),e0.bs,e0.bsz,λb _ _=>Pb b,λb z=>acE z (Pb b),e0.funs,e0.frf⟩,
  rfl,e0.bare,Un.kept hk,⟨_,x.toInCall.ns,λi y v h1 h2 h3=>?_⟩,λy c h=>⟨_,x.cell y c h⟩,e0.hok.fresh (Wr _),λy c h=>?_,λp hp=>acE (show p∈([]:List (Addr×Obj)) from hp) (by simp),e0.hok.kept hk,?_⟩
 ·exact name_of_addr x.apart (XY h1) (XY h2)
 ·have hy:scope.names.lookup y=some .cell\/scope.names.lookup y=some .free:=hy;rcases hy with hy | hy
  ·exact yD hy
  ·exact acE rfl (S.nofree _ (XY hy))
 ·exact XX (x.above y c (XY h))
 ·have hi:i<vs.length:=by
   unfold start at h2;by_cases hi:i<vs.length
   ·exact hi
   ·rw[W_ (by simpa using hi)] at h2;rw[XC] at h2;split at h2<;>cases h2
  have ha:vs[i]? =some v:=by
   unfold start at h2;rw[W5 (by simpa using hi),Wz] at h2;cases e:vs[i]? with
   |none=>rw[e] at h2;cases h2
   |some a=>rw[e] at h2;cases h2;rfl
  obtain⟨u,hu,rv⟩:=r.get ha;have hp:ps[i]? =some y:=by
   rw[<-S.pre,List.getElem?_take_of_lt (by omega)];exact h1
  have Tr:ps.Nodup:=by rw[<-S.pre];exact S.nd.sublist (List.take_sublist _ _)
  refine⟨u,rv,?_⟩;rcases S.par y (Xu hp) with k | k
  ·exact .inl ⟨k,uL Tr hp hu k⟩
  ·obtain⟨c,e⟩:=yD (n:=s.heap.objs.size+1) k;refine .inr ⟨.inl k,c,e,?_⟩;have q:=x.cell y c e;rw[uJ Tr hp hu (by show scope.names.lookup y≠_;rw[k];decide)] at q;exact q
 ·exact e0.hok.fresh (XX (x.above y c (XY h)))
 ·unfold start;show _=N.length;rw[Wj,Wc,Zg];omega
theorem KG{CX:BU}{P:WQ}{w:World}{K:Wn}{mg:Str->Option Value}{base:Heap}{k:Nat}{f:Addr}{name qual:Str}{params:Arguments}{body:List Stmt}{scope:Scope}{dV kV doc pm bT ct oc:Value}{an od:Option Addr}
 {EV:Array (Option Value)}{N ps:List Str}{sp:Sp}(lk:K.lookup f=some ⟨oc,od, .func (XA name qual params body scope dV kV doc pm an bT ct),EV⟩)(uZ:YD K bT qual=true)(S:FnScope N ps scope)
 (len:∀vs H Q E,sp vs H Q E->vs.length=ps.length)
 (iU:∀(A:WX) (outer:List Env) (s:We) (H:Hp) (vs:List V) (Q:VK) (E:XK),Room k (A.deeper (XD qual scope s.heap.objs.size f bT))->sp vs H Q E->
  ∃t,PSs (ba CX P w K mg base N qual scope f bT A outer s H E) body t/\t {nx:=λ_ H'=>Q .non H',rt:=Q} (start N vs) H):
 FnOk P w K mg base CX (k+1) f (XA name qual params body scope dV kV doc pm an bT ct) ps sp:=by
 refine⟨len,λA outer s H args us vs Q E hr e0 hb r yj=>?_⟩;have hl:=len _ _ _ _ yj;have KX:K.In s.heap:=e0.mod.kin.keeps λb o e=>(e0.bs b o e).1;have lim:s.heap.NoLimit:=e0.mod.nolimit.keeps λb o e=>(e0.bs b o e).1;have FQ:∀y∈ps.zip us,scope.names.lookup y.1=some .local\/(scope.names.lookup y.1=some .cell/\((abH (s.heap.objs.size+1) scope.names []).lookup y.1).isSome=true):=λ⟨n,v⟩ hy=>by
  rcases S.par n (Zq hy).1 with q | q
  ·exact .inl q
  ·exact .inr ⟨q,ZJ _ _ _ (.inl q)⟩
 refine codeAny_call_function hr.depth (KX _ _ lk) rfl S.co S.gen rfl (abT KX uZ) (hb _ _ _ _ ?_);refine abR S.kind FQ λenv he s1 x=>?_;subst he;refine⟨lim.keeps x.toInCall.keep,codeAny_func ?_⟩;obtain⟨t,ht,hq⟩:=iU A outer s H vs Q E (hr.deeper _) yj;have I:Inv (ba CX P w K mg base N qual scope f bT A outer s H E) [] (start N vs) H s1:=u7 S hr.hd e0 hl r x;refine Xp (ht [] s1 (start N vs) H _ I hq) (λfl s' hs=>?_) λe s' hs=>hs;have fin:∀{σ':St}{H':Hp}{v:V}{u:Value},Inv (ba CX P w K mg base N qual scope f bT A outer s H E) [] σ' H' s'->RelV v u->Q v H'->CE outer P w H s Q u s':=
  λ{σ' H' v u} J rv q=>⟨v,H',J.os,J.bare,J.base,J.hok,rv,q⟩
 cases fl with
 |ret u=>
  obtain⟨v,σ',H',J,rv,q⟩:=hs;exact fin J rv q
 |next=>
  obtain⟨σ',H',J,q⟩:=hs;exact fin (v:=V.non) (u:=Xy) J rfl q
 |brk=>
  obtain⟨_,_,_,q⟩:=hs;exact XG q
 |cont=>
  obtain⟨_,_,_,q⟩:=hs;exact XG q
section
variable{X:Cx}{x:Str}{p pos:Pos}{e:Expr}{es:List Expr}{t:TA}{id T:String}{r:List V->Hp->VK->Prop}
def R9(r:List V->Hp->VK->Prop)(t:TA):TE:=λσ H Q=>t σ H λvs H1=>r vs H1 Q
theorem GW(hc:CallR X (.builtin id) r)(hg:Gl X x)(hm:X.mg x=none)(hv:W8 x=some (.builtin id))(ha:PA X (e::es) t)(hn:x≠"__name__":=by decide)(mC:(x==("__debug__":Str))=false:=by decide)
 (he:Wt (e::es) X.env=(false,eval e X.env)::Wt es X.env:=by rfl)(lb:(X2 pos (Wt es X.env)).any (·.1)=false:=by rfl):PE X (.Call (.Name x p) (e::es) [] pos) (R9 r t):=by
 intro f8 s σ H Q I h;refine ZM (rH I hg hm hv ?_ hn mC);exact PyProof.Rows.callWith_builtin1 (cV (ha pos f8 s σ H _ I h) λus s1 ⟨vs,H1,I1,r1,q1⟩=>hc f8 s1 σ H1 vs us Q I1 r1 q1) he lb
theorem vw(hc:CallR X (.type T) r)(hg:Gl X x)(hm:X.mg x=none)(hv:W8 x=some (.type T))(ha:PA X (e::es) t)(hn:x≠"__name__":=by decide)(mC:(x==("__debug__":Str))=false:=by decide)
 (he:Wt (e::es) X.env=(false,eval e X.env)::Wt es X.env:=by rfl)(lb:(X2 pos (Wt es X.env)).any (·.1)=false:=by rfl):PE X (.Call (.Name x p) (e::es) [] pos) (R9 r t):=by
 intro f8 s σ H Q I h;refine ZM (rH I hg hm hv ?_ hn mC);exact Y9 (cV (ha pos f8 s σ H _ I h) λus s1 ⟨vs,H1,I1,r1,q1⟩=>hc f8 s1 σ H1 vs us Q I1 r1 q1) he lb
end
end L2
namespace HT
open PySem PyProof.Rows
def lexLt:List Int->List Int->Bool
 |[],[]=>false
 |[],_::_=>true
 |_::_,[]=>false
 |x::xs,y::ys=>if x=y then lexLt xs ys else decide (x<y)
theorem lexLt_cons(x y:Int)(xs ys:List Int):lexLt (x::xs) (y::ys)=if x=y then lexLt xs ys else decide (x<y):=rfl
theorem lexLt_nil_nil:lexLt [] []=false:=rfl
theorem lexLt_nil_cons(y:Int)(ys:List Int):lexLt [] (y::ys)=true:=rfl
theorem lexLt_cons_nil(x:Int)(xs:List Int):lexLt (x::xs) []=false:=rfl
theorem eqAt_int(A:WX)(s:We)(a:Int)(t:Tok)(c:Int)(u:Tok):∃e,acg A s (.int a t) (.int c u) e/\(e=true↔a=c):=
 ⟨(a==c),abw a t c u,by simp⟩
theorem rcLt_int(A:WX)(s:We)(a:Int)(t:Tok)(c:Int)(u:Tok)(prog:WQ)(w:World)(E:Value->We->Prop)(Q:Value->We->Prop)(h:Q (.bool (decide (a<c))) s):
 wpAny (model prog w) A (abG .Lt (.int a t) (.int c u)) Q E s:=
 (aaZ h:wpAny (model prog w) A (Xh .Lt (.int a t) (.int c u)) Q E s)
section
open PySem.SeqAt
open PySem.AutoSeq1 (wpAny_loadPart')
open PySem.MeetsSeq PySem.MeetsSeq2 PySem.MeetsSeq3
theorem tuple_lt_ints(l b:Addr)(items iE:Array Value)(n n2:Nat)(dd Au:Option Addr)(sl Lb:Array (Option Value))(ns ms:List Int)(hi:Yl items.toList ns)(hj:Yl iE.toList ms):
 Meets (Z8.«tuple.__lt__» ⟨[.ref l, .ref b],[]⟩)
  (λ_ R s=>s.heap.get? l=some {cls:= .type "tuple",dict:=dd,data:= .seq items n,slots:=sl}/\s.heap.get? b=some {cls:= .type "tuple",dict:=Au,data:= .seq iE n2,slots:=Lb}/\
   R (.ok (.ret (.bool (lexLt ns ms)))) s):=
 .of_wp λprog w A R s h=>by
  obtain⟨hp,g,d,tk,os⟩:=s;obtain⟨hl,hb,h⟩:=h;have f2:=AutoSeq1.sub_tuple_tuple;have z1:items.size=ns.length:=by rw[<-hi.length];simp
  have z2:iE.size=ms.length:=by rw[<-hj.length];simp
  wp_walk using wpAny_loadPart' hl,wpAny_loadPart' hb,abr _ (λrest b s'=>b.1=none/\s'=⟨hp,g,d,tk,os⟩/\∃(vs ws:List Value) (NT NR:List Int),rest=vs.zip ws/\
   Yl vs NT/\Yl ws NR/\NT.length+iE.size=NR.length+items.size/\R (.ok (.ret (.bool (lexLt NT NR)))) ⟨hp,g,d,tk,os⟩) _
  case turn=>
   rintro⟨y,x⟩ rest b s' ⟨Cf,rfl,vs,ws,NT,NR,hz,Rt,Qs,T0,hR⟩;cases Rt with
   |nil=>rw[List.zip_nil_left] at hz;cases hz
   |cons a t Ru=>
    cases Qs with
    |nil=>rw[List.zip_nil_right] at hz;cases hz
    |cons c u Rv=>
     rw[X9] at hz;injection hz with Vk OR
     injection Vk with hy hx
     subst hy hx;rw[lexLt_cons] at hR;simp only[Wl] at T0;obtain⟨e,he,OF⟩:=eqAt_int A.in1 ⟨hp,g,d,tk,os⟩ a t c u;refine Wb (he prog w _ _ ?_);cases e with
     |true=>
      rw[acy (OF.mp rfl)] at hR
      wp_walk
      exact⟨rfl,rfl,_,_,_,_,OR,Ru,Rv,by omega,hR⟩
     |false=>
      rw[acz (λq=>acE (OF.mpr q) WO)] at hR;have U4:=rcLt_int A.in1 ⟨hp,g,d,tk,os⟩ a t c u prog w
      wp_walk using U4
      exact⟨_,rfl,by simpa using hR⟩
  case fin=>
   rintro⟨b1,b2⟩ s' ⟨Cf,rfl,vs,ws,NT,NR,hz,Rt,Qs,T0,hR⟩;simp only at Cf;subst Cf;have hv:lexLt NT NR=decide (items.size<iE.size):=by
    cases Rt with
    |nil=>
     cases Qs with
     |nil=>
      simp only[Xb] at T0;rw[lexLt_nil_nil];exact(acC (by omega)).symm
     |cons c u hw=>
      simp only[Xb,Wl] at T0;rw[lexLt_nil_cons];exact(acB (by omega)).symm
    |cons a t hv=>
     cases Qs with
     |nil=>
      simp only[Xb,Wl] at T0;rw[lexLt_cons_nil];exact(acC (by omega)).symm
     |cons c u hw=>
      rw[X9] at hz;cases hz
   rw[hv] at hR
   wp_walk
   exact⟨_,rfl,by simpa[Builtin.Tuple.tupleCompareSizes] using hR⟩
  case h=>
   exact⟨rfl,rfl,items.toList,iE.toList,ns,ms,rfl,hi,hj,by omega,h⟩
end
section
variable{prog:WQ}{w:World}{A:WX}{E:Value->We->Prop}{s:We}
theorem lt_tupInts{l b:Addr}{items iE:Array Value}{ns ms:List Int}{Q:Value->We->Prop}(hl:IsTup s.heap l items)(hb:IsTup s.heap b iE)(hi:Yl items.toList ns)(hj:Yl iE.toList ms)
 (hu:A.units<cLine)(h:Q (.bool (lexLt ns ms)) s):wpAny (model prog w) A (Xh .Lt (.ref l) (.ref b)) Q E s:=by
 obtain⟨⟨cls,dd,data,sl⟩,ho,hc,n,hd⟩:=id hl;obtain⟨⟨N8,Au,data2,Lb⟩,HZ,FJ,n2,hd2⟩:=id hb;simp only at hc hd FJ hd2;subst hc hd FJ hd2;exact richCompare_meets_room (op:= .Lt) ⟨_,ho,rfl⟩ ⟨_,HZ,rfl⟩ PySem.F.slot_tuple_lt PySem.F.entry_tuple_lt (PySem.F.args_tuple_lt_2 _ _) (tuple_lt_ints l b items iE n n2 dd Au sl Lb ns ms hi hj)
  ⟨ho,HZ,show Yn (lexLt ns ms)≠Value.notImplemented/\Q (.bool (lexLt ns ms)) s from⟨(λx=>nomatch x),h⟩⟩ hu
theorem cat_tup{t b:Addr}{vs ws:List Value}{Q:Value->We->Prop}(ht:IsTup s.heap t vs.toArray)(hb:IsTup s.heap b ws.toArray)(hv:vs≠[])
 (h1:ws=[]->Q (.ref t) s)(h2:ws≠[]->Q (.ref s.heap.objs.size) {s with heap:=s.heap.push {cls:= .type "tuple",data:= .seq (vs++ws).toArray} })
 (hsz:vs.length+ws.length<=WB):wpAny (model prog w) A (Zd .Add (.ref t) (.ref b)) Q E s:=by
 obtain⟨⟨cls,dd,data,sl⟩,ho,hc,n,hd⟩:=id ht;obtain⟨⟨N8,Au,data2,Lb⟩,HZ,FJ,n2,hd2⟩:=id hb;simp only at hc hd FJ hd2;subst hc hd FJ hd2;have e:vs.toArray++ws.toArray=(vs++ws).toArray:=by simp
 by_cases hw:ws=[]
 ·exact concat_meets ⟨_,ho,rfl⟩ ⟨_,HZ,rfl⟩ abt acd ZK ZF (Zv _ _)
   (tuple_addW1 t b vs.toArray ws.toArray n n2 dd Au sl Lb (by simpa using hv) (by simp[hw])) ⟨ho,HZ,h1 hw⟩
 ·refine concat_meets ⟨_,ho,rfl⟩ ⟨_,HZ,rfl⟩ abt acd ZK ZF (Zv _ _)
   (tuple_addW2 t b vs.toArray ws.toArray n n2 dd Au sl Lb (by simpa using hv) (by simpa using hw) (by rw[Wo,Wo];exact hsz)) ⟨ho,HZ,?_⟩
  rw[e];exact h2 hw
def sIx(n d:Nat):Option Int->Nat
 |none=>d
 |some v=>if v<0 then(v+(n:Int)).toNat else min v.toNat n
theorem sIx_le(n d:Nat)(hd:d<=n)(o:Option Int):sIx n d o<=n:=by
 cases o with
 |none=>exact hd
 |some v=>
  show (if v<0 then(v+(n:Int)).toNat else min v.toNat n)<=n;by_cases hv:v<0
  ·rw[acy hv];omega
  ·rw[acz hv];exact Nat.min_le_right _ _
theorem clip_eq(v:Int)(n d:Nat):(if v<0 then max (v+(n:Int)) 0 else min v (n:Int))=((sIx n d (some v):Nat):Int):=by
 show (if v<0 then max (v+(n:Int)) 0 else min v (n:Int))=(((if v<0 then(v+(n:Int)).toNat else min v.toNat n):Nat):Int)
 by_cases hv:v<0
 ·simp only[acy hv];omega
 ·simp only[acz hv];omega
theorem adjust_gen(lo hi:Option Int)(n:Nat):Zi lo hi 1 (n:Int)=(((sIx n 0 lo:Nat):Int),((sIx n n hi:Nat):Int)):=by
 have h1:¬((1:Int)<0):=by omega
 unfold Zi;simp only[h1,if_false];refine aaw ?_ ?_
 ·cases lo with
  |none=>rfl
  |some v=>exact clip_eq v n 0
 ·cases hi with
  |none=>rfl
  |some v=>exact clip_eq v n n
theorem places_gen(i j:Nat):Yt (i:Int) (j:Int) 1=j - i:=by
 unfold Yt;have h1:(1:Int)>0:=by omega
 simp only[h1,if_true,Int.ediv_one];split<;>omega
theorem slicePart_{v:Value}{o:Option Int}{Q:Option Int->We->Prop}(p:abn v o)(h:Q o s):wpAny (model prog w) A (Builtin.Slice.slicePartIndex v) Q E s:=by
 cases p with
 |none=>exact slicePart_none h
 |int i t=>exact slicePart_int h
theorem sliceApplied_gen{sl:Addr}{vl vu:Value}{lo hi:Option Int}{n:Nat}{Q:Int×Int×Nat->We->Prop}(hs:s.heap.IsSliceOf sl vl vu .none)(pl:abn vl lo)(pu:abn vu hi)
 (h:Q (((sIx n 0 lo:Nat):Int),1,sIx n n hi - sIx n 0 lo) s):wpAny (model prog w) A (aag (.ref sl) (pure (n:Int))) Q E s:=by
 obtain⟨os,DZ,HX,KN⟩:=id hs;unfold aag Builtin.Slice.sliceFields;refine Wb (Wb (wpAny_field DZ KN (x:=vl) rfl (Wb (wpAny_field DZ KN (x:=vu) rfl (Wb (wpAny_field DZ KN (x:= .none) rfl (Wk ?_)))))));refine Wb (slicePart_none ?_);show wpAny _ _ (if ((1:Int)==0)=true then _ else _) _ _ s;rw[acz (by decide)];refine Wb (slicePart_ pl (Wb (slicePart_ pu (Wb (Wk ?_)))));show wpAny _ _ (match Zi lo hi 1 (n:Int) with | (lo,hi)=>pure (lo,(1:Int),Yt lo hi 1)) _ _ s;rw[adjust_gen lo hi n];show wpAny _ _ (pure (((sIx n 0 lo:Nat):Int),(1:Int),Yt ((sIx n 0 lo:Nat):Int) ((sIx n n hi:Nat):Int) 1)) _ _ s;rw[places_gen];exact Wk h
theorem pick_gen(xs:Array Value)(i k:Nat):((WD k).filterMap λ(m:Nat)=>xs[((i:Int)+(m:Int)*1).toNat]?).toArray=((xs.toList.drop i).take k).toArray:=by
 have e:(λ(m:Nat)=>xs[((i:Int)+(m:Int)*1).toNat]?)=λm=>xs[i+m]? :=by
  funext m;have:((i:Int)+(m:Int)*1).toNat=i+m:=by omega
  rw[this]
 rw[e];have:=pick_run xs i k;rw[List.filterMap_map] at this;have e2:((λx=>xs[x]?)∘λx=>i+x)=λm=>xs[i+m]? :=rfl;rw[e2] at this;rw[this]
theorem getItem_tuple_cut{t sl:Addr}{items:Array Value}{vl vu:Value}{lo hi:Option Int}{Q:Value->We->Prop}(ht:IsTup s.heap t items)(hs:s.heap.IsSliceOf sl vl vu .none)(pl:abn vl lo)(pu:abn vu hi)
 (hw:¬(sIx items.size 0 lo=0/\sIx items.size items.size hi=items.size))
 (h:Q (.ref s.heap.objs.size) {s with heap:=s.heap.push {cls:= .type "tuple",data:= .seq ((items.toList.drop (sIx items.size 0 lo)).take (sIx items.size items.size hi - sIx items.size 0 lo)).toArray} })
 (hsz:items.size<=WB):wpAny (model prog w) A (aal (.ref t) (.ref sl)) Q E s:=by
 have Cm:sizeOk (.seq ((items.toList.drop (sIx items.size 0 lo)).take (sIx items.size items.size hi - sIx items.size 0 lo)).toArray):=by
  show ((items.toList.drop (sIx items.size 0 lo)).take (sIx items.size items.size hi - sIx items.size 0 lo)).toArray.size<=WB;rw[Wo,XS,Yo,WL];omega
 have hj:sIx items.size items.size hi<=items.size:=sIx_le _ _ (Wr _) hi;obtain⟨os,DZ,HX,KN⟩:=id hs;have QV:s.TypeIs (.ref sl) "slice":=⟨os,DZ,HX⟩
 unfold aal
 try with_reducible refine XR ?_
 first | refine Wb (Wk ?_) | skip
 refine Wb (wpAny_sequenceKey ht.typeIs (by decide) ?_);refine Wb (Zb (name:=W4 "__getitem__") ht.typeIs X5
  (Yd X5 ht.typeIs entry_tuple_getitem ?_ (args_tuple_getitem _ _)))
 show wpAny _ _ (aaf (.ref t)>>=_) _ _ s;refine Wb (tupleItemsOf_ ht ?_);refine Wb (ZL QV ?_);rw[acy (by decide)];refine Wb (sliceApplied_gen hs pl pu ?_);have DW:¬((((sIx items.size 0 lo:Nat):Int)==0&&(1:Int)==1&&(sIx items.size items.size hi - sIx items.size 0 lo)==items.size)=true):=by
  intro q;rw[Wv,Wv] at q;have q1:((sIx items.size 0 lo:Nat):Int)=0:=aam q.1.1;have q2:sIx items.size items.size hi - sIx items.size 0 lo=items.size:=aam q.2;exact hw ⟨by omega,by omega⟩
 show wpAny _ _ (if (((sIx items.size 0 lo:Nat):Int)==0&&(1:Int)==1&&(sIx items.size items.size hi - sIx items.size 0 lo)==items.size)=true then _ else _) _ _ s;rw[acz DW,pick_gen]
 first
  |exact Wb (m:=Yx _) (Xz (Wk ⟨_,rfl,Wk h⟩) Cm)
  |exact Wb (m:=Yx _) (Xz (Wb (Wk (Wk ⟨_,rfl,Wk h⟩))) Cm)
  |exact Wb (Wb (m:=Yx _) (Xz (Wk (Wk ⟨_,rfl,Wk h⟩)) Cm))
  |exact Wb (Wb (m:=Yx _) (Xz (Wk ⟨_,rfl,Wk h⟩) Cm))
end
end HT
namespace L2
open PySem PySem.Spec PyProof.Rows
abbrev TO:=St->Hp->(Option Int->Hp->Prop)->Prop
def PO(X:Cx)(e:Option Expr)(t:TO):Prop:=
 ∀(f8:List (Addr×Obj)) (s:We) (σ:St) (H:Hp) (Q:Option Int->Hp->Prop),Inv X f8 σ H s->t σ H Q->
  wpAny (model X.prog X.w) X.A (evalPart e X.env) (λu s'=>∃o H',Inv X f8 σ H' s'/\abn u o/\Q o H') X.xe s
def Ko:TO:=λ_ H Q=>Q none H
def P8(t:TE):TO:=λσ H Q=>t σ H λx H1=>∃i,x= .int i/\Q (some i) H1
theorem intsAre_of{ns:List Int}:∀{us:List Value},Vals (ns.map V.int) us->Yl us ns:=by
 induction ns with
 |nil=>intro us r;rw[XE] at r;cases r;exact .nil
 |cons n ns ih=>
  intro us r;rw[Wq] at r;cases r with
  |cons r1 r2=>
   obtain⟨t,e⟩:=r1;subst e;exact .cons n t (ih r2)
section
variable{X:Cx}{e:Expr}{te:TE}{lo hi:Option Expr}{tl th:TO}{pos p2:Pos}
theorem JO:PO X none Ko:=by
 intro f8 s σ H Q I h;rw[evalPart_none];exact Wk ⟨none,H,I, .none,h⟩
theorem JP(h:PE X e te):PO X (some e) (P8 te):=by
 intro f8 s σ H Q I hw;rw[evalPart_some];refine cV (h f8 s σ H _ I hw) λu s1 ⟨x,H1,I1,r1,q1⟩=>?_;obtain⟨i,rfl,q⟩:=q1;obtain⟨t,rfl⟩:=r1;exact⟨some i,H1,I1, .int i t,q⟩
def SlR(X:Cx)(r:V->Option Int->Option Int->Hp->VK->Prop):Prop:=
 ∀(f8:List (Addr×Obj)) (s:We) (σ:St) (H:Hp) (x:V) (v vl vu:Value) (lo hi:Option Int) (sl:Addr) (Q:VK),Inv X f8 σ H s->RelV x v->s.heap.IsSliceOf sl vl vu .none->abn vl lo->abn vu hi->r x lo hi H Q->
  ∃T id,aat (.type T) "__getitem__"=pure (some (.builtin id))/\s.TypeIs v T/\wpAny (model X.prog X.w) X.A (aal v (.ref sl)) (EP X f8 σ Q) X.xe s
theorem SlR.or{r r':V->Option Int->Option Int->Hp->VK->Prop}(h:SlR X r)(h':SlR X r'):SlR X (λx lo hi H Q=>r x lo hi H Q\/r' x lo hi H Q):=by
 intro f8 s σ H x v vl vu lo hi sl Q I rx hs pl pu q;rcases q with q | q
 ·exact h f8 s σ H x v vl vu lo hi sl Q I rx hs pl pu q
 ·exact h' f8 s σ H x v vl vu lo hi sl Q I rx hs pl pu q
def VL(r:V->Option Int->Option Int->Hp->VK->Prop)(te:TE)(tl th:TO):TE:=λσ H Q=>te σ H λx H1=>tl σ H1 λl H2=>th σ H2 λu H3=>r x l u H3 Q
theorem G2{r:V->Option Int->Option Int->Hp->VK->Prop}(hr:SlR X r)(he:PE X e te)(hl:PO X lo tl)(hu:PO X hi th):PE X (.Subscript e (.Slice lo hi none p2) pos) (VL r te tl th):=by
 intro f8 s σ H Q I h;refine Subscript_ (cV (he f8 s σ H _ I h) λv s1 ⟨x,H1,I1,r1,q1⟩=>?_);refine wpAny_Slice (cV (hl f8 s1 σ H1 _ I1 q1) λvl s2 ⟨l,H2,I2,pl,q2⟩=>cV (hu f8 s2 σ H2 _ I2 q2) λvu s3 ⟨u,H3,I3,pu,q3⟩=>?_);rw[evalPart_none];refine Wk ?_;have I4:Inv X f8 σ H3 {s3 with heap:=s3.heap.push {cls:= .type "slice",data:= .fields #[vl,vu, .none]} }:=I3.kept (t':=s3.toks) λb ob q=>Wg _ q;obtain⟨T,id,hT,ht,hg⟩:=hr f8 {s3 with heap:=s3.heap.push {cls:= .type "slice",data:= .fields #[vl,vu, .none]} } σ H3 x v vl vu l u s3.heap.objs.size Q I4 r1 (Heap.IsSliceOf.new ..) pl pu q3;show wpAny (model X.prog X.w) X.A (acb e (.Slice lo hi none p2) v (.ref s3.heap.objs.size)) (EP X f8 σ Q) X.xe {s3 with heap:=s3.heap.push {cls:= .type "slice",data:= .fields #[vl,vu, .none]} };exact tail_any (ops:=[.ref s3.heap.objs.size,v]) ht hT hg (by with_unfolding_all rfl)
def yH(xs:List V)(lo hi:Option Int):List V:=(xs.drop (HT.sIx xs.length 0 lo)).take (HT.sIx xs.length xs.length hi - HT.sIx xs.length 0 lo)
theorem pe(xs:List V)(lo hi:Option Int):(yH xs lo hi).length<=xs.length:=by
 unfold yH;rw[XS,Yo];omega
def R0(K:Wn):V->Option Int->Option Int->Hp->VK->Prop:=λx lo hi H Q=>∃a xs,x= .ref a/\SqT K H a xs/\
 ¬(HT.sIx xs.length 0 lo=0/\HT.sIx xs.length xs.length hi=xs.length)/\∀p,H p=none->Q (.ref p) (upd H p (.tup (yH xs lo hi)))
theorem Ny:SlR X (R0 X.K):=by
 intro f8 s σ H x v vl vu lo hi sl Q I rx hs pl pu h;obtain⟨a,xs,rfl,hx,hw,q⟩:=h;cases rx;obtain⟨aS,r,ht,hz⟩:=I.tuple hx;have T0:aS.toArray.size=xs.length:=by rw[Wo];exact r.length.symm
 refine⟨"tuple",_,PyProof.Rows.slot_tuple_getitem.lookup,ht.typeIs,?_⟩;refine HT.getItem_tuple_cut ht hs pl pu (by rw[T0];exact hw) ?_ (by rw[T0];exact hz);rw[T0];refine⟨.ref s.heap.objs.size,_,I.laid (t':=s.toks) (o:= .tup (yH xs lo hi)) (λb ob q=>Wg _ q) (Wr _) ?_,rfl,q _ (I.hok.fresh (Wr _))⟩;exact⟨WM (pe xs lo hi) hz,_,(r.drop (HT.sIx xs.length 0 lo)).take (HT.sIx xs.length xs.length hi - HT.sIx xs.length 0 lo),IsTup.new _ _⟩
def PK(K:Wn):R2:=λx y H Q=>∃a b ns ms,x= .ref a/\y= .ref b/\SqT K H a (ns.map V.int)/\SqT K H b (ms.map V.int)/\Q (.bl (HT.lexLt ns ms)) H
theorem MJ(hu:X.A.units<cLine):OpR X (Xh .Lt) (PK X.K):=by
 intro f8 s σ H x y v u Q I rx ry h;obtain⟨a,b,ns,ms,rfl,rfl,ha,hb,q⟩:=h;cases rx;cases ry;obtain⟨aS,r1,p1,_⟩:=I.tuple ha;obtain⟨fO,r2,p2,_⟩:=I.tuple hb;have i1:Yl aS.toArray.toList ns:=intsAre_of r1;have i2:Yl fO.toArray.toList ms:=intsAre_of r2;exact HT.lt_tupInts p1 p2 i1 i2 hu ⟨.bl (HT.lexLt ns ms),H,I,rfl,q⟩
def Pw(K:Wn):R2:=λx y H Q=>∃a b xs ys,x= .ref a/\y= .ref b/\SqT K H a xs/\SqT K H b ys/\xs≠[]/\xs.length+ys.length<=WB/\
 (ys=[]->Q (.ref a) H)/\(ys≠[]->∀p,H p=none->Q (.ref p) (upd H p (.tup (xs++ys))))
theorem Vals.nil_iff{xs:List V}{us:List Value}(r:Vals xs us):us=[]↔xs=[]:=by
 cases r with
 |nil=>simp
 |cons _ _=>simp
theorem Ju:OpR X (Zd .Add) (Pw X.K):=by
 intro f8 s σ H x y v u Q I rx ry h;obtain⟨a,b,xs,ys,rfl,rfl,ha,hb,hx,hz,q1,q2⟩:=h;cases rx;cases ry;obtain⟨aS,r1,p1,_⟩:=I.tuple ha;obtain⟨fO,r2,p2,_⟩:=I.tuple hb;refine HT.cat_tup p1 p2 (λz=>hx (r1.nil_iff.mp z)) (λz=>⟨.ref a,H,I,rfl,q1 (r2.nil_iff.mp z)⟩) (λz=>?_) (by rw[<-r1.length,<-r2.length];exact hz);refine⟨.ref s.heap.objs.size,_,I.laid (t':=s.toks) (o:= .tup (xs++ys)) (λb ob q=>Wg _ q) (Wr _) ?_,rfl,q2 (λw=>z (r2.nil_iff.mpr w)) _ (I.hok.fresh (Wr _))⟩;exact⟨by rw[Wj];exact hz,_,r1.append r2,IsTup.new _ _⟩
end
def Ct(n:Nat)(i:Int):Option Nat:=if 0<=i then(if i<n then some i.toNat else none) else if -(n:Int)<=i then some (i+n).toNat else none
def atI{α:Type}(xs:List α)(i:Int):Option α:=(Ct xs.length i).bind λj=>xs[j]?
theorem Jb{n:Nat}{i:Int}{j:Nat}(h:Ct n i=some j):seqIndex? i n=some j/\j<n/\ -(n:Int)<=i/\i<n:=by
 unfold Ct at h;by_cases h0:0<=i
 ·rw[acy h0] at h;by_cases h1:i<n
  ·rw[acy h1] at h;have e:i.toNat=j:=WY h;exact⟨by rw[seqIndex_of h0 h1,e],by omega,by omega,h1⟩
  ·rw[acz h1] at h;cases h
 ·rw[acz h0] at h;by_cases h1: -(n:Int)<=i
  ·rw[acy h1] at h;have e:(i+n).toNat=j:=WY h;exact⟨by rw[seqIndex_neg (by omega) h1,e],by omega,h1,by omega⟩
  ·rw[acz h1] at h;cases h
theorem vS{α:Type}{xs:List α}{i:Int}{v:α}(h:atI xs i=some v):∃j,seqIndex? i xs.length=some j/\xs[j]? =some v/\j<xs.length/\ -(xs.length:Int)<=i/\i<xs.length:=by
 unfold atI at h;cases e:Ct xs.length i with
 |none=>rw[e] at h;cases h
 |some j=>
  rw[e] at h;obtain⟨h1,h2,h3,h4⟩:=Jb e;exact⟨j,h1,h,h2,h3,h4⟩
theorem yr{α:Type}(xs:List α)(v:α):atI (xs++[v]) (-1)=some v:=by
 have hl:(xs++[v]).length=xs.length+1:=by simp
 have e:Ct (xs++[v]).length (-1)=some xs.length:=by
  unfold Ct;rw[hl,acz (by decide),acy (by omega)];congr 1;omega
 unfold atI;rw[e];show (xs++[v])[xs.length]? =some v;simp
def jc(b:Expr):Prop:=∀o i,subscripted b false o i=operate [o,i] (aal o i)
def N1(X:Cx)(r:R2):Prop:=
 ∀(value slice:Expr) (f8:List (Addr×Obj)) (s:We) (σ:St) (H:Hp) (x y:V) (v u:Value) (Q:VK),Inv X f8 σ H s->RelV x v->RelV y u->r x y H Q->
  subscripted slice false v u=operate [v,u] (aal v u)->wpAny (model X.prog X.w) X.A (acb value slice v u) (EP X f8 σ Q) X.xe s
def N2(X:Cx)(id:String)(r:V->List V->Hp->VK->Prop):Prop:=
 ∀(f8:List (Addr×Obj)) (s:We) (σ:St) (H:Hp) (x:V) (xs:List V) (v:Value) (us:List Value) (Q:VK),Inv X f8 σ H s->RelV x v->Vals xs us->r x xs H Q->
  wpAny (model X.prog X.w) X.A (call (.builtin id) (v::us)) (EP X f8 σ Q) X.xe s
section
variable{X:Cx}{a b:Expr}{ta tb:TE}{pos:Pos}
theorem K9{r:R2}(hr:N1 X r)(ha:PE X a ta)(hb:PE X b tb)(hs:jc b):PE X (.Subscript a b pos) (P7 r ta tb):=by
 intro f8 s σ H Q I h;exact Subscript_ (Ll ha hb I h λv u s2 x y H2 I2 rx ry q=>hr a b f8 s2 σ H2 x y v u Q I2 rx ry q (hs _ _))
def Np(K:Wn):R2:=λx y H Q=>∃p xs i v,x= .ref p/\y= .int i/\SqL K H p xs/\atI xs i=some v/\Q v H
def PH(K:Wn):R2:=λx y H Q=>∃p xs i v,x= .ref p/\y= .int i/\SqT K H p xs/\atI xs i=some v/\Q v H
def PF:R2:=λx y H Q=>∃z i c,x= .str z/\y= .int i/\z.length<=WB/\atI z.cps.toList i=some c/\Q (.str ⟨#[c]⟩) H
theorem wF:N1 X (Np X.K):=by
 intro value slice f8 s σ H x y v u Q I rx ry h hs;obtain⟨p,xs,i,z,rfl,rfl,hq,he,q⟩:=h;cases rx;obtain⟨t,rfl⟩:=ry;obtain⟨aS,r,pl,hz⟩:=I.list hq;obtain⟨j,h1,h2,h3,h4,h5⟩:=vS he;obtain⟨w,ew,Aw⟩:=r.get h2;have hl:=r.length;have hn:=oC;have fin:EP X f8 σ Q w s:=⟨z,H,I,Aw,q⟩
 by_cases h0:0<=i
 ·have hj:i.toNat=j:=by
   rw[seqIndex_of h0 h5] at h1;exact WY h1
  exact item_listR pl.isList h0 (by omega) (by rw[hj];simpa using ew) fin hs
 ·have hj:(i+(aS.toArray.size:Int)).toNat=j:=by
   rw[seqIndex_neg (by omega) h4] at h1;rw[Wo,<-hl];exact WY h1
  exact acp (x:=w) pl.isList.typeIs slot_list_getitem.lookup
   (wpAny_getItem_list_neg (Q:=λr s'=>r=w/\EP X f8 σ Q r s') pl.isList (by omega) (by rw[Wo]<;>omega) (by omega) (by rw[hj];simpa using ew) ⟨rfl,fin⟩) hs
theorem Ml:N1 X (PH X.K):=by
 intro value slice f8 s σ H x y v u Q I rx ry h hs;obtain⟨p,xs,i,z,rfl,rfl,hq,he,q⟩:=h;cases rx;obtain⟨t,rfl⟩:=ry;obtain⟨aS,r,pl,hz⟩:=I.tuple hq;obtain⟨j,h1,h2,h3,h4,h5⟩:=vS he;obtain⟨w,ew,Aw⟩:=r.get h2;have hl:=r.length;have hn:=oC;have fin:EP X f8 σ Q w s:=⟨z,H,I,Aw,q⟩
 exact acp (x:=w) pl.typeIs slot_tuple_getitem.lookup
  (getItem_tuple (j:=j) (Q:=λr s'=>r=w/\EP X f8 σ Q r s') pl (by omega) (by omega) (by rw[Wo,<-hl];exact h1) (by simpa using ew) ⟨rfl,fin⟩) hs
theorem Mk:N1 X PF:=by
 intro value slice f8 s σ H x y v u Q I rx ry h hs;obtain⟨z,i,c,rfl,rfl,hz,he,q⟩:=h;obtain⟨t,rfl⟩:=rx;obtain⟨t',rfl⟩:=ry;obtain⟨j,h1,h2,h3,h4,h5⟩:=vS he;have hl:z.cps.toList.length=z.length:=by simp[Str.length]
 rw[hl] at h1 h4 h5;have hn:=oC;exact tail_any (aau s z t) slot_str_getitem.lookup (getItem_str (c:=c) (by
  have e1:decide (i< -(2 ^ 63:Int))=false:=acC (by omega);have e2:decide (i>=2 ^ 63)=false:=acC (by omega);rw[e1,e2,Bool.or_false]) (by rw[h1];simpa using h2) ⟨.str ⟨#[c]⟩,H,I.tok _,⟨_,rfl⟩,q⟩) hs
theorem xM(lo hi:Option Int)(n:Nat):(ZC lo hi none n).1=((HT.sIx n 0 lo:Nat):Int)/\(ZC lo hi none n).2.1=((HT.sIx n n hi:Nat):Int)/\(ZC lo hi none n).2.2=1:=by
 refine⟨?_,?_,rfl⟩
 ·cases lo with
  |none=>simp[ZC,HT.sIx]
  |some i=>
   simp only[ZC,HT.sIx,acj,show (1:Int)>0 by decide,if_true];by_cases h:i<0
   ·simp only[h,if_true]<;>omega
   ·simp only[h,if_false]<;>omega
 ·cases hi with
  |none=>simp[ZC,HT.sIx]
  |some i=>
   simp only[ZC,HT.sIx,acj,show (1:Int)>0 by decide,if_true];by_cases h:i<0
   ·simp only[h,if_true]<;>omega
   ·simp only[h,if_false]<;>omega
theorem ug(aS:List Value)(lo hi:Option Int):slicePick aS.toArray lo hi none=((aS.drop (HT.sIx aS.length 0 lo)).take (HT.sIx aS.length aS.length hi - HT.sIx aS.length 0 lo)).toArray:=by
 obtain⟨h1,h2,h3⟩:=xM lo hi aS.toArray.size;unfold slicePick;rw[h1,h2,h3];simp only[sliceRange_one,pick_run,Wo]<;>rfl
def RZ(K:Wn):V->Option Int->Option Int->Hp->VK->Prop:=λx lo hi H Q=>∃a xs,x= .ref a/\SqL K H a xs/\∀p,H p=none->Q (.ref p) (upd H p (.lst (yH xs lo hi)))
theorem Kg:SlR X (RZ X.K):=by
 intro f8 s σ H x v vl vu lo hi sl Q I rx hs pl pu h;obtain⟨a,xs,rfl,hx,q⟩:=h;cases rx;obtain⟨aS,r,ht,hz⟩:=I.list hx;have T0:=r.length;refine⟨"list",_,slot_list_getitem.lookup,ht.isList.typeIs,?_⟩;refine wpAny_getItem_list_slice ht.isList hs pl pu .none (by simp) ?_ (by rw[Wo]<;>omega);rw[ug,<-T0];refine⟨.ref s.heap.objs.size,_,I.laid (t':=s.toks) (o:= .lst (yH xs lo hi)) (λb ob q=>Wg _ q) (Wr _) ?_,rfl,q _ (I.hok.fresh (Wr _))⟩;exact⟨WM (pe xs lo hi) hz,_,0,(r.drop (HT.sIx xs.length 0 lo)).take (HT.sIx xs.length xs.length hi - HT.sIx xs.length 0 lo),WA _ rfl⟩
def pk:V->Bool
 | .non=>true
 | .bl _=>true
 | .int _=>true
 | .str _=>true
 |_=>false
def HQ:V->V->Bool
 | .non, .non=>true
 | .bl a, .bl b=>a==b
 | .bl a, .int b=>(if a then 1 else 0)==b
 | .int a, .bl b=>a==(if b then 1 else 0)
 | .int a, .int b=>a==b
 | .str a, .str b=>a==b
 |_,_=>false
theorem Lz{A:WX}{s:We}{y x:V}{u v:Value}(ry:RelV y u)(rx:RelV x v)(fy:pk y=true)(fx:pk x=true):acg A s u v (HQ y x):=by
 cases y with
 |non=>
  cases ry;cases x with
  |non=>cases rx;exact SeqAt.EqAt.same _
  |bl b=>cases rx;exact SeqAt.EqAt.none_bool b
  |int b=>obtain⟨t,rfl⟩:=rx;exact SeqAt.EqAt.none_int b t
  |str b=>obtain⟨t,rfl⟩:=rx;exact SeqAt.EqAt.none_str b t
  |_=>exact acE (show false=true from fx) WO
 |bl a=>
  cases ry;cases x with
  |non=>cases rx;exact SeqAt.EqAt.bool_none a
  |bl b=>cases rx;exact SeqAt.EqAt.bool_bool a b
  |int b=>obtain⟨t,rfl⟩:=rx;exact SeqAt.EqAt.bool_int a b t
  |str b=>obtain⟨t,rfl⟩:=rx;exact SeqAt.EqAt.bool_str a b t
  |_=>exact acE (show false=true from fx) WO
 |int a=>
  obtain⟨t',rfl⟩:=ry;cases x with
  |non=>cases rx;exact SeqAt.EqAt.int_none a t'
  |bl b=>cases rx;exact SeqAt.EqAt.int_bool a t' b
  |int b=>obtain⟨t,rfl⟩:=rx;exact abw a t' b t
  |str b=>obtain⟨t,rfl⟩:=rx;exact abv a t' b t
  |_=>exact acE (show false=true from fx) WO
 |str a=>
  obtain⟨t',rfl⟩:=ry;cases x with
  |non=>cases rx;exact SeqAt.EqAt.str_none a t'
  |bl b=>cases rx;exact SeqAt.EqAt.str_bool a t' b
  |int b=>obtain⟨t,rfl⟩:=rx;exact abu a t' b t
  |str b=>obtain⟨t,rfl⟩:=rx;exact SeqAt.EqAt.str_str a t' b t
  |_=>exact acE (show false=true from fx) WO
 |_=>exact acE (show false=true from fy) WO
def IF(x:V)(u:Value):Bool:=match u with
 | .none=>HQ .non x
 | .bool b=>HQ (.bl b) x
 | .int i _=>HQ (.int i) x
 | .str z _=>HQ (.str z) x
 |_=>false
theorem Fx{x y:V}{u:Value}(r:RelV y u)(f:pk y=true):IF x u=HQ y x:=by
 cases y with
 |non=>cases r;rfl
 |bl b=>cases r;rfl
 |int i=>obtain⟨t,rfl⟩:=r;rfl
 |str z=>obtain⟨t,rfl⟩:=r;rfl
 |_=>exact acE (show false=true from f) WO
theorem vN{x:V}:∀{xs:List V}{us:List Value},Vals xs us->xs.all pk=true->us.any (IF x)=xs.any λy=>HQ y x
 |_,_, .nil,_=>rfl
 |y::xs,u::us, .cons r t,f=>by
  rw[Y3,Wv] at f;rw[Y2,Y2,Fx r f.1,vN t f.2]
theorem rN{A:WX}{s:We}{x:V}{v:Value}(rx:RelV x v)(fx:pk x=true):∀{xs:List V}{us:List Value},Vals xs us->xs.all pk=true->∀u∈us,acg A s u v (IF x u)
 |_,_, .nil,_=>λu hu=>by cases hu
 |y::xs,u::us, .cons r t,f=>λu' hu=>by
  rw[Y3,Wv] at f;rcases Wu.mp hu with rfl | hu
  ·rw[Fx r f.1];exact Lz r rx f.1 fx
  ·exact rN rx fx t f.2 u' hu
def Qv(x:V)(xs:List V):Bool:=xs.any λy=>HQ y x
def Tx(K:Wn)(neg:Bool):R2:=λx y H Q=>∃p xs,y= .ref p/\(SqL K H p xs\/SqT K H p xs)/\pk x=true/\xs.all pk=true/\Q (.bl (if neg then !Qv x xs else Qv x xs)) H
theorem xc:OpR X (Xh .NotIn) (Tx X.K true):=by
 intro f8 s σ H x y v u Q I rx ry h;obtain⟨p,xs,rfl,hq,fx,fs,q⟩:=h;cases ry;rcases hq with hq | hq
 ·obtain⟨aS,r,pl,hz⟩:=I.list hq;refine SeqAt.notIn_listAt (IF x) pl.isList (λw hw=>rN rx fx r fs w (by simpa using hw)) ⟨.bl _,H,I,rfl,?_⟩;rw[show aS.toArray.any (IF x)=aS.any (IF x) by simp,vN r fs];exact q
 ·obtain⟨aS,r,pl,hz⟩:=I.tuple hq;refine SeqAt.notIn_tupleAt (IF x) pl (λw hw=>rN rx fx r fs w (by simpa using hw)) ⟨.bl _,H,I,rfl,?_⟩;rw[show aS.toArray.any (IF x)=aS.any (IF x) by simp,vN r fs];exact q
theorem vX:CallR X (.builtin "len") (λxs H Q=>∃p ys,xs=[.ref p]/\(SqL X.K H p ys\/SqT X.K H p ys)/\Q (.int ys.length) H):=by
 intro f8 s σ H xs us Q I r h;obtain⟨p,ys,rfl,hq,q⟩:=h;obtain⟨u,rfl,rx⟩:=vals1 r;cases rx;have hn:=oC;rcases hq with hq | hq
 ·obtain⟨aS,r',pl,hz⟩:=I.list hq;have T0:=r'.length;exact Calls.call_len_list pl.isList (by simp only[Wo]<;>omega) ⟨.int ys.length,H,I.tok _,⟨s.toks+1,by rw[Wo,T0]⟩,q⟩
 ·obtain⟨aS,r',pl,hz⟩:=I.tuple hq;have T0:=r'.length;exact len_tuple pl (by simp only[Wo]<;>omega) ⟨.int ys.length,H,I.tok _,⟨s.toks+1,by rw[Wo,T0]⟩,q⟩
theorem vY:CallR X (.builtin "len") (λxs H Q=>∃z,xs=[.str z]/\z.length<=WB/\Q (.int z.length) H):=by
 intro f8 s σ H xs us Q I r h;obtain⟨z,rfl,hz,q⟩:=h;obtain⟨u,rfl,t,rfl⟩:=vals1 r;have hn:=oC;exact len_str (by omega) ⟨.int z.length,H,I.tok _,⟨_,rfl⟩,q⟩
theorem CallR.or{f:Value}{r r':List V->Hp->VK->Prop}(h:CallR X f r)(h':CallR X f r'):CallR X f (λxs H Q=>r xs H Q\/r' xs H Q):=by
 intro f8 s σ H xs us Q I rs q;rcases q with q | q
 ·exact h f8 s σ H xs us Q I rs q
 ·exact h' f8 s σ H xs us Q I rs q
theorem vZ:CallR X (.type "list") (λxs H Q=>∃p ys,xs=[.ref p]/\(SqL X.K H p ys\/SqT X.K H p ys)/\∀l,H l=none->Q (.ref l) (upd H l (.lst ys))):=by
 intro f8 s σ H xs us Q I r h;obtain⟨p,ys,rfl,hq,q⟩:=h;obtain⟨u,rfl,rx⟩:=vals1 r;cases rx;have fin:∀(aS:List Value),Vals ys aS->ys.length<=WB->∀(h':Heap) (c':Nat),(∀b o',s.heap.get? b=some o'->h'.get? b=some o')->
  h'.get? s.heap.objs.size=some {cls:= .type "list",dict:=none,data:= .seq aS.toArray c',slots:= #[]}->EP X f8 σ Q (.ref s.heap.objs.size) {s with heap:=h'}:=λaS r' hz h' c' kp e=>
  ⟨.ref s.heap.objs.size,_,I.laid (t':=s.toks) kp (Wr _) (show ObjOk X.prog X.w _ h' _ (.lst ys) from⟨hz,aS,c',r',e⟩),rfl,q _ (I.hok.fresh (Wr _))⟩
 rcases hq with hq | hq
 ·obtain⟨aS,r',pl,hz⟩:=I.list hq;have T0:=r'.length;obtain⟨o,ho,hc,n,hd⟩:=pl.isList;exact call_list_seq p (.inl rfl) ho hc hd (λh' c' kp e=>fin aS r' hz h' c' kp e) (by simp only[Wo]<;>omega)
 ·obtain⟨aS,r',pl,hz⟩:=I.tuple hq;have T0:=r'.length;obtain⟨o,ho,hc,n,hd⟩:=pl;exact call_list_seq p (.inr rfl) ho hc hd (λh' c' kp e=>fin aS r' hz h' c' kp e) (by simp only[Wo]<;>omega)
theorem tO:CallR X (.type "tuple") (λxs H Q=>∃p ys,xs=[.ref p]/\((SqL X.K H p ys/\∀l,H l=none->Q (.ref l) (upd H l (.tup ys)))\/(SqT X.K H p ys/\Q (.ref p) H))):=by
 intro f8 s σ H xs us Q I r h;obtain⟨p,ys,rfl,h⟩:=h;obtain⟨u,rfl,rx⟩:=vals1 r;cases rx;rcases h with⟨hq,q⟩ | ⟨hq,q⟩
 ·obtain⟨aS,r',pl,hz⟩:=I.list hq;have T0:=r'.length;refine call_tuple_list pl.isList (λh' kp=>?_) (by simp only[Wo]<;>omega);have I1:Inv X f8 σ H {s with heap:=h'}:=I.kept (t':=s.toks) kp;have I2:Inv X f8 σ (upd H h'.objs.size (.tup ys)) {s with heap:=h'.push {cls:= .type "tuple",data:= .seq aS.toArray} }:=
   I1.laid (t':=s.toks) (λb o e=>Wg _ e) (Wr _) (show ObjOk X.prog X.w _ _ _ (.tup ys) from⟨hz,aS,r',IsTup.new _ _⟩)
  exact⟨.ref h'.objs.size,_,I2,rfl,q _ (I1.hok.fresh (Wr _))⟩
 ·obtain⟨aS,r',pl,hz⟩:=I.tuple hq;exact call_tuple_same pl ⟨.ref p,H,I,rfl,q⟩
def P9(K:Wn)(T:String)(x:V)(H:Hp):Prop:=match x with
 | .str _=>T="str"
 | .int _=>T="int"
 | .ref p=>(T="list"/\∃xs,SqL K H p xs)\/(T="tuple"/\∃o,K.lookup p=some o/\o.cls= .type "tuple"/\o.dict=none)\/
    (T="dict"/\((∃aI,H p=some (.dK aI))\/∃aI,H p=some (.dT aI)))\/(T="set"/\∃S n,H p=some (.set S n))
 |_=>False
theorem NH{f8:List (Addr×Obj)}{σ:St}{H:Hp}{s:We}{T:String}{x:V}{v:Value}(I:Inv X f8 σ H s)(r:RelV x v)(ty:P9 X.K T x H):
 s.TypeIs v T/\∀a,v= .ref a->∃ob,s.heap.get? a=some ob/\ob.dict=none:=by
 cases x with
 |str z=>
  obtain⟨t,rfl⟩:=r;cases (show T="str" from ty);exact⟨aau s z t,λ_ e=>nomatch e⟩
 |int i=>
  obtain⟨t,rfl⟩:=r;cases (show T="int" from ty);exact⟨typeIs_int s i t,λ_ e=>nomatch e⟩
 |ref p=>
  cases r;rcases ty with⟨rfl,xs,hq⟩ | ⟨rfl,o,hk,hc,hd⟩ | ⟨rfl,hk⟩ | ⟨rfl,S,n,hk⟩
  ·obtain⟨aS,_,pl,_⟩:=I.list hq;refine⟨pl.isList.typeIs,λa e=>?_⟩;cases e;obtain⟨o,n,e,c,hd,_⟩:=pl;exact⟨o,e,hd⟩
  ·refine⟨⟨o,I.kIn p o hk,hc⟩,λa e=>?_⟩;cases e;exact⟨o,I.kIn _ o hk,hd⟩
  ·have z:∃o,s.heap.get? p=some o/\o.ExactDict:=by
    rcases hk with⟨aI,hk⟩ | ⟨aI,hk⟩
    ·obtain⟨_,_,_,_,o,_,_,e,ex,_⟩:=I.hok p _ hk;exact⟨o,e,ex⟩
    ·obtain⟨_,_,_,_,o,_,_,e,ex,_⟩:=I.hok p _ hk;exact⟨o,e,ex⟩
   obtain⟨o,e,ex⟩:=z;refine⟨⟨o,e,ex.1⟩,λa e2=>?_⟩;cases e2;exact⟨o,e,ex.2.1⟩
  ·obtain⟨o,_,_,_,e,ex,_⟩:=I.hok p _ hk;refine⟨⟨o,e,ex.1⟩,λa e2=>?_⟩;cases e2;exact⟨o,e,ex.2.1⟩
 |_=>exact XG ty
def R8(K:Wn)(T:String)(r:V->List V->Hp->VK->Prop)(to:TE)(t:TA):TE:=λσ H Q=>to σ H λx H1=>P9 K T x H1/\t σ H1 λxs H2=>r x xs H2 Q
variable{o e:Expr}{es:List Expr}{to:TE}{t:TA}{name:Str}{W1 bz:Pos}{T id:String}{r:V->List V->Hp->VK->Prop}
theorem GV(pa:PlainAttrs T)(slot:Slot T name id)(Rq:typeOf (.builtin id)=pure (.type "method_descriptor"))(hm:N2 X id r)(ho:PE X o to)(ha:PA X (e::es) t)
 (iT:Yr o name X.env (eval o X.env)=eval o X.env:=by rfl)
 (ot:((X2 bz (Wt (e::es) X.env)).all (λx=>!x.1)&&(ZN bz (YI [] X.env)).all (λx=>x.1.isSome)
  &&decide ((e::es).length+([]:List YS).length+(if ([]:List YS).isEmpty then 0 else 1)<30))=true:=by rfl)
 (iV:(W1.endLine==bz.line)=true:=by rfl) (hs:Wt (e::es) X.env=(false,eval e X.env)::Wt es X.env:=by rfl) (A0:(X2 bz (Wt es X.env)).any (·.1)=false:=by rfl):
 PE X (.Call (.Attribute o name W1) (e::es) [] bz) (R8 X.K T r to t):=by
 intro f8 s σ H Q I h;refine wpAny_Call_method_late iT ot iV rfl (cV (ho f8 s σ H _ I h) λv s1 ⟨x,H1,I1,r1,ty,q1⟩=>?_);obtain⟨h1,h2⟩:=NH I1 r1 ty;refine⟨T,id,pa,slot,Rq,h1,h2,?_⟩;have hA:=ha bz f8 s1 σ H1 _ I1 q1;rw[hs] at hA⊢;refine Y7 (by show (false||(X2 bz (Wt es X.env)).any (·.1))=false;rw[A0]<;>rfl) (YE ?_);exact cV hA λus s2 ⟨vs,H2,I2,r2,q2⟩=>hm f8 s2 σ H2 x vs v us Q I2 r1 r2 q2
end
def Sn(X:Cx)(id:String)(r:V->List V->Hp->VK->Prop):Prop:=
 ∀(f8:List (Addr×Obj)) (s:We) (σ:St) (H:Hp) (x:V) (xs:List V) (v:Value) (us:List Value) (Q:VK),Inv X f8 σ H s->RelV x v->Vals xs us->r x xs H Q->
  wpAny (model X.prog X.w) X.A (call (.builtin id) (v::us)) (EP X f8 σ Q) X.xe s
theorem Vals.one:∀{x:V}{us:List Value},Vals [x] us->∃u,us=[u]/\RelV x u
 |_,_, .cons r .nil=>⟨_,rfl,r⟩
theorem Vals.rep{xs:List V}{us:List Value}(h:Vals xs us):∀k:Nat,Vals (Wm k xs).flatten (Wm k us).flatten
 |0=> .nil
 |k+1=>by
  rw[XZ,XZ,YB,YB];exact Vals.append h (Vals.rep h k)
theorem foldl_rep(aS:List Value):∀(k:Nat) (u8:List Value),
 acx (λx1 x2=>x1++x2) u8.toArray (Wm k aS.toArray)=(u8++(Wm k aS).flatten).toArray
 |0,u8=>by simp
 |k+1,u8=>by
  have e:u8.toArray++aS.toArray=(u8++aS).toArray:=by simp
  have e2:(u8++aS)++(Wm k aS).flatten=u8++(Wm (k+1) aS).flatten:=by
   rw[XZ,YB,Xk]
  rw[<-e2,<-foldl_rep aS k (u8++aS),<-e,XZ,YY]
section
variable{X:Cx}{f8:List (Addr×Obj)}{σ:St}{H:Hp}{s:We}{l:Addr}{xs ys:List V}
theorem Inv.lset{aS its':List Value}{n:Nat}{f:Array Value->Array Value}{t':Nat}(I:Inv X f8 σ H s)(hH:H l=some (.lst xs))
 (e:s.heap.get? l=some {cls:= .type "list",data:= .seq aS.toArray n})(hf:f aS.toArray=its'.toArray)(hv:Vals ys its')(hz:ys.length<=WB):
 Inv X f8 σ (upd H l (.lst ys)) {s with heap:=s.heap.update l (XJ f),toks:=t'}:=by
 have q:=PySem.IsL.update e f;rw[hf] at q;refine I.write (x:=l) (e:=l) (by rw[hH];exact trivial) (.inl rfl) (λb' u hb hu=>(ZT s.heap (XJ f) (Xq hb)).trans hu) ⟨_,q⟩ ?_;exact⟨hz,its',_,hv,q⟩
theorem Inv.lnew{aS:List Value}{t':Nat}(I:Inv X f8 σ H s)(hv:Vals ys aS)(hz:ys.length<=WB):
 Inv X f8 σ (upd H s.heap.objs.size (.lst ys)) {s with heap:=s.heap.push {cls:= .type "list",data:= .seq aS.toArray},toks:=t'}:=
 I.laid (λ_ _ q=>Wg _ q) (Wr _) ⟨hz,aS,0,hv,WA _ rfl⟩
theorem Inv.fresh(I:Inv X f8 σ H s):H s.heap.objs.size=none:=I.hok.fresh (Wr _)
theorem Inv.lstM(I:Inv X f8 σ H s)(hH:H l=some (.lst xs)):xs.length<=WB/\∃(aS:List Value) (n:Nat),Vals xs aS/\xs.length=aS.length/\s.heap.get? l=some {cls:= .type "list",data:= .seq aS.toArray n}:=by
 obtain⟨z,aS,n,r,e⟩:=I.hok l _ hH;exact⟨z,aS,n,r,r.length,e⟩
theorem zu{n:Nat}(h:n<=WB):Yy n=false:=by
 unfold Yy;exact acC (by omega)
end
section
variable{X:Cx}
def C7:V->List V->Hp->VK->Prop:=λx vs H Q=>∃l xs y,x= .ref l/\vs=[y]/\H l=some (.lst xs)/\xs.length<WB/\Q .non (upd H l (.lst (xs++[y])))
theorem vf:Sn X "list.append" C7:=by
 intro f8 s σ H x vs v us Q I rx rv h;obtain⟨l,xs,y,rfl,rfl,hH,hz,q⟩:=h;cases rx;obtain⟨u,rfl,ru⟩:=rv.one;obtain⟨z,aS,n,r,hl,e⟩:=I.lstM hH;refine ZW F.slot_list_append ⟨_,e,rfl⟩ F.entry_list_append (F.args_list_append_2 _ _) (PySem.list_append l aS.toArray n u (by rw[Wo];omega)) ⟨e,?_⟩;refine⟨.non,_,I.lset (its':=aS++[u]) hH e (by simp) (r.append (.cons ru .nil)) ?_,rfl,q⟩;rw[Wj,abV];omega
def C8:V->List V->Hp->VK->Prop:=λx vs H Q=>∃l b xs zs,x= .ref l/\vs=[.ref b]/\H l=some (.lst xs)/\H b=some (.lst zs)/\xs.length+zs.length<=WB/\Q .non (upd H l (.lst (xs++zs)))
theorem Ei:Sn X "list.extend" C8:=by
 intro f8 s σ H x vs v us Q I rx rv h;obtain⟨l,b,xs,zs,rfl,rfl,hH,hB,hz,q⟩:=h;cases rx;obtain⟨u,rfl,ru⟩:=rv.one;cases ru;obtain⟨z,aS,n,r,hl,e⟩:=I.lstM hH;obtain⟨z2,fO,n2,r2,HY,e2⟩:=I.lstM hB;have hsz:aS.toArray.size+fO.toArray.size<=WB:=by rw[Wo,Wo];omega
 have FR:¬(!aS.toArray.isEmpty&&Yy (aS.toArray.size+fO.toArray.size))=true:=by
  rw[zu hsz,aac];exact WO
 refine ZW F.slot_list_extend ⟨_,e,rfl⟩ F.entry_list_extend (F.args_list_extend_2 _ _)
  (AutoSeq1.list_extend_list_list_0 l aS.toArray n b fO.toArray n2 FR (by rw[Wo];omega) (by omega)) ⟨e,e2,?_⟩
 refine⟨.non,_,I.lset (its':=aS++fO) hH e (by simp) (r.append r2) ?_,rfl,q⟩;rw[Wj];omega
def RU:R2:=λx y H Q=>∃l b xs zs,x= .ref l/\y= .ref b/\H l=some (.lst xs)/\H b=some (.lst zs)/\xs.length+zs.length<=WB/\∀p,H p=none->Q (.ref p) (upd H p (.lst (xs++zs)))
theorem MG:OpR X (Zd .Add) RU:=by
 intro f8 s σ H x y v u Q I rx ry h;obtain⟨l,b,xs,zs,rfl,rfl,hH,hB,hz,q⟩:=h;cases rx;cases ry;obtain⟨z,aS,n,r,hl,e⟩:=I.lstM hH;obtain⟨z2,fO,n2,r2,HY,e2⟩:=I.lstM hB;refine PySem.P.add_list e e2 ?_ (by rw[Wo,Wo];omega);have ea:aS.toArray++fO.toArray=(aS++fO).toArray:=by simp
 rw[ea];exact⟨.ref _,_,I.lnew (t':=s.toks) (r.append r2) (by rw[Wj];omega),rfl,q _ I.fresh⟩
def RY:R2:=λx y H Q=>∃l k xs,x= .ref l/\y= .int k/\H l=some (.lst xs)/\ -(2 ^ 63)<=k/\k<2 ^ 63/\xs.length*k.toNat<=WB/\
 ∀p,H p=none->Q (.ref p) (upd H p (.lst (Wm k.toNat xs).flatten))
theorem len_rep{α:Type}(xs:List α)(k:Nat):(Wm k xs).flatten.length=k*xs.length:=by
 induction k with
 |zero=>simp
 |succ k ih=>rw[XZ,YB,Wj,ih,Nat.succ_mul,aaS]
theorem MN:OpR X (Zd .Mult) RY:=by
 intro f8 s σ H x y v u Q I rx ry h;obtain⟨l,k,xs,rfl,rfl,hH,h1,h2,hz,q⟩:=h;cases rx;obtain⟨t,rfl⟩:=ry;obtain⟨z,aS,n,r,hl,e⟩:=I.lstM hH;have T0:aS.toArray.size*k.toNat<=WB:=by rw[Wo,<-hl];exact hz
 have QY:¬aS.toArray.size*k.toNat>(2 ^ 63 - 1) / 8:=by
  have:(WB:Nat)<=(2 ^ 63 - 1) / 8:=by decide
  omega
 have Q4:¬(!Builtin.List.listFitsIndex k)=true:=by
  rw[fitsIndex_both h1 h2];exact WO
 have FR:¬Yy (aS.toArray.size*k.toNat)=true:=by
  rw[zu T0];exact WO
 have wx:acx (λx1 x2=>x1++x2) #[] (Wm (if aS.toArray.isEmpty=true then 0 else k.toNat) aS.toArray)=(Wm k.toNat aS).flatten.toArray:=by
  have f0:∀m:Nat,acx (λx1 x2=>x1++x2) #[] (Wm m aS.toArray)=(Wm m aS).flatten.toArray:=λm=>by
   have:=foldl_rep aS m [];rw[WJ] at this;exact this
  rw[f0];cases aS with
  |nil=>simp
  |cons a r'=>rw[acz (by simp)]
 refine wpAny_binaryOp_repeat_ref (T:="list") (U:="int") (by decide) ⟨_,e,rfl⟩ (λs'=>typeIs_int s' k t) noFill_list_mul F.fills_int_mul F.slot_int_rmul repeat_list F.slot_int_index.lookup
  (ZW F.slot_int_rmul (typeIs_int s k t) F.entry_int_rmul (F.args_int_rmul_2 _ _) (int___rmul___int_list k t l aS.toArray n)
   ⟨e,rfl,⟨_,e,rfl⟩,ZW F.slot_list_mul ⟨_,e,rfl⟩ F.entry_list_mul (F.args_list_mul_2 _ _) (AutoListH.list___mul___list_int_3 l aS.toArray n k t Q4 QY FR) ⟨e,?_⟩⟩)
 rw[wx];exact⟨.ref _,_,I.lnew (t':=s.toks) (r.rep k.toNat) (by rw[len_rep,abZ];exact hz),rfl,q _ I.fresh⟩
end
end L2
namespace Att
open PySem PySem.W PySem.Calls PyProof.Rows
theorem ints_of_wellAll{P:Params}{h:Heap}:∀(ns:List Int) (vs:List Value),WellAll P h vs (ns.map WData.int)->Yl vs ns:=by
 intro ns;induction ns with
 |nil=>
  intro vs w;rw[XE] at w;cases w;exact .nil
 |cons n ns ih=>
  intro vs w;rw[Wq] at w;cases w with
  |cons a b=>
   cases a;exact .cons _ _ (ih _ b)
theorem script_of{l:OpenLaw}{n:Nat}(hn:l.most=some n){P:Params}{h:Heap}{args:List WData}{vals:List Value}
 (IQ:l.row.toRowW.claim.pre args=true)(Rw:WellAll P h vals args):
 ∃a vs ns,vals=[WT a]/\args=[WData.list (ns.map WData.int)]/\h.get? a=some {cls:= .type "list",data:= .seq vs.toArray}/\Yl vs ns/\ns.length<=n:=by
 have U7:WShape.hasAll [] args [.list .int]=true:=(pre_splitW IQ).1;have hc:l.pre.holds [] {args:=args}=true:=(pre_splitW IQ).2;obtain⟨d,r,rfl,h1,h2⟩:=hasAllW_cons U7;obtain rfl:=hasAllW_nil h2;obtain⟨xs,rfl,h3⟩:=hasW_list h1;obtain⟨ns,rfl⟩:=items_int h3;have T0:ns.length<=n:=by
  unfold OpenLaw.pre at hc;have h4:(WTm.not (.lt (.lit (.int (n:Int))) (.len (.arg 0)))).holds [] {args:=[.list (ns.map .int)]}=true:=by
   have h4:=(holds_andW hc).1;rw[hn] at h4;exact h4
  have h5:=condW_of h4 (w_not (w_lt w_lit (w_len_list (w_arg rfl))));rw[Wc] at h5;refine Nat.le_of_not_lt λq=>?_;have q':(n:Int)<((ns.length:Nat):Int):=by omega
  first
   |(rw [acB q'] at h5;exact acE h5 (by decide))
   |(simp at h5;omega)
 cases Rw with
 |cons w1 w2=>
  cases w2;cases w1 with
  |list ho LR=>exact⟨_,_,ns,rfl,rfl,ho,ints_of_wellAll ns _ LR,T0⟩
theorem post_true(l:OpenLaw)(args:List WData):l.row.toRowW.claim.post args (.bool true) args=true:=
 postW_of (r:=l.row.toRowW) (X:=(true==true))
  (show WShape.has [] (.bool true) .bool=true by first | rfl | decide | simp[WShape.has,WShape.arms,WShape.armsAll])
  (show (WTm.eq .res (.lit (.bool true))).value [] {args:=args,res:=some (.bool true),after:=args}=some (.bool (true==true)) from w_eq_bool (w_res rfl) w_lit) rfl
theorem attach_call{l:OpenLaw}{n:Nat}{q:WQ}{loose:List Str}{XP:(Str->Option Value)->Heap->Prop}{YP:World->Heap->Prop}{d:DefRec}
 (hn:l.most=some n)(Oz:d.params.defaults=[])
 (call:∀(w:World) (acJ P3:We) (mg mb:Str->Option Value) (fa:Addr) (o:Obj) (pm cd doc:Value) (a:Addr) (vs:List Value) (ns:List Int),
  Ground q loose [] XP w acJ mg mb P3.heap->YP w P3.heap->
  P3.heap.get? fa=some o->o.data= .func (docDef d.name d.params d.body d.scope pm cd doc)->P3.heap.CodeRec cd d.name->mg d.name=some (.ref fa)->
  P3.heap.get? a=some {cls:= .type "list",data:= .seq vs.toArray}->Yl vs ns->ns.length<=n->P3.gens= #[]->
  ZD (model l.prog w) aa_ (.call (.ref fa) ⟨[.ref a],[]⟩) (λr s'=>r= .ok (.ret (.bool true))/\OldK P3.heap s'.heap/\s'.os=P3.os/\aas s'.gens) P3):
 WalkO q loose XP YP l.row.toRowW d [] (λf vs=>ach f vs):=by
 intro w acJ P3 mg mb G Y fa o pm cd doc dV kV ho hd uZ hD LX hg args vals as IQ UO V8 Rw V5;obtain rfl:dV= .none:=Dflts.none hD Oz;obtain rfl:kV= .none:=Dflts.noKw hD;obtain⟨a,vs,ns,rfl,rfl,FT,hints,T0⟩:=script_of hn IQ Rw;refine enter_call (abk (call w acJ P3 mg mb fa o pm cd doc a vs ns G Y ho (fd_plain hd) uZ LX FT hints T0 hg) λr s' hq=>?_);obtain⟨rfl,h2,h3,h4⟩:=hq;exact⟨.inl ⟨.bool true, .bool true,[],rfl,λ_=>rfl, .bool true,post_true l _,λ_=>⟨abf,λ_ hm=>(nomatch hm)⟩⟩,h2,h3,h4⟩
section
def ledger(h:Heap)(L d:Addr):List (Addr×Obj):=(WD h.objs.size).filterMap λa=>if a=L\/a=d then none else(h.get? a).map λo=>(a,o)
end
end Att
namespace L2
open PySem PySem.Spec PyProof.Rows
theorem vJ:∀{vs:List Value}{ns:List Int},Yl vs ns->Vals (ns.map V.int) vs
 |_,_, .nil=> .nil
 |_,_, .cons n t h=> .cons ⟨t,rfl⟩ (vJ h)
def Lh(H:Hp):Prop:=∀b,H b=none\/∃o xs,H b=some (.frz o (.lst xs))
theorem za{P:WQ}{w:World}{K:Wn}{mg mb:Str->Option Value}{CX:BU}{k:Nat}{fa a:Addr}{fd:Yk}{x:Str}{sp:Sp}{P3:We}{vs:List Value}{ns:List Int}
 (KX:K.In P3.heap)(Qo:P3.heap.Ns WH mg)(hb:P3.heap.Ns builtinsNs mb)(Um:∀x:Str,x≠"__name__"->mb x=W8 x)(OH:P3.heap.NoLimit)(hg:P3.gens= #[])
 (ha:P3.heap.get? a=some {cls:= .type "list",data:= .seq vs.toArray})(hi:Yl vs ns)(hl:ns.length<=WB)(hr:Room k aa_)
 (F:∀base:Heap,K.In base->base.Ns WH mg->FnOk P w K mg base CX k fa fd [x] sp)(Ov:∀(s:We) (u:Value),abP s fd ⟨[u],[]⟩ [(x,u)])
 (yj:∀H:Hp,Lh H->SqL K H a (ns.map V.int)->sp [.ref a] H (λv _=>v= .bl true) λ_ _ _=>False)
 (QP:∀H e s',CX [] H P3 (λ_ _ _=>False) e s'->False):
 ZD (model P w) aa_ (.call (.ref fa) ⟨[.ref a],[]⟩) (λr s'=>r= .ok (.ret (.bool true))/\OldK P3.heap s'.heap/\s'.os=P3.os/\aas s'.gens) P3:=by
 have rv:=vJ hi;have RH:=hi.length;have core:∀H:Hp,Lh H->SqL K H a (ns.map V.int)->HOk P w H P3.heap->(∀b,H b≠none->b=a)->(H a≠none->K.lookup a=none)->
  ZD (model P w) aa_ (.call (.ref fa) ⟨[.ref a],[]⟩) (λr s'=>r= .ok (.ret (.bool true))/\OldK P3.heap s'.heap/\s'.os=P3.os/\aas s'.gens) P3:=by
  intro H hO hS hok hA hK;have B3:∀{b:Addr}{o:Obj},P3.heap.get? b=some o->H b=none->(wu P3.heap H).get? b=some o:=λe n=>FN e n;have Pb:∀{b:Addr}{o:Obj}{es:Array Ym}{ep:Nat},P3.heap.get? b=some o->o.data= .dict es ep->H b=none:=λ{b o es ep} e d=>by
   cases q:H b with
   |none=>rfl
   |some u=>
    have e':b=a:=hA b (by rw[q];simp);subst e';rw[ha] at e;cases e;have d':Data.seq vs.toArray _=Y4 es ep:=d;cases d'
  have Qx:∀{b:Addr}{m:Str->Option Value},P3.heap.Ns b m->(wu P3.heap H).Ns b m:=λ{b m} ⟨o,es,ep,e,d,r⟩=>⟨o,es,ep,B3 e (Pb e d),d,r⟩
  have SJ:K.In (wu P3.heap H):=λb o e=>B3 (KX b o e) (by
   cases q:H b with
   |none=>rfl
   |some u=>
    have e':b=a:=hA b (by rw[q];simp);subst e';rw[hK (by rw[q];simp)] at e;cases e)
  have hM:Mod K mg (wu P3.heap H):=⟨SJ,Qx Qo,⟨mb,Qx hb,Um⟩,let ⟨mc,h1,h2⟩:=OH;⟨mc,Qx h1,h2⟩⟩
  have e0:Env0 P w K mg (wu P3.heap H) aa_ [] P3 H:=⟨rfl,hM,λb o e=>Jr e,Nat.le_of_eq (DU _ _),trivial,λb hb=>acE (show b∈([]:List Addr) from hb) (by simp),hok, .of_eq hg⟩
  refine abk ((F _ SJ (Qx Qo)).run aa_ [] P3 H ⟨[.ref a],[]⟩ [.ref a] [.ref a] _ _ hr e0 (Ov P3 (.ref a)) (.cons rfl .nil) (yj H hO hS)) λr s' h=>?_;cases r with
  |error e=>exact(QP H e s' h).elim
  |ok fl=>
   cases fl with
   |next=>exact XG h
   |brk=>exact XG h
   |cont=>exact XG h
   |ret u=>
    obtain⟨v,H',os,bare,un,Rm,r',q⟩:=h;have q':v= .bl true:=q;subst q';obtain rfl:u=Yn true:=r';refine⟨rfl,OldK.of_keep λb o e=>?_,os,bare⟩;cases q:H b with
    |none=>exact un.keep b o e q (by intro z;exact acE (show b∈([]:List Addr) from z) (by simp)) (by simp)
    |some u=>
     rcases hO b with z | ⟨ob,xs,z⟩
     ·rw[q] at z;cases z
     ·have z2:=un.frzs b ob _ z;obtain⟨e1,_⟩:=hok b _ z;obtain⟨e2,_⟩:=Rm b _ z2;rw[e] at e1;cases e1;exact e2
 cases hk:K.lookup a with
 |some o=>
  have e:=KX a o hk;rw[ha] at e;cases e;refine core (λ_=>none) (λ_=> .inl rfl) (.inr ⟨_,vs.toArray,_,hk,rfl,rfl,rfl,by rw[Wo,RH];exact hl,by simpa using rv⟩) (λb u z=>by have z':(none:Option HO)=some u:=z;cases z') (λb z=>acE rfl z) λz=>acE rfl z
 |none=>
  refine core (λb=>if b=a then some (.frz {cls:= .type "list",data:= .seq vs.toArray} (.lst (ns.map V.int))) else none) (λb=>?_) (.inl (.inr ⟨{cls:= .type "list",data:= .seq vs.toArray},acy rfl⟩)) (λb u z=>?_) (λb z=>?_) λ_=>hk
  ·by_cases hb:b=a
   ·exact .inr ⟨_,_,acy hb⟩
   ·exact .inl (acz hb)
  ·by_cases hb:b=a
   ·have z':=(acy hb).symm.trans z;cases z';subst hb;exact⟨ha,by rw[Wc];exact hl,vs,_,rv,ha⟩
   ·have z':=(acz hb).symm.trans z;cases z'
  ·by_cases hb:b=a
   ·exact hb
   ·exact acE (acz hb) z
abbrev VX{K:Wn}{h:Heap}(_:K.In h):Wn:=K
theorem QC{l:aci}{n k:Nat}{q:WQ}{loose:List Str}{XP:(Str->Option Value)->Heap->Prop}{YP:World->Heap->Prop}{d:DefRec}{K:Params->Wn}{CX:World->BU}{sp:World->Sp}{x:Str}
 (hn:l.most=some n)(Qn:n<=WB)(Oz:d.params.defaults=[])(hr:Room k aa_)
 (hY:∀(w:World) (h:Heap),YP w h->(K w.params).In h)
 (F:∀(w:World) (mg:Str->Option Value) (fa:Addr) (h:Heap),(K w.params).In h->h.Ns WH mg->mg d.name=some (.ref fa)->
  ∃fd:Yk,(∀(s:We) (u:Value),abP s fd ⟨[u],[]⟩ [(x,u)])/\
   ∀base:Heap,(K w.params).In base->base.Ns WH mg->FnOk l.prog w (K w.params) mg base (CX w) k fa fd [x] (sp w))
 (yj:∀(w:World) (H:Hp) (a:Addr) (ns:List Int),ns.length<=n->Lh H->SqL (K w.params) H a (ns.map V.int)->sp w [.ref a] H (λv _=>v= .bl true) λ_ _ _=>False)
 (QP:∀(w:World) (H:Hp) (s:We) (e:Value) (s':We),CX w [] H s (λ_ _ _=>False) e s'->False):
 PySem.W.WalkO q loose XP YP l.row.toRowW d [] (λf vs=>ach f vs):=by
 refine Att.attach_call hn Oz λw acJ P3 mg mb fa o pm cd doc a vs ns G Y ho hd uZ LX FT hints T0 hg=>?_;have KX:=hY w _ Y;obtain⟨fd,hb,hF⟩:=F w mg fa _ KX G.T.g LX;exact za KX G.T.g G.T.b G.T.builtins G.T.nolimit hg FT hints (WM T0 Qn) hr hF hb (λH hO hS=>yj w H a ns T0 hO hS) λH e s'=>QP w H P3 e s'
abbrev NX:BU:=λ_ _ _ _ _ _=>False
abbrev E0:XK:=λ_ _ _=>False
structure Fun (K:Wn) (x qual:Str) (st:Stmt) (f:Addr) (fd:Yk):Prop where
 ex:∃(oc:Value) (od:Option Addr) (kV doc pm:Value) (an:Option Addr) (bT ct:Value) (EV:Array (Option Value)),
  fd=XA x qual (fb st) (aV st) (ai st) .none kV doc pm an bT ct/\K.lookup f=some ⟨oc,od, .func fd,EV⟩/\YD K bT qual=true
 kp:XF K (.ref f)=true
section
variable{P:WQ}{w:World}{K:Wn}{mg:Str->Option Value}{base:Heap}
theorem Fun.ok{x qual:Str}{st:Stmt}{f:Addr}{fd:Yk}{N ps:List Str}{k:Nat}{sp:Sp}(F:Fun K x qual st f fd)(S:FnScope N ps (ai st))(len:∀vs H Q E,sp vs H Q E->vs.length=ps.length)
 (iU:∀(bT:Value) (A:WX) (outer:List Env) (s:We) (H:Hp) (vs:List V) (Q:VK) (E:XK),Room k (A.deeper (XD qual (ai st) s.heap.objs.size f bT))->sp vs H Q E->
  ∃t,PSs (ba NX P w K mg base N qual (ai st) f bT A outer s H E).nox (aV st) t/\t {nx:=λ_ H'=>Q .non H',rt:=Q} (start N vs) H):FnOk P w K mg base NX (k+1) f fd ps sp:=by
 obtain⟨oc,od,kV,doc,pm,an,bT,ct,EV,rfl,lk,uZ⟩:=F.ex;refine KG lk uZ S len λA outer s H vs Q E hr yj=>?_;obtain⟨t,h,q⟩:=iU bT A outer s H vs Q E hr yj;exact⟨t,h.nox,q⟩
theorem Fun.binds{x qual:Str}{st:Stmt}{f:Addr}{fd:Yk}{ps:List Str}(F:Fun K x qual st f fd)
 (h:∀(kV doc pm:Value) (an:Option Addr) (bT ct:Value) (us:List Value),us.length=ps.length->bindArgs (XA x qual (fb st) (aV st) (ai st) .none kV doc pm an bT ct) ⟨us,[]⟩=pure (ps.zip us)):Binds K fd ps []:=by
 obtain⟨oc,od,kV,doc,pm,an,bT,ct,EV,rfl,lk,uZ⟩:=F.ex;exact .all (h kV doc pm an bT ct)
theorem Fy{x qual:Str}{st:Stmt}{f:Addr}{oc:Value}{od an:Option Addr}{EV:Array (Option Value)}{kV doc pm bT ct:Value}(l:K.lookup f=some ⟨oc,od, .func (XA x qual (fb st) (aV st) (ai st) .none kV doc pm an bT ct),EV⟩)
 (c:YD K bT qual=true)(k:XF K (.ref f)=true):Fun K x qual st f (XA x qual (fb st) (aV st) (ai st) .none kV doc pm an bT ct):=⟨⟨oc,od,kV,doc,pm,an,bT,ct,EV,rfl,l,c⟩,k⟩
end
section
variable{X:Cx}
theorem pv(i:Nat){x:Str}{pos:Pos}(hN:X.N[i]? =some x:=by rfl)(hv:QK X.env.scope x:=by first | exact Or.inl rfl | exact Or.inr (Or.inl rfl) | exact Or.inr (Or.inr rfl))(hd:(x==("__debug__":Str))=false:=by decide)
 (uZ:(x==("__classdict__":Str))=false:=by decide):PE X (.Name x pos) (tm i):=M_ hN hv hd uZ
end
def Same(H H':Hp):Prop:=∀b o,H b=some o->H' b=some o
theorem Same.refl(H:Hp):Same H H:=λ_ _ h=>h
theorem Same.trans{H H1 H2:Hp}(a:Same H H1)(b:Same H1 H2):Same H H2:=λc o h=>b c o (a c o h)
theorem Same.free{H H':Hp}(e:Same H H'){l:Addr}(h:H' l=Option.none):H l=Option.none:=by
 cases q:H l with
 |none=>rfl
 |some o=>
  rw[e l o q] at h;cases h
theorem Same.seq{K:Wn}{H H':Hp}{a:Addr}{xs:List V}(e:Same H H')(h:SqL K H a xs):SqL K H' a xs:=by
 rcases h with(h | ⟨o,h⟩) | h
 ·exact .inl (.inl (e _ _ h))
 ·exact .inl (.inr ⟨o,e _ _ h⟩)
 ·exact .inr h
section
variable{κ:Type}[DecidableEq κ]
def nO(aI:List (κ×V))(k:κ):Option V:=(aI.find? λkv=>decide (kv.1=k)).map (·.2)
def putK(aI:List (κ×V))(k:κ)(v:V):List (κ×V):=
 if (aI.any λkv=>decide (kv.1=k))=true then aI.map (λkv=>if kv.1=k then(kv.1,v) else kv) else aI++[(k,v)]
theorem nQ{p:κ×V}{r:List (κ×V)}{k:κ}(e:p.1=k):nO (p::r) k=some p.2:=by simp[nO,YZ,e]
theorem nP{p:κ×V}{r:List (κ×V)}{k:κ}(e:¬p.1=k):nO (p::r) k=nO r k:=by simp[nO,YZ,e]
theorem tw(k:κ):∀aI:List (κ×V),(aI.any λkv=>decide (kv.1=k))=(nO aI k).isSome
 |[]=>rfl
 |p::r=>by
  rw[Y2];by_cases e:p.1=k
  ·simp only[nQ e,acB e,Bool.true_or,Option.isSome_some]
  ·rw[nP e,acC e,Bool.false_or];exact tw k r
theorem gf(aI:List (κ×V))(k:κ)(v:V):(putK aI k v).length<=aI.length+1:=by
 unfold putK;split
 ·rw[Wc];omega
 ·rw[Wj,Wl,Xb];omega
theorem RelO.isSome_eq{o:Option V}{u:Option Value}(r:RelO o u):o.isSome=u.isSome:=by
 cases o with
 |none=>cases u with
  |none=>rfl
  |some _=>exact(show False from r).elim
 |some _=>cases u with
  |none=>exact(show False from r).elim
  |some _=>rfl
theorem RelO.getD{o:Option V}{u:Option Value}{d:V}{d':Value}(r:RelO o u)(rd:RelV d d'):RelV (o.getD d) (u.getD d'):=by
 cases o with
 |none=>cases u with
  |none=>exact rd
  |some _=>exact(show False from r).elim
 |some _=>cases u with
  |none=>exact(show False from r).elim
  |some _=>exact r
theorem KV.val{aI:List (κ×V)}{vs:List (κ×Value)}(r:KV aI vs)(k:κ):RelO (nO aI k) (abE vs k):=by
 unfold KV at r;induction r with
 |nil=>exact XH
 | @cons p q ps qs h t ih=>
   obtain⟨h1,h2⟩:=h;by_cases e:p.1=k
   ·have e':q.1=k:=h1.symm.trans e;have b:abE (q::qs) k=some q.2:=by simp[abE,YZ,e']
    rw[nQ e,b];exact h2
   ·have e':¬q.1=k:=λz=>e (h1.trans z);have b:abE (q::qs) k=abE qs k:=by simp[abE,YZ,e']
    rw[nP e,b];exact ih
theorem KV.any{aI:List (κ×V)}{vs:List (κ×Value)}(r:KV aI vs)(k:κ):(aI.any λkv=>decide (kv.1=k))=vs.any λkv=>decide (kv.1=k):=by
 unfold KV at r;induction r with
 |nil=>rfl
 |cons h t ih=>rw[Y2,Y2,ih,h.1]
theorem KV.repl{aI:List (κ×V)}{vs:List (κ×Value)}(r:KV aI vs)(k:κ){y:V}{u:Value}(ry:RelV y u):
 KV (aI.map λkv=>if kv.1=k then(kv.1,y) else kv) (vs.map λkv=>if kv.1=k then(kv.1,u) else kv):=by
 unfold KV at r⊢;induction r with
 |nil=>exact .nil
 | @cons p q ps qs h t ih=>
   rw[Wq,Wq];refine .cons ?_ ih;obtain⟨h1,h2⟩:=h;by_cases e:p.1=k
   ·rw[acy e,acy (h1.symm.trans e)];exact⟨h1,ry⟩
   ·rw[acz e,acz (λz=>e (h1.trans z))];exact⟨h1,h2⟩
theorem KV.put{aI:List (κ×V)}{vs:List (κ×Value)}(r:KV aI vs)(k:κ){y:V}{u:Value}(ry:RelV y u):KV (putK aI k y) (stored vs k u):=by
 unfold putK stored;rw[r.any k];by_cases e:(vs.any λkv=>decide (kv.1=k))=true
 ·rw[acy e,acy e];exact r.repl k ry
 ·rw[acz e,acz e];exact Paired.snoc r ⟨rfl,ry⟩
theorem KV.length{aI:List (κ×V)}{vs:List (κ×Value)}(r:KV aI vs):aI.length=vs.length:=Yi r
end
theorem pz{P:WQ}{w:World}{k:Key}{u:Value}(r:RelV (kV k) u):(bp P w).is k u=true:=by
 cases k with
 |inl i=>obtain⟨t,e⟩:=(show∃t,u=abJ i t from r);subst e;exact zm P w i t
 |inr x=>obtain⟨t,e⟩:=(show∃t,u=abI x t from r);subst e;exact zo P w x t
theorem Mm{a b:Key}(e:kV a=kV b):a=b:=by
 cases a with
 |inl i=>cases b with
  |inl j=>have e':V.int i=V.int j:=e;injection e' with e';rw[e']
  |inr y=>exact nomatch (show V.int i=V.str y from e)
 |inr x=>cases b with
  |inl j=>exact nomatch (show V.str x=V.int j from e)
  |inr y=>have e':V.str x=V.str y:=e;injection e' with e';rw[e']
theorem Cv:∀{a b:List Key},a.map kV=b.map kV->a=b
 |[],[],_=>rfl
 |[],_::_,e=>by simp at e
 |_::_,[],e=>by simp at e
 |x::xs,y::ys,e=>by
  rw[Wq,Wq] at e;injection e with e1 e2
  rw[Mm e1,Cv e2]
theorem u_{P:WQ}{w:World}:∀{ks:List Key}{us:List Value},Vals (ks.map kV) us->ItemsAre (bp P w) ks us
 |[],_,r=>by rw[XE] at r;cases r;exact .nil
 |k::ks,_,r=>by
  rw[Wq] at r;cases r with
  |cons h t=>exact .cons (pz h) (u_ t)
abbrev KT(H:Hp):List (List Key×V)->List (List Key×Addr×Value)->Prop:=aaL λp q=>p.1=q.1/\H q.2.1=some (.tup (p.1.map kV))/\RelV p.2 q.2.2
theorem KT.val{H:Hp}{aI:List (List Key×V)}{xs:List (List Key×Addr×Value)}(r:KT H aI xs)(k:List Key):RelO (nO aI k) ((atKey xs k).map (·.2)):=by
 induction r with
 |nil=>exact XH
 | @cons p q ps qs h t ih=>
   obtain⟨h1,_,h2⟩:=h;by_cases e:p.1=k
   ·have e':q.1=k:=h1.symm.trans e;have b:atKey (q::qs) k=some q.2:=by simp[atKey,YZ,e']
    rw[nQ e,b];exact h2
   ·have e':¬q.1=k:=λz=>e (h1.trans z);have b:atKey (q::qs) k=atKey qs k:=by simp[atKey,YZ,e']
    rw[nP e,b];exact ih
theorem KT.repl{H:Hp}{aI:List (List Key×V)}{xs:List (List Key×Addr×Value)}(r:KT H aI xs)(k:List Key){y:V}{u:Value}(ry:RelV y u):
 KT H (aI.map λkv=>if kv.1=k then(kv.1,y) else kv) (xs.map (putAt k u)):=by
 induction r with
 |nil=>exact .nil
 | @cons p q ps qs h t ih=>
   rw[Wq,Wq];refine .cons ?_ ih;obtain⟨h1,h2,h3⟩:=h;unfold putAt;by_cases e:p.1=k
   ·rw[acy e,acy (h1.symm.trans e)];exact⟨h1,h2,ry⟩
   ·rw[acz e,acz (λz=>e (h1.trans z))];exact⟨h1,h2,h3⟩
theorem KT.put{H:Hp}{aI:List (List Key×V)}{xs:List (List Key×Addr×Value)}(r:KT H aI xs)(k:List Key){b:Addr}{y:V}{u:Value}(hb:H b=some (.tup (k.map kV)))(ry:RelV y u):
 KT H (putK aI k y) (Zs xs k b u):=by
 have e:(aI.any λkv=>decide (kv.1=k))=(atKey xs k).isSome:=by
  rw[tw,(r.val k).isSome_eq,aax]
 unfold putK Zs;rw[e];by_cases q:(atKey xs k).isSome=true
 ·rw[acy q,acy q];exact r.repl k ry
 ·rw[acz q,acz q];exact Paired.snoc r ⟨rfl,hb,ry⟩
theorem KT.keeps{H H':Hp}{aI:List (List Key×V)}{xs:List (List Key×Addr×Value)}(r:KT H aI xs)(ht:∀b ys,H b=some (.tup ys)->H' b=some (.tup ys)):KT H' aI xs:=
 Paired.mapP r λ_ _ z=>⟨z.1,ht _ _ z.2.1,z.2.2⟩
section
variable{P:WQ}{w:World}{H:Hp}{h:Heap}{a:Addr}
theorem La{u:HO}(ok:HOk P w H h)(e:Rd H a u):ObjOk P w H h a u:=e.ok ok
theorem ph{aI:List (Key×V)}(ok:HOk P w H h)(e:Rd H a (.dK aI)):aI.length<=WB/\(a==XQ)=false/\∃vs,KV aI vs/\h.DictOf (bp P w) a vs:=
 show ObjOk P w H h a (.dK aI) from La ok e
theorem KA{aI:List (Key×V)}(ok:HOk P w H h)(e:H a=some (.dK aI)):aI.length<=WB/\(a==XQ)=false/\∃vs,KV aI vs/\h.DictOf (bp P w) a vs:=ph ok (.inl e)
theorem jq{ks:List Key}(ok:HOk P w H h)(e:H a=some (.tup (ks.map kV))):(Ye (bp P w)).is h ks a:=by
 obtain⟨_,aS,r,o,h1,h2,n,h3⟩:=(show ObjOk P w H h a (.tup (ks.map kV)) from ok a _ e)
 exact⟨o,aS.toArray,n,h1,h2,h3,by simpa using u_ r⟩
theorem mq{aI:List (List Key×V)}(ok:HOk P w H h)(e:Rd H a (.dT aI)):aI.length<=WB/\(a==XQ)=false/\
 ∃xs,KT H aI xs/\h.DictOfH (Ye (bp P w)) a xs:=by
 obtain⟨z,y,xs,r,o,es,ep,h1,h2,h3,h4,h5⟩:=(show ObjOk P w H h a (.dT aI) from La ok e)
 refine⟨z,y,xs,r,o,es,ep,h1,h2,h3,h4,λx hx=>?_,h5⟩;have all:∀{l:List (List Key×V)}{m:List (List Key×Addr×Value)},KT H l m->∀x∈m,(Ye (bp P w)).is h x.1 x.2.1:=by
  intro l m q;induction q with
  |nil=>intro x hx;exact nomatch hx
  | @cons p q ps qs hq t ih=>
    intro x hx;rcases Wu.mp hx with e | hx
    ·subst e;exact jq ok (by rw[<-hq.1];exact hq.2.1)
    ·exact ih x hx
 exact all r x hx
theorem Fs{aI:List (List Key×V)}(ok:HOk P w H h)(e:H a=some (.dT aI)):aI.length<=WB/\(a==XQ)=false/\
 ∃xs,KT H aI xs/\h.DictOfH (Ye (bp P w)) a xs:=mq ok (.inl e)
end
def lK(H:Hp)(a:Addr)(y:V)(r:Option V):Prop:=
 (∃aI k,Rd H a (.dK aI)/\y=kV k/\r=nO aI k)\/∃aI k b,Rd H a (.dT aI)/\y= .ref b/\H b=some (.tup (k.map kV))/\r=nO aI k
def DPut(H:Hp)(a:Addr)(y v:V)(H':Hp):Prop:=
 (∃aI k,H a=some (.dK aI)/\y=kV k/\aI.length<WB/\H'=upd H a (.dK (putK aI k v)))\/
 ∃aI k b,H a=some (.dT aI)/\y= .ref b/\H b=some (.tup (k.map kV))/\aI.length<WB/\H'=upd H a (.dT (putK aI k v))
theorem DPut.k{H:Hp}{a:Addr}{aI:List (Key×V)}{k:Key}{v:V}(e:H a=some (.dK aI))(hl:aI.length<WB):DPut H a (kV k) v (upd H a (.dK (putK aI k v))):= .inl ⟨aI,k,e,rfl,hl,rfl⟩
theorem DPut.t{H:Hp}{a b:Addr}{aI:List (List Key×V)}{k:List Key}{v:V}(e:H a=some (.dT aI))(eb:H b=some (.tup (k.map kV)))(hl:aI.length<WB):
 DPut H a (.ref b) v (upd H a (.dT (putK aI k v))):= .inr ⟨aI,k,b,e,rfl,eb,hl,rfl⟩
section
variable{X:Cx}{f8:List (Addr×Obj)}{σ:St}{H:Hp}{s:We}{a:Addr}{y v:V}{u r:Value}{o:Option V}{A:WX}{E:Value->We->Prop}
theorem Inv.big(I:Inv X f8 σ H s):XQ<s.heap.objs.size:=by
 have h:WH<s.heap.objs.size:=(I.mod.glob.keeps I.bk).lt;exact YT (by decide) h
theorem DH{Q:Value->We->Prop}(hu:A.units+1<cLine)(I:Inv X f8 σ H s)(g:lK H a y (some v))(ry:RelV y u)(h:∀w' s',Inv X f8 σ H s'->RelV v w'->Q w' s'):
 wpAny (model X.prog X.w) A (aal (.ref a) u) Q E s:=by
 rcases g with⟨aI,k,e,ey,l⟩ | ⟨aI,k,b,e,ey,eb,l⟩
 ·subst ey;obtain⟨z,hd,vs,rel,dd⟩:=ph I.hok e;obtain⟨w',hw,Aw⟩:=RelO.some_of (v:=v) (o:=abE vs k) (by rw[l];exact rel.val k);exact wpAny_getItem_of (pz ry) dd.mapOf hw (h w' _ (I.tok _) Aw)
 ·subst ey;cases (show u=WT b from ry);obtain⟨z,hd,xs,rel,dd⟩:=mq I.hok e;obtain⟨w',hw,Aw⟩:=RelO.some_of (v:=v) (o:=(atKey xs k).map (·.2)) (by rw[l];exact rel.val k);obtain⟨p,hp,OO⟩:=Y5.mp hw;refine wpAny_getItem_heap (Yz hu) (jq I.hok eb) dd hp ?_;rw[OO];exact h w' _ (I.tok _) Aw
theorem Ob{Q:Value->We->Prop}(hu:A.units+1<cLine)(I:Inv X f8 σ H s)(g:lK H a y o)(ry:RelV y u)(h:∀s',Inv X f8 σ H s'->Q (.bool o.isSome) s'):
 wpAny (model X.prog X.w) A (Xh .In u (.ref a)) Q E s:=by
 rcases g with⟨aI,k,e,ey,l⟩ | ⟨aI,k,b,e,ey,eb,l⟩
 ·subst ey;obtain⟨z,hd,vs,rel,dd⟩:=ph I.hok e;refine wpAny_in_of (pz ry) hd dd.mapOf ?_;rw[<-(rel.val k).isSome_eq,<-l];exact h _ (I.tok _)
 ·subst ey;cases (show u=WT b from ry);obtain⟨z,hd,xs,rel,dd⟩:=mq I.hok e;refine wpAny_in_heap (Yz hu) (jq I.hok eb) hd dd ?_;have q:=(rel.val k).isSome_eq;rw[aax] at q;rw[<-q,<-l];exact h _ (I.tok _)
theorem Iq{Q:Value->We->Prop}(hu:A.units+1<cLine)(I:Inv X f8 σ H s)(g:lK H a y o)(ry:RelV y u)(h:∀s',Inv X f8 σ H s'->Q (.bool (!o.isSome)) s'):
 wpAny (model X.prog X.w) A (Xh .NotIn u (.ref a)) Q E s:=by
 rcases g with⟨aI,k,e,ey,l⟩ | ⟨aI,k,b,e,ey,eb,l⟩
 ·subst ey;obtain⟨z,hd,vs,rel,dd⟩:=ph I.hok e;refine wpAny_notIn_of (pz ry) hd dd.mapOf ?_;rw[<-(rel.val k).isSome_eq,<-l];exact h _ (I.tok _)
 ·subst ey;cases (show u=WT b from ry);obtain⟨z,hd,xs,rel,dd⟩:=mq I.hok e;refine wpAny_notIn_heap (Yz hu) (jq I.hok eb) hd dd ?_;have q:=(rel.val k).isSome_eq;rw[aax] at q;rw[<-q,<-l];exact h _ (I.tok _)
theorem mn{h':Heap}{t':Nat}{ob:HO}(I:Inv X f8 σ H s)(mu:N3 (H a))(hs:Yj a s.heap h')(he:∃q,h'.get? a=some q)(new:ObjOk X.prog X.w (upd H a ob) h' a ob):
 Inv X f8 σ (upd H a ob) {s with heap:=h',toks:=t'}:=
 I.write (x:=a) (e:=a) mu (.inl rfl) (λb q hb z=>(hs.2 b hb).trans z) he new
theorem Fq{P:WQ}{w:World}{H':Hp}{h':Heap}{aI:List (Key×V)}{vs:List (Key×Value)}(z:aI.length<=WB)(hd:(a==XQ)=false)(rel:KV aI vs)(dd:h'.DictOf (bp P w) a vs):
 ObjOk P w H' h' a (.dK aI):=⟨z,hd,vs,rel,dd⟩
theorem DI{H':Hp}{Q:Unit->We->Prop}(hu:A.units+1<cLine)(I:Inv X f8 σ H s)(g:DPut H a y v H')(ry:RelV y u)(rv:RelV v r)(h:∀s',Inv X f8 σ H' s'->Q () s'):
 wpAny (model X.prog X.w) A (setItem (.ref a) u r) Q E s:=by
 rcases g with⟨aI,k,e,ey,l,eH⟩ | ⟨aI,k,b,e,ey,eb,l,eH⟩
 ·subst ey eH;obtain⟨z,hd,vs,rel,dd⟩:=KA I.hok e;have hz:vs.length<=WB:=by rw[<-rel.length];exact z
  have hl:(putK aI k v).length<=WB:=by have:=gf aI k v;omega
  refine wpAny_setItem_pairs (hsz:=hz) (pz ry) dd λh' DJ hs=>h _ ?_;have he:∃q,h'.get? a=some q:=let ⟨q,_,_,hq,_⟩:=DJ;⟨q,hq⟩
  exact mn I (by rw[e];exact XH) hs he (Fq hl hd (rel.put k rv) DJ)
 ·subst ey eH;cases (show u=WT b from ry);obtain⟨z,hd,xs,rel,dd⟩:=Fs I.hok e;have hz:xs.length<=WB:=by rw[<-Yi rel];exact z
  have hl:(putK aI k v).length<=WB:=by have:=gf aI k v;omega
  refine wpAny_setItem_heap (hsz:=hz) (Yz hu) (jq I.hok eb) dd λh' DJ hs=>h _ ?_;obtain⟨q,es,ep,hq,h2,h3,h4,_,h5⟩:=DJ;refine mn I (by rw[e];exact XH) hs ⟨q,hq⟩ ⟨hl,hd,_,(rel.put k eb rv).keeps λc ys ec=>?_,q,es,ep,hq,h2,h3,h4,h5⟩;rw[aE (Gj ec e (λz=>nomatch z))];exact ec
end
def Lg(i:Expr):Prop:=∀ov iv,subscripted i false ov iv=operate [ov,iv] (aal ov iv)
theorem Kl{prog:WQ}{w:World}{A:WX}{E:Value->We->Prop}{s:We}{env:Env}{value slice:Expr}{pos:Pos}{T id:String}{Q:Value->We->Prop}
 (hl:aat (.type T) "__getitem__"=pure (some (.builtin id)))(hs:Lg slice)
 (h:wpAny (model prog w) A (eval value env) (λo P3=>wpAny (model prog w) A (eval slice env) (λi v4=>v4.TypeIs o T/\wpAny (model prog w) A (aal o i) Q E v4) E P3) E s):
 wpAny (model prog w) A (eval (.Subscript value slice pos) env) Q E s:=by
 refine Subscript_ (Xp h (λo P3 h₁=>Xp h₁ (λi v4 h₂=>?_) λ_ _ x=>x) λ_ _ x=>x);obtain⟨hT,h₂⟩:=h₂;unfold acb;refine Wb ?_;rw[getitemInPython_of_ne hT.not_modules];refine Wb (abC hT hl ?_);have fin:wpAny (model prog w) A (subscripted slice false o i) (λr s₃=>wpAny (model prog w) A (letTemporaryGo value o r>>=λ_=>pure r) Q E s₃) E v4:=by
  rw[hs o i];exact wpAny_operating (Xp h₂ (λr s₃ h₃=>Wb (wpAny_letTemporaryGo (Wk h₃))) λ_ _ x=>x)
 first
  |exact Wk (Wb fin)
  |exact Wb (Wk (Wb fin))
  |exact Wb fin
theorem yM{X:Cx}{f8:List (Addr×Obj)}{σ:St}{H:Hp}{s:We}{a:Addr}{y:V}{o:Option V}(I:Inv X f8 σ H s)(g:lK H a y o):s.TypeIs (.ref a) "dict":=by
 rcases g with⟨aI,k,e,_,_⟩ | ⟨aI,k,b,e,_,_,_⟩
 ·obtain⟨_,_,vs,_,dd⟩:=ph I.hok e;exact dd.typeIs
 ·obtain⟨_,_,xs,_,dd⟩:=mq I.hok e;exact dd.typeIs
def P4(td ty:TE):TE:=λσ H Q=>td σ H λx H1=>ty σ H1 λy H2=>∃a v,x= .ref a/\lK H2 a y (some v)/\Q v H2
def R_(ty td:TE):TE:=λσ H Q=>ty σ H λy H1=>td σ H1 λx H2=>∃a o,x= .ref a/\lK H2 a y o/\Q (.bl o.isSome) H2
def PV(td ty tv:TE):TS:=λD σ H=>tv σ H λv H1=>td σ H1 λx H2=>ty σ H2 λy H3=>∃a H4,x= .ref a/\DPut H3 a y v H4/\D.nx σ H4
section
variable{X:Cx}{o i value:Expr}{pos pos':Pos}{td ty tv:TE}
theorem JM(hu:X.A.units+1<cLine)(ho:PE X o td)(hi:PE X i ty)(hs:Lg i):PE X (.Subscript o i pos) (P4 td ty):=by
 intro f8 s σ H Q I h;refine Kl PySem.F.slot_dict_getitem.lookup hs (cV (ho f8 s σ H _ I h) λu s1 ⟨x,H1,I1,rx,q1⟩=>cV (hi f8 s1 σ H1 _ I1 q1) λiv s2 ⟨y,H2,I2,ry,a,v,ex,g,q2⟩=>?_);subst ex;obtain rfl:u=WT a:=rx;exact⟨yM I2 g,DH hu I2 g ry λw' s3 I3 Aw=>⟨v,H2,I3,Aw,q2⟩⟩
theorem MQ(hu:X.A.units+1<cLine)(hi:PE X i ty)(ho:PE X o td):PC X .In i o (R_ ty td):=by
 intro f8 s σ H Q I h;refine cV (hi f8 s σ H _ I h) λiv s1 ⟨y,H1,I1,ry,q1⟩=>cV (ho f8 s1 σ H1 _ I1 q1) λu s2 ⟨x,H2,I2,rx,a,ov,ex,g,q2⟩=>?_;subst ex;obtain rfl:u=WT a:=rx;exact Ob hu I2 g ry λs3 I3=>⟨.bl ov.isSome,H2,I3,rfl,q2⟩
theorem JT(hu:X.A.units+1<cLine)(ho:PE X o td)(hi:PE X i ty)(hv:PE X value tv)(hs:ZU value (some (.Subscript o i pos')) pos.line X.env=pure false):
 PS X (.Assign [.Subscript o i pos'] value pos) (PV td ty tv):=by
 intro f8 s σ H D I h;refine wpAny_Assign_Subscript (cV (hv f8 s σ H _ I h) λr s1 ⟨v,H1,I1,rv,q1⟩=>cV (ho f8 s1 σ H1 _ I1 q1) λu s2 ⟨x,H2,I2,rx,q2⟩=>cV (hi f8 s2 σ H2 _ I2 q2) λiv s3 ⟨y,H3,I3,ry,a,H4,ex,g,q3⟩=>?_) hs;subst ex;obtain rfl:u=WT a:=rx;exact DI hu I3 g ry rv λs4 I4=>⟨σ,H4,I4,q3⟩
end
theorem Fp{P:WQ}{w:World}{H:Hp}(h:Heap)(hb:XQ<h.objs.size):ObjOk P w H (h.push {cls:= .type "dict",data:= .dict #[]}) h.objs.size (.dK []):=
 ⟨Xe _,acG.mpr (Xq (WS hb)),[], .nil,Heap.DictOf.new h⟩
theorem yP{P:WQ}{w:World}{H:Hp}(h:Heap)(hb:XQ<h.objs.size):ObjOk P w H (h.push {cls:= .type "dict",data:= .dict #[]}) h.objs.size (.dT []):=
 ⟨Xe _,acG.mpr (Xq (WS hb)),[], .nil,_,#[],0,WA _ rfl,⟨rfl,rfl,rfl⟩,rfl,rfl,YM⟩
def NC:TE:=λ_ H Q=>∀p,H p=none->Q (.ref p) (upd H p (.dT []))
section
variable{X:Cx}{pos:Pos}
theorem G0:PE X (.Dict [] [] pos) NC:=λf8 s σ H Q I h=>
 wpAny_Dict_empty ⟨.ref s.heap.objs.size,_,I.laid (a:=s.heap.objs.size) (o:= .dT []) (t':=s.toks) (λ_ _ q=>Wg _ q) (Wr _) (yP s.heap I.big),rfl,h _ (I.hok.fresh (Wr _))⟩
end
def Hz:List (TE×TE)->St->Hp->(List (V×V)->Hp->Prop)->Prop
 |[],_,H,Q=>Q [] H
 |(tk,tv)::r,σ,H,Q=>tk σ H λx H1=>tv σ H1 λy H2=>Hz r σ H2 λps H3=>Q ((x,y)::ps) H3
abbrev VV:List (V×V)->List (Value×Value)->Prop:=aaL λp q=>RelV p.1 q.1/\RelV p.2 q.2
def QG(X:Cx)(pos:Pos)(keys:List (Option Expr))(values:List Expr)(QA:List (TE×TE)):Prop:=
 ∀(f8:List (Addr×Obj)) (s:We) (σ:St) (H:Hp) (Q:List (V×V)->Hp->Prop),Inv X f8 σ H s->Hz QA σ H Q->
  wpAny (model X.prog X.w) X.A (evalPairs (pairTrees keys values X.env pos)) (λvs s'=>∃ps H',Inv X f8 σ H' s'/\VV ps vs/\Q ps H') X.xe s
theorem JQ{X:Cx}{pos:Pos}:QG X pos [] [] []:=λf8 s σ H Q I h=>pairTrees_nil_walk ⟨[],H,I, .nil,h⟩
theorem G5{X:Cx}{pos:Pos}{k v:Expr}{ks:List (Option Expr)}{vs:List Expr}{tk tv:TE}{QA:List (TE×TE)}(hk:PE X k tk)(hv:PE X v tv)(hr:QG X pos ks vs QA):
 QG X pos (some k::ks) (v::vs) ((tk,tv)::QA):=λf8 s σ H Q I h=>
 pairTrees_cons_walk (cV (hk f8 s σ H _ I h) λu s1 ⟨x,H1,I1,rx,q1⟩=>cV (hv f8 s1 σ H1 _ I1 q1) λw2 s2 ⟨y,H2,I2,ry,q2⟩=>
  cV (hr f8 s2 σ H2 _ I2 q2) λws s3 ⟨ps,H3,I3,rel,q3⟩=>⟨(x,y)::ps,H3,I3, .cons ⟨rx,ry⟩ rel,q3⟩)
structure M1 (X:Cx) (o:Expr) (m:Str) (W1:Pos) (e:Expr) (bz:Pos):Prop where
 base:Yr o m X.env (eval o X.env)=eval o X.env
 few:((X2 bz (Wt [e] X.env)).all (λx=>!x.1)&&(ZN bz (YI [] X.env)).all (λx=>x.1.isSome)
  &&decide (([e]:List Expr).length+([]:List YS).length+(if ([]:List YS).isEmpty then 0 else 1)<30))=true
 line:(W1.endLine==bz.line)=true
 trees:X2 bz (Wt [e] X.env)=[(false,eval e X.env)]
structure M2 (X:Cx) (o:Expr) (m:Str) (W1:Pos) (e f:Expr) (bz:Pos):Prop where
 base:Yr o m X.env (eval o X.env)=eval o X.env
 few:((X2 bz (Wt [e,f] X.env)).all (λx=>!x.1)&&(ZN bz (YI [] X.env)).all (λx=>x.1.isSome)
  &&decide (([e,f]:List Expr).length+([]:List YS).length+(if ([]:List YS).isEmpty then 0 else 1)<30))=true
 line:(W1.endLine==bz.line)=true
 trees:X2 bz (Wt [e,f] X.env)=[(false,eval e X.env),(false,eval f X.env)]
def NZ(H:Hp)(a:Addr):Prop:=(∃aI,Rd H a (.dK aI))\/∃aI,Rd H a (.dT aI)
theorem A4{X:Cx}{f8:List (Addr×Obj)}{σ:St}{H:Hp}{s:We}{a:Addr}(I:Inv X f8 σ H s)(d:NZ H a):
 s.TypeIs (.ref a) "dict"/\(∀b,WT a= .ref b->∃ob,s.heap.get? b=some ob/\ob.dict=none)/\(a==XQ)=false:=by
 rcases d with⟨aI,e⟩ | ⟨aI,e⟩
 ·obtain⟨_,hd,vs,_,dd⟩:=ph I.hok e;refine⟨dd.typeIs,λb q=>?_,hd⟩;cases q;obtain⟨ob,_,_,h1,h2,_⟩:=dd;exact⟨ob,h1,h2.2.1⟩
 ·obtain⟨_,hd,xs,_,dd⟩:=mq I.hok e;refine⟨dd.typeIs,λb q=>?_,hd⟩;cases q;obtain⟨ob,_,_,h1,h2,_⟩:=dd;exact⟨ob,h1,h2.2.1⟩
section
variable{X:Cx}{f8:List (Addr×Obj)}{σ:St}{H:Hp}{s:We}{a:Addr}{y d:V}{u r:Value}{o:Option V}{A:WX}{E:Value->We->Prop}
theorem Lv{Q:Value->We->Prop}(hu:A.units+1<cLine)(I:Inv X f8 σ H s)(g:lK H a y o)(ry:RelV y u)(h:∀w' s',Inv X f8 σ H s'->RelV (o.getD .non) w'->Q w' s'):
 wpAny (model X.prog X.w) A (call (.builtin "dict.get") [.ref a,u]) Q E s:=by
 rcases g with⟨aI,k,e,ey,l⟩ | ⟨aI,k,b,e,ey,eb,l⟩
 ·subst ey;obtain⟨z,hd,vs,rel,dd⟩:=ph I.hok e;refine abl X4 dd.typeIs YW (abc _ _) (meets_dict_get (bp X.prog X.w) a (pz ry) hd) ⟨_,dd.mapOf,h _ _ (I.tok _) ?_⟩;rw[l];exact(rel.val k).getD rfl
 ·subst ey;cases (show u=WT b from ry);obtain⟨z,hd,xs,rel,dd⟩:=mq I.hok e;refine abl X4 dd.typeIs YW (abc _ _) (meetsH_dict_get (Ye (bp X.prog X.w)) a b hd) ⟨Yz hu,k,xs,jq I.hok eb,dd,h _ _ (I.tok _) ?_⟩;rw[l];exact(rel.val k).getD rfl
theorem Lw{Q:Value->We->Prop}(hu:A.units+1<cLine)(I:Inv X f8 σ H s)(g:lK H a y o)(ry:RelV y u)(rd:RelV d r)(h:∀w' s',Inv X f8 σ H s'->RelV (o.getD d) w'->Q w' s'):
 wpAny (model X.prog X.w) A (call (.builtin "dict.get") [.ref a,u,r]) Q E s:=by
 rcases g with⟨aI,k,e,ey,l⟩ | ⟨aI,k,b,e,ey,eb,l⟩
 ·subst ey;obtain⟨z,hd,vs,rel,dd⟩:=ph I.hok e;refine abl X4 dd.typeIs YW (abb _ _ _) (meets_dict_get_default (bp X.prog X.w) a (pz ry) hd r) ⟨_,dd.mapOf,h _ _ (I.tok _) ?_⟩;rw[l];exact(rel.val k).getD rd
 ·subst ey;cases (show u=WT b from ry);obtain⟨z,hd,xs,rel,dd⟩:=mq I.hok e;refine abl X4 dd.typeIs YW (abb _ _ _) (meetsH_dict_get_default (Ye (bp X.prog X.w)) a b hd r) ⟨Yz hu,k,xs,jq I.hok eb,dd,h _ _ (I.tok _) ?_⟩;rw[l];exact(rel.val k).getD rd
end
def NA(td ty:TE):TE:=λσ H Q=>td σ H λx H1=>∃a,x= .ref a/\NZ H1 a/\ty σ H1 λy H2=>∃o,lK H2 a y o/\Q (o.getD .non) H2
def NB(td ty tx:TE):TE:=λσ H Q=>td σ H λx H1=>∃a,x= .ref a/\NZ H1 a/\ty σ H1 λy H2=>tx σ H2 λz H3=>∃o,lK H3 a y o/\Q (o.getD z) H3
section
variable{X:Cx}{o e f:Expr}{W1 bz:Pos}{td ty tx:TE}
theorem GY(hu:X.A.units+1<cLine)(ho:PE X o td)(he:PE X e ty)(m:M1 X o "get" W1 e bz):PE X (.Call (.Attribute o "get" W1) [e] [] bz) (NA td ty):=by
 intro f8 s σ H Q I h;refine aa9 m.base m.few m.line ZE X4 abx (cV (ho f8 s σ H _ I h) λu s1 ⟨x,H1,I1,rx,a,ex,d,q1⟩=>?_);subst ex;obtain rfl:u=WT a:=rx;obtain⟨t1,t2,_⟩:=A4 I1 d;refine⟨t1,t2,?_⟩;rw[m.trees];refine Y7 rfl (YE (YV (cV (he f8 s1 σ H1 _ I1 q1) λiv s2 ⟨y,H2,I2,ry,ov,g,q2⟩=>ZG ?_)));exact Lv hu I2 g ry λw' s3 I3 Aw=>⟨_,H2,I3,Aw,q2⟩
theorem GZ(hu:X.A.units+1<cLine)(ho:PE X o td)(he:PE X e ty)(hf:PE X f tx)(m:M2 X o "get" W1 e f bz):PE X (.Call (.Attribute o "get" W1) [e,f] [] bz) (NB td ty tx):=by
 intro f8 s σ H Q I h;refine aa9 m.base m.few m.line ZE X4 abx (cV (ho f8 s σ H _ I h) λu s1 ⟨x,H1,I1,rx,a,ex,d,q1⟩=>?_);subst ex;obtain rfl:u=WT a:=rx;obtain⟨t1,t2,_⟩:=A4 I1 d;refine⟨t1,t2,?_⟩;rw[m.trees];refine Y7 rfl (YE (YV (cV (he f8 s1 σ H1 _ I1 q1) λiv s2 ⟨y,H2,I2,ry,q2⟩=>
  YV (cV (hf f8 s2 σ H2 _ I2 q2) λfv s3 ⟨z,H3,I3,rz,ov,g,q3⟩=>ZG ?_))))
 exact Lw hu I3 g ry rz λw' s4 I4 Aw=>⟨_,H3,I4,Aw,q3⟩
end
end L2
namespace L3
open PySem PySem.Spec L2
open PyProof.Rows hiding St
inductive Rs (α:Type) where
 |ok (a:α) | ex (n:Nat)
def M(α:Type):=Option (Rs α)
def ae{α:Type}(a:α):M α:=some (.ok a)
def M.bind{α β:Type}(m:M α)(k:α->M β):M β:=match m with
 |none=>none
 |some (.ex n)=>some (.ex n)
 |some (.ok a)=>k a
def ah{α:Type}:M α:=none
def a8{α:Type}(n:Nat):M α:=some (.ex n)
instance:Monad M where
 pure:=ae
 bind:=M.bind
@[simp] theorem ay{α β:Type}(a:α)(k:α->M β):(ae a>>=k)=k a:=rfl
@[simp] theorem Lm{α β:Type}(a:α)(k:α->M β):((pure a:M α)>>=k)=k a:=rfl
@[simp] theorem Lo{α β:Type}(n:Nat)(k:α->M β):(a8 n>>=k)=a8 n:=rfl
@[simp] theorem Lp{α β:Type}(k:α->M β):((ah:M α)>>=k)=ah:=rfl
theorem M.cs{α:Type}(m:M α):m=ah\/(∃n,m=a8 n)\/∃a,m=ae a:=by
 match m with
 |none=>exact .inl rfl
 |some (.ex n)=>exact .inr (.inl ⟨n,rfl⟩)
 |some (.ok a)=>exact .inr (.inr ⟨a,rfl⟩)
theorem iw{α:Type}{a b:α}(h:ae a=ae b):a=b:=by
 have h:some (Rs.ok a)=some (Rs.ok b):=h;cases h;rfl
theorem kD{α:Type}{a:α}(h:ah=ae a):False:=by
 have h:none=some (Rs.ok a):=h;cases h
theorem Hg{α:Type}{n:Nat}{a:α}(h:a8 n=ae a):False:=by
 have h:some (Rs.ex n)=some (Rs.ok a):=h;cases h
theorem je{α β:Type}{m:M α}{k:α->M β}{r:β}(h:(m>>=k)=ae r):∃a,m=ae a/\k a=ae r:=by
 rcases m.cs with e | ⟨n,e⟩ | ⟨a,e⟩
 ·subst e;exact(kD h).elim
 ·subst e;exact(Hg h).elim
 ·subst e;exact⟨a,rfl,h⟩
def BV(h:Heap)(ea D:Addr):Prop:=∃ox,h.get? ea=some ox/\ox.cls= .ref D
def Lf(ea D:Addr):HO:= .ext λh=>BV h ea D
inductive D where
 |non | bl (b:Bool) | int (i:Int) | str (x:Str) | raw (v:V) | exc (C:Addr) | scr (l:List Int) | tup (l:List D) | lst (l:List D)
 |dct (ks:List (List Key)) (l:List D) | dci (ks:List Key) (l:List D)
instance:Inhabited D:=⟨.non⟩
def lim:Nat:=4096
theorem er:lim<WB:=by rw[Yq];decide
mutual
def Den(K:Wn)(F:Hp):D->V->Prop
 | .non,v=>v= .non
 | .bl b,v=>v= .bl b
 | .int i,v=>v= .int i
 | .str x,v=>v= .str x/\x.length<=lim
 | .raw u,v=>v=u
 | .exc C,v=>∃ea,v= .ref ea/\F ea=some (Lf ea C)
 | .scr ns,v=>∃a,v= .ref a/\SqL K F a (ns.map V.int)/\ns.length<=lim
 | .tup ds,v=>∃a vs,v= .ref a/\F a=some (.tup vs)/\DenL K F ds vs/\ds.length<=lim
 | .lst ds,v=>∃a vs,v= .ref a/\F a=some (.lst vs)/\DenL K F ds vs/\ds.length<=lim
 | .dct ks ds,v=>∃a ob vs,v= .ref a/\F a=some (.frz ob (.dT (ks.zip vs)))/\DenL K F ds vs/\ks.length=ds.length/\ds.length<=lim
 | .dci ks ds,v=>∃a ob vs,v= .ref a/\F a=some (.frz ob (.dK (ks.zip vs)))/\DenL K F ds vs/\ks.length=ds.length/\ds.length<=lim
def DenL(K:Wn)(F:Hp):List D->List V->Prop
 |[],vs=>vs=[]
 |d::ds,vs=>∃v r,vs=v::r/\Den K F d v/\DenL K F ds r
end
theorem Same.rd{H H':Hp}{a:Addr}{u:HO}(e:Same H H')(h:Rd H a u):Rd H' a u:=by
 rcases h with h | ⟨o,h⟩
 ·exact .inl (e _ _ h)
 ·exact .inr ⟨o,e _ _ h⟩
theorem Same.tup{K:Wn}{H H':Hp}{a:Addr}{xs:List V}(e:Same H H')(h:SqT K H a xs):SqT K H' a xs:=by
 rcases h with h | h
 ·exact .inl (Same.rd e h)
 ·exact .inr h
section
variable{K:Wn}{F F':Hp}
mutual
theorem Den.mono(e:Same F F'):∀{d:D}{v:V},Den K F d v->Den K F' d v
 | .non,_,h=>h
 | .bl _,_,h=>h
 | .int _,_,h=>h
 | .str _,_,h=>h
 | .raw _,_,h=>h
 | .exc _,_,⟨a,h1,h2⟩=>⟨a,h1,e _ _ h2⟩
 | .scr _,_,⟨a,h1,h2,h3⟩=>⟨a,h1,Same.seq e h2,h3⟩
 | .tup _,_,⟨a,vs,h1,h2,h3,h4⟩=>⟨a,vs,h1,e _ _ h2,DenL.mono e h3,h4⟩
 | .lst _,_,⟨a,vs,h1,h2,h3,h4⟩=>⟨a,vs,h1,e _ _ h2,DenL.mono e h3,h4⟩
 | .dct _ _,_,⟨a,ob,vs,h1,h2,h3,h4⟩=>⟨a,ob,vs,h1,e _ _ h2,DenL.mono e h3,h4⟩
 | .dci _ _,_,⟨a,ob,vs,h1,h2,h3,h4⟩=>⟨a,ob,vs,h1,e _ _ h2,DenL.mono e h3,h4⟩
theorem DenL.mono(e:Same F F'):∀{ds:List D}{vs:List V},DenL K F ds vs->DenL K F' ds vs
 |[],_,h=>h
 |_::_,_,⟨v,r,h1,h2,h3⟩=>⟨v,r,h1,Den.mono e h2,DenL.mono e h3⟩
end
theorem DenL.nil:DenL K F [] []:=rfl
theorem DenL.cons{d:D}{v:V}{ds:List D}{vs:List V}(h:Den K F d v)(r:DenL K F ds vs):DenL K F (d::ds) (v::vs):=⟨v,vs,rfl,h,r⟩
theorem DenL.len:∀{ds:List D}{vs:List V},DenL K F ds vs->ds.length=vs.length
 |[],_,h=>by cases (show _=_ from h);rfl
 |_::ds,_,⟨v,r,h1,_,h3⟩=>by subst h1;rw[Wl,Wl,DenL.len h3]
theorem DenL.get:∀{ds:List D}{vs:List V}{i:Nat}{d:D},DenL K F ds vs->ds[i]? =some d->∃v,vs[i]? =some v/\Den K F d v
 |[],_,_,_,_,e=>by simp at e
 |d::ds,_,0,_,⟨v,r,h1,h2,h3⟩,e=>by subst h1;simp at e;subst e;exact⟨v,rfl,h2⟩
 |d::ds,_,i+1,_,⟨v,r,h1,h2,h3⟩,e=>by
  subst h1;obtain⟨w,e1,e2⟩:=DenL.get (i:=i) h3 (by simpa using e);exact⟨w,by simpa using e1,e2⟩
theorem DenL.at:∀{ds:List D}{vs:List V}{i:Nat}{v:V},DenL K F ds vs->vs[i]? =some v->∃d,ds[i]? =some d/\Den K F d v
 |[],_,_,_,h,e=>by cases (show _=_ from h);simp at e
 |d::ds,_,0,_,⟨v,r,h1,h2,h3⟩,e=>by subst h1;simp at e;subst e;exact⟨d,rfl,h2⟩
 |d::ds,_,i+1,_,⟨v,r,h1,h2,h3⟩,e=>by
  subst h1;obtain⟨w,e1,e2⟩:=DenL.at (i:=i) h3 (by simpa using e);exact⟨w,by simpa using e1,e2⟩
theorem DenL.append:∀{ds es:List D}{vs ws:List V},DenL K F ds vs->DenL K F es ws->DenL K F (ds++es) (vs++ws)
 |[],_,_,_,h,h'=>by cases (show _=_ from h);exact h'
 |d::ds,_,_,_,⟨v,r,h1,h2,h3⟩,h'=>by subst h1;exact⟨v,_,rfl,h2,DenL.append h3 h'⟩
theorem DenL.take:∀{ds:List D}{vs:List V}(n:Nat),DenL K F ds vs->DenL K F (ds.take n) (vs.take n)
 |_,_,0,_=>by simp[List.take];rfl
 |[],_,_+1,h=>by cases (show _=_ from h);rfl
 |d::ds,_,n+1,⟨v,r,h1,h2,h3⟩=>by subst h1;exact⟨v,_,rfl,h2,DenL.take n h3⟩
theorem DenL.drop:∀{ds:List D}{vs:List V}(n:Nat),DenL K F ds vs->DenL K F (ds.drop n) (vs.drop n)
 |_,_,0,h=>by simpa using h
 |[],_,_+1,h=>by cases (show _=_ from h);rfl
 |d::ds,_,n+1,⟨v,r,h1,h2,h3⟩=>by subst h1;exact DenL.drop n h3
theorem DenL.ints(ns:List Int):DenL K F (ns.map D.int) (ns.map V.int):=by
 induction ns with
 |nil=>rfl
 |cons n ns ih=>exact .cons rfl ih
end
structure Ext (F H F' H':Hp):Prop where
 hh:Same H H'
 ff:Same F F'
 fh:Same F' H'
 new:∀a,H a≠none->F' a=F a\/∃ts,H a=some (.tup ts)
theorem Ext.old{F H F' H':Hp}(e:Ext F H F' H'){a:Addr}{o:HO}(h:H a=some o)(hn:∀ts,o≠ .tup ts):F' a=F a:=by
 rcases e.new a (by rw[h];exact λz=>nomatch z) with q | ⟨ts,q⟩
 ·exact q
 ·rw[h] at q;cases q;exact acE rfl (hn ts)
theorem Ext.refl{F H:Hp}(h:Same F H):Ext F H F H:=⟨Same.refl _,Same.refl _,h,λ_ _=> .inl rfl⟩
theorem Ext.trans{F H F' H' F'' H'':Hp}(a:Ext F H F' H')(b:Ext F' H' F'' H''):Ext F H F'' H'':=
 ⟨a.hh.trans b.hh,a.ff.trans b.ff,b.fh,λc hc=>by
  have:H' c≠none:=by
   cases q:H c with
   |none=>exact acE q hc
   |some o=>rw[a.hh c o q];exact λz=>nomatch z
  rcases a.new c hc with p | p
  ·rcases b.new c this with q | ⟨ts,q⟩
   ·exact .inl (q.trans p)
   ·cases z:H c with
    |none=>exact acE z hc
    |some o=>
     rw[a.hh c o z] at q;exact .inr ⟨ts,q⟩
  ·exact .inr p⟩
theorem Ext.lay{F H:Hp}{a:Addr}{o:HO}(h:Same F H)(n:H a=none):Ext F H (upd F a o) (upd H a o):=by
 have nf:F a=none:=Same.free h n;refine⟨λb u e=>?_,λb u e=>?_,λb u e=>?_,λb hb=>?_⟩
 ·rw[aE (cU e n)];exact e
 ·rw[aE (cU e nf)];exact e
 ·by_cases q:b=a
  ·subst q;rw[aQ] at e⊢;exact e
  ·rw[aE q] at e⊢;exact h b u e
 ·exact .inl (aE λz=>hb (by rw[z];exact n))
theorem Ext.free{F H:Hp}{a:Addr}{o:HO}(h:Same F H)(n:H a=none):Ext F H F (upd H a o):=
 ⟨λb u e=>by rw[aE (cU e n)];exact e,Same.refl _,λb u e=>by rw[aE (cU (h b u e) n)];exact h b u e,λ_ _=> .inl rfl⟩
theorem Ext.tup{F H:Hp}{a:Addr}{ts:List V}(h:Same F H)(e:H a=some (.tup ts)):Ext F H (upd F a (.tup ts)) H:=by
 refine⟨Same.refl _,λb u q=>?_,λb u q=>?_,λb hb=>?_⟩
 ·by_cases z:b=a
  ·subst z;rw[aQ,<-e];exact h b u q
  ·rw[aE z];exact q
 ·by_cases z:b=a
  ·subst z;rw[aQ] at q;rw[e];exact q
  ·rw[aE z] at q;exact h b u q
 ·by_cases z:b=a
  ·subst z;exact .inr ⟨ts,e⟩
  ·exact .inl (aE z)
def WP(K:Wn)(Xw:Nat->Hp->Prop)(F H:Hp)(m:M D)(Q:VK):Prop:=
 match m with
 |none=>False
 |some (.ok d)=>∀v H' F',Ext F H F' H'->Den K F' d v->Q v H'
 |some (.ex n)=>∀F' H',Ext F H F' H'->Xw n H'
def WPL(K:Wn)(Xw:Nat->Hp->Prop)(F H:Hp)(m:M (List D))(Q:List V->Hp->Prop):Prop:=
 match m with
 |none=>False
 |some (.ok ds)=>∀vs H' F',Ext F H F' H'->DenL K F' ds vs->Q vs H'
 |some (.ex n)=>∀F' H',Ext F H F' H'->Xw n H'
def WPB(Xw:Nat->Hp->Prop)(F H:Hp)(m:M Bool)(Q:Bool->Hp->Prop):Prop:=
 match m with
 |none=>False
 |some (.ok b)=>∀H' F',Ext F H F' H'->Q b H'
 |some (.ex n)=>∀F' H',Ext F H F' H'->Xw n H'
section
variable{K:Wn}{Xw:Nat->Hp->Prop}{F F' H H':Hp}{Q:VK}
theorem WP.ext{m:M D}(e:Ext F H F' H')(h:WP K Xw F H m Q):WP K Xw F' H' m Q:=by
 match m,h with
 |none,h=>exact h
 |some (.ok d),h=>exact λv H2 F2 e2 q=>h v H2 F2 (e.trans e2) q
 |some (.ex n),h=>exact λF2 H2 e2=>h F2 H2 (e.trans e2)
theorem WPL.ext{m:M (List D)}{Q:List V->Hp->Prop}(e:Ext F H F' H')(h:WPL K Xw F H m Q):WPL K Xw F' H' m Q:=by
 match m,h with
 |none,h=>exact h
 |some (.ok d),h=>exact λv H2 F2 e2 q=>h v H2 F2 (e.trans e2) q
 |some (.ex n),h=>exact λF2 H2 e2=>h F2 H2 (e.trans e2)
theorem WPB.ext{m:M Bool}{Q:Bool->Hp->Prop}(e:Ext F H F' H')(h:WPB Xw F H m Q):WPB Xw F' H' m Q:=by
 match m,h with
 |none,h=>exact h
 |some (.ok d),h=>exact λH2 F2 e2=>h H2 F2 (e.trans e2)
 |some (.ex n),h=>exact λF2 H2 e2=>h F2 H2 (e.trans e2)
theorem WP.fin{d:D}{v:V}(h:WP K Xw F H (ae d) Q)(e:Ext F H F' H')(q:Den K F' d v):Q v H':=h v H' F' e q
theorem WP.now{d:D}{v:V}(h:WP K Xw F H (ae d) Q)(s:Same F H)(q:Den K F d v):Q v H:=h v H F (Ext.refl s) q
theorem WP.bind{m:M D}{k:D->M D}(h:WP K Xw F H (m>>=k) Q):WP K Xw F H m λv H1=>∃F1 d,Ext F H F1 H1/\Den K F1 d v/\WP K Xw F1 H1 (k d) Q:=by
 match m,h with
 |none,h=>exact h
 |some (.ok d),h=>exact λv H2 F2 e2 q=>⟨F2,d,e2,q,WP.ext e2 (show WP K Xw F H (k d) Q from h)⟩
 |some (.ex n),h=>exact h
theorem WP.bindL{m:M (List D)}{k:List D->M D}(h:WP K Xw F H (m>>=k) Q):WPL K Xw F H m λvs H1=>∃F1 ds,Ext F H F1 H1/\DenL K F1 ds vs/\WP K Xw F1 H1 (k ds) Q:=by
 match m,h with
 |none,h=>exact h
 |some (.ok d),h=>exact λv H2 F2 e2 q=>⟨F2,d,e2,q,WP.ext e2 (show WP K Xw F H (k d) Q from h)⟩
 |some (.ex n),h=>exact h
theorem WP.bindB{m:M Bool}{k:Bool->M D}(h:WP K Xw F H (m>>=k) Q):WPB Xw F H m λb H1=>∃F1,Ext F H F1 H1/\WP K Xw F1 H1 (k b) Q:=by
 match m,h with
 |none,h=>exact h
 |some (.ok d),h=>exact λH2 F2 e2=>⟨F2,e2,WP.ext e2 (show WP K Xw F H (k d) Q from h)⟩
 |some (.ex n),h=>exact h
theorem WPB.bind{m:M D}{k:D->M Bool}{Q:Bool->Hp->Prop}(h:WPB Xw F H (m>>=k) Q):WP K Xw F H m λv H1=>∃F1 d,Ext F H F1 H1/\Den K F1 d v/\WPB Xw F1 H1 (k d) Q:=by
 match m,h with
 |none,h=>exact h
 |some (.ok d),h=>exact λv H2 F2 e2 q=>⟨F2,d,e2,q,WPB.ext e2 (show WPB Xw F H (k d) Q from h)⟩
 |some (.ex n),h=>exact h
theorem WPB.bindB{m:M Bool}{k:Bool->M Bool}{Q:Bool->Hp->Prop}(h:WPB Xw F H (m>>=k) Q):WPB Xw F H m λb H1=>∃F1,Ext F H F1 H1/\WPB Xw F1 H1 (k b) Q:=by
 match m,h with
 |none,h=>exact h
 |some (.ok d),h=>exact λH2 F2 e2=>⟨F2,e2,WPB.ext e2 (show WPB Xw F H (k d) Q from h)⟩
 |some (.ex n),h=>exact h
theorem WPL.bind{m:M D}{k:D->M (List D)}{Q:List V->Hp->Prop}(h:WPL K Xw F H (m>>=k) Q):WP K Xw F H m λv H1=>∃F1 d,Ext F H F1 H1/\Den K F1 d v/\WPL K Xw F1 H1 (k d) Q:=by
 match m,h with
 |none,h=>exact h
 |some (.ok d),h=>exact λv H2 F2 e2 q=>⟨F2,d,e2,q,WPL.ext e2 (show WPL K Xw F H (k d) Q from h)⟩
 |some (.ex n),h=>exact h
theorem WPL.bindL{m:M (List D)}{k:List D->M (List D)}{Q:List V->Hp->Prop}(h:WPL K Xw F H (m>>=k) Q):WPL K Xw F H m λvs H1=>∃F1 ds,Ext F H F1 H1/\DenL K F1 ds vs/\WPL K Xw F1 H1 (k ds) Q:=by
 match m,h with
 |none,h=>exact h
 |some (.ok d),h=>exact λv H2 F2 e2 q=>⟨F2,d,e2,q,WPL.ext e2 (show WPL K Xw F H (k d) Q from h)⟩
 |some (.ex n),h=>exact h
theorem WP.mono{m:M D}{Q':VK}(h:WP K Xw F H m Q)(k:∀v H',Q v H'->Q' v H'):WP K Xw F H m Q':=by
 match m,h with
 |none,h=>exact h
 |some (.ok d),h=>exact λv H2 F2 e2 q=>k _ _ (h v H2 F2 e2 q)
 |some (.ex n),h=>exact h
theorem WPL.mono{m:M (List D)}{Q Q':List V->Hp->Prop}(h:WPL K Xw F H m Q)(k:∀v H',Q v H'->Q' v H'):WPL K Xw F H m Q':=by
 match m,h with
 |none,h=>exact h
 |some (.ok d),h=>exact λv H2 F2 e2 q=>k _ _ (h v H2 F2 e2 q)
 |some (.ex n),h=>exact h
theorem WPB.mono{m:M Bool}{Q Q':Bool->Hp->Prop}(h:WPB Xw F H m Q)(k:∀v H',Q v H'->Q' v H'):WPB Xw F H m Q':=by
 match m,h with
 |none,h=>exact h
 |some (.ok d),h=>exact λH2 F2 e2=>k _ _ (h H2 F2 e2)
 |some (.ex n),h=>exact h
end
inductive C where
 |lst (l:List D) | dct (ks:List (List Key)) (l:List D) | dci (ks:List Key) (l:List D)
def C.d:C->D
 | .lst ds=> .lst ds
 | .dct ks ds=> .dct ks ds
 | .dci ks ds=> .dci ks ds
inductive Sl where
 |fz (d:D) | ow (c:C)
abbrev bo:=List (Option Sl)
def DenC(K:Wn)(F:Hp):C->HO->Prop
 | .lst ds,o=>∃vs,o= .lst vs/\DenL K F ds vs/\ds.length<=lim
 | .dct ks ds,o=>∃vs,o= .dT (ks.zip vs)/\DenL K F ds vs/\ks.length=ds.length/\ds.length<=lim
 | .dci ks ds,o=>∃vs,o= .dK (ks.zip vs)/\DenL K F ds vs/\ks.length=ds.length/\ds.length<=lim
theorem DenC.mono{K:Wn}{F F':Hp}(e:Same F F'):∀{c:C}{o:HO},DenC K F c o->DenC K F' c o
 | .lst _,_,⟨vs,h1,h2,h3⟩=>⟨vs,h1,DenL.mono e h2,h3⟩
 | .dct _ _,_,⟨vs,h1,h2,h3⟩=>⟨vs,h1,DenL.mono e h2,h3⟩
 | .dci _ _,_,⟨vs,h1,h2,h3⟩=>⟨vs,h1,DenL.mono e h2,h3⟩
theorem DenC.notup{K:Wn}{F:Hp}:∀{c:C}{o:HO},DenC K F c o->∀ts,o≠ .tup ts
 | .lst _,_,⟨_,h1,_⟩,ts,z=>by rw[h1] at z;cases z
 | .dct _ _,_,⟨_,h1,_⟩,ts,z=>by rw[h1] at z;cases z
 | .dci _ _,_,⟨_,h1,_⟩,ts,z=>by rw[h1] at z;cases z
def qi(ob:Obj):HO->HO
 | .dT aI=> .frz ob (.dT aI)
 | .dK aI=> .frz ob (.dK aI)
 |o=>o
theorem DenC.den{K:Wn}{F F':Hp}{a:Addr}{ob:Obj}:∀{c:C}{o:HO},DenC K F c o->Same F F'->F' a=some (qi ob o)->Den K F' c.d (.ref a)
 | .lst _,_,⟨vs,h1,h2,h3⟩,e,q=>by subst h1;exact⟨a,vs,rfl,q,DenL.mono e h2,h3⟩
 | .dct _ _,_,⟨vs,h1,h2,h3⟩,e,q=>by subst h1;exact⟨a,ob,vs,rfl,q,DenL.mono e h2,h3⟩
 | .dci _ _,_,⟨vs,h1,h2,h3⟩,e,q=>by subst h1;exact⟨a,ob,vs,rfl,q,DenL.mono e h2,h3⟩
def DenO(K:Wn)(F H:Hp):Sl->V->Prop
 | .fz d,v=>Den K F d v
 | .ow c,v=>∃a o,v= .ref a/\H a=some o/\F a=none/\DenC K F c o
structure StE (K:Wn) (F H:Hp) (σ:St) (Z:bo):Prop where
 fh:Same F H
 den:∀(i:Nat) (sl:Sl),Z[i]? =some (some sl)->∃v,σ[i]? =some (some v)/\DenO K F H sl v
theorem DenO.ext{K:Wn}{F H F' H':Hp}(e:Ext F H F' H'):∀{sl:Sl}{v:V},DenO K F H sl v->DenO K F' H' sl v
 | .fz _,_,h=>Den.mono e.ff h
 | .ow _,_,⟨a,o,h1,h2,h3,h4⟩=>⟨a,o,h1,e.hh _ _ h2,by rw[e.old h2 h4.notup];exact h3,DenC.mono e.ff h4⟩
theorem StE.ext{K:Wn}{F H F' H':Hp}{σ:St}{Z:bo}(s:StE K F H σ Z)(e:Ext F H F' H'):StE K F' H' σ Z:=
 ⟨e.fh,λi sl q=>let ⟨v,h1,h2⟩:=s.den i sl q;⟨v,h1,h2.ext e⟩⟩
abbrev DE:=bo->M D
abbrev DT:=bo->M Bool
abbrev DA:=bo->M (List D)
def tD(K:Wn)(Xw:Nat->Hp->Prop)(δ:DE):TE:=λσ H Q=>∃F Z,StE K F H σ Z/\WP K Xw F H (δ Z) Q
def Sa(K:Wn)(Xw:Nat->Hp->Prop)(δ:DT):TT:=λσ H Q=>∃F Z,StE K F H σ Z/\WPB Xw F H (δ Z) Q
def TF(K:Wn)(Xw:Nat->Hp->Prop)(δ:DA):TA:=λσ H Q=>∃F Z,StE K F H σ Z/\WPL K Xw F H (δ Z) Q
def PD(X:Cx)(Xw:Nat->Hp->Prop)(e:Expr)(δ:DE):Prop:=PE X e (tD X.K Xw δ)
def qe(X:Cx)(Xw:Nat->Hp->Prop)(e:Expr)(δ:DT):Prop:=PT X e (Sa X.K Xw δ)
def kY(X:Cx)(Xw:Nat->Hp->Prop)(es:List Expr)(δ:DA):Prop:=PA X es (TF X.K Xw δ)
theorem PE.weak{X:Cx}{e:Expr}{t t':TE}(h:PE X e t)(k:∀σ H Q,t' σ H Q->t σ H Q):PE X e t':=λf8 s σ H Q I w=>h f8 s σ H Q I (k σ H Q w)
theorem PT.weak{X:Cx}{e:Expr}{t t':TT}(h:PT X e t)(k:∀σ H Q,t' σ H Q->t σ H Q):PT X e t':=λf8 s σ H Q I w=>h f8 s σ H Q I (k σ H Q w)
theorem PA.weak{X:Cx}{e:List Expr}{t t':TA}(h:PA X e t)(k:∀σ H Q,t' σ H Q->t σ H Q):PA X e t':=λpos f8 s σ H Q I w=>h pos f8 s σ H Q I (k σ H Q w)
def dV(i:Nat):DE:=λZ=>match Z[i]? with
 |some (some (.fz d))=>ae d
 |_=>ah
def dC(d:D):DE:=λ_=>ae d
def d1(g:D->M D)(a:DE):DE:=λZ=>a Z>>=g
def d2(g:D->D->M D)(a b:DE):DE:=λZ=>a Z>>=λx=>b Z>>=λy=>g x y
def aN:DA:=λ_=>ae []
def aC(a:DE)(r:DA):DA:=λZ=>a Z>>=λx=>r Z>>=λxs=>ae (x::xs)
def dA(g:List D->M D)(a:DA):DE:=λZ=>a Z>>=g
def EM:D->M Bool
 | .bl b=>ae b
 |_=>ah
def cE(a:DE):DT:=λZ=>a Z>>=EM
def lQ(a b:DT):DT:=λZ=>a Z>>=λx=>if x then b Z else ae false
def lR(a b:DT):DT:=λZ=>a Z>>=λx=>if x then ae true else b Z
def du(a:DT):DT:=λZ=>a Z>>=λx=>ae (!x)
def EN(c:DT)(a b:DE):DE:=λZ=>c Z>>=λx=>if x then a Z else b Z
def eX(a b:DE):DE:=λZ=>a Z>>=λx=>EM x>>=λc=>if c then b Z else ae (.bl false)
def Kw(a:DE):DE:=λZ=>a Z>>=λx=>EM x>>=λc=>ae (.bl (!c))
section
variable{X:Cx}{Xw:Nat->Hp->Prop}{a b:Expr}{δa δb:DE}{pos:Pos}
theorem af{i:Nat}{x:Str}(h:PE X (.Name x pos) (tm i)):PD X Xw (.Name x pos) (dV i):=PE.weak h λσ H Q ⟨F,Z,s,w⟩=>by
 unfold dV at w;split at w
 ·rename_i d e;obtain⟨v,h1,h2⟩:=s.den i _ e;exact⟨v,h1,WP.now w s.fh h2⟩
 ·exact w.elim
theorem i7{e:Expr}{d:D}{v:V}(h:PE X e (tC v))(hd:∀F,Den X.K F d v):PD X Xw e (dC d):=PE.weak h λσ H Q ⟨F,Z,s,w⟩=>WP.now w s.fh (hd F)
theorem au{i j}:PD X Xw (.Constant (.int i) j pos) (dC (.int i)):=i7 MZ λ_=>rfl
theorem fm{i j}:PD X Xw (.Constant (.bool i) j pos) (dC (.bl i)):=i7 Pk λ_=>rfl
theorem sG{j}:PD X Xw (.Constant .none j pos) (dC .non):=i7 M0 λ_=>rfl
theorem cJ{x j}(h:x.length<=lim:=by decide):PD X Xw (.Constant (.str x) j pos) (dC (.str x)):=i7 M7 λ_=>⟨rfl,h⟩
def yn(K:Wn)(r:R2)(g:D->D->M D):Prop:=∀(Xw:Nat->Hp->Prop) (F H:Hp) (x y:V) (dx dy:D) (Q:VK),Same F H->Den K F dx x->Den K F dy y->WP K Xw F H (g dx dy) Q->r x y H Q
theorem xZ{r:R2}{g:D->D->M D}(hg:yn X.K r g):∀σ H Q,tD X.K Xw (d2 g δa δb) σ H Q->P7 r (tD X.K Xw δa) (tD X.K Xw δb) σ H Q:=λσ H Q ⟨F,Z,s,w⟩=>by
 refine⟨F,Z,s,WP.mono (WP.bind w) λv H1 ⟨F1,d,e1,q1,w1⟩=>?_⟩;refine⟨F1,Z,s.ext e1,WP.mono (WP.bind w1) λu H2 ⟨F2,d',e2,q2,w2⟩=>?_⟩;exact hg Xw F2 H2 v u d d' Q e2.fh (Den.mono e2.ff q1) q2 w2
theorem nz{op:Operator}{r:R2}{g:D->D->M D}(ho:OpR X (Zd op) r)(hg:yn X.K r g)(ha:PD X Xw a δa)(hb:PD X Xw b δb):PD X Xw (.BinOp a op b pos) (d2 g δa δb):=
 PE.weak (Pl ho ha hb) (xZ hg)
theorem By{op:CmpOp}{r:R2}{g:D->D->M D}(ho:OpR X (Xh op) r)(hg:yn X.K r g)(ha:PD X Xw a δa)(hb:PD X Xw b δb)(hm:Xv op b=false:=by first | exact Gr _ | rfl):PD X Xw (.Compare a [op] [b] pos) (d2 g δa δb):=
 PE.weak (JL ho ha hb hm) (xZ hg)
theorem gz{op:CmpOp}{r:R2}{g:D->D->M D}(ho:OpR X (Xh op) r)(hg:yn X.K r g)(ha:PD X Xw a δa)(hb:PD X Xw b δb)(hm:Xv op b=false:=by first | exact Gr _ | rfl):qe X Xw (.Compare a [op] [b] pos) (cE (d2 g δa δb)):=
 PT.weak (JZ ho ha hb hm) λσ H Q ⟨F,Z,s,w⟩=>by
  refine xZ hg σ H _ ⟨F,Z,s,WP.mono (WPB.bind w) λv H1 ⟨F1,d,e1,q1,w1⟩=>?_⟩;cases d with
  |bl k=>exact⟨k,q1,w1 _ _ (Ext.refl e1.fh)⟩
  |_=>exact w1.elim
theorem CQ{r:R2}{g:D->D->M D}(hr:N1 X r)(hg:yn X.K r g)(ha:PD X Xw a δa)(hb:PD X Xw b δb)(hs:jc b:=by intro _ _;rfl):PD X Xw (.Subscript a b pos) (d2 g δa δb):=
 PE.weak (K9 hr ha hb hs) (xZ hg)
theorem ag:kY X Xw [] aN:=PA.weak sC λσ H Q ⟨F,Z,s,w⟩=>w [] H F (Ext.refl s.fh) rfl
theorem aa{es:List Expr}{δs:DA}(ha:PD X Xw a δa)(hr:kY X Xw es δs)(hs:Wt (a::es) X.env=(false,eval a X.env)::Wt es X.env:=by rfl):kY X Xw (a::es) (aC δa δs):=
 PA.weak (nv ha hr hs) λσ H Q ⟨F,Z,s,w⟩=>by
  refine⟨F,Z,s,WP.mono (WPL.bind w) λv H1 ⟨F1,d,e1,q1,w1⟩=>?_⟩;refine⟨F1,Z,s.ext e1,WPL.mono (WPL.bindL w1) λvs H2 ⟨F2,ds,e2,q2,w2⟩=>?_⟩;exact w2 _ _ _ (Ext.refl e2.fh) (.cons (Den.mono e2.ff q1) q2)
def aZ(ds:List D):M D:=if ds.length<=lim then ae (.tup ds) else ah
def bP(ds:List D):M D:=if ds.length<=lim then ae (.lst ds) else ah
theorem Be{ds:List D}{f:List D->D}{Q:VK}{F H:Hp}(w:WP X.K Xw F H (if ds.length<=lim then ae (f ds) else ah) Q):ds.length<=lim/\WP X.K Xw F H (ae (f ds)) Q:=by
 split at w
 ·rename_i h;exact⟨h,w⟩
 ·exact w.elim
theorem b6{x1}{es:List Expr}{δs:DA}(h:kY X Xw es δs):PD X Xw (.Tuple es x1 pos) (dA aZ δs):=PE.weak (M8 h) λσ H Q ⟨F,Z,s,w⟩=>by
 refine⟨F,Z,s,WPL.mono (WP.bindL w) λvs H1 ⟨F1,ds,e1,q1,w1⟩=>?_⟩;obtain⟨hl,w1⟩:=Be (X:=X) w1;have hv:=q1.len;refine⟨by have:=er;omega,λp hp=>WP.fin w1 (Ext.lay e1.fh hp) ⟨p,vs,rfl,aQ,DenL.mono (Ext.lay e1.fh hp).ff q1,hl⟩⟩
theorem di{es:List Expr}{δs:DA}(h:kY X Xw es δs):PD X Xw (.List es pos) (dA bP δs):=PE.weak (BA h) λσ H Q ⟨F,Z,s,w⟩=>by
 refine⟨F,Z,s,WPL.mono (WP.bindL w) λvs H1 ⟨F1,ds,e1,q1,w1⟩=>?_⟩;obtain⟨hl,w1⟩:=Be (X:=X) w1;have hv:=q1.len;refine⟨by have:=er;omega,λp hp=>WP.fin w1 (Ext.lay e1.fh hp) ⟨p,vs,rfl,aQ,DenL.mono (Ext.lay e1.fh hp).ff q1,hl⟩⟩
end
def ItD(K:Wn)(F:Hp)(J:It)(ds:List D):Prop:=∀(F' H':Hp) (i:Nat),Same F F'->Same F' H'->
 (∀d,ds[i]? =some d->J.go i H'/\∀x H'',J.yld i H' x H''->∃F'',Ext F' H' F'' H''/\Den K F'' d x)/\(ds.length<=i->J.stop i H')
theorem ItD.mono{K:Wn}{F F1:Hp}{J:It}{ds:List D}(h:ItD K F J ds)(e:Same F F1):ItD K F1 J ds:=λF' H' i s1 s2=>h F' H' i (e.trans s1) s2
def WPI(K:Wn)(Xw:Nat->Hp->Prop)(F H:Hp)(m:M (List D))(R:It->Hp->Prop):Prop:=
 match m with
 |none=>False
 |some (.ok ds)=>∀J H' F',Ext F H F' H'->ItD K F' J ds->R J H'
 |some (.ex n)=>∀F' H',Ext F H F' H'->Xw n H'
def VG(K:Wn)(Xw:Nat->Hp->Prop)(δ:DA):TI:=λσ H R=>∃F Z,StE K F H σ Z/\WPI K Xw F H (δ Z) R
def Dh(X:Cx)(Xw:Nat->Hp->Prop)(tg iter:Expr)(δ:DA):Prop:=PI X tg iter (VG X.K Xw δ)
theorem PI.weak{X:Cx}{tg e:Expr}{t t':TI}(h:PI X tg e t)(k:∀σ H Q,t' σ H Q->t σ H Q):PI X tg e t':=λf8 s σ H Q I w=>h f8 s σ H Q I (k σ H Q w)
theorem WPI.bind{K:Wn}{Xw:Nat->Hp->Prop}{F H:Hp}{m:M D}{k:D->M (List D)}{R:It->Hp->Prop}(h:WPI K Xw F H (m>>=k) R):
 WP K Xw F H m λv H1=>∃F1 d,Ext F H F1 H1/\Den K F1 d v/\WPI K Xw F1 H1 (k d) R:=by
 match m,h with
 |none,h=>exact h
 |some (.ok d),h=>
  refine λv H2 F2 e2 q=>⟨F2,d,e2,q,?_⟩
  have h:WPI K Xw F H (k d) R:=h;show WPI K Xw F2 H2 (k d) R
  match k d,h with
  |none,h=>exact h
  |some (.ok ds),h=>exact λJ H3 F3 e3 q3=>h J H3 F3 (e2.trans e3) q3
  |some (.ex n),h=>exact λF3 H3 e3=>h F3 H3 (e2.trans e3)
 |some (.ex n),h=>exact h
theorem WPI.bindL{K:Wn}{Xw:Nat->Hp->Prop}{F H:Hp}{m:M (List D)}{k:List D->M (List D)}{R:It->Hp->Prop}(h:WPI K Xw F H (m>>=k) R):
 WPL K Xw F H m λv H1=>∃F1 d,Ext F H F1 H1/\DenL K F1 d v/\WPI K Xw F1 H1 (k d) R:=by
 match m,h with
 |none,h=>exact h
 |some (.ok d),h=>
  refine λv H2 F2 e2 q=>⟨F2,d,e2,q,?_⟩
  have h:WPI K Xw F H (k d) R:=h;show WPI K Xw F2 H2 (k d) R
  match k d,h with
  |none,h=>exact h
  |some (.ok ds),h=>exact λJ H3 F3 e3 q3=>h J H3 F3 (e2.trans e3) q3
  |some (.ex n),h=>exact λF3 H3 e3=>h F3 H3 (e2.trans e3)
 |some (.ex n),h=>exact h
def lstM:D->M (List D)
 | .lst ds=>ae ds
 |_=>ah
def Sj:D->M (List D)
 | .tup ds=>ae ds
 |_=>ah
def cj(a:DE):DA:=λZ=>a Z>>=lstM
def tQ(a:DE):DA:=λZ=>a Z>>=Sj
theorem F7{K:Wn}{F:Hp}{a:Addr}{vs:List V}{ds:List D}(h:SqL K F a vs)(hd:DenL K F ds vs):ItD K F (QD K a) ds:=λF' H' i s1 s2=>by
 have hs:=Same.seq s2 (Same.seq s1 h);refine⟨λd e=>?_,λhl=>⟨vs,hs,by rw[<-hd.len];exact hl⟩⟩;obtain⟨v,e1,q⟩:=hd.get e;refine⟨⟨vs,v,hs,e1⟩,λx H'' y=>?_⟩;obtain⟨e2,y⟩:=y;subst e2;have:=y vs hs;rw[e1] at this;cases this;exact⟨F',Ext.refl s2,Den.mono s1 q⟩
theorem I_{K:Wn}{F:Hp}{a:Addr}{vs:List V}{ds:List D}(h:SqT K F a vs)(hd:DenL K F ds vs):ItD K F (QE K a) ds:=λF' H' i s1 s2=>by
 have hs:=Same.tup s2 (Same.tup s1 h);refine⟨λd e=>?_,λhl=>⟨vs,hs,by rw[<-hd.len];exact hl⟩⟩;obtain⟨v,e1,q⟩:=hd.get e;refine⟨⟨vs,v,hs,e1⟩,λx H'' y=>?_⟩;obtain⟨e2,y⟩:=y;subst e2;have:=y vs hs;rw[e1] at this;cases this;exact⟨F',Ext.refl s2,Den.mono s1 q⟩
def jb(lo:Int)(n:Nat):List D:=(WD n).map λ(i:Nat)=>D.int (lo+(i:Int))
theorem u9{K:Wn}{F:Hp}(lo:Int)(n:Nat):ItD K F (N0 lo n) (jb lo n):=λF' H' i s1 s2=>by
 refine⟨λd e=>?_,λhl=>show n<=i by simpa[jb] using hl⟩;unfold jb at e;rw[Wz] at e;have hi:i<n:=by
  by_cases hi:i<n
  ·exact hi
  ·rw[Z0 (by simpa using hi)] at e;cases e
 rw[Zr hi] at e;cases e;refine⟨hi,λx H'' y=>?_⟩;obtain⟨e2,y⟩:=y;subst e2 y;exact⟨F',Ext.refl s2,rfl⟩
section
variable{X:Cx}{Xw:Nat->Hp->Prop}{tg l:Expr}{δ:DE}{pos:Pos}
theorem bq(h:PD X Xw l δ):Dh X Xw tg l (cj δ):=PI.weak (JN h) λσ H R ⟨F,Z,s,w⟩=>by
 refine⟨F,Z,s,WP.mono (WPI.bind w) λv H1 ⟨F1,d,e1,q1,w1⟩=>?_⟩;cases d with
 |lst ds=>
  obtain⟨a,vs,h1,h2,h3,h4⟩:=q1;exact⟨a,h1,⟨vs,Same.seq e1.fh (SqL.of h2)⟩,w1 _ _ _ (Ext.refl e1.fh) (F7 (SqL.of h2) h3)⟩
 |_=>exact w1.elim
theorem qI(h:PD X Xw l δ):Dh X Xw tg l (tQ δ):=PI.weak (Nb h) λσ H R ⟨F,Z,s,w⟩=>by
 refine⟨F,Z,s,WP.mono (WPI.bind w) λv H1 ⟨F1,d,e1,q1,w1⟩=>?_⟩;cases d with
 |tup ds=>
  obtain⟨a,vs,h1,h2,h3,h4⟩:=q1;exact⟨a,h1,⟨vs,Same.tup e1.fh (SqT.of h2)⟩,w1 _ _ _ (Ext.refl e1.fh) (I_ (SqT.of h2) h3)⟩
 |_=>exact w1.elim
def d7:List D->M (List D)
 |[.int j]=>if -4096<=j/\j<=4096 then ae (jb 0 j.toNat) else ah
 |_=>ah
def vC:List D->M (List D)
 |[.int i, .int j]=>if (-4096<=i/\i<=4096)/\(-4096<=j/\j<=4096) then ae (jb i (j - i).toNat) else ah
 |_=>ah
theorem DenL.one{K:Wn}{F:Hp}{d:D}{vs:List V}(h:DenL K F [d] vs):∃v,vs=[v]/\Den K F d v:=by
 obtain⟨v,r,h1,h2,h3⟩:=h;cases (show r=[] from h3);exact⟨v,h1,h2⟩
theorem DenL.two{K:Wn}{F:Hp}{d d':D}{vs:List V}(h:DenL K F [d,d'] vs):∃v v',vs=[v,v']/\Den K F d v/\Den K F d' v':=by
 obtain⟨v,r,h1,h2,h3⟩:=h;obtain⟨v',h4,h5⟩:=h3.one;subst h4;exact⟨v,v',h1,h2,h5⟩
theorem b7{a:Expr}{δs:DA}{p:Pos}(hg:Gl X "range")(hm:X.mg "range"=none)(ha:kY X Xw [a] δs)(hs:Wt [a] X.env=[(false,eval a X.env)]:=by rfl):Dh X Xw tg (.Call (.Name "range" p) [a] [] pos) (λZ=>δs Z>>=d7):=
 PI.weak (EA hg hm ha hs) λσ H R ⟨F,Z,s,w⟩=>by
  refine⟨F,Z,s,WPL.mono (WPI.bindL w) λvs H1 ⟨F1,ds,e1,q1,w1⟩=>?_⟩;unfold d7 at w1;split at w1
  ·rename_i j;obtain⟨v,h1,h2⟩:=q1.one;cases (show v=_ from h2);split at w1
   ·exact⟨j,h1,by omega,by omega,w1 _ _ _ (Ext.refl e1.fh) (u9 0 _)⟩
   ·exact w1.elim
  ·exact w1.elim
theorem sH{a b:Expr}{δs:DA}{p:Pos}(hg:Gl X "range")(hm:X.mg "range"=none)(ha:kY X Xw [a,b] δs)(hs:Wt [a,b] X.env=[(false,eval a X.env),(false,eval b X.env)]:=by rfl)
 (L8:Wt [b] X.env=[(false,eval b X.env)]:=by rfl):Dh X Xw tg (.Call (.Name "range" p) [a,b] [] pos) (λZ=>δs Z>>=vC):=
 PI.weak (EB hg hm ha hs L8) λσ H R ⟨F,Z,s,w⟩=>by
  refine⟨F,Z,s,WPL.mono (WPI.bindL w) λvs H1 ⟨F1,ds,e1,q1,w1⟩=>?_⟩;unfold vC at w1;split at w1
  ·rename_i i j;obtain⟨v,v',h1,h2,h3⟩:=q1.two;cases (show v=_ from h2);cases (show v'=_ from h3);split at w1
   ·exact⟨i,j,h1,⟨by omega,by omega,by omega,by omega⟩,w1 _ _ _ (Ext.refl e1.fh) (u9 i _)⟩
   ·exact w1.elim
  ·exact w1.elim
end
def cW(tg N:List Str):List Str:=N.map λy=>if tg.contains y then y++(" ":Str) else y
def k9(X:Cx)(scope:Scope)(tn:List Str)(f8:List (Addr×Obj))(cl:List (Str×Addr))(C:Addr)(fp:List Addr)(v4:We)(H:Hp):Cx:=
 {X with N:=tn++cW tn X.N,acJ:=v4,acI:=H,env:=compEnvC scope cl C X.env,outer:=X.stack,ex:=fp,fn:=λ_=>false,pn:=X.pn++f8,xe:=λ_ _=>False}
structure CompSc (X:Cx) (scope:Scope) (tn:List Str):Prop where
 kind:scope.kind= .function
 nocell:∀y∈scope.names,y.2≠ .cell
 names:∀y∈scope.names,y.2= .local->scope.names.lookup y.1=some .local
 frees:∀y∈scope.names,y.2= .free->X.env.kindOf y.1=some .cell\/X.env.kindOf y.1=some .free
 vis:∀p∈(cW tn X.N).zip X.N,scope.names.lookup p.1=none\/(p.1=p.2/\scope.names.lookup p.1=some .free)
theorem lP{env:Env}:∀(names:List (Str×ZO)) (u8:List (Str×Addr)),(∀y∈names,y.2= .free->∃c,env.cells.lookup y.1=some c)->
 (∀x c,u8.lookup x=some c->env.cells.lookup x=some c)->
 ∃cl,(forIn names u8 (λ(x:Str×ZO) (r:List (Str×Addr))=>do
   let __x:=x
   if (__x.2==acs)=true then do let c<-cellOf env __x.1;pure (Xs ((__x.1,c)::r)) else pure (Xs r)):Sem (List (Str×Addr)))=pure cl/\
  (∀x c,cl.lookup x=some c->env.cells.lookup x=some c)/\(∀x c,u8.lookup x=some c->∃c',cl.lookup x=some c')/\(∀x,names.lookup x=some .free->∃c,cl.lookup x=some c)
 |[],u8,_,h2=>⟨u8,rfl,h2,λx c e=>⟨c,e⟩,λx e=>by simp at e⟩
 |(n,k)::r,u8,h1,h2=>by
  by_cases hk:k= .free
  ·subst hk;obtain⟨c,hc⟩:=h1 (n, .free) Wh rfl;obtain⟨cl,e,a1,a2,a3⟩:=lP r ((n,c)::u8) (λy hy=>h1 y (Wf _ hy)) (λx c' q=>by
    rw[X7] at q;split at q
    ·rename_i hx;cases q;rw[show x=n from by simpa using hx];exact hc
    ·exact h2 x c' q)
   refine⟨cl,?_,a1,λx c' q=>?_,λx q=>?_⟩
   ·rw[aa1];have:cellOf env n=pure c:=by unfold cellOf;rw[hc]
    simp only[beq_self_eq_true,if_true,this,pure_bind];exact e
   ·by_cases hx:x=n
    ·subst hx;exact a2 x c (by simp[X7])
    ·exact a2 x c' (by rw[X7,show (x==n)=false from by simpa using hx];exact q)
   ·rw[X7] at q;split at q
    ·rename_i hx;exact a2 x c (by rw[X7,hx])
    ·exact a3 x q
  ·obtain⟨cl,e,a1,a2,a3⟩:=lP r u8 (λy hy=>h1 y (Wf _ hy)) h2;refine⟨cl,?_,a1,a2,λx q=>?_⟩
   ·rw[aa1];have:((k==acs)=true)=False:=by simpa using hk
    simp only[this,if_false,pure_bind];exact e
   ·rw[X7] at q;split at q
    ·cases q;exact acE rfl hk
    ·exact a3 x q
theorem qW{scope:Scope}{env:Env}(h:∀y∈scope.names,y.2= .free->∃c,env.cells.lookup y.1=some c):
 ∃cl,closureFor scope env=pure cl/\(∀x c,cl.lookup x=some c->env.cells.lookup x=some c)/\(∀x,scope.names.lookup x=some .free->∃c,cl.lookup x=some c):=by
 obtain⟨cl,e,a1,_,a3⟩:=lP (env:=env) scope.names [] h (λx c q=>by simp at q);refine⟨cl,?_,a1,a3⟩;unfold closureFor;show (forIn scope.names [] _>>=λr=>pure r)=_;rw[bind_pure];exact e
def noex{α:Type}:M α->M α
 |some (.ok a)=>some (.ok a)
 |_=>none
def eW(f:D->M (Option D)):List D->M (List D)
 |[]=>ae []
 |d::ds=>f d>>=λo=>eW f ds>>=λr=>ae (match o with | some y=>y::r | none=>r)
def TH(n:Nat):D->M (List D):=λd=>match n,d with
 |0,d=>ae [d]
 |n, .tup ds=>if ds.length=n then ae ds else ah
 |_,_=>ah
def jI(n:Nat)(δt:DT)(δe:DE)(Z:bo):D->M (Option D):=λd=>
 TH n d>>=λts=>δt (ts.map (λt=>some (Sl.fz t))++Z)>>=λb=>if b then δe (ts.map (λt=>some (Sl.fz t))++Z)>>=λy=>ae (some y) else ae none
def bc(n:Nat)(δi:DA)(δt:DT)(δe:DE):DE:=λZ=>δi Z>>=λds=>noex (eW (jI n δt δe Z) ds)>>=bP
def bX:DT:=λ_=>ae true
theorem gQ(f:D->M (Option D))(d:D)(ds:List D):eW f (d::ds)=(f d>>=λo=>eW f ds>>=λr=>ae (match o with | some y=>y::r | none=>r)):=rfl
theorem AO{f:D->M (Option D)}{ds:List D}{i:Nat}{d:D}{ys R:List D}(hd:ds[i]? =some d)
 (h:eW f ds=(eW f (ds.drop i)>>=λr=>ae (ys++r)))(hR:eW f ds=ae R):
 ∃o,f d=ae o/\eW f ds=(eW f (ds.drop (i+1))>>=λr=>ae ((match o with | some y=>ys++[y] | none=>ys)++r)):=by
 have e:ds.drop i=d::ds.drop (i+1):=by
  obtain⟨hi,e⟩:=Wy.mp hd;rw[abm hi,e]
 rw[e,gQ] at h;have h':=h.symm.trans hR;obtain⟨r,h1,h2⟩:=je h';obtain⟨o,h3,h4⟩:=je h1;refine⟨o,h3,?_⟩;obtain⟨r',h5,h6⟩:=je h4;rw[h5,hR];rw[<-h2,<-iw h6];show ae _=ae _;cases o with
 |none=>rfl
 |some y=>simp
theorem z3{P:WQ}{w:World}{H:Hp}{h1 h2:Heap}{a:Addr}(x:HOk P w H h1)(s:Yj a h1 h2)(n:H a=none):HOk P w H h2:=λb o e=>by
 refine(x b o e).stay (λc v hc q=>(s.2 c ?_).trans q) (λ_ q=>q) λ_ _ q=>q;rintro rfl;rcases hc with rfl | hc
 ·rw[n] at e;cases e
 ·rw[n] at hc;cases hc
theorem DC{prog:WQ}{w:World}{A:WX}{R:Result->We->Prop}{s:We}{elt target iter:Expr}{ifs:List Expr}{scope:Scope}{pos:Pos}{it u8:Value}{env:Env}(I:Nat->We->Prop)
 (turn:∀n s,I n s->wpAny (model prog w) A (aai it) (λr P3=>match r with
  |none=>R (.ok .next) P3
  |some v=>wpAny (model prog w) A (aak target it v) (λ_ TC=>wpAny (model prog w) A (assign target env v) (λ_ v4=>
    wpAny (model prog w) A (forIn ifs true λc r=>if r=true then do let ok<-isTrue c env (eval c env);pure (Xs ok) else pure (Xs r)) (λok s₃=>
     if ok=true then wpAny (model prog w) A (eval elt env) (λx s₄=>
      wpAny (model prog w) A (call (.builtin "list.append") [u8,x]) (λ_ s₅=>∃m,m<n/\I m s₅) (ace (model prog w) A env λe s'=>R (.error e) s') s₄) (ace (model prog w) A env λe s'=>R (.error e) s') s₃
     else∃m,m<n/\I m s₃) (ace (model prog w) A env λe s'=>R (.error e) s') v4) (ace (model prog w) A env λe s'=>R (.error e) s') TC) (ace (model prog w) A env λe s'=>R (.error e) s') P3) (ace (model prog w) A env λe s'=>R (.error e) s') s)
 (n:Nat) (h:I n s):
 ZD (model prog w) A (.compLoop (.ListComp elt [⟨target,iter,ifs,0⟩] scope pos) 0 it u8 env) R s:=by
 refine codeAny_loop rfl I (λn s hI=>?_) n h;show wpAny _ A ((compTurn (.ListComp elt [⟨target,iter,ifs,0⟩] scope pos) 0 it u8 env).onRaise (λx=>do noteFrame x env;theTreesLotGoes x)) _ _ s;refine wpAny_noted ?_;rw[compTurn_list];refine Wb (wpAny_standAt (Wb (Xp (turn n s hI) (λr P3 h₁=>?_) λ_ _ h'=>h')));cases r with
 |none=>exact Wk h₁
 |some v=>
  refine Wb (Xp h₁ (λ_ TC h₁=>?_) λ_ _ h'=>h');refine Wb (Xp h₁ (λ_ v4 h₂=>Wb (Xp h₂ (λok s₃ h₃=>?_) λ_ _ h'=>h')) λ_ _ h'=>h');cases ok with
  |false=>exact Wk ⟨rfl,h₃⟩
  |true=>
   exact Wb (Wb (Xp h₃ (λx s₄ h₄=>Wb (Xp h₄ (λ_ s₅ h₅=>Wk (Wk ⟨rfl,h₅⟩)) λ_ _ h'=>h')) λ_ _ h'=>h'))
def EZ(X:Cx)(tg:Expr)(n:Nat)(σ:St):Prop:=∀(f8:List (Addr×Obj)) (s:We) (σ':St) (F H:Hp) (d:D) (ts:List D) (v:V) (u:Value),Inv X f8 σ' H s->Same F H->σ'.drop (max n 1)=σ->RelV v u->Den X.K F d v->TH n d=ae ts->
 wpAny (model X.prog X.w) X.A (assign tg X.env u) (λ_ s'=>∃vs,Inv X f8 (vs.map some++σ) H s'/\DenL X.K F ts vs) X.xe s
def oi(X:Cx)(ifs:List Expr)(δt:DT):Prop:=∀(f8:List (Addr×Obj)) (s:We) (σ:St) (H:Hp) (Q:Bool->Hp->Prop),Inv X f8 σ H s->Sa X.K (λ_ _=>False) δt σ H Q->
 wpAny (model X.prog X.w) X.A (forIn ifs true λc r=>if r=true then do let ok<-isTrue c X.env (eval c X.env);pure (Xs ok) else pure (Xs r)) (TP X f8 σ Q) X.xe s
theorem cH{X:Cx}:oi X [] bX:=λf8 s σ H Q I ⟨F,Z,S,w⟩=>wpAny_tests_nil ⟨H,I,w H F (Ext.refl S.fh)⟩
theorem kE{X:Cx}{c:Expr}{δ:DT}(h:qe X (λ_ _=>False) c δ):oi X [c] δ:=λf8 s σ H Q I w=>wpAny_tests_one (h f8 s σ H Q I w)
theorem StE.cons{K:Wn}{F H:Hp}{σ:St}{Z:bo}{ts:List D}{vs:List V}(s:StE K F H σ Z)(h:DenL K F ts vs):StE K F H (vs.map some++σ) (ts.map (λt=>some (Sl.fz t))++Z):=by
 refine⟨s.fh,λi sl e=>?_⟩;have hl:=h.len;by_cases hi:i<ts.length
 ·rw[W5 (by simpa using hi),Wz] at e;cases q:ts[i]? with
  |none=>rw[q] at e;cases e
  |some t=>
   rw[q] at e;cases e;obtain⟨v,e1,e2⟩:=h.get q;exact⟨v,by rw[W5 (by simp;omega),Wz,e1];rfl,e2⟩
 ·rw[W_ (by simpa using hi)] at e;obtain⟨v,e1,e2⟩:=s.den _ _ e;refine⟨v,?_,e2⟩;rw[W_ (by simp;omega)];simpa[hl] using e1
theorem WPB.take{Xw:Nat->Hp->Prop}{F H:Hp}{b:Bool}:WPB Xw F H (ae b) λb' H'=>b'=b/\∃F',Ext F H F' H':=λH' F' e=>⟨rfl,F',e⟩
theorem WP.take{K:Wn}{Xw:Nat->Hp->Prop}{F H:Hp}{d:D}:WP K Xw F H (ae d) λv H'=>∃F',Ext F H F' H'/\Den K F' d v:=λv H' F' e q=>⟨F',e,q⟩
def oW(env:Env)(p:Str×ZO):Str×ZO:=if (p.2== .free&&env.scope.kind== .function&&env.kindOf p.1==some .cell) then(p.1, .cell) else(p.1,p.2)
theorem iH(scope:Scope)(env:Env):(relabel scope env).names=scope.names.map (oW env):=rfl
theorem Hh(env:Env)(p:Str×ZO):(oW env p).1=p.1:=by unfold oW;split<;>rfl
theorem js(env:Env)(x:Str):∀ns:List (Str×ZO),(ns.map (oW env)).lookup x=(ns.lookup x).map λk=>(oW env (x,k)).2
 |[]=>rfl
 |(m,k)::r=>by
  rw[Wq,X7,X7];have e:oW env (m,k)=(m,(oW env (m,k)).2):=aaw (Hh env (m,k)) rfl;rw[e]
  dsimp only
  by_cases hx:(x==m)=true
  ·have hm:x=m:=by simpa using hx
   subst hm;rw[hx];rfl
  ·have hx:(x==m)=false:=by simpa using hx
   rw[hx];exact js env x r
theorem xy{scope:Scope}{env:Env}{x:Str}(h:scope.names.lookup x=none):(relabel scope env).names.lookup x=none:=by
 rw[iH,js,h];rfl
theorem xx{scope:Scope}{env:Env}{x:Str}(hc:∀y∈scope.names,y.2≠ .cell)(h:(relabel scope env).names.lookup x=some .cell\/(relabel scope env).names.lookup x=some .free):scope.names.lookup x=some .free:=by
 rw[iH,js] at h;cases q:scope.names.lookup x with
 |none=>rw[q] at h;rcases h with h | h<;>cases h
 |some k=>
  rw[q] at h;have hk:k≠ .cell:=hc _ (XY q);have h:(oW env (x,k)).2= .cell\/(oW env (x,k)).2= .free:=by simpa using h
  by_cases hf:k= .free
  ·rw[hf]
  ·have:(oW env (x,k)).2=k:=by
    unfold oW;rw[acz];simp[hf]
   rw[this] at h;rcases h with h | h
   ·exact acE h hk
   ·exact acE h hf
theorem oX{scope:Scope}{env:Env}{x:Str}(h:scope.names.lookup x=some .free):¬(relabel scope env).names.lookup x=some .local:=by
 rw[iH,js,h];intro z;have z:(oW env (x, .free)).2= .local:=by simpa using z
 unfold oW at z;split at z<;>cases z
structure BlockEnd (X:Cx) (f8:List (Addr×Obj)) (C:Addr) (H':Hp) (s1:We):Prop where
 ns:∃m,s1.heap.Ns C m
 free:H' C=none
 nl:C≠X.env.locals
 nw:X.acJ.heap.objs.size<=C
 nc:∀x c,X.env.cells.lookup x=some c->c≠C
 np:∀p∈X.pn++f8,p.1≠C
theorem yE{X:Cx}{Xw:Nat->Hp->Prop}{elt iter tg:Expr}{ifs:List Expr}{scope:Scope}{pos:Pos}{tn:List Str}{n:Nat}{δi:DA}{δt:DT}{δe:DE}{cl:List (Str×Addr)}{f8:List (Addr×Obj)}{s:We}{σ:St}{H F:Hp}{Z:bo}{Q:VK}{RR:Value->Addr->Result->We->Prop}
 (sc:CompSc X scope tn)(hn:tn.length=max n 1)(hc:X.calm=true)(hi:Dh X Xw tg iter δi)
 (hg:∀f8 cl C fp v4 H σ,EZ (k9 X scope tn f8 cl C fp v4 H) tg n σ)
 (ht:∀f8 cl C fp v4 H,oi (k9 X scope tn f8 cl C fp v4 H) ifs δt)
 (he:∀f8 cl C fp v4 H,PD (k9 X scope tn f8 cl C fp v4 H) (λ_ _=>False) elt δe)
 (I:Inv X f8 σ H s)(S:StE X.K F H σ Z)(w:WP X.K Xw F H (bc n δi δt δe Z) Q)
 (cl1:∀x c,cl.lookup x=some c->X.env.cells.lookup x=some c)(cl2:∀x,scope.names.lookup x=some .free->∃c,cl.lookup x=some c)
 (Ui:∀(s1:We) (C D:Addr) (H':Hp),Inv X f8 σ H' s1->Q (.ref D) H'->BlockEnd X f8 C H' s1->RR (.ref D) C (.ok .next) s1):
 wpAny (model X.prog X.w) X.A (eval iter X.env) (λx P3=>wpAny (model X.prog X.w) X.A (pyIter x) (λit v4=>wpAny (model X.prog X.w) X.A (newList []) (λu8 s₃=>
  wpAny (model X.prog X.w) X.A (newFunctionEnv scope X.env.globals cl [] X.env.qual none .none (some X.env)) (λN7 s₄=>
   ZD (model X.prog X.w) X.A (.compStart (.ListComp elt [⟨tg,iter,ifs,0⟩] scope pos) 0 it u8 {N7 with scope:=relabel scope X.env}) (RR u8 N7.locals) s₄) X.xe s₃) X.xe v4) X.xe P3) X.xe s:=by
 refine cV (hi f8 s σ H (λJ H2=>∃F2 ds,Ext F H F2 H2/\ItD X.K F2 J ds/\WP X.K Xw F2 H2 (noex (eW (jI n δt δe Z) ds)>>=bP) Q) I ⟨F,Z,S,?_⟩) λxv P3 h₁=>cV h₁ λit v4 h₂=>?_
 ·unfold bc at w;rcases(δi Z).cs with hq | ⟨m,hq⟩ | ⟨ds,hq⟩
  ·rw[hq] at w;exact w.elim
  ·rw[hq] at w⊢;exact w
  ·rw[hq] at w⊢;exact λJ H' F' e q=>⟨F',ds,e,q,WP.ext e w⟩
 obtain⟨ia,fp,TK,J,H2,rfl,I2,T,Lc,f2,F2,ds,e2,Tf,w2⟩:=h₂;obtain⟨R,hR,SK,w2⟩:∃R,eW (jI n δt δe Z) ds=ae R/\R.length<=lim/\WP X.K Xw F2 H2 (ae (.lst R)) Q:=by
  rcases(eW (jI n δt δe Z) ds).cs with hq | ⟨m,hq⟩ | ⟨R,hq⟩
  ·rw[hq] at w2;exact w2.elim
  ·rw[hq] at w2;exact w2.elim
  ·rw[hq] at w2;obtain⟨h1,h2⟩:=Be (X:=X) (f:=D.lst) (show WP X.K Xw F2 H2 (bP R) Q from w2);exact⟨R,hq,h1,h2⟩
 refine Xz (wpAny_newFunctionEnv sc.nocell (by intro y hy;simp at hy) (λh₁ LY IT=>?_) sc.kind)
 dsimp only at LY IT⊢
 generalize QS:v4.heap.push {cls:= .type "list",dict:=none,data:= .seq ([]:List Value).toArray}=HL at LY IT⊢;have hC:HL.objs.size=v4.heap.objs.size+1:=by rw[<-QS,Zx]
 have DN:v4.heap.objs.size<HL.objs.size:=by rw[hC];exact Zm _
 have old:∀b o,v4.heap.get? b=some o->h₁.get? b=some o:=λb o e=>IT.extBut b o (WS (YT (Ww e) DN)) (Wg _ (QS▸Wg _ e));have y0:h₁.get? v4.heap.objs.size=some {cls:= .type "list",data:= .seq ([]:List Value).toArray}:=IT.extBut _ _ (WS DN) (Wg _ (QS▸WA _ rfl));have nD:H2 v4.heap.objs.size=none:=I2.hok.fresh (Wr _);have nC:H2 HL.objs.size=none:=I2.hok.fresh (XX DN);have gC:v4.heap.get? HL.objs.size=none:=ab1 (XX DN);have fl:∀b∈fp,b<v4.heap.objs.size:=λb hb=>by
  obtain⟨o,e,_⟩:=T.obj 0 _ Lc b hb;exact Ww e
 generalize yZ:k9 X scope tn f8 cl HL.objs.size fp v4 H2=X';have Tt:X'.Ok:=by
  subst yZ;refine⟨I2.ok.mod,sc.kind,I2.ok.glob,I2.ok.blt,XX DN,λx y c h1 h2=>I2.ok.inj x y c (cl1 _ _ h1) (cl1 _ _ h2),λx hx=>?_,λ_ _ h=>(by cases h),I2.ok.hd,I2.ok.frames, .inl rfl,
   λb hb=>⟨WS (YT (fl b hb) DN),λx c h=>(f2 b hb).2.2.2.2.1 x c (cl1 _ _ h)⟩,I2.bs,WM I2.ok.bsz I2.sz,λb o e hb=>?_,λb hb z=>?_,I2.stack,I2.stkFree⟩
  ·have hx:(relabel scope X.env).names.lookup x=some .cell\/(relabel scope X.env).names.lookup x=some .free:=hx;exact cl2 x (xx sc.nocell hx)
  ·rcases(f2 b hb).2.2.2.1 with z | z
   ·exact I2.ok.noex b o e z
   ·exact acE (WW (Ww (I2.ok.bs b o e).1) z) (Xr _)
  ·rcases Wu.mp (I2.stkSub b z) with q | q
   ·exact(f2 b hb).2.1 q
   ·exact(f2 b hb).2.2.1 q
 have RK:∀b o,H2 b=some o->b≠v4.heap.objs.size:=λb o e=>cU e nD;have LN:∀{H':Hp},(∀b∈fp,H' b=none)->∀b∈fp,ym X' [] H' b:=λU1 b hb=>by
  subst yZ;refine⟨U1 b hb,WS (YT (fl b hb) DN),λz=>Tt.exfs b hb z, .inl hb,λx c h=>(f2 b hb).2.2.2.2.1 x c (cl1 _ _ h),λp hp=>?_⟩;rw[WU] at hp;exact(f2 b hb).2.2.2.2.2 p hp
 have I0:Inv X' [] (Wm (max n 1) none++σ) (upd H2 v4.heap.objs.size (.lst [])) {v4 with heap:=h₁,toks:=v4.toks+([]:List (Str×Value)).length}:=by
  subst yZ;have Ro:HOk X.prog X.w (upd H2 v4.heap.objs.size (.lst [])) h₁:=I2.hok.laid old (Wr _) ⟨Xe _,[],_, .nil,y0⟩;refine⟨Tt,rfl,I2.bare,Un.laid old (Wr _) nD,⟨_,LY,λi x v h1 h2 h3=>?_⟩,λx c h=>?_,?_,λx c h=>?_,λp hp=>?_,Ro,?_⟩
  ·by_cases hi:i<max n 1
   ·rw[W5 (by simpa using hi),XC,acy hi] at h2;cases h2
   ·have Q7:tn.length<=i:=by omega
    have h1:(tn++cW tn X.N)[i]? =some x:=h1;rw[W_ Q7] at h1;rw[W_ (by simpa using hi),Zg,<-hn] at h2;have hN:∃y,X.N[i - tn.length]? =some y/\(x,y)∈(cW tn X.N).zip X.N:=by
     have jl:=(Wy.mp h1).1;have IP:i - tn.length<X.N.length:=by simpa[cW] using jl
     refine⟨X.N[i - tn.length],Wi IP,?_⟩;refine List.mem_iff_getElem?.mpr ⟨i - tn.length,?_⟩;rw[List.getElem?_zip_eq_some];exact⟨h1,Wi IP⟩
    obtain⟨y,hy,hm⟩:=hN;have hV:(relabel scope X.env).names.lookup x=some .local\/(relabel scope X.env).names.lookup x=some .cell\/(relabel scope X.env).names.lookup x=some .free:=h3;rcases sc.vis _ hm with DW | ⟨Ry,ES⟩
    ·have DW:scope.names.lookup x=none:=DW;have:(relabel scope X.env).names.lookup x=none:=xy DW;rw[this] at hV;rcases hV with z | z | z<;>cases z
    ·have Ry:x=y:=Ry;subst Ry;have ES:scope.names.lookup x=some .free:=ES;have hk:=sc.frees (x, .free) (XY ES) rfl;obtain⟨m,NO,HY⟩:=I2.loc;obtain⟨u,ru,lk⟩:=HY _ x v hy h2 (by rcases hk with z | z;exact .inr (.inl z);exact .inr (.inr z));refine⟨u,ru, .inr ⟨?_,?_⟩⟩
     ·rcases hV with z | z | z
      ·exact acE z (oX ES)
      ·exact .inl z
      ·exact .inr z
     ·rcases lk with⟨z,_⟩ | ⟨_,c,SM,FJ⟩
      ·rcases hk with q | q
       ·rw[show X.env.kindOf x=some .local from z] at q;cases q
       ·rw[show X.env.kindOf x=some .local from z] at q;cases q
      ·obtain⟨c',HV⟩:=cl2 x ES;have:=cl1 _ _ HV;rw[SM] at this;cases this;obtain⟨o,ho,hd⟩:=FJ;exact⟨c,HV,o,old _ _ ho,hd⟩
  ·obtain⟨v,o,ho,hd⟩:=I2.cell x c (cl1 _ _ h);exact⟨v,o,old _ _ ho,hd⟩
  ·show upd H2 v4.heap.objs.size (.lst []) HL.objs.size=none;rw[aE (Zw DN)];exact nC
  ·have Ow:=cl1 _ _ h;obtain⟨v,q⟩:=I2.cell x c Ow;rw[aE (WS q.lt)];exact I2.freeC x c Ow
  ·rw[WU] at hp;obtain⟨e,nn,ne,nf,d⟩:=I2.pin p hp;have jl:=Ww e;refine⟨old _ _ e,by rw[aE (WS jl)];exact nn,WS (YT jl DN),λz=>?_,d⟩;rcases Wu.mp (I2.stkSub p.1 z) with q | q
   ·exact ne q
   ·exact nf q
  ·show (Wm (max n 1) none++σ).length=(tn++cW tn X.N).length;rw[Wj,Wj,Zg,hn,show (cW tn X.N).length=X.N.length from by simp[cW],I2.len]
 have loop:∀s₃:We,s₃={v4 with heap:=h₁,toks:=v4.toks+([]:List (Str×Value)).length}->
  ZD (model X.prog X.w) X.A (.compLoop (.ListComp elt [⟨tg,iter,ifs,0⟩] scope pos) 0 (.ref ia) (.ref v4.heap.objs.size) (compEnvC scope cl HL.objs.size X.env))
   (RR (.ref v4.heap.objs.size) HL.objs.size) s₃:=by
  intro s₃ U_;have Fv:X'.env=compEnvC scope cl HL.objs.size X.env:=by subst yZ;rfl
  have hA:X'.A=X.A:=by subst yZ;rfl
  have hP:X'.prog=X.prog:=by subst yZ;rfl
  have hw:X'.w=X.w:=by subst yZ;rfl
  have hK:X'.K=X.K:=by subst yZ;rfl
  have Vj:X'.xe=λ_ _=>False:=by subst yZ;rfl
  have KJ:X'.calm=true:=by subst yZ;exact hc
  have Ux:X'.fs=iC X.stack:=by subst yZ;rfl
  have hex:X'.ex=fp:=by subst yZ;rfl
  have Uc:X'.acI=H2:=by subst yZ;rfl
  have S6:X'.acJ=v4:=by subst yZ;rfl
  have pass:∀{α:Type}{t:Sem α}{P:α->We->Prop}{E':Value->We->Prop}{s:We},wpAny (model X'.prog X'.w) X'.A t P X'.xe s->wpAny (model X.prog X.w) X.A t P E' s:=λ{α t P E' s} h=>by
   rw[hP,hw,hA,Vj] at h;exact Xp h (λ_ _ q=>q) λ_ _ q=>q.elim
  refine DC (λm s'=>∃(i:Nat) (F' H':Hp) (vs:List V) (ys:List D) (σt:St),m=ds.length - i/\i<=ds.length/\σt.length=max n 1/\Inv X' [] (σt++σ) H' s'/\TK i s'.heap/\(∀b∈fp,H' b=none)/\Ext F2 H2 F' H'/\
   H' v4.heap.objs.size=some (.lst vs)/\F' v4.heap.objs.size=none/\DenL X.K F' ys vs/\eW (jI n δt δe Z) ds=(eW (jI n δt δe Z) (ds.drop i)>>=λr=>ae (ys++r))) ?_ ds.length ?_
  ·rintro m s' ⟨i,F',H',vs,ys,σt,rfl,Q8,Vn,I',s_,Sy,AU,hD,fD,Qu,heq⟩;by_cases jl:i<ds.length
   ·
    obtain⟨d,hd⟩:∃d,ds[i]? =some d:=⟨_,Wi jl⟩
    obtain⟨Q6,Ma⟩:=(Tf F' H' i AU.ff AU.fh).1 d hd;obtain⟨o,ho,OC⟩:=AO hd heq hR;have Rz:ys.length<=lim:=by
     rw[heq] at hR;obtain⟨r,_,hr⟩:=je hR;rw[<-iw hr,Wj] at SK;omega
    obtain⟨ts,Vd,ho⟩:=je ho;refine pass ?_;rw[hP,hw];refine cV (T.item X' hP hw hK KJ i [] s' (σt++σ) H' X'.xe I' (LN Sy) s_ Q6) ?_;rintro r s1 ⟨u,rfl,h1⟩;refine pass ?_;rw[hP,hw];refine cV h1 ?_;rintro _ s2 ⟨x,H3,I3,rx,y3,Ld,Qj⟩;obtain⟨F3,HR,q3⟩:=Ma x H3 y3;have SH:H3 v4.heap.objs.size=some (.lst vs):=HR.hh _ _ hD;have T4:F3 v4.heap.objs.size=none:=by rw[HR.old hD (λ_ z=>nomatch z)];exact fD
    have I3':=I3.pinned (LN Qj) (T.obj _ _ Ld);have Cw:∀{σ7:St}{H7:Hp}{s7:We},Inv X' ([]++sJ fp s2.heap) σ7 H7 s7->TK (i+1) s7.heap/\∀b∈fp,H7 b=none:=λ{σ7 H7 s7} I7=>
     ⟨T.keep _ _ _ Ld λb hb o e=>(I7.pin (b,o) (Xa _ (Xa _ (jt hb e)))).1,λb hb=>by
      obtain⟨o,e,_⟩:=T.obj _ _ Ld b hb;exact(I7.pin (b,o) (Xa _ (Xa _ (jt hb e)))).2.1⟩
    have UA:EZ X' tg n σ:=by subst yZ;exact hg _ _ _ _ _ _ _
    have Va:oi X' ifs δt:=by subst yZ;exact ht _ _ _ _ _ _
    have Uu:PD X' (λ_ _=>False) elt δe:=by subst yZ;exact he _ _ _ _ _ _
    refine pass ?_;rw[<-Fv];refine cV (UA _ s2 (σt++σ) F3 H3 d ts x u I3' HR.fh (by rw[<-Vn];simp) rx (by rw[hK];exact q3) Vd) ?_;rintro _ s4 ⟨vt,I4,dt⟩;rw[hK] at dt;have S4:StE X.K F3 H3 (vt.map some++σ) (ts.map (λt=>some (Sl.fz t))++Z):=StE.cons ((S.ext e2).ext (AU.trans HR)) dt;obtain⟨b,hb,ho⟩:=je ho;refine pass ?_
    try rw[<-Fv]
    refine cV (Va _ s4 _ H3 (λb' H5=>b'=b/\∃F5,Ext F3 H3 F5 H5) I4 ⟨F3,_,by rw[hK];exact S4,by rw[hb];exact WPB.take⟩) ?_;rintro b' s5 ⟨H5,I5,rfl,F5,LD⟩;have QQ:H5 v4.heap.objs.size=some (.lst vs):=LD.hh _ _ SH;have Sw:F5 v4.heap.objs.size=none:=by rw[LD.old SH (λ_ z=>nomatch z)];exact T4
    cases b' with
    |false=>
     rw[acz WO] at ho⊢;obtain rfl:=iw ho;refine⟨ds.length - (i+1),by omega,i+1,F5,H5,vs,ys,vt.map some,rfl,jl,?_,I5.unpinned,(Cw I5).1,(Cw I5).2,AU.trans (HR.trans LD),QQ,Sw,DenL.mono (HR.trans LD).ff Qu,OC⟩;have h1:=I5.len;have h2:=I3.len;rw[Wj] at h1 h2;omega
    |true=>
     rw[acy rfl] at ho⊢;obtain⟨yv,hy,ho⟩:=je ho;obtain rfl:=iw ho;refine pass ?_
     try rw[<-Fv]
     refine cV (Uu _ s5 _ H5 (λv H6=>∃F6,Ext F5 H5 F6 H6/\Den X.K F6 yv v) I5 ⟨F5,_,by rw[hK];exact S4.ext LD,by rw[hy,hK];exact WP.take⟩) ?_;rintro xv s6 ⟨v,H6,I6,rv,F6,Qi,qv⟩;have Ub:H6 v4.heap.objs.size=some (.lst vs):=Qi.hh _ _ QQ;have Sx:F6 v4.heap.objs.size=none:=by rw[Qi.old QQ (λ_ z=>nomatch z)];exact Sw
     have Vh:vs.length<WB:=by
      have:=Qu.len;have:=er;omega
     refine pass ?_;refine cV (vf _ s6 _ H6 (.ref v4.heap.objs.size) [v] (.ref v4.heap.objs.size) [xv] (λ_ H7=>H7=upd H6 v4.heap.objs.size (.lst (vs++[v]))) I6 rfl (.cons rv .nil) ⟨_,vs,v,rfl,rfl,Ub,Vh,rfl⟩) ?_;rintro _ s7 ⟨_,H7,I7,_,rfl⟩;have T3:Ext F2 H2 F6 (upd H6 v4.heap.objs.size (.lst (vs++[v]))):=by
      have e:=AU.trans (HR.trans (LD.trans Qi));refine⟨λb u q=>?_,e.ff,λb u q=>?_,e.new⟩
      ·rw[aE (RK b u q)];exact e.hh b u q
      ·rw[aE (λz=>by rw[z,Sx] at q;cases q)];exact e.fh b u q
     refine⟨ds.length - (i+1),by omega,i+1,F6,_,vs++[v],ys++[yv],vt.map some,rfl,jl,?_,I7.unpinned,(Cw I7).1,(Cw I7).2,T3,aQ,Sx,
      DenL.append (DenL.mono (HR.trans (LD.trans Qi)).ff Qu) (.cons qv .nil),OC⟩
     have h1:=I5.len;have h2:=I3.len;rw[Wj] at h1 h2;omega
   ·
    have hi:i=ds.length:=by omega
    subst hi;rw[List.drop_length] at heq;have Uj:R=ys:=by
     rw[heq] at hR;have hR:ae (ys++[])=ae R:=hR;rw[<-iw hR,WU]
    subst Uj;refine pass ?_;rw[hP,hw];refine cV (T.done X' hP hw hK KJ ds.length [] s' (σt++σ) H' X'.xe I' (LN Sy) s_ ((Tf F' H' ds.length AU.ff AU.fh).2 (Wr _))) ?_;rintro r s1 ⟨rfl,I1⟩;obtain⟨m,hm,_⟩:=I1.loc;rw[Fv] at hm;have T_:H' HL.objs.size=none:=by
     have:=I1.free;rw[Fv] at this;exact this
    have u:=I1.base;rw[Ux,hex,Uc,S6] at u;have DZ:s1.os=v4.os:=by have:=I1.os;rw[S6] at this;exact this
    have OE:=I1.hok;rw[hP,hw] at OE;refine Ui s1 HL.objs.size v4.heap.objs.size H' (I2.call' (s':=s1) (ch:=fp) DZ u OE I1.bare (λb hb=>⟨(f2 b hb).2.2.2.1,(f2 b hb).2.1,(f2 b hb).2.2.2.2.1,(f2 b hb).2.2.2.2.2⟩)) ?_
     ⟨⟨m,hm⟩,T_,Zw (YT I2.lt DN),WM I2.sz (XX DN),λx c q z=>?_,λp hp z=>?_⟩
    rotate_left
    ·obtain⟨v,q'⟩:=I2.cell x c q;exact acE (YT q'.lt DN) (by rw[z];exact Xr _)
    ·exact acE (YT (Ww (I2.pin p hp).1) DN) (by rw[z];exact Xr _)
    refine WP.fin w2 (F':=upd F' v4.heap.objs.size (.lst vs)) ⟨AU.hh,λb u q=>?_,λb u q=>?_,λa ha=>?_⟩ ⟨_,vs,rfl,aQ,DenL.mono (λb u q=>?_) Qu,SK⟩
    ·rw[aE (λz=>by have:=AU.ff b u q;rw[z,fD] at this;cases this)];exact AU.ff b u q
    ·by_cases z:b=v4.heap.objs.size
     ·rw[z,aQ] at q;rw[z,hD];exact q
     ·rw[aE z] at q;exact AU.fh b u q
    ·rcases AU.new a ha with q | q
     ·exact .inl (by rw[aE (λz=>ha (by rw[z];exact nD))];exact q)
     ·exact .inr q
    ·rw[aE (λz=>by rw[z,fD] at q;cases q)];exact q
  ·rw[U_];refine⟨0,F2,_,[],[],Wm (max n 1) none,by simp,Xe _,by simp,I0,T.keep _ _ _ Lc (λb hb o e=>old b o e),λb hb=>?_,⟨λb u q=>?_,Same.refl _,λb u q=>?_,λ_ _=> .inl rfl⟩,aQ,Same.free e2.fh nD,rfl,?_⟩
   ·rw[aE (WS (fl b hb))];exact(f2 b hb).1
   ·rw[aE (RK b u q)];exact q
   ·rw[aE (RK b u (e2.fh b u q))];exact e2.fh b u q
   ·rw[List.drop_zero];rcases(eW (jI n δt δe Z) ds).cs with hq | ⟨m,hq⟩ | ⟨R,hq⟩<;>rw[hq]<;>rfl
 exact codeAny_compStart_list (loop _ rfl) (T.self X.A 0 _ _ _ (T.keep _ _ _ Lc (λb hb o e=>old b o e)) (loop _ rfl))
theorem Inv.block{X:Cx}{f8:List (Addr×Obj)}{σ:St}{H':Hp}{s1:We}{C:Addr}{h':Heap}(I:Inv X f8 σ H' s1)(b:BlockEnd X f8 C H' s1)(Cj:Yj C s1.heap h'):Inv X f8 σ H' {s1 with heap:=h'}:=
 I.turned (t':=s1.toks) (λa o ha e=>(Cj.2 a ha).trans e) b.free b.nl (.inr b.nw) b.nc b.np
section
variable{X:Cx}{Xw:Nat->Hp->Prop}{elt iter tg:Expr}{ifs:List Expr}{scope:Scope}{pos:Pos}{tn:List Str}{n:Nat}{δi:DA}{δt:DT}{δe:DE}
theorem c9(sc:CompSc X scope tn)(hn:tn.length=max n 1)(hc:X.calm=true)(hi:Dh X Xw tg iter δi)
 (hg:∀f8 cl C fp v4 H σ,EZ (k9 X scope tn f8 cl C fp v4 H) tg n σ)
 (ht:∀f8 cl C fp v4 H,oi (k9 X scope tn f8 cl C fp v4 H) ifs δt)
 (he:∀f8 cl C fp v4 H,PD (k9 X scope tn f8 cl C fp v4 H) (λ_ _=>False) elt δe)
 (hs:∀x,ZV iter X.env x=pure x:=by intro _;rfl):
 PD X Xw (.ListComp elt [⟨tg,iter,ifs,0⟩] scope pos) (bc n δi δt δe):=by
 intro f8 s σ H Q I ⟨F,Z,S,w⟩;obtain⟨cl,FK,cl1,cl2⟩:=qW (scope:=scope) (env:=X.env) λy hy hf=>I.ok.has y.1 (sc.frees y hy hf);rw[eval_ListComp];refine ab4 (use:=none) rfl hs FK sc.kind sc.names (yE (RR:=λu8 C=>compPost (model X.prog X.w) X.A X.xe none (EP X f8 σ Q) u8 C) sc hn hc hi hg ht he I S w cl1 cl2 λs1 C D H' I1 q b=>?_);obtain⟨m,hm⟩:=b.ns;exact⟨m,hm,λh' Cj=>⟨.ref D,H',Inv.block I1 b Cj,rfl,q⟩⟩
end
inductive Out where
 |nx (Z:bo) | rt (d:D)
abbrev DS:=bo->M Out
structure StOk (K:Wn) (s0 acI F H:Hp) (σ:St) (Z:bo):Prop where
 ext:Ext s0 acI F H
 st:StE K F H σ Z
 len:Z.length=σ.length
 own:∀(i:Nat) (c:C) (a:Addr),Z[i]? =some (some (.ow c))->σ[i]? =some (some (.ref a))->acI a=none
 sep:∀(i j:Nat) (c c':C) (a:Addr),Z[i]? =some (some (.ow c))->Z[j]? =some (some (.ow c'))->σ[i]? =some (some (.ref a))->σ[j]? =some (some (.ref a))->i=j
def WPS(K:Wn)(Xw:Nat->Hp->Prop)(s0 acI:Hp)(m:M Out)(Dn:Ends):Prop:=
 match m with
 |none=>False
 |some (.ok (.nx Z))=>∀σ F H,StOk K s0 acI F H σ Z->Dn.nx σ H
 |some (.ok (.rt d))=>∀v F H,Ext s0 acI F H->Den K F d v->Dn.rt v H
 |some (.ex n)=>∀F H,Ext s0 acI F H->Xw n H
def tS(K:Wn)(Xw:Nat->Hp->Prop)(s0 acI:Hp)(τ:DS):TS:=λDn σ H=>∃F Z,StOk K s0 acI F H σ Z/\WPS K Xw s0 acI (τ Z) Dn
def gM(X:Cx)(Xw:Nat->Hp->Prop)(st:Stmt)(τ:DS):Prop:=∀s0 acI,PS X st (tS X.K Xw s0 acI τ)
def PSDs(X:Cx)(Xw:Nat->Hp->Prop)(st:List Stmt)(τ:DS):Prop:=∀s0 acI,PSs X st (tS X.K Xw s0 acI τ)
theorem PS.weak{X:Cx}{st:Stmt}{t t':TS}(h:PS X st t)(k:∀D σ H,t' D σ H->t D σ H):PS X st t':=λf8 s σ H D I w=>h f8 s σ H D I (k D σ H w)
theorem PSs.weak{X:Cx}{st:List Stmt}{t t':TS}(h:PSs X st t)(k:∀D σ H,t' D σ H->t D σ H):PSs X st t':=λf8 s σ H D I w=>h f8 s σ H D I (k D σ H w)
section
variable{K:Wn}{s0 acI F H F' H':Hp}{σ:St}{Z:bo}
theorem StOk.ext'(s:StOk K s0 acI F H σ Z)(e:Ext F H F' H'):StOk K s0 acI F' H' σ Z:=⟨s.ext.trans e,s.st.ext e,s.len,s.own,s.sep⟩
theorem StOk.set(s:StOk K s0 acI F H σ Z){i:Nat}{d:D}{v:V}(h:Den K F d v):StOk K s0 acI F H (σ.set i (some v)) (Z.set i (some (.fz d))):=by
 have hl:=s.len;have get:∀(j:Nat) (sl:Sl),(Z.set i (some (.fz d)))[j]? =some (some sl)->(j=i/\i<Z.length/\sl= .fz d)\/(j≠i/\Z[j]? =some (some sl)):=λj sl e=>by
  by_cases hj:j=i
  ·subst hj;have hi:j<Z.length:=by
    have:=(Wy.mp e).1;simpa using this
   rw[WG hi] at e;cases e;exact .inl ⟨rfl,hi,rfl⟩
  ·rw[Wx (Xq hj)] at e;exact .inr ⟨hj,e⟩
 refine⟨s.ext,⟨s.st.fh,λj sl e=>?_⟩,by simp[hl],λj c a e e'=>?_,λj k c c' a e1 e2 e3 e4=>?_⟩
 ·rcases get j sl e with⟨rfl,hi,rfl⟩ | ⟨hj,e⟩
  ·exact⟨v,by rw[WG (by omega)],h⟩
  ·obtain⟨u,h1,h2⟩:=s.st.den j sl e;exact⟨u,by rw[Wx (Xq hj)];exact h1,h2⟩
 ·rcases get j _ e with⟨_,_,z⟩ | ⟨hj,e⟩
  ·cases z
  ·rw[Wx (Xq hj)] at e';exact s.own j c a e e'
 ·rcases get j _ e1 with⟨_,_,z⟩ | ⟨hj,e1⟩
  ·cases z
  ·rcases get k _ e2 with⟨_,_,z⟩ | ⟨hk,e2⟩
   ·cases z
   ·rw[Wx (Xq hj)] at e3;rw[Wx (Xq hk)] at e4;exact s.sep j k c c' a e1 e2 e3 e4
theorem StOk.setNew(s:StOk K s0 acI F H σ Z){i:Nat}{a:Addr}{o:HO}{c₀:C}(n:H a=none)(h:DenC K F c₀ o):
 StOk K s0 acI F (upd H a o) (σ.set i (some (.ref a))) (Z.set i (some (.ow c₀))):=by
 have hle:=s.len;have e0:=Ext.free (o:=o) s.st.fh n;have nF:F a=none:=Same.free s.st.fh n;have get:∀(j:Nat) (sl:Sl),(Z.set i (some (.ow c₀)))[j]? =some (some sl)->(j=i/\i<Z.length/\sl= .ow c₀)\/(j≠i/\Z[j]? =some (some sl)):=λj sl e=>by
  by_cases hj:j=i
  ·subst hj;have hi:j<Z.length:=by
    have:=(Wy.mp e).1;simpa using this
   rw[WG hi] at e;cases e;exact .inl ⟨rfl,hi,rfl⟩
  ·rw[Wx (Xq hj)] at e;exact .inr ⟨hj,e⟩
 have old:∀(j:Nat) (c:C) (b:Addr),Z[j]? =some (some (.ow c))->σ[j]? =some (some (.ref b))->b≠a:=λj c b e e' z=>by
  obtain⟨u,h1,b',o,h2,h3,_⟩:=s.st.den j _ e;rw[h1] at e';cases e';cases h2;rw[z,n] at h3;cases h3
 refine⟨s.ext.trans e0,⟨e0.fh,λj sl e=>?_⟩,by simp[hle],λj c b e e'=>?_,λj k c c' b e1 e2 e3 e4=>?_⟩
 ·rcases get j sl e with⟨rfl,hi,rfl⟩ | ⟨hj,e⟩
  ·exact⟨.ref a,by rw[WG (by omega)],a,_,rfl,aQ,nF,h⟩
  ·obtain⟨u,h1,h2⟩:=s.st.den j sl e;exact⟨u,by rw[Wx (Xq hj)];exact h1,h2.ext e0⟩
 ·rcases get j _ e with⟨rfl,hi,_⟩ | ⟨hj,e⟩
  ·rw[WG (by omega)] at e';cases e';exact Same.free s.ext.hh n
  ·rw[Wx (Xq hj)] at e';exact s.own j c b e e'
 ·rcases get j _ e1 with⟨rfl,hi,_⟩ | ⟨hj,e1⟩
  ·rw[WG (by omega)] at e3;cases e3;rcases get k _ e2 with⟨rfl,_,_⟩ | ⟨hk,e2⟩
   ·rfl
   ·rw[Wx (Xq hk)] at e4;exact acE rfl (old k c' a e2 e4)
  ·rcases get k _ e2 with⟨Rc,hi,_⟩ | ⟨hk,e2⟩
   ·rw[Rc,WG (by omega)] at e4;cases e4;rw[Wx (Xq hj)] at e3;exact acE rfl (old j c a (by assumption) e3)
   ·rw[Wx (Xq hj)] at e3;rw[Wx (Xq hk)] at e4;exact s.sep j k c c' b e1 e2 e3 e4
theorem StOk.chg(s:StOk K s0 acI F H σ Z){i:Nat}{a:Addr}{c c₀:C}{o₀:HO}(hi:Z[i]? =some (some (.ow c)))(ha:σ[i]? =some (some (.ref a)))(h:DenC K F c₀ o₀):
 StOk K s0 acI F (upd H a o₀) σ (Z.set i (some (.ow c₀))):=by
 have hle:=s.len;have h0:=s.own i c a hi ha;obtain⟨u,q1,a',o,q2,q3,q4,q5⟩:=s.st.den i _ hi;rw[ha] at q1;cases q1;cases q2;have NN:i<Z.length:=(Wy.mp hi).1;have get:∀(j:Nat) (sl:Sl),(Z.set i (some (.ow c₀)))[j]? =some (some sl)->(j=i/\sl= .ow c₀)\/(j≠i/\Z[j]? =some (some sl)):=λj sl e=>by
  by_cases hj:j=i
  ·subst hj;rw[WG NN] at e;cases e;exact .inl ⟨rfl,rfl⟩
  ·rw[Wx (Xq hj)] at e;exact .inr ⟨hj,e⟩
 have fh:Same F (upd H a o₀):=λb o e=>by
  rw[aE (λz=>by rw[z,q4] at e;cases e)];exact s.st.fh b o e
 refine⟨⟨λb o e=>?_,s.ext.ff,fh,s.ext.new⟩,⟨fh,λj sl e=>?_⟩,by simp[hle],λj c' b e e'=>?_,λj k c1 c2 b e1 e2 e3 e4=>?_⟩
 ·rw[aE (λz=>by rw[z,h0] at e;cases e)];exact s.ext.hh b o e
 ·rcases get j sl e with⟨rfl,rfl⟩ | ⟨hj,e⟩
  ·exact⟨.ref a,ha,a,_,rfl,aQ,q4,h⟩
  ·obtain⟨u,h1,h2⟩:=s.st.den j sl e;refine⟨u,h1,?_⟩;cases sl with
   |fz d=>exact h2
   |ow c'=>
    obtain⟨b,o',r1,r2,r3,r4⟩:=h2;refine⟨b,o',r1,?_,r3,r4⟩;rw[aE (λz=>hj (s.sep j i c' c a e hi (by rw[h1,r1,z]) ha))];exact r2
 ·rcases get j _ e with⟨rfl,_⟩ | ⟨hj,e⟩
  ·rw[ha] at e';cases e';exact h0
  ·exact s.own j c' b e e'
 ·have k1:∃c,Z[j]? =some (some (.ow c)):=by
   rcases get j _ e1 with⟨rfl,_⟩ | ⟨_,e⟩
   ·exact⟨c,hi⟩
   ·exact⟨_,e⟩
  have k2:∃c,Z[k]? =some (some (.ow c)):=by
   rcases get k _ e2 with⟨rfl,_⟩ | ⟨_,e⟩
   ·exact⟨c,hi⟩
   ·exact⟨_,e⟩
  obtain⟨_,k1⟩:=k1;obtain⟨_,k2⟩:=k2;exact s.sep j k _ _ b k1 k2 e3 e4
def frz(i:Nat)(Z:bo):bo:=match Z[i]? with
 |some (some (.ow c))=>Z.set i (some (.fz c.d))
 |_=>Z
theorem StOk.frz(s:StOk K s0 acI F H σ Z)(i:Nat)(obj:Addr->Obj):(∃a o,H a=some o/\DenC K F (Z[i]?.elim (.lst []) λx=>x.elim (.lst []) λy=>match y with | .ow c=>c | _=> .lst []) o/\σ[i]? =some (some (.ref a))/\StOk K s0 acI (upd F a (qi (obj a) o)) (upd H a (qi (obj a) o)) σ (frz i Z))\/frz i Z=Z:=by
 unfold L3.frz;split
 ·rename_i c₀ hi;have hle:=s.len;obtain⟨u,ha,a,o,rfl,q3,q4,KN⟩:=s.st.den i _ hi;refine .inl ⟨a,o,q3,by rw[hi];exact KN,ha,?_⟩;have h0:=s.own i _ a hi ha;have NN:i<Z.length:=(Wy.mp hi).1;have ff:Same F (upd F a (qi (obj a) o)):=λb o e=>by rw[aE (λz=>by rw[z,q4] at e;cases e)];exact e
  have fh:Same (upd F a (qi (obj a) o)) (upd H a (qi (obj a) o)):=λb o e=>by
   by_cases z:b=a
   ·rw[z,aQ] at e⊢;exact e
   ·rw[aE z] at e⊢;exact s.st.fh b o e
  have get:∀(j:Nat) (sl:Sl),(Z.set i (some (.fz c₀.d)))[j]? =some (some sl)->(j=i/\sl= .fz c₀.d)\/(j≠i/\Z[j]? =some (some sl)):=λj sl e=>by
   by_cases hj:j=i
   ·subst hj;rw[WG NN] at e;cases e;exact .inl ⟨rfl,rfl⟩
   ·rw[Wx (Xq hj)] at e;exact .inr ⟨hj,e⟩
  refine⟨⟨λb u q=>?_,s.ext.ff.trans ff,fh,λb hb=>?_⟩,⟨fh,λj sl e=>?_⟩,by simp[hle],λj c' b e e'=>?_,λj k c1 c2 b e1 e2 e3 e4=>?_⟩
  ·rw[aE (λz=>by rw[z,h0] at q;cases q)];exact s.ext.hh b u q
  ·rcases s.ext.new b hb with q | q
   ·exact .inl (by rw[aE (λz=>hb (by rw[z];exact h0))];exact q)
   ·exact .inr q
  ·rcases get j sl e with⟨rfl,rfl⟩ | ⟨hj,e⟩
   ·exact⟨.ref a,ha,DenC.den KN ff aQ⟩
   ·obtain⟨u,h1,h2⟩:=s.st.den j sl e;refine⟨u,h1,?_⟩;cases sl with
    |fz d=>exact Den.mono ff h2
    |ow c'=>
     obtain⟨b,o',r1,r2,r3,r4⟩:=h2;have jU:b≠a:=λz=>hj (s.sep j i c' _ a e hi (by rw[h1,r1,z]) ha);exact⟨b,o',r1,by rw[aE jU];exact r2,by rw[aE jU];exact r3,DenC.mono ff r4⟩
  ·rcases get j _ e with⟨_,z⟩ | ⟨hj,e⟩
   ·cases z
   ·exact s.own j c' b e e'
  ·rcases get j _ e1 with⟨_,z⟩ | ⟨_,e1⟩
   ·cases z
   ·rcases get k _ e2 with⟨_,z⟩ | ⟨_,e2⟩
    ·cases z
    ·exact s.sep j k _ _ b e1 e2 e3 e4
 ·exact .inr rfl
end
def join(F H:Hp):Hp:=λa=>match F a with
 |some o=>some o
 |none=>H a
theorem StOk.rebase{K:Wn}{s0 acI F H:Hp}{σ:St}{Z:bo}(s:StOk K s0 acI F H σ Z):StOk K F (join F acI) F H σ Z/\∀F' H',Ext F (join F acI) F' H'->Ext s0 acI F' H':=by
 have hj:Same (join F acI) H:=λb o e=>by
  unfold join at e;cases q:F b with
  |some u=>rw[q] at e;cases e;exact s.st.fh b _ q
  |none=>rw[q] at e;exact s.ext.hh b o e
 have h0:Same acI (join F acI):=λb o e=>by
  unfold join;cases q:F b with
  |some u=>
   have h1:=s.st.fh b u q;rw[s.ext.hh b o e] at h1;exact h1.symm
  |none=>exact e
 refine⟨⟨⟨hj,Same.refl _,s.st.fh,λ_ _=> .inl rfl⟩,s.st,s.len,λi c a e e'=>?_,s.sep⟩,λF' H' x=>⟨h0.trans x.hh,s.ext.ff.trans x.ff,x.fh,λa ha=>?_⟩⟩
 ·have h1:=s.own i c a e e';obtain⟨v,q1,a',o,q2,q3,q4,_⟩:=s.st.den i _ e;rw[e'] at q1;cases q1;cases q2;unfold join;rw[q4];exact h1
 ·have:join F acI a≠none:=by
   cases q:acI a with
   |none=>exact acE q ha
   |some o=>rw[h0 a o q];exact λz=>nomatch z
  rcases s.ext.new a ha with p | p
  ·rcases x.new a this with q | ⟨ts,q⟩
   ·exact .inl (q.trans p)
   ·cases z:acI a with
    |none=>exact acE z ha
    |some o=>
     rw[h0 a o z] at q;exact .inr ⟨ts,q⟩
  ·exact .inr p
theorem StOk.unbase{K:Wn}{s0 acI F U F' H':Hp}{σ:St}{Z:bo}(k:∀F' H',Ext F U F' H'->Ext s0 acI F' H')(s:StOk K F U F' H' σ Z)(h:Same acI U):StOk K s0 acI F' H' σ Z:=
 ⟨k _ _ s.ext,s.st,s.len,λi c a e e'=>Same.free h (s.own i c a e e'),s.sep⟩
theorem D5{K:Wn}{s0 acI F H:Hp}{σ:St}{Z:bo}(s:StOk K s0 acI F H σ Z):Same acI (join F acI):=λb o e=>by
 unfold join;cases q:F b with
 |some u=>
  have h1:=s.st.fh b u q;rw[s.ext.hh b o e] at h1;exact h1.symm
 |none=>exact e
theorem Inv.refrz{X:Cx}{f8:List (Addr×Obj)}{σ:St}{H:Hp}{s:We}{a:Addr}{o o':HO}(I:Inv X f8 σ H s)(e:H a=some o)
 (ho:o'=o\/∃u,o'= .frz ((s.heap.get? a).getD {cls:= .none,data:= .fields #[]}) u/\((∃k,o= .dT k/\u= .dT k)\/∃k,o= .dK k/\u= .dK k)):Inv X f8 σ (upd H a o') s:=by
 rcases ho with rfl | ⟨u,rfl,hu⟩
 ·have:upd H a o'=H:=by
   funext b;by_cases z:b=a
   ·rw[z,aQ,e]
   ·rw[aE z]
  rw[this];exact I
 have U3:o=u:=by rcases hu with⟨k,h1,h2⟩ | ⟨k,h1,h2⟩<;>rw[h1,h2]
 subst U3;have nt:∀ts,o≠ .tup ts:=λts z=>by rcases hu with⟨k,h1,_⟩ | ⟨k,h1,_⟩<;>rw[h1] at z<;>cases z
 have nf:∀ob v,o≠ .frz ob v:=λob v z=>by rcases hu with⟨k,h1,_⟩ | ⟨k,h1,_⟩<;>rw[h1] at z<;>cases z
 have nb:∀p,o≠ .tbl p:=λp z=>by rcases hu with⟨k,h1,_⟩ | ⟨k,h1,_⟩<;>rw[h1] at z<;>cases z
 have no:∀p,o≠ .own p:=λp z=>by rcases hu with⟨k,h1,_⟩ | ⟨k,h1,_⟩<;>rw[h1] at z<;>cases z
 have ne:∀b,H b=none->b≠a:=λb hb z=>by rw[z,e] at hb;cases hb
 have hk:=I.hok a o e;have jl:=hk.lt;obtain⟨ob,OL⟩:∃ob,s.heap.get? a=some ob:=by
  rcases hu with⟨k,h1,_⟩ | ⟨k,h1,_⟩
  ·subst h1;obtain⟨_,_,_,_,ob,_,_,q,_⟩:=hk;exact⟨ob,q⟩
  ·subst h1;obtain⟨_,_,_,_,ob,_,_,q,_⟩:=hk;exact⟨ob,q⟩
 rw[OL];refine⟨I.ok,I.os,I.bare,⟨I.base.keep,I.base.slot,λb q h1 h2 h3=>?_,I.base.there,λb xs q=>?_,λb q1 v q=>?_,λb ps q=>?_⟩,I.loc,I.cell,?_,λx c q=>?_,λp hp=>?_,λb v q=>?_,I.len⟩
 ·have:=I.base.free b q h1 h2 h3;rw[aE (ne b this)];exact this
 ·have:=I.base.tups b xs q;rw[aE (λz=>by rw[z,e] at this;exact nt xs (WY this))];exact this
 ·have:=I.base.frzs b q1 v q;rw[aE (λz=>by rw[z,e] at this;exact nf _ _ (WY this))];exact this
 ·obtain⟨m,this⟩:=I.base.tbls b ps q;exact⟨m,by rw[aE (λz=>by rw[z,e] at this;exact nb _ (WY this))];exact this⟩
 ·rw[aE (ne _ I.free)];exact I.free
 ·rw[aE (ne _ (I.freeC x c q))];exact I.freeC x c q
 ·obtain⟨h1,h2,h3⟩:=I.pin p hp;exact⟨h1,by rw[aE (ne _ h2)];exact h2,h3⟩
 ·have st:∀{c:Addr}{v:HO},ObjOk X.prog X.w H s.heap c v->ObjOk X.prog X.w (upd H a (.frz ob o)) s.heap c v:=λ{c v} k=>k.stay (λ_ _ _ q=>q)
   (λc' q=>by rw[aE (λz=>by rw[z,e] at q;exact no _ (WY q))];exact q) λc' xs q=>by rw[aE (λz=>by rw[z,e] at q;exact nt _ (WY q))];exact q
  by_cases z:b=a
  ·subst z;rw[show (some ob).getD _=ob from rfl,aQ] at q;cases q;exact⟨OL,st hk⟩
  ·rw[aE z] at q;exact st (I.hok b v q)
def az(a b:DS):DS:=λZ=>a Z>>=λo=>match o with | .nx Z'=>b Z' | .rt d=>ae (.rt d)
def cG:DS:=λZ=>ae (.nx Z)
def bI(δ:DE):DS:=λZ=>δ Z>>=λd=>ae (.rt d)
def ki(δ:DE):DS:=λZ=>δ Z>>=λ_=>ae (.nx Z)
def aW(i:Nat)(δ:DE):DS:=λZ=>δ Z>>=λd=>ae (.nx (Z.set i (some (.fz d))))
def fU(c:DT)(a b:DS):DS:=λZ=>c Z>>=λx=>if x then a Z else b Z
def qw(i:Nat)(a:DS):DS:=λZ=>a (frz i Z)
def l8(i:Nat):DS:=λZ=>ae (.nx (Z.set i (some (.ow (.lst [])))))
def Eu(Z:bo)(i:Nat):Option (List D):=match Z[i]? with
 |some (some (.ow (.lst ds)))=>some ds
 |_=>none
theorem vn{Z:bo}{i:Nat}{ds:List D}(h:Eu Z i=some ds):Z[i]? =some (some (.ow (.lst ds))):=by
 unfold Eu at h;split at h
 ·rename_i ds' e;cases h;exact e
 ·cases h
def gA(i:Nat)(δ:DE):DS:=λZ=>match Eu Z i with
 |some ds=>δ Z>>=λd=>if ds.length<lim then ae (.nx (Z.set i (some (.ow (.lst (ds++[d])))))) else ah
 |none=>ah
def BE(i:Nat)(δ:DE):DS:=λZ=>match Eu Z i with
 |some ds=>δ Z>>=λd=>lstM d>>=λes=>if ds.length+es.length<=lim then ae (.nx (Z.set i (some (.ow (.lst (ds++es)))))) else ah
 |none=>ah
def forL(put:D->bo->Option bo)(body:DS):List D->DS
 |[],Z=>ae (.nx Z)
 |d::ds,Z=>(match put d Z with | none=>ah | some Z1=>body Z1>>=λo=>match o with | .nx Z2=>forL put body ds Z2 | .rt v=>ae (.rt v))
def putN(i:Nat):D->bo->Option bo:=λd Z=>some (Z.set i (some (.fz d)))
def da(put:D->bo->Option bo)(δi:DA)(body:DS):DS:=λZ=>δi Z>>=λds=>forL put body ds Z
section
variable{X:Cx}{Xw:Nat->Hp->Prop}{s0 acI:Hp}{st:Stmt}{rest:List Stmt}{τ τ':DS}{e:Expr}{δ:DE}{pos:Pos}
theorem br:PSDs X Xw [] cG:=λs0 acI=>PSs.weak JW λD σ H ⟨F,Z,s,w⟩=>w σ F H s
theorem ao(h1:gM X Xw st τ)(h2:PSDs X Xw rest τ'):PSDs X Xw (st::rest) (az τ τ'):=λs0 acI=>PSs.weak (G7 (h1 s0 acI) (h2 s0 acI)) λD σ H ⟨F,Z,s,w⟩=>by
 refine⟨F,Z,s,?_⟩;unfold az at w
 match τ Z,w with
 |none,w=>exact w
 |some (.ok (.nx Z')),w=>exact λσ' F' H' s'=>⟨F',Z',s',w⟩
 |some (.ok (.rt d)),w=>exact w
 |some (.ex n),w=>exact w
theorem av(h1:gM X Xw st τ):PSDs X Xw [st] τ:=λs0 acI=>JX (h1 s0 acI)
theorem c_{i:Nat}(h:gM X Xw st τ):gM X Xw st (qw i τ):=λs0 acI f8 sh σ H D I ⟨F,Z,s,w⟩=>by
 rcases s.frz i (λa=>(sh.heap.get? a).getD {cls:= .none,data:= .fields #[]}) with⟨a,o,ha,hc,hσ,s'⟩ | e
 ·refine h s0 acI f8 sh σ _ D (L3.Inv.refrz I ha ?_) ⟨_,_,s',w⟩;generalize (Z[i]?.elim (C.lst []) λx=>x.elim (.lst []) λy=>match y with | .ow c=>c | _=> .lst [])=c at hc;cases c with
  |lst ds=>obtain⟨vs,rfl,_⟩:=hc;exact .inl rfl
  |dct ks ds=>obtain⟨vs,rfl,_⟩:=hc;exact .inr ⟨_,rfl, .inl ⟨_,rfl,rfl⟩⟩
  |dci ks ds=>obtain⟨vs,rfl,_⟩:=hc;exact .inr ⟨_,rfl, .inr ⟨_,rfl,rfl⟩⟩
 ·exact h s0 acI f8 sh σ H D I ⟨F,Z,s,by unfold qw at w;rw[e] at w;exact w⟩
theorem aJ(h:PD X Xw e δ):gM X Xw (.Return (some e) pos) (bI δ):=λs0 acI=>PS.weak (Nf h) λD σ H ⟨F,Z,s,w⟩=>by
 refine⟨F,Z,s.st,?_⟩;unfold bI at w
 match δ Z,w with
 |none,w=>exact w
 |some (.ok d),w=>exact λv H' F' e' q=>w v F' H' (s.ext.trans e') q
 |some (.ex n),w=>exact λF' H' e'=>w F' H' (s.ext.trans e')
theorem fo(h:PD X Xw e δ)(hs:ZU e none pos.line X.env=pure false:=by rfl):gM X Xw (.Expr e pos) (ki δ):=λs0 acI=>PS.weak (qJ h hs) λD σ H ⟨F,Z,s,w⟩=>by
 refine⟨F,Z,s.st,?_⟩;unfold ki at w
 match δ Z,w with
 |none,w=>exact w
 |some (.ok d),w=>exact λv H' F' e' q=>w σ F' H' (s.ext' e')
 |some (.ex n),w=>exact λF' H' e'=>w F' H' (s.ext.trans e')
theorem aH{i:Nat}{x:Str}{pos':Pos}(hN:X.N.Nodup)(hi:X.N[i]? =some x)(hx:Loc X.env.scope x)(he:PD X Xw e δ)(hf:X.fn x=true\/X.env.scope.names.lookup x=some .local:=by first | exact .inl rfl | exact .inr rfl)
 (hs:aaU [.Name x pos'] e pos.line X.env=pure false:=by rfl):
 gM X Xw (.Assign [.Name x pos'] e pos) (aW i δ):=λs0 acI=>PS.weak (sM he (bb hN hi hx hf) hs) λD σ H ⟨F,Z,s,w⟩=>by
 refine⟨F,Z,s.st,?_⟩;unfold aW at w
 match δ Z,w with
 |none,w=>exact w
 |some (.ok d),w=>exact λv H' F' e' q=>w _ F' H' ((s.ext' e').set q)
 |some (.ex n),w=>exact λF' H' e'=>w F' H' (s.ext.trans e')
theorem iu{elt iter tg:Expr}{ifs:List Expr}{scope:Scope}{bz:Pos}{tn:List Str}{n:Nat}{δi:DA}{δt:DT}{δe:DE}{i:Nat}{x:Str}{pos':Pos}(hN:X.N.Nodup)(Q7:X.N[i]? =some x)(hx:Loc X.env.scope x)
 (sc:CompSc X scope tn)(hn:tn.length=max n 1)(hc:X.calm=true)(hi:Dh X Xw tg iter δi)
 (hg:∀f8 cl C fp v4 H σ,EZ (k9 X scope tn f8 cl C fp v4 H) tg n σ)
 (ht:∀f8 cl C fp v4 H,oi (k9 X scope tn f8 cl C fp v4 H) ifs δt)
 (he:∀f8 cl C fp v4 H,PD (k9 X scope tn f8 cl C fp v4 H) (λ_ _=>False) elt δe)
 (hf:X.fn x=true\/X.env.scope.names.lookup x=some .local:=by first | exact .inl rfl | exact .inr rfl)
 (U9:ZU (.ListComp elt [⟨tg,iter,ifs,0⟩] scope bz) (some (.Name x pos')) pos.line X.env=pure true:=by rfl)
 (hs:∀x,ZV iter X.env x=pure x:=by intro _;rfl):
 gM X Xw (.Assign [.Name x pos'] (.ListComp elt [⟨tg,iter,ifs,0⟩] scope bz) pos) (aW i (bc n δi δt δe)):=λs0 acI f8 s σ H D I ⟨F,Z,S,w⟩=>by
 obtain⟨cl,FK,cl1,cl2⟩:=qW (scope:=scope) (env:=X.env) λy hy hf=>I.ok.has y.1 (sc.frees y hy hf);have w':WP X.K Xw F H (bc n δi δt δe Z) (λv H'=>D.nx (σ.set i (some v)) H'):=by
  have w:WPS X.K Xw s0 acI (bc n δi δt δe Z>>=λd=>ae (.nx (Z.set i (some (.fz d))))) D:=w
  match bc n δi δt δe Z,w with
  |none,w=>exact w
  |some (.ok d),w=>exact λv H' F' e' q=>w _ F' H' ((S.ext' e').set q)
  |some (.ex n),w=>exact λF' H' e'=>w F' H' (S.ext.trans e')
 rw[exec_Assign_Name_used _ _ _ _ U9];refine Wb (wpAny_standAt (Wb ?_));show wpAny _ X.A (do let _<-comprehension (.ListComp elt [⟨tg,iter,ifs,0⟩] scope bz) scope X.env _ (newList []) false (eval iter X.env) (some (assign (.Name x pos') X.env))) _ _ s;refine Wb (Xp (ab4 (use:=some (assign (.Name x pos') X.env)) (Q:=λ_ s'=>SP X f8 D .next s') rfl hs FK sc.kind sc.names
  (yE (RR:=λu8 C=>compPost (model X.prog X.w) X.A X.xe (some (assign (.Name x pos') X.env)) (λ_ s'=>SP X f8 D .next s') u8 C) sc hn hc hi hg ht he I S.st w' cl1 cl2 λs1 C D' H' I1 q b=>?_)) (λ_ s' hq=>Wk (Wk hq)) λ_ _ e=>e)
 show wpAny _ X.A (assign (.Name x pos') X.env (.ref D')) _ _ _;refine aa8 (o6 I1 hN Q7 hx (v:= .ref D') rfl (λs2 I2 ⟨a,sb,ha⟩=>?_) hf);have T9:C≠a:=by
  rcases ha with z | z
  ·rw[z];exact b.nl
  ·exact Xq (b.nc x a z)
 obtain⟨m,hm⟩:=b.ns;have NO:s2.heap.Ns C m:=hm.sameBut sb T9;refine⟨m,NO,λh' Cj=>⟨_,H',Inv.block I2 ⟨⟨m,NO⟩,b.free,b.nl,b.nw,b.nc,b.np⟩ Cj,q⟩⟩
theorem bS{c:Expr}{a b:List Stmt}{tc:DT}(hc:qe X Xw c tc)(ha:PSDs X Xw a τ)(hb:PSDs X Xw b τ'):gM X Xw (.If c a b pos) (fU tc τ τ'):=λs0 acI=>PS.weak (Po hc (ha s0 acI) (hb s0 acI)) λD σ H ⟨F,Z,s,w⟩=>by
 refine⟨F,Z,s.st,?_⟩;unfold fU at w
 match tc Z,w with
 |none,w=>exact w
 |some (.ok true),w=>exact λH' F' e'=>⟨F',Z,s.ext' e',w⟩
 |some (.ok false),w=>exact λH' F' e'=>⟨F',Z,s.ext' e',w⟩
 |some (.ex n),w=>exact λF' H' e'=>w F' H' (s.ext.trans e')
theorem fq{i:Nat}{x:Str}{pos' Nc:Pos}(hN:X.N.Nodup)(hi:X.N[i]? =some x)(hx:Loc X.env.scope x)(hf:X.fn x=true\/X.env.scope.names.lookup x=some .local:=by first | exact .inl rfl | exact .inr rfl):
 gM X Xw (.Assign [.Name x pos'] (.List [] Nc) pos) (l8 i):=λs0 acI=>PS.weak (sM (BA sC) (bb hN hi hx hf) rfl) λD σ H ⟨F,Z,s,w⟩=>by
 refine⟨Xe _,λp hp=>?_⟩;exact w _ F _ (s.setNew (c₀:= .lst []) hp ⟨[],rfl,rfl,Xe _⟩)
def BW(K:Wn)(g:TG)(put:D->bo->Option bo):Prop:=∀(s0 acI F H:Hp) (σ:St) (Z Z':bo) (d:D) (v:V) (Q:St->Hp->Prop),StOk K s0 acI F H σ Z->Den K F d v->put d Z=some Z'->
 (∀σ',StOk K s0 acI F H σ' Z'->Q σ' H)->g v σ H Q
theorem bB{K:Wn}{i:Nat}:BW K (FE i) (putN i):=λs0 acI F H σ Z Z' d v Q s q e k=>by
 cases e;exact k _ (s.set q)
def VM(K:Wn)(Xw:Nat->Hp->Prop)(τ:DS):TS:=λD σ H=>∃s0 acI,tS K Xw s0 acI τ D σ H
theorem PSDs.ex{body:List Stmt}(h:PSDs X Xw body τ):PSs X body (VM X.K Xw τ):=λf8 s σ H D I ⟨s0,acI,w⟩=>h s0 acI f8 s σ H D I w
theorem bM{tg iter:Expr}{body:List Stmt}{δi:DA}{g:TG}{put:D->bo->Option bo}(hp:PassesOwn (model X.prog X.w) X.A X.env X.xe)(hc:X.calm=true)(hi:Dh X Xw tg iter δi)(hg:PG X tg g)(L6:BW X.K g put)(hb:PSDs X Xw body τ)
 (hs:∀x,ZV iter X.env x=pure x:=by intro _;rfl):gM X Xw (.For tg iter body [] pos) (da put δi τ):=λs0 acI=>PS.weak (Nd hp hc hi hg hb.ex hs) λD σ H ⟨F,Z,s,w⟩=>by
 refine⟨F,Z,s.st,?_⟩;unfold da at w
 match δi Z,w with
 |none,w=>exact w
 |some (.ex n),w=>exact λF' H' e'=>w F' H' (s.ext.trans e')
 |some (.ok ds),w=>
  have w:WPS X.K Xw s0 acI (forL put τ ds Z) D:=w;intro J H1 F1 e1 Tg;obtain⟨s1,back⟩:=(s.ext' e1).rebase;have hU:=D5 (s.ext' e1);generalize join F1 acI=U at s1 back hU;refine⟨λi m σ H=>m=ds.length - i/\i<=ds.length/\∃F Z,StOk X.K F1 U F H σ Z/\WPS X.K Xw s0 acI (forL put τ (ds.drop i) Z) D,⟨ds.length,by simp,Xe _,F1,Z,s1,by simpa using w⟩,?_⟩;rintro i m σ2 H2 ⟨rfl,Q8,F2,Z2,s2,w2⟩;by_cases jl:i<ds.length
  ·obtain⟨d,hd⟩:∃d,ds[i]? =some d:=⟨_,Wi jl⟩
   obtain⟨Q6,Ma⟩:=(Tg F2 H2 i s2.ext.ff s2.st.fh).1 d hd;have ed:ds.drop i=d::ds.drop (i+1):=by
    obtain⟨hi,e⟩:=Wy.mp hd;rw[abm hi,e]
   rw[ed] at w2;unfold forL at w2;refine .inr ⟨Q6,λσ' H'=>∃F' Z',StOk X.K F1 U F' H' σ' Z'/\WPS X.K Xw s0 acI (forL put τ (ds.drop (i+1)) Z') D,λσ' H' ⟨F',Z',h2,h3⟩=>⟨ds.length - (i+1),by omega,rfl,jl,F',Z',h2,h3⟩,λx H3 y3=>?_⟩;obtain⟨F3,HR,q3⟩:=Ma x H3 y3
   match Rp:put d Z2,w2 with
   |none,w2=>exact w2.elim
   |some Z3,w2=>
    refine L6 F1 U F3 H3 σ2 Z2 Z3 d x _ (s2.ext' HR) q3 Rp λσ3 s3=>⟨F1,U,F3,Z3,s3,?_⟩
    have w2:WPS X.K Xw s0 acI (τ Z3>>=λo=>match o with | .nx Z2=>forL put τ (ds.drop (i+1)) Z2 | .rt v=>ae (.rt v)) D:=w2
    match τ Z3,w2 with
    |none,w2=>exact w2
    |some (.ok (.nx Z')),w2=>exact λσ' F' H' s'=>⟨F',Z',s',w2⟩
    |some (.ok (.rt d)),w2=>exact λv F' H' e q=>w2 v F' H' (back _ _ e) q
    |some (.ex n),w2=>exact λF' H' e=>w2 F' H' (back _ _ e)
  ·have hi:i=ds.length:=by omega
   subst hi;rw[List.drop_length] at w2;exact .inl ⟨(Tg F2 H2 ds.length s2.ext.ff s2.st.fh).2 (Wr _),w2 σ2 F2 H2 (s2.unbase back hU)⟩
end
def gI(f:Int->Int->D):D->D->M D
 | .int i, .int j=>ae (f i j)
 |_,_=>ah
def Om(c:Int->Int->Bool)(f:Int->Int->D):D->D->M D
 | .int i, .int j=>if c i j then ae (f i j) else ah
 |_,_=>ah
theorem vk{K:Wn}{gv:Int->Int->V}{gd:Int->Int->D}(h:∀F i j,Den K F (gd i j) (gv i j)):yn K (C9 gv) (gI gd):=λXw F H x y dx dy Q s hx hy w=>by
 unfold gI at w;split at w
 ·rename_i i j;exact⟨i,j,hx,hy,WP.now w s (h F i j)⟩
 ·exact w.elim
theorem Bt{K:Wn}{gv:Int->Int->V}{gd:Int->Int->D}{c:Int->Int->Bool}{C:Int->Int->Prop}(h:∀F i j,Den K F (gd i j) (gv i j))(hc:∀i j,c i j=true->C i j):yn K (rI C gv) (Om c gd):=λXw F H x y dx dy Q s hx hy w=>by
 unfold Om at w;split at w
 ·rename_i i j;split at w
  ·rename_i Ql;exact⟨i,j,hx,hy,hc i j Ql,WP.now w s (h F i j)⟩
  ·exact w.elim
 ·exact w.elim
def dw:=gI λi j=> .int (i+j)
def wm:=gI λi j=> .int (i - j)
def iD:=Om (λi j=>decide ((-(2 ^ 64)<i/\i<2 ^ 64)\/(-(2 ^ 64)<j/\j<2 ^ 64))) λi j=> .int (i*j)
def tU:=Om (λ_ j=>decide (0<j/\j<1073741824)) λi j=> .int (i / j)
def mB:=Om (λ_ j=>decide (0<j)) λi j=> .int (i % j)
def SA:=gI λi j=> .bl (decide (i<j))
def LO:=gI λi j=> .bl (decide (j<i))
section
variable{X:Cx}{Xw:Nat->Hp->Prop}{a b:Expr}{δa δb:DE}{pos:Pos}
theorem cX(ha:PD X Xw a δa)(hb:PD X Xw b δb):PD X Xw (.BinOp a .Add b pos) (d2 dw δa δb):=nz MF (vk λ_ _ _=>rfl) ha hb
theorem oO(ha:PD X Xw a δa)(hb:PD X Xw b δb):PD X Xw (.BinOp a .Sub b pos) (d2 wm δa δb):=nz MO (vk λ_ _ _=>rfl) ha hb
theorem j9(ha:PD X Xw a δa)(hb:PD X Xw b δb):PD X Xw (.BinOp a .Mult b pos) (d2 iD δa δb):=nz ML (Bt (λ_ _ _=>rfl) λi j h=>by unfold CMul;exact acD h) ha hb
theorem xi(ha:PD X Xw a δa)(hb:PD X Xw b δb):PD X Xw (.BinOp a .FloorDiv b pos) (d2 tU δa δb):=nz Jv (Bt (λ_ _ _=>rfl) λi j h=>by unfold NW;exact acD h) ha hb
theorem oM(ha:PD X Xw a δa)(hb:PD X Xw b δb):PD X Xw (.BinOp a .Mod b pos) (d2 mB δa δb):=nz MK (Bt (λ_ _ _=>rfl) λi j h=>acD h) ha hb
theorem Pq(ha:PD X Xw a δa)(hb:PD X Xw b δb):qe X Xw (.Compare a [.Lt] [b] pos) (cE (d2 SA δa δb)):=gz zH (vk λ_ _ _=>rfl) ha hb
theorem Pp(ha:PD X Xw a δa)(hb:PD X Xw b δb):qe X Xw (.Compare a [.Gt] [b] pos) (cE (d2 LO δa δb)):=gz K7 (vk λ_ _ _=>rfl) ha hb
def jT:D->D->M D
 | .lst ds, .int i=>match atI ds i with | some d=>ae d | none=>ah
 |_,_=>ah
def aU:D->D->M D
 | .tup ds, .int i=>match atI ds i with | some d=>ae d | none=>ah
 |_,_=>ah
def FC:D->D->M D
 | .scr ns, .int i=>match atI ns i with | some n=>ae (.int n) | none=>ah
 |_,_=>ah
def gn:D->D->M D
 | .str x, .int i=>match atI x.cps.toList i with | some c=>ae (.str ⟨#[c]⟩) | none=>ah
 |_,_=>ah
theorem DenL.atI{K:Wn}{F:Hp}{ds:List D}{vs:List V}(h:DenL K F ds vs){i:Int}{d:D}(e:L2.atI ds i=some d):∃v,L2.atI vs i=some v/\Den K F d v:=by
 unfold L2.atI at e⊢;rw[<-h.len];cases q:Ct ds.length i with
 |none=>rw[q] at e;cases e
 |some j=>
  rw[q] at e;exact h.get e
theorem Jw{K:Wn}:yn K (Np K) jT:=λXw F H x y dx dy Q s hx hy w=>by
 unfold jT at w;split at w
 ·rename_i ds i;obtain⟨a,vs,h1,h2,h3,h4⟩:=hx;split at w
  ·rename_i d e;obtain⟨v,e1,q⟩:=h3.atI e;exact⟨a,vs,i,v,h1,hy,SqL.of (s _ _ h2),e1,WP.now w s q⟩
  ·exact w.elim
 ·exact w.elim
theorem Jz{K:Wn}:yn K (PH K) aU:=λXw F H x y dx dy Q s hx hy w=>by
 unfold aU at w;split at w
 ·rename_i ds i;obtain⟨a,vs,h1,h2,h3,h4⟩:=hx;split at w
  ·rename_i d e;obtain⟨v,e1,q⟩:=h3.atI e;exact⟨a,vs,i,v,h1,hy,SqT.of (s _ _ h2),e1,WP.now w s q⟩
  ·exact w.elim
 ·exact w.elim
theorem Jx{K:Wn}:yn K (Np K) FC:=λXw F H x y dx dy Q s hx hy w=>by
 unfold FC at w;split at w
 ·rename_i ns i;obtain⟨a,h1,h2,h3⟩:=hx;split at w
  ·rename_i n e;refine⟨a,_,i, .int n,h1,hy,Same.seq s h2,?_,WP.now w s rfl⟩;unfold L2.atI at e⊢;rw[Wc];cases q:Ct ns.length i with
   |none=>rw[q] at e;cases e
   |some j=>
    rw[q] at e;have e:ns[j]? =some n:=e;show (ns.map V.int)[j]? =some (.int n);rw[Wz,e];rfl
  ·exact w.elim
 ·exact w.elim
theorem Jy{K:Wn}:yn K PF gn:=λXw F H x y dx dy Q s hx hy w=>by
 unfold gn at w;split at w
 ·rename_i z i;obtain⟨h1,h2⟩:=hx;split at w
  ·rename_i c e;exact⟨z,i,c,h1,hy,by have:=er;omega,e,WP.now w s ⟨rfl,by show 1<=lim;decide⟩⟩
  ·exact w.elim
 ·exact w.elim
theorem l6(ha:PD X Xw a δa)(hb:PD X Xw b δb)(hs:jc b:=by intro _ _;rfl):PD X Xw (.Subscript a b pos) (d2 jT δa δb):=CQ wF Jw ha hb hs
theorem MU(ha:PD X Xw a δa)(hb:PD X Xw b δb)(hs:jc b:=by intro _ _;rfl):PD X Xw (.Subscript a b pos) (d2 FC δa δb):=CQ wF Jx ha hb hs
theorem bG(ha:PD X Xw a δa)(hb:PD X Xw b δb)(hs:jc b:=by intro _ _;rfl):PD X Xw (.Subscript a b pos) (d2 aU δa δb):=CQ Ml Jz ha hb hs
theorem l7(ha:PD X Xw a δa)(hb:PD X Xw b δb)(hs:jc b:=by intro _ _;rfl):PD X Xw (.Subscript a b pos) (d2 gn δa δb):=CQ Mk Jy ha hb hs
def uW:D->D->M D
 | .str x, .str y=>if x.length+y.length<=lim then ae (.str (x++y)) else ah
 |_,_=>ah
def gV:D->D->M D
 | .lst x, .lst y=>if x.length+y.length<=lim then ae (.lst (x++y)) else ah
 |_,_=>ah
def DM:D->D->M D
 | .lst x, .int k=>if (0<=k/\k<=64)/\x.length*k.toNat<=lim then ae (.lst (Wm k.toNat x).flatten) else ah
 |_,_=>ah
theorem g9(x y:Str):(x++y).length=x.length+y.length:=by
 show (x.cps++y.cps).size=_;simp[Str.length]
theorem CO(ha:PD X Xw a δa)(hb:PD X Xw b δb):PD X Xw (.BinOp a .Add b pos) (d2 uW δa δb):=nz Bs (λXw F H x y dx dy Q s hx hy w=>by
 unfold uW at w;split at w
 ·rename_i i j;split at w
  ·rename_i hl;exact⟨i,j,hx.1,hy.1,by have:=er;omega,WP.now w s ⟨rfl,by rw[g9];exact hl⟩⟩
  ·exact w.elim
 ·exact w.elim) ha hb
theorem qG(ha:PD X Xw a δa)(hb:PD X Xw b δb):PD X Xw (.BinOp a .Add b pos) (d2 gV δa δb):=nz MG (λXw F H x y dx dy Q s hx hy w=>by
 unfold gV at w;split at w
 ·rename_i i j;obtain⟨a,vs,h1,h2,h3,h4⟩:=hx;obtain⟨a',vs',k1,k2,k3,k4⟩:=hy;split at w
  ·rename_i hl;have e1:=h3.len;have e2:=k3.len;have:=er;refine⟨a,a',vs,vs',h1,k1,s _ _ h2,s _ _ k2,by omega,λp hp=>?_⟩;exact WP.fin w (Ext.lay s hp) ⟨p,_,rfl,aQ,DenL.mono (Ext.lay s hp).ff (h3.append k3),by rw[Wj];exact hl⟩
  ·exact w.elim
 ·exact w.elim) ha hb
theorem DenL.rep{K:Wn}{F:Hp}{ds:List D}{vs:List V}(h:DenL K F ds vs):∀n:Nat,DenL K F (Wm n ds).flatten (Wm n vs).flatten
 |0=>rfl
 |n+1=>by
  rw[XZ,XZ,YB,YB];exact h.append (DenL.rep h n)
theorem xn(ha:PD X Xw a δa)(hb:PD X Xw b δb):PD X Xw (.BinOp a .Mult b pos) (d2 DM δa δb):=nz MN (λXw F H x y dx dy Q s hx hy w=>by
 unfold DM at w;split at w
 ·rename_i i k;obtain⟨a,vs,h1,h2,h3,h4⟩:=hx;split at w
  ·rename_i hl;obtain⟨⟨l1,l2⟩,l3⟩:=hl;have e1:=h3.len;have:=er;refine⟨a,k,vs,h1,hy,s _ _ h2,by omega,by omega,by rw[<-e1];omega,λp hp=>?_⟩;exact WP.fin w (Ext.lay s hp) ⟨p,_,rfl,aQ,DenL.mono (Ext.lay s hp).ff (h3.rep _),by rw[len_rep,abZ];exact l3⟩
  ·exact w.elim
 ·exact w.elim) ha hb
end
end L3
namespace L3
open PySem PySem.Spec L2 SeqAt
open PyProof.Rows hiding St
def pj(f:D->D->Option Bool):List D->List D->Option Bool
 |[],[]=>some true
 |x::xs,y::ys=>match f x y,pj f xs ys with
  |some b,some r=>some (b&&r)
  |_,_=>none
 |[],_::_=>some false
 |_::_,[]=>some false
def AR:D->D->Option Bool
 | .non, .non=>some true
 | .bl a, .bl b=>some (a==b)
 | .bl a, .int j=>some ((if a then 1 else 0)==j)
 | .int i, .bl b=>some (i==(if b then 1 else 0))
 | .int i, .int j=>some (i==j)
 | .str x, .str y=>some (x==y)
 | .non, .bl _=>some false
 | .non, .int _=>some false
 | .non, .str _=>some false
 | .non, .lst _=>some false
 | .non, .tup _=>some false
 | .bl _, .non=>some false
 | .bl _, .str _=>some false
 | .bl _, .lst _=>some false
 | .bl _, .tup _=>some false
 | .int _, .non=>some false
 | .int _, .str _=>some false
 | .int _, .lst _=>some false
 | .int _, .tup _=>some false
 | .str _, .non=>some false
 | .str _, .bl _=>some false
 | .str _, .int _=>some false
 | .str _, .lst _=>some false
 | .str _, .tup _=>some false
 | .lst _, .non=>some false
 | .lst _, .bl _=>some false
 | .lst _, .int _=>some false
 | .lst _, .str _=>some false
 | .lst _, .tup _=>some false
 | .tup _, .non=>some false
 | .tup _, .bl _=>some false
 | .tup _, .int _=>some false
 | .tup _, .str _=>some false
 | .tup _, .lst _=>some false
 |_,_=>none
def kZ:Nat->D->D->Option Bool
 |n+1, .tup xs, .tup ys=>pj (kZ n) xs ys
 |n+1, .lst xs, .lst ys=>pj (kZ n) xs ys
 |n+1, .scr xs, .lst ys=>pj (kZ n) (xs.map D.int) ys
 |_,x,y=>AR x y
structure EqAll (A:WX) (s:We) (u v:Value) (b:Bool):Prop where
 rc:RcAt A s u v b
 ne:RcNeAt A s u v (!b)
 eq:EqAt A s u v b
section
variable{X:Cx}{f8:List (Addr×Obj)}{σ:St}{F H:Hp}{s:We}{A:WX}
theorem gq(I:Inv X f8 σ H s)(hs:Same F H){ds:List D}{v:V}{u:Value}(h:Den X.K F (.tup ds) v)(r:RelV v u):∃a vs aS,u= .ref a/\v= .ref a/\F a=some (.tup vs)/\DenL X.K F ds vs/\Vals vs aS/\s.heap.IsTuple a aS.toArray:=by
 obtain⟨a,vs,rfl,h2,h3,h4⟩:=h;obtain⟨aS,r1,p1,_⟩:=I.tuple (SqT.of (hs _ _ h2));exact⟨a,vs,aS,r,rfl,h2,h3,r1,p1⟩
theorem fP(I:Inv X f8 σ H s)(hs:Same F H){ds:List D}{v:V}{u:Value}(h:Den X.K F (.lst ds) v)(r:RelV v u):∃a vs aS,u= .ref a/\v= .ref a/\F a=some (.lst vs)/\DenL X.K F ds vs/\Vals vs aS/\s.heap.IsList a aS.toArray:=by
 obtain⟨a,vs,rfl,h2,h3,h4⟩:=h;obtain⟨aS,r1,p1,_⟩:=I.list (SqL.of (hs _ _ h2));exact⟨a,vs,aS,r,rfl,h2,h3,r1,p1.isList⟩
theorem Nv(I:Inv X f8 σ H s)(hs:Same F H){ns:List Int}{v:V}{u:Value}(h:Den X.K F (.scr ns) v)(r:RelV v u):∃a aS,u= .ref a/\v= .ref a/\SqL X.K F a (ns.map V.int)/\Vals (ns.map V.int) aS/\s.heap.IsList a aS.toArray:=by
 obtain⟨a,rfl,h2,h3⟩:=h;obtain⟨aS,r1,p1,_⟩:=I.list (Same.seq hs h2);exact⟨a,aS,r,rfl,h2,r1,p1.isList⟩
theorem yS(I:Inv X f8 σ H s)(hs:Same F H)(hu:A.units<cLine){x y:D}{v w:V}{u t:Value}{b:Bool}(hx:Den X.K F x v)(hy:Den X.K F y w)(rx:RelV v u)(ry:RelV w t)(e:AR x y=some b):EqAll A s u t b:=by
 cases x with
 |non=>
  cases y with
  |non=>
   cases e;cases (show _=_ from hx);cases rx;cases (show _=_ from hy);cases ry;exact⟨RcAt.none_none,RcNeAt.none_none,EqAt.same _⟩
  |bl d=>
   cases e;cases (show _=_ from hx);cases rx;cases (show _=_ from hy);cases ry;exact⟨RcAt.none_bool _,RcNeAt.none_bool _,EqAt.none_bool _⟩
  |int d=>
   cases e;cases (show _=_ from hx);cases rx;cases (show _=_ from hy);obtain⟨t2,rfl⟩:=ry;exact⟨RcAt.none_int _ _,RcNeAt.none_int _ _,EqAt.none_int _ _⟩
  |str d=>
   cases e;cases (show _=_ from hx);cases rx;cases (show _=_ from hy.1);obtain⟨t2,rfl⟩:=ry;exact⟨RcAt.none_str _ _,RcNeAt.none_str _ _,EqAt.none_str _ _⟩
  |raw d=>cases e
  |dct _ _=>cases e
  |dci _ _=>cases e
  |exc d=>cases e
  |scr d=>cases e
  |tup d=>
   cases e;cases (show _=_ from hx);cases rx;obtain⟨a2,_,_,rfl,_,_,_,_,p2⟩:=gq I hs hy ry;exact⟨RcAt.none_tuple p2 hu,RcNeAt.none_tuple p2 hu,EqAt.none_tuple p2 hu⟩
  |lst d=>
   cases e;cases (show _=_ from hx);cases rx;obtain⟨a2,_,_,rfl,_,_,_,_,p2⟩:=fP I hs hy ry;exact⟨RcAt.none_list p2 hu,RcNeAt.none_list p2 hu,EqAt.none_list p2 hu⟩
 |bl c=>
  cases y with
  |non=>
   cases e;cases (show _=_ from hx);cases rx;cases (show _=_ from hy);cases ry;exact⟨RcAt.bool_none _,RcNeAt.bool_none _,EqAt.bool_none _⟩
  |bl d=>
   cases e;cases (show _=_ from hx);cases rx;cases (show _=_ from hy);cases ry;exact⟨RcAt.bool_bool _ _,RcNeAt.bool_bool _ _,EqAt.bool_bool _ _⟩
  |int d=>
   cases e;cases (show _=_ from hx);cases rx;cases (show _=_ from hy);obtain⟨t2,rfl⟩:=ry;exact⟨RcAt.bool_int _ _ _,RcNeAt.bool_int _ _ _,EqAt.bool_int _ _ _⟩
  |str d=>
   cases e;cases (show _=_ from hx);cases rx;cases (show _=_ from hy.1);obtain⟨t2,rfl⟩:=ry;exact⟨RcAt.bool_str _ _ _,RcNeAt.bool_str _ _ _,EqAt.bool_str _ _ _⟩
  |raw d=>cases e
  |dct _ _=>cases e
  |dci _ _=>cases e
  |exc d=>cases e
  |scr d=>cases e
  |tup d=>
   cases e;cases (show _=_ from hx);cases rx;obtain⟨a2,_,_,rfl,_,_,_,_,p2⟩:=gq I hs hy ry;exact⟨RcAt.bool_tuple _ p2 hu,RcNeAt.bool_tuple _ p2 hu,EqAt.bool_tuple _ p2 hu⟩
  |lst d=>
   cases e;cases (show _=_ from hx);cases rx;obtain⟨a2,_,_,rfl,_,_,_,_,p2⟩:=fP I hs hy ry;exact⟨RcAt.bool_list _ p2 hu,RcNeAt.bool_list _ p2 hu,EqAt.bool_list _ p2 hu⟩
 |int c=>
  cases y with
  |non=>
   cases e;cases (show _=_ from hx);obtain⟨t1,rfl⟩:=rx;cases (show _=_ from hy);cases ry;exact⟨RcAt.int_none _ _,RcNeAt.int_none _ _,EqAt.int_none _ _⟩
  |bl d=>
   cases e;cases (show _=_ from hx);obtain⟨t1,rfl⟩:=rx;cases (show _=_ from hy);cases ry;exact⟨RcAt.int_bool _ _ _,RcNeAt.int_bool _ _ _,EqAt.int_bool _ _ _⟩
  |int d=>
   cases e;cases (show _=_ from hx);obtain⟨t1,rfl⟩:=rx;cases (show _=_ from hy);obtain⟨t2,rfl⟩:=ry;exact⟨RcAt.int_int _ _ _ _,RcNeAt.int_int _ _ _ _,EqAt.int_int _ _ _ _⟩
  |str d=>
   cases e;cases (show _=_ from hx);obtain⟨t1,rfl⟩:=rx;cases (show _=_ from hy.1);obtain⟨t2,rfl⟩:=ry;exact⟨RcAt.int_str _ _ _ _,RcNeAt.int_str _ _ _ _,EqAt.int_str _ _ _ _⟩
  |raw d=>cases e
  |dct _ _=>cases e
  |dci _ _=>cases e
  |exc d=>cases e
  |scr d=>cases e
  |tup d=>
   cases e;cases (show _=_ from hx);obtain⟨t1,rfl⟩:=rx;obtain⟨a2,_,_,rfl,_,_,_,_,p2⟩:=gq I hs hy ry;exact⟨RcAt.int_tuple _ _ p2 hu,RcNeAt.int_tuple _ _ p2 hu,EqAt.int_tuple _ _ p2 hu⟩
  |lst d=>
   cases e;cases (show _=_ from hx);obtain⟨t1,rfl⟩:=rx;obtain⟨a2,_,_,rfl,_,_,_,_,p2⟩:=fP I hs hy ry;exact⟨RcAt.int_list _ _ p2 hu,RcNeAt.int_list _ _ p2 hu,EqAt.int_list _ _ p2 hu⟩
 |str c=>
  cases y with
  |non=>
   cases e;cases (show _=_ from hx.1);obtain⟨t1,rfl⟩:=rx;cases (show _=_ from hy);cases ry;exact⟨RcAt.str_none _ _,RcNeAt.str_none _ _,EqAt.str_none _ _⟩
  |bl d=>
   cases e;cases (show _=_ from hx.1);obtain⟨t1,rfl⟩:=rx;cases (show _=_ from hy);cases ry;exact⟨RcAt.str_bool _ _ _,RcNeAt.str_bool _ _ _,EqAt.str_bool _ _ _⟩
  |int d=>
   cases e;cases (show _=_ from hx.1);obtain⟨t1,rfl⟩:=rx;cases (show _=_ from hy);obtain⟨t2,rfl⟩:=ry;exact⟨RcAt.str_int _ _ _ _,RcNeAt.str_int _ _ _ _,EqAt.str_int _ _ _ _⟩
  |str d=>
   cases e;cases (show _=_ from hx.1);obtain⟨t1,rfl⟩:=rx;cases (show _=_ from hy.1);obtain⟨t2,rfl⟩:=ry;exact⟨RcAt.str_str _ _ _ _,RcNeAt.str_str _ _ _ _,EqAt.str_str _ _ _ _⟩
  |raw d=>cases e
  |dct _ _=>cases e
  |dci _ _=>cases e
  |exc d=>cases e
  |scr d=>cases e
  |tup d=>
   cases e;cases (show _=_ from hx.1);obtain⟨t1,rfl⟩:=rx;obtain⟨a2,_,_,rfl,_,_,_,_,p2⟩:=gq I hs hy ry;exact⟨RcAt.str_tuple _ _ p2 hu,RcNeAt.str_tuple _ _ p2 hu,EqAt.str_tuple _ _ p2 hu⟩
  |lst d=>
   cases e;cases (show _=_ from hx.1);obtain⟨t1,rfl⟩:=rx;obtain⟨a2,_,_,rfl,_,_,_,_,p2⟩:=fP I hs hy ry;exact⟨RcAt.str_list _ _ p2 hu,RcNeAt.str_list _ _ p2 hu,EqAt.str_list _ _ p2 hu⟩
 |raw _=>cases y<;>cases e
 |dct _ _=>cases y<;>cases e
 |dci _ _=>cases y<;>cases e
 |exc _=>cases y<;>cases e
 |scr c=>cases y<;>cases e
 |tup c=>
  cases y with
  |non=>
   cases e;obtain⟨a1,_,_,rfl,_,_,_,_,p1⟩:=gq I hs hx rx;cases (show _=_ from hy);cases ry;exact⟨RcAt.tuple_none p1 hu,RcNeAt.tuple_none p1 hu,EqAt.tuple_none p1 hu⟩
  |bl d=>
   cases e;obtain⟨a1,_,_,rfl,_,_,_,_,p1⟩:=gq I hs hx rx;cases (show _=_ from hy);cases ry;exact⟨RcAt.tuple_bool _ p1 hu,RcNeAt.tuple_bool _ p1 hu,EqAt.tuple_bool _ p1 hu⟩
  |int d=>
   cases e;obtain⟨a1,_,_,rfl,_,_,_,_,p1⟩:=gq I hs hx rx;cases (show _=_ from hy);obtain⟨t2,rfl⟩:=ry;exact⟨RcAt.tuple_int _ _ p1 hu,RcNeAt.tuple_int _ _ p1 hu,EqAt.tuple_int _ _ p1 hu⟩
  |str d=>
   cases e;obtain⟨a1,_,_,rfl,_,_,_,_,p1⟩:=gq I hs hx rx;cases (show _=_ from hy.1);obtain⟨t2,rfl⟩:=ry;exact⟨RcAt.tuple_str _ _ p1 hu,RcNeAt.tuple_str _ _ p1 hu,EqAt.tuple_str _ _ p1 hu⟩
  |raw d=>cases e
  |dct _ _=>cases e
  |dci _ _=>cases e
  |exc d=>cases e
  |scr d=>cases e
  |tup d=>cases e
  |lst d=>
   cases e;obtain⟨a1,_,_,rfl,_,_,_,_,p1⟩:=gq I hs hx rx;obtain⟨a2,_,_,rfl,_,_,_,_,p2⟩:=fP I hs hy ry;exact⟨RcAt.tuple_list p1 p2 hu,RcNeAt.tuple_list p1 p2 hu,EqAt.tuple_list p1 p2 hu⟩
 |lst c=>
  cases y with
  |non=>
   cases e;obtain⟨a1,_,_,rfl,_,_,_,_,p1⟩:=fP I hs hx rx;cases (show _=_ from hy);cases ry;exact⟨RcAt.list_none p1 hu,RcNeAt.list_none p1 hu,EqAt.list_none p1 hu⟩
  |bl d=>
   cases e;obtain⟨a1,_,_,rfl,_,_,_,_,p1⟩:=fP I hs hx rx;cases (show _=_ from hy);cases ry;exact⟨RcAt.list_bool _ p1 hu,RcNeAt.list_bool _ p1 hu,EqAt.list_bool _ p1 hu⟩
  |int d=>
   cases e;obtain⟨a1,_,_,rfl,_,_,_,_,p1⟩:=fP I hs hx rx;cases (show _=_ from hy);obtain⟨t2,rfl⟩:=ry;exact⟨RcAt.list_int _ _ p1 hu,RcNeAt.list_int _ _ p1 hu,EqAt.list_int _ _ p1 hu⟩
  |str d=>
   cases e;obtain⟨a1,_,_,rfl,_,_,_,_,p1⟩:=fP I hs hx rx;cases (show _=_ from hy.1);obtain⟨t2,rfl⟩:=ry;exact⟨RcAt.list_str _ _ p1 hu,RcNeAt.list_str _ _ p1 hu,EqAt.list_str _ _ p1 hu⟩
  |raw d=>cases e
  |dct _ _=>cases e
  |dci _ _=>cases e
  |exc d=>cases e
  |scr d=>cases e
  |tup d=>
   cases e;obtain⟨a1,_,_,rfl,_,_,_,_,p1⟩:=fP I hs hx rx;obtain⟨a2,_,_,rfl,_,_,_,_,p2⟩:=gq I hs hy ry;exact⟨RcAt.list_tuple p1 p2 hu,RcNeAt.list_tuple p1 p2 hu,EqAt.list_tuple p1 p2 hu⟩
  |lst d=>cases e
end
def ev(f:D->D->Option Bool)(xs ys:List D)(j:Nat):Bool:=match xs[j]?,ys[j]? with
 |some x,some y=>(f x y).getD false
 |_,_=>false
theorem yQ{f:D->D->Option Bool}:∀{xs ys:List D}{b:Bool},pj f xs ys=some b->∀(j:Nat) (x y:D),xs[j]? =some x->ys[j]? =some y->∃c,f x y=some c
 |[],_,_,_,_,_,_,h,_=>by simp at h
 |_::_,[],_,_,_,_,_,_,h=>by simp at h
 |x::xs,y::ys,b,e,j,x',y',hx,hy=>by
  unfold pj at e;split at e
  ·rename_i b1 r1 e1 e2;cases j with
   |zero=>simp at hx hy;subst hx hy;exact⟨_,e1⟩
   |succ j=>exact yQ e2 j x' y' (by simpa using hx) (by simpa using hy)
  ·cases e
theorem wc{f:D->D->Option Bool}:∀{xs ys:List D}{b:Bool},pj f xs ys=some b->b=((WD (min xs.length ys.length)).all (ev f xs ys)&&xs.length==ys.length)
 |[],[],_,e=>by cases e;rfl
 |[],_::_,_,e=>by cases e;simp
 |_::_,[],_,e=>by cases e;simp
 |x::xs,y::ys,b,e=>by
  unfold pj at e;split at e
  ·rename_i b1 r1 e1 e2;cases e;have h:=wc e2;rw[Wl,Wl,Nat.succ_min_succ,abN,Y3,YR];have e0:ev f (x::xs) (y::ys) 0=b1:=by unfold ev;simp[e1]
   have e3:(ev f (x::xs) (y::ys)∘Nat.succ)=ev f xs ys:=by funext j;simp[ev,aa3]
   have e4:(xs.length+1==ys.length+1)=(xs.length==ys.length):=by simp
   rw[e0,e3,e4,h,Bool.and_assoc]
  ·cases e
section
variable{X:Cx}{f8:List (Addr×Obj)}{σ:St}{F H:Hp}{s:We}
theorem mw{f:D->D->Option Bool}(h:∀x y v b,Den X.K F x v->Den X.K F y v->f x y=some b->b=true):∀{xs ys:List D}{vs:List V}{b:Bool},DenL X.K F xs vs->DenL X.K F ys vs->pj f xs ys=some b->b=true
 |[],[],_,_,_,_,e=>by cases e;rfl
 |[],_::_,_,_,h1,h2,_=>by
  cases (show _=_ from h1);obtain⟨v,r,z,_⟩:=h2;cases z
 |_::_,[],_,_,h1,h2,_=>by
  cases (show _=_ from h2);obtain⟨v,r,z,_⟩:=h1;cases z
 |x::xs,y::ys,_,b,⟨v,r,e1,q1,q2⟩,⟨v',r',e2,q3,q4⟩,e=>by
  subst e1;cases e2;unfold pj at e;split at e
  ·rename_i b1 r1 f1 f2;cases e;rw[h x y v b1 q1 q3 f1,mw h q2 q4 f2];rfl
  ·cases e
theorem uU{x y:D}{v:V}{b:Bool}(hx:Den X.K F x v)(hy:Den X.K F y v)(e:AR x y=some b):b=true:=by
 cases x<;>cases y<;>first
  |(cases e;done)
  |(cases e;cases (show _=_ from hx);cases (show _=_ from hy);first | rfl | simp)
  |(cases e;cases (show _=_ from hx.1);cases (show _=_ from hy.1);simp)
  |(cases e;cases (show _=_ from hx);cases (show _=_ from hy.1))
  |(cases e;cases (show _=_ from hx.1);cases (show _=_ from hy))
  |(cases e;obtain⟨_,_,z,_⟩:=hx;subst z;cases (show _=_ from hy);done)
  |(cases e;obtain⟨_,_,z,_⟩:=hx;subst z;cases (show _=_ from hy.1);done)
  |(cases e;obtain⟨_,z,_⟩:=hx;subst z;cases (show _=_ from hy);done)
  |(cases e;obtain⟨_,z,_⟩:=hx;subst z;cases (show _=_ from hy.1);done)
  |(cases e;obtain⟨_,_,z,_⟩:=hy;subst z;cases (show _=_ from hx);done)
  |(cases e;obtain⟨_,_,z,_⟩:=hy;subst z;cases (show _=_ from hx.1);done)
  |(cases e;obtain⟨_,z,_⟩:=hy;subst z;cases (show _=_ from hx);done)
  |(cases e;obtain⟨_,z,_⟩:=hy;subst z;cases (show _=_ from hx.1);done)
  |(cases e;obtain⟨_,_,z,h2,_⟩:=hx;obtain⟨_,_,z',SE,_⟩:=hy;subst z;cases z';rw[h2] at SE;cases SE;done)
  |(cases e;cases (show _=_ from hx);cases (show _=_ from hy);done)
  |(cases e;cases (show _=_ from hx.1);cases (show _=_ from hy.1);done)
theorem mv(I:Inv X f8 σ H s)(hs:Same F H):∀(n:Nat) (x y:D) (v:V) (b:Bool),Den X.K F x v->Den X.K F y v->kZ n x y=some b->b=true
 |0,x,y,v,b,hx,hy,e=>uU hx hy (by unfold kZ at e;exact e)
 |n+1,x,y,v,b,hx,hy,e=>by
  unfold kZ at e;split at e
  ·rename_i xs ys _;obtain⟨a,vs,rfl,h2,h3,_⟩:=hx;obtain⟨a',vs',z,k2,k3,_⟩:=hy;cases z;rw[h2] at k2;cases k2;exact mw (mv I hs _) h3 k3 (by simpa using e)
  ·rename_i xs ys _;obtain⟨a,vs,rfl,h2,h3,_⟩:=hx;obtain⟨a',vs',z,k2,k3,_⟩:=hy;cases z;rw[h2] at k2;cases k2;exact mw (mv I hs _) h3 k3 (by simpa using e)
  ·rename_i xs ys _;obtain⟨a,rfl,h2,_⟩:=hx;obtain⟨a',vs',z,k2,k3,_⟩:=hy;cases z;have hv:=I.list_inj (Same.seq hs h2) (SqL.of (hs _ _ k2));rw[<-hv] at k3;exact mw (mv I hs _) (DenL.ints xs) k3 (by simpa using e)
  ·exact uU hx hy e
theorem Vals.at{vs:List V}{aS:List Value}(r:Vals vs aS){j:Nat}(h:j<aS.toArray.size):∃v,vs[j]? =some v/\RelV v aS.toArray[j]:=by
 have hl:=r.length;have hj:j<vs.length:=by rw[Wo] at h;omega
 obtain⟨u,e1,e2⟩:=r.get (Wi hj);refine⟨vs[j],Wi hj,?_⟩;have:aS.toArray[j]=u:=by
  have:=(Wy.mp e1).2;simpa using this
 rw[this];exact e2
theorem qC{f:D->D->Option Bool}{A:WX}{xs ys:List D}{vs ws:List V}{aS fO:List Value}{b:Bool}(h1:DenL X.K F xs vs)(h2:DenL X.K F ys ws)(r1:Vals vs aS)(r2:Vals ws fO)(e:pj f xs ys=some b)
 (ih:∀x y v w u t c,Den X.K F x v->Den X.K F y w->RelV v u->RelV w t->f x y=some c->EqAt A s u t c):
 ∀j (k1:j<aS.toArray.size) (k2:j<fO.toArray.size),EqAt A s aS.toArray[j] fO.toArray[j] (ev f xs ys j):=λj k1 k2=>by
 obtain⟨v,e1,q1⟩:=Vals.at r1 k1;obtain⟨w,e2,q2⟩:=Vals.at r2 k2;obtain⟨x,e3,q3⟩:=h1.at e1;obtain⟨y,e4,q4⟩:=h2.at e2;obtain⟨c,hc⟩:=yQ e j x y e3 e4;have:ev f xs ys j=c:=by unfold ev;rw[e3,e4];simp[hc]
 rw[this];exact ih x y v w _ _ c q3 q4 q1 q2 hc
theorem ve{f:D->D->Option Bool}{A:WX}(hu:A.units<cLine){xs ys:List D}{vs ws:List V}{aS fO:List Value}{b:Bool}{a a':Addr}(h1:DenL X.K F xs vs)(h2:DenL X.K F ys ws)(r1:Vals vs aS)(r2:Vals ws fO)
 (p1:s.heap.IsList a aS.toArray)(p2:s.heap.IsList a' fO.toArray)(e:pj f xs ys=some b)(hr:a=a'->b=true)
 (ih:∀x y v w u t c,Den X.K F x v->Den X.K F y w->RelV v u->RelV w t->f x y=some c->EqAt A.in1 s u t c):EqAll A s (.ref a) (.ref a') b:=by
 have l1:=h1.len;have l2:=h2.len;have l3:=r1.length;have l4:=r2.length;have hv:=wc e;have core:RcAt A s (.ref a) (.ref a') b/\RcNeAt A s (.ref a) (.ref a') (!b):=by
  by_cases hl:xs.length=ys.length
  ·have hsz:aS.toArray.size=fO.toArray.size:=by rw[Wo,Wo];omega
   have hb:b=(WD aS.toArray.size).all (ev f xs ys):=by
    rw[hv,hl,Nat.min_self,beq_self_eq_true,abA];congr 2;rw[Wo];omega
   rw[hb];exact⟨RcAt.lists p1 p2 hsz hu (qC h1 h2 r1 r2 e ih),RcNeAt.lists p1 p2 hsz hu (qC h1 h2 r1 r2 e ih)⟩
  ·have hb:b=false:=by rw[hv,show (xs.length==ys.length)=false from by simpa using hl,aac]
   have hsz:(aS.toArray.size !=fO.toArray.size)=true:=by
    rw[Wo,Wo];simp;omega
   rw[hb];exact⟨RcAt.lists_lengths p1 p2 hsz hu,RcNeAt.lists_lengths p1 p2 hsz hu⟩
 refine⟨core.1,core.2,?_⟩;by_cases hq:a=a'
 ·rw[hr hq];subst hq;exact EqAt.same _
 ·exact EqAt.of_refs hq core.1
theorem BL{f:D->D->Option Bool}{A:WX}(hu:A.units<cLine){xs ys:List D}{vs ws:List V}{aS fO:List Value}{b:Bool}{a a':Addr}(h1:DenL X.K F xs vs)(h2:DenL X.K F ys ws)(r1:Vals vs aS)(r2:Vals ws fO)
 (p1:s.heap.IsTuple a aS.toArray)(p2:s.heap.IsTuple a' fO.toArray)(e:pj f xs ys=some b)(hr:a=a'->b=true)
 (ih:∀x y v w u t c,Den X.K F x v->Den X.K F y w->RelV v u->RelV w t->f x y=some c->EqAt A.in1 s u t c):EqAll A s (.ref a) (.ref a') b:=by
 have l1:=h1.len;have l2:=h2.len;have l3:=r1.length;have l4:=r2.length;have hb:b=((WD (min aS.toArray.size fO.toArray.size)).all (ev f xs ys)&&aS.toArray.size==fO.toArray.size):=by
  rw[wc e,Wo,Wo,<-l3,<-l4,<-l1,<-l2]
 have core:RcAt A s (.ref a) (.ref a') b/\RcNeAt A s (.ref a) (.ref a') (!b):=by
  rw[hb];exact⟨RcAt.tuples p1 p2 hu (qC h1 h2 r1 r2 e ih),RcNeAt.tuples p1 p2 hu (qC h1 h2 r1 r2 e ih)⟩
 refine⟨core.1,core.2,?_⟩;by_cases hq:a=a'
 ·rw[hr hq];subst hq;exact EqAt.same _
 ·exact EqAt.of_refs hq core.1
theorem we(I:Inv X f8 σ H s)(hs:Same F H):∀(n:Nat) (A:WX) (x y:D) (v w:V) (u t:Value) (b:Bool),A.units+n<cLine->Den X.K F x v->Den X.K F y w->RelV v u->RelV w t->kZ n x y=some b->EqAll A s u t b
 |0,A,x,y,v,w,u,t,b,hu,hx,hy,rx,ry,e=>yS I hs (by omega) hx hy rx ry (by unfold kZ at e;exact e)
 |n+1,A,x,y,v,w,u,t,b,hu,hx,hy,rx,ry,e=>by
  have Qq:A.units<cLine:=by omega
  have Ve:A.in1.units+n<cLine:=by show A.units+1+n<cLine;omega
  have hrefl:=mv (F:=F) I hs (n+1) x y;have ih:∀x y v w u t c,Den X.K F x v->Den X.K F y w->RelV v u->RelV w t->kZ n x y=some c->EqAt A.in1 s u t c:=λx y v w u t c q1 q2 q3 q4 q5=>(we I hs n A.in1 x y v w u t c Ve q1 q2 q3 q4 q5).eq;have e0:=e;unfold kZ at e;split at e
  ·rename_i xs ys heq;cases heq;obtain⟨a,vs,aS,rfl,Og,h2,h3,r1,p1⟩:=gq I hs hx rx;obtain⟨a',vs',its',rfl,Oh,k2,k3,Pu,Pg⟩:=gq I hs hy ry;exact BL Qq h3 k3 r1 Pu p1 Pg e (λz=>by subst z;exact hrefl v b hx (by rw[Og,<-Oh];exact hy) e0) ih
  ·rename_i xs ys heq;cases heq;obtain⟨a,vs,aS,rfl,Og,h2,h3,r1,p1⟩:=fP I hs hx rx;obtain⟨a',vs',its',rfl,Oh,k2,k3,Pu,Pg⟩:=fP I hs hy ry;exact ve Qq h3 k3 r1 Pu p1 Pg e (λz=>by subst z;exact hrefl v b hx (by rw[Og,<-Oh];exact hy) e0) ih
  ·rename_i xs ys heq;cases heq;obtain⟨a,aS,rfl,Og,h2,r1,p1⟩:=Nv I hs hx rx;obtain⟨a',vs',its',rfl,Oh,k2,k3,Pu,Pg⟩:=fP I hs hy ry;exact ve Qq (DenL.ints _) k3 r1 Pu p1 Pg e (λz=>by subst z;exact hrefl v b hx (by rw[Og,<-Oh];exact hy) e0) ih
  ·exact yS I hs Qq hx hy rx ry e
end
def kK(x y:D):M D:=match kZ 6 x y with | some b=>ae (.bl b) | none=>ah
def mi(x y:D):M D:=match kZ 6 x y with | some b=>ae (.bl (!b)) | none=>ah
def Px(K:Wn):R2:=λx y H Q=>∃F dx dy b,Same F H/\Den K F dx x/\Den K F dy y/\kZ 6 dx dy=some b/\Q (.bl b) H
def PM(K:Wn):R2:=λx y H Q=>∃F dx dy b,Same F H/\Den K F dx x/\Den K F dy y/\kZ 6 dx dy=some b/\Q (.bl (!b)) H
section
variable{X:Cx}{Xw:Nat->Hp->Prop}{a b:Expr}{δa δb:DE}{pos:Pos}
theorem GD(hu:X.A.units+64<cLine):OpR X (Xh .Eq) (Px X.K):=by
 intro f8 s σ H x y v u Q I rx ry h;obtain⟨F,dx,dy,b,hs,hx,hy,e,q⟩:=h;exact(we I hs 6 X.A dx dy x y v u b (by omega) hx hy rx ry e).rc _ _ _ _ ⟨.bl b,H,I,rfl,q⟩
theorem MM(hu:X.A.units+64<cLine):OpR X (Xh .NotEq) (PM X.K):=by
 intro f8 s σ H x y v u Q I rx ry h;obtain⟨F,dx,dy,b,hs,hx,hy,e,q⟩:=h;exact(we I hs 6 X.A dx dy x y v u b (by omega) hx hy rx ry e).ne _ _ _ _ ⟨.bl (!b),H,I,rfl,q⟩
theorem GF{K:Wn}:yn K (Px K) kK:=λXw F H x y dx dy Q s hx hy w=>by
 unfold kK at w;split at w
 ·rename_i b e;exact⟨F,dx,dy,b,s,hx,hy,e,WP.now w s rfl⟩
 ·exact w.elim
theorem MP{K:Wn}:yn K (PM K) mi:=λXw F H x y dx dy Q s hx hy w=>by
 unfold mi at w;split at w
 ·rename_i b e;exact⟨F,dx,dy,b,s,hx,hy,e,WP.now w s rfl⟩
 ·exact w.elim
theorem sO(hu:X.A.units+64<cLine)(ha:PD X Xw a δa)(hb:PD X Xw b δb):qe X Xw (.Compare a [.Eq] [b] pos) (cE (d2 kK δa δb)):=gz (GD hu) GF ha hb
theorem jN(hu:X.A.units+64<cLine)(ha:PD X Xw a δa)(hb:PD X Xw b δb):qe X Xw (.Compare a [.NotEq] [b] pos) (cE (d2 mi δa δb)):=gz (MM hu) MP ha hb
theorem zN(hu:X.A.units+64<cLine)(ha:PD X Xw a δa)(hb:PD X Xw b δb):PD X Xw (.Compare a [.Eq] [b] pos) (d2 kK δa δb):=By (GD hu) GF ha hb
end
def PDW(X:Cx)(Xw:Nat->Hp->Prop)(e:Expr)(δ:DT):Prop:=PW X e (Sa X.K Xw δ)
theorem PW.weak{X:Cx}{e:Expr}{t t':TT}(h:PW X e t)(k:∀σ H Q,t' σ H Q->t σ H Q):PW X e t':=λwh f8 s σ H Q I w=>h wh f8 s σ H Q I (k σ H Q w)
section
variable{X:Cx}{Xw:Nat->Hp->Prop}{a b c:Expr}{rest:List Expr}{δa δb δc:DE}{τa τb:DT}{pos:Pos}
theorem zP(ha:qe X Xw a τa):PDW X Xw (.BoolOp .And [a] pos) τa:=J3 ha
theorem ir(ha:qe X Xw a τa):PDW X Xw (.BoolOp .Or [a] pos) τa:=Nk ha
theorem xo(ha:qe X Xw a τa)(hb:PDW X Xw (.BoolOp .And (b::rest) pos) τb):PDW X Xw (.BoolOp .And (a::b::rest) pos) (lQ τa τb):=PW.weak (Nj ha hb) λσ H Q ⟨F,Z,s,w⟩=>by
 refine⟨F,Z,s,WPB.mono (WPB.bindB w) λv H1 ⟨F1,e1,w1⟩=>?_⟩;cases v with
 |true=>exact⟨F1,Z,s.ext e1,w1⟩
 |false=>exact w1 _ _ (Ext.refl e1.fh)
theorem j_(ha:qe X Xw a τa)(hb:PDW X Xw (.BoolOp .Or (b::rest) pos) τb):PDW X Xw (.BoolOp .Or (a::b::rest) pos) (lR τa τb):=PW.weak (Pt ha hb) λσ H Q ⟨F,Z,s,w⟩=>by
 refine⟨F,Z,s,WPB.mono (WPB.bindB w) λv H1 ⟨F1,e1,w1⟩=>?_⟩;cases v with
 |false=>exact⟨F1,Z,s.ext e1,w1⟩
 |true=>exact w1 _ _ (Ext.refl e1.fh)
theorem PDW.t(h:PDW X Xw a τa):qe X Xw a τa:=PW.pt h
theorem dQ(ha:qe X Xw a τa):qe X Xw (.UnaryOp .Not a pos) (du τa):=PT.weak (Nh ha) λσ H Q ⟨F,Z,s,w⟩=>
 ⟨F,Z,s,WPB.mono (WPB.bindB w) λv H1 ⟨F1,e1,w1⟩=>w1 _ _ (Ext.refl e1.fh)⟩
def Ag:D->M Bool
 | .non=>ae false
 | .bl b=>ae b
 | .lst ds=>ae (!ds.isEmpty)
 | .tup ds=>ae (!ds.isEmpty)
 |_=>ah
def bW(δ:DE):DT:=λZ=>δ Z>>=Ag
theorem DenL.isEmpty{K:Wn}{F:Hp}{ds:List D}{vs:List V}(h:DenL K F ds vs):ds.isEmpty=vs.isEmpty:=by
 have:=h.len;cases ds<;>cases vs<;>simp_all
theorem cK(ha:PD X Xw a δa)(he:∀whole,isTrue a X.env whole=(do let v<-whole;standAt a.pos;holding [v] (truthy v)):=by intro _;rfl):qe X Xw a (bW δa):=PT.weak (Hb ha he) λσ H Q ⟨F,Z,s,w⟩=>by
 refine⟨F,Z,s,WP.mono (WPB.bind (K:=X.K) w) λv H1 ⟨F1,d,e1,q1,w1⟩=>?_⟩;cases d with
 |non=>cases (show _=_ from q1);exact⟨false,rfl,w1 _ _ (Ext.refl e1.fh)⟩
 |bl b=>cases (show _=_ from q1);exact⟨b,rfl,w1 _ _ (Ext.refl e1.fh)⟩
 |lst ds=>
  obtain⟨a,vs,rfl,h2,h3,_⟩:=q1;exact⟨!ds.isEmpty, .inl ⟨vs,SqL.of (e1.fh _ _ h2),by rw[h3.isEmpty]⟩,w1 _ _ (Ext.refl e1.fh)⟩
 |tup ds=>
  obtain⟨a,vs,rfl,h2,h3,_⟩:=q1;exact⟨!ds.isEmpty, .inr (.inl ⟨vs,SqT.of (e1.fh _ _ h2),by rw[h3.isEmpty]⟩),w1 _ _ (Ext.refl e1.fh)⟩
 |_=>exact w1.elim
theorem xm{op}(h:PD X Xw a δa):PD X Xw (.BoolOp op [a] pos) δa:=M4 h
theorem sF(ha:PD X Xw a δa)(hb:PD X Xw (.BoolOp .And (b::rest) pos) δb):PD X Xw (.BoolOp .And (a::b::rest) pos) (eX δa δb):=PE.weak (MX ha hb) λσ H Q ⟨F,Z,s,w⟩=>by
 refine⟨F,Z,s,WP.mono (WP.bind w) λv H1 ⟨F1,d,e1,q1,w1⟩=>?_⟩;cases d with
 |bl k=>
  refine⟨k,q1,?_⟩;cases k with
  |true=>exact⟨F1,Z,s.ext e1,w1⟩
  |false=>exact WP.now w1 e1.fh rfl
 |_=>exact w1.elim
theorem MV(ha:PD X Xw a δa):PD X Xw (.UnaryOp .Not a pos) (Kw δa):=PE.weak (M3 ha) λσ H Q ⟨F,Z,s,w⟩=>by
 refine⟨F,Z,s,WP.mono (WP.bind w) λv H1 ⟨F1,d,e1,q1,w1⟩=>?_⟩;cases d with
 |bl k=>exact⟨k,q1,WP.now w1 e1.fh rfl⟩
 |_=>exact w1.elim
theorem GO(hc:qe X Xw c τa)(ha:PD X Xw a δa)(hb:PD X Xw b δb):PD X Xw (.IfExp c a b pos) (EN τa δa δb):=PE.weak (G1 hc ha hb) λσ H Q ⟨F,Z,s,w⟩=>by
 refine⟨F,Z,s,WPB.mono (WP.bindB w) λv H1 ⟨F1,e1,w1⟩=>?_⟩;cases v with
 |true=>exact⟨F1,Z,s.ext e1,w1⟩
 |false=>exact⟨F1,Z,s.ext e1,w1⟩
def tP(p q:Int->Int->Bool)(a b c:DE):DE:=λZ=>a Z>>=λx=>b Z>>=λy=>match x,y with
 | .int i, .int j=>if p i j then c Z>>=λz=>gI (λi j=> .bl (q i j)) y z else ae (.bl false)
 |_,_=>ah
theorem vH{p q:Int->Int->Bool}:∀σ H Q,tD X.K Xw (tP p q δa δb δc) σ H Q->BK (C9 λi j=> .bl (p i j)) (C9 λi j=> .bl (q i j)) (tD X.K Xw δa) (tD X.K Xw δb) (tD X.K Xw δc) σ H Q:=λσ H Q ⟨F,Z,s,w⟩=>by
 refine⟨F,Z,s,WP.mono (WP.bind w) λv H1 ⟨F1,d,e1,q1,w1⟩=>?_⟩;refine⟨F1,Z,s.ext e1,WP.mono (WP.bind w1) λu H2 ⟨F2,d',e2,q2,w2⟩=>?_⟩;cases d with
 |int i=>
  cases d' with
  |int j=>
   refine⟨i,j,q1,q2,p i j,rfl,?_⟩;have w2:WP X.K Xw F2 H2 (if p i j then δc Z>>=λz=>gI (λi j=> .bl (q i j)) (.int j) z else ae (.bl false)) Q:=w2;cases hp:p i j with
   |false=>
    rw[hp] at w2;exact WP.now w2 e2.fh rfl
   |true=>
    rw[hp] at w2;refine⟨F2,Z,(s.ext e1).ext e2,WP.mono (WP.bind w2) λu' H3 ⟨F3,TX,e3,q3,w3⟩=>?_⟩;exact vk (K:=X.K) (gv:=λi j=> .bl (q i j)) (gd:=λi j=> .bl (q i j)) (λ_ _ _=>rfl) Xw F3 H3 u u' (.int j) TX Q e3.fh q2 q3 w3
  |_=>exact w2.elim
 |_=>exact w2.elim
theorem xh{op Br:CmpOp}{p q:Int->Int->Bool}(ho:OpR X (Xh op) (C9 λi j=> .bl (p i j)))(mF:OpR X (Xh Br) (C9 λi j=> .bl (q i j)))(ha:PD X Xw a δa)(hb:PD X Xw b δb)(hc:PD X Xw c δc)
 (hm:lastMarks [op,Br] [b,c]=false:=by with_unfolding_all rfl):PD X Xw (.Compare a [op,Br] [b,c] pos) (tP p q δa δb δc):=PE.weak (GX ho mF ha hb hc hm) vH
theorem G8{op Br:CmpOp}{p q:Int->Int->Bool}(ho:OpR X (Xh op) (C9 λi j=> .bl (p i j)))(mF:OpR X (Xh Br) (C9 λi j=> .bl (q i j)))(ha:PD X Xw a δa)(hb:PD X Xw b δb)(hc:PD X Xw c δc)
 (hm:lastMarks [op,Br] [b,c]=false:=by with_unfolding_all rfl):qe X Xw (.Compare a [op,Br] [b,c] pos) (cE (tP p q δa δb δc)):=PT.weak (G9 ho mF ha hb hc hm) λσ H Q ⟨F,Z,s,w⟩=>by
 refine vH σ H _ ⟨F,Z,s,WP.mono (WPB.bind w) λv H1 ⟨F1,d,e1,q1,w1⟩=>?_⟩;cases d with
 |bl k=>exact⟨k,q1,w1 _ _ (Ext.refl e1.fh)⟩
 |_=>exact w1.elim
def yl(K:Wn)(r:List V->Hp->VK->Prop)(g:List D->M D):Prop:=∀(Xw:Nat->Hp->Prop) (F H:Hp) (vs:List V) (ds:List D) (Q:VK),Same F H->DenL K F ds vs->WP K Xw F H (g ds) Q->r vs H Q
variable{x:Str}{p:Pos}{e:Expr}{es:List Expr}{δs:DA}{id T:String}{r:List V->Hp->VK->Prop}{g:List D->M D}
theorem Hw(h:yl X.K r g):∀σ H Q,tD X.K Xw (dA g δs) σ H Q->R9 r (TF X.K Xw δs) σ H Q:=λσ H Q ⟨F,Z,s,w⟩=>
 ⟨F,Z,s,WPL.mono (WP.bindL w) λvs H1 ⟨F1,ds,e1,q1,w1⟩=>h Xw F1 H1 vs ds Q e1.fh q1 w1⟩
theorem eO(hc:CallR X (.builtin id) r)(hd:yl X.K r g)(hg:Gl X x)(hm:X.mg x=none)(hv:W8 x=some (.builtin id))(ha:kY X Xw (e::es) δs)(hn:x≠"__name__":=by decide)(mC:(x==("__debug__":Str))=false:=by decide)
 (he:Wt (e::es) X.env=(false,eval e X.env)::Wt es X.env:=by rfl)(lb:(X2 pos (Wt es X.env)).any (·.1)=false:=by rfl):PD X Xw (.Call (.Name x p) (e::es) [] pos) (dA g δs):=
 PE.weak (GW hc hg hm hv ha hn mC he lb) (Hw hd)
theorem oK(hc:CallR X (.type T) r)(hd:yl X.K r g)(hg:Gl X x)(hm:X.mg x=none)(hv:W8 x=some (.type T))(ha:kY X Xw (e::es) δs)(hn:x≠"__name__":=by decide)(mC:(x==("__debug__":Str))=false:=by decide)
 (he:Wt (e::es) X.env=(false,eval e X.env)::Wt es X.env:=by rfl)(lb:(X2 pos (Wt es X.env)).any (·.1)=false:=by rfl):PD X Xw (.Call (.Name x p) (e::es) [] pos) (dA g δs):=
 PE.weak (vw hc hg hm hv ha hn mC he lb) (Hw hd)
def bu:List D->M D
 |[.lst ds]=>ae (.int ds.length)
 |[.tup ds]=>ae (.int ds.length)
 |[.str x]=>ae (.int x.length)
 |[.scr ns]=>ae (.int ns.length)
 |_=>ah
theorem D9:yl X.K (λxs H Q=>(∃p ys,xs=[.ref p]/\(SqL X.K H p ys\/SqT X.K H p ys)/\Q (.int ys.length) H)\/∃z,xs=[.str z]/\z.length<=WB/\Q (.int z.length) H) bu:=λXw F H vs ds Q s h w=>by
 unfold bu at w;split at w
 ·obtain⟨v,rfl,h1⟩:=h.one;obtain⟨a,vs,rfl,h2,h3,_⟩:=h1;exact .inl ⟨a,vs,rfl, .inl (SqL.of (s _ _ h2)),by rw[<-h3.len];exact WP.now w s rfl⟩
 ·obtain⟨v,rfl,h1⟩:=h.one;obtain⟨a,vs,rfl,h2,h3,_⟩:=h1;exact .inl ⟨a,vs,rfl, .inr (SqT.of (s _ _ h2)),by rw[<-h3.len];exact WP.now w s rfl⟩
 ·obtain⟨v,rfl,h1⟩:=h.one;cases (show _=_ from h1.1);exact .inr ⟨_,rfl,by have:=h1.2;have:=er;omega,WP.now w s rfl⟩
 ·obtain⟨v,rfl,h1⟩:=h.one;obtain⟨a,rfl,h2,_⟩:=h1;exact .inl ⟨a,_,rfl, .inl (Same.seq s h2),by rw[Wc];exact WP.now w s rfl⟩
 ·exact w.elim
theorem bN(hg:Gl X "len")(hm:X.mg "len"=none)(ha:kY X Xw [e] δs)(he:Wt [e] X.env=[(false,eval e X.env)]:=by rfl):PD X Xw (.Call (.Name "len" p) [e] [] pos) (dA bu δs):=
 eO (vX.or vY) D9 hg hm PySem.boot_len ha (by decide) (by decide) he rfl
def E2:List D->M D
 |[.int i]=>ae (.int (if i<0 then -i else i))
 |_=>ah
def Bd:List D->M D
 |[.int i, .int j]=>ae (.int (if j>i then j else i))
 |_=>ah
def Eg:List D->M D
 |[.int i, .int j]=>ae (.int (if j<i then j else i))
 |_=>ah
theorem GK(hg:Gl X "abs")(hm:X.mg "abs"=none)(ha:kY X Xw [e] δs)(hb:W8 "abs"=some (.builtin "abs"))(he:Wt [e] X.env=[(false,eval e X.env)]:=by rfl):PD X Xw (.Call (.Name "abs" p) [e] [] pos) (dA E2 δs):=
 eO Fb (λXw F H vs ds Q s h w=>by
  unfold E2 at w;split at w
  ·obtain⟨v,rfl,h1⟩:=h.one;cases (show _=_ from h1);exact⟨_,rfl,WP.now w s rfl⟩
  ·exact w.elim) hg hm hb ha (by decide) (by decide) he rfl
end
theorem WP.xw{K:Wn}{Xw Xw':Nat->Hp->Prop}{F H:Hp}{m:M D}{Q:VK}(h:WP K Xw F H m Q)(k:∀n H,Xw n H->Xw' n H):WP K Xw' F H m Q:=by
 match m,h with
 |none,h=>exact h
 |some (.ok d),h=>exact h
 |some (.ex n),h=>exact λF' H' e=>k n H' (h F' H' e)
theorem cx{X:Cx}{Xw:Nat->Hp->Prop}{st:Stmt}{τ:DS}(h:gM X.nox (λ_ _=>False) st τ):gM X Xw st (λZ=>noex (τ Z)):=λs0 acI f8 s σ H D I ⟨F,Z,S,w⟩=>by
 have w:WPS X.K Xw s0 acI (noex (τ Z)) D:=w;have w':tS X.K (λ_ _=>False) s0 acI τ D σ H:=by
  refine⟨F,Z,S,?_⟩;rcases(τ Z).cs with e | ⟨n,e⟩ | ⟨o,e⟩
  ·rw[e] at w;exact w.elim
  ·rw[e] at w;exact w.elim
  ·rw[e] at w⊢;cases o with
   |nx Z'=>exact w
   |rt d=>exact w
 refine Xp (h s0 acI f8 s σ H D (I.wish _) w') (λf s' q=>SP.unwish q) λ_ _ z=>z.elim
def EX(cv:Nat->Value)(Xw:Nat->Hp->Prop):XK:=λc _ H=>∃n,c=cv n/\Xw n H
def EW(K:Wn)(cv:Nat->Value)(k:Nat)(f:List D->M D):Sp:=λvs H Q E=>∃F ds,Same F H/\DenL K F ds vs/\vs.length=k/\WP K (λn H'=>E (cv n) none H') F H (f ds) Q
def bQ(n:Nat)(τ:DS):List D->M D:=λds=>τ (ds.map (λd=>some (Sl.fz d))++Wm (n - ds.length) none)>>=λo=>match o with
 | .nx _=>ae .non
 | .rt d=>ae d
section
variable{P:WQ}{w:World}{K:Wn}{mg:Str->Option Value}{base:Heap}{CX:BU}{cv:Nat->Value}
theorem Oj{x qual:Str}{st:Stmt}{f:Addr}{fd:Yk}{N ps:List Str}{k:Nat}{τ:DS}(Fn:Fun K x qual st f fd)(S:FnScope N ps (ai st))
 (iU:∀(bT:Value) (A:WX) (outer:List Env) (s:We) (H:Hp) (E:XK),Room k (A.deeper (XD qual (ai st) s.heap.objs.size f bT))->
  PSDs (ba CX P w K mg base N qual (ai st) f bT A outer s H E) (λn H'=>E (cv n) none H') (aV st) τ):FnOk P w K mg base CX (k+1) f fd ps (EW K cv ps.length (bQ N.length τ)):=by
 obtain⟨oc,od,kV,doc,pm,an,bT,ct,EV,rfl,lk,uZ⟩:=Fn.ex;refine KG lk uZ S (λvs H Q E ⟨_,_,_,_,hl,_⟩=>hl) λA outer s H vs Q E hr yj=>?_;obtain⟨F,ds,fh,hd,hl,hw⟩:=yj;refine⟨_,iU bT A outer s H E hr F H,F,ds.map (λd=>some (Sl.fz d))++Wm (N.length - ds.length) none,⟨Ext.refl fh,⟨fh,λi sl e=>?_⟩,?_,λi c a e=>?_,λi j c c' a e=>?_⟩,?_⟩
 ·have T0:=hd.len;by_cases hi:i<ds.length
  ·rw[W5 (by simpa using hi),Wz] at e;cases q:ds[i]? with
   |none=>rw[q] at e;cases e
   |some d=>
    rw[q] at e;cases e;obtain⟨v,e1,e2⟩:=hd.get q;refine⟨v,?_,e2⟩;unfold L2.start;rw[W5 (by simp;omega),Wz,e1];rfl
  ·rw[W_ (by simpa using hi),XC] at e;split at e<;>cases e
 ·have T0:=hd.len;unfold L2.start;simp[T0]
 ·exfalso
  by_cases hi:i<ds.length
  ·rw[W5 (by simpa using hi),Wz] at e;cases q:ds[i]? with
   |none=>rw[q] at e;cases e
   |some d=>rw[q] at e;cases e
  ·rw[W_ (by simpa using hi),XC] at e;split at e<;>cases e
 ·exfalso
  by_cases hi:i<ds.length
  ·rw[W5 (by simpa using hi),Wz] at e;cases q:ds[i]? with
   |none=>rw[q] at e;cases e
   |some d=>rw[q] at e;cases e
  ·rw[W_ (by simpa using hi),XC] at e;split at e<;>cases e
 ·have hw:WP K (λn H'=>E (cv n) none H') F H (τ (ds.map (λd=>some (Sl.fz d))++Wm (N.length - ds.length) none)>>=λo=>match o with | .nx _=>ae .non | .rt d=>ae d) Q:=hw;rcases(τ (ds.map (λd=>some (Sl.fz d))++Wm (N.length - ds.length) none)).cs with e | ⟨n,e⟩ | ⟨o,e⟩
  ·rw[e] at hw;exact hw.elim
  ·rw[e] at hw⊢;exact hw
  ·rw[e] at hw⊢;cases o with
   |nx Z'=>exact λσ' F' H' s'=>hw .non H' F' s'.ext rfl
   |rt d=>exact λv F' H' e' q=>hw v H' F' e' q
end
section
variable{X:Cx}{Xw:Nat->Hp->Prop}{CX:BU}{cv:Nat->Value}{k m:Nat}{f:Addr}{fd:Yk}{ps:List Str}{g:List D->M D}{x:Str}{p pos:Pos}{e:Expr}{es:List Expr}{δs:DA}
theorem JC(F:FnOk X.prog X.w X.K X.mg X.base CX k f fd ps (EW X.K cv m g))(hr:Room k X.A)(hg:Gl X x)(hm:X.mg x=some (.ref f))(hk:XF X.K (.ref f)=true)(hb:Binds X.K fd ps [])(hx:Passes CX X (EX cv Xw))
 (ha:kY X Xw (e::es) δs)(hl:(e::es).length=m)(mC:(x==("__debug__":Str))=false:=by decide)(he:Wt (e::es) X.env=(false,eval e X.env)::Wt es X.env:=by rfl)(lb:(X2 pos (Wt es X.env)).any (·.1)=false:=by rfl):
 PD X Xw (.Call (.Name x p) (e::es) [] pos) (λZ=>δs Z>>=λds=>if ds.length=m then g ds else ah):=PE.weak (JK F hr hg hm hk hb .nil hx ha mC he lb) λσ H Q ⟨F,Z,s,w⟩=>by
 refine⟨F,Z,s,WPL.mono (WP.bindL w) λvs H1 ⟨F1,ds,e1,q1,w1⟩=>?_⟩;split at w1
 ·rename_i Av;refine⟨F1,ds,e1.fh,by simpa using q1,by rw[WU,<-q1.len];exact Av,WP.xw w1 λn H h=>⟨n,rfl,h⟩⟩
 ·exact w1.elim
theorem xj{x:Str}{d:D}{v:V}{u:Value}(hg:Gl X x)(hm:X.mg x=some u)(r:RelV v u)(hd:∀F,Den X.K F d v)(mC:(x==("__debug__":Str))=false:=by decide):PD X Xw (.Name x pos) (dC d):=
 i7 (xp hg hm r mC) hd
end
theorem obj_some{P:WQ}{w:World}{H:Hp}{h:Heap}{a:Addr}{o:HO}(x:ObjOk P w H h a o):∃ob,h.get? a=some ob:=by
 cases o with
 |lst xs=>obtain⟨_,_,_,_,e⟩:=x;exact⟨_,e⟩
 |tup xs=>obtain⟨_,_,_,ob,e,_⟩:=x;exact⟨_,e⟩
 |dK aI=>obtain⟨_,_,_,_,o,_,_,e,_⟩:=x;exact⟨_,e⟩
 |dT aI=>obtain⟨_,_,_,_,o,_,_,e,_⟩:=x;exact⟨_,e⟩
 |set S n=>obtain⟨o,_,_,_,e,_⟩:=x;exact⟨_,e⟩
 |ins C dx fs=>obtain⟨_,_,_,e,_⟩:=x;exact⟨_,e⟩
 |own y=>obtain⟨_,e⟩:=x;exact⟨_,e⟩
 |xd fs=>obtain⟨_,⟨_,_,_,e,_⟩,_⟩:=x;exact⟨_,e⟩
 |rng lo hi=>obtain⟨_,_,_,e⟩:=x;exact⟨_,e⟩
 |frz ob u=>obtain⟨e,_⟩:=x;exact⟨_,e⟩
 |tbl ps=>exact⟨_,(show h.get? a=some _ from x)⟩
 |met f y=>exact⟨_,(show h.get? a=some _ from x)⟩
 |ext φ=>obtain⟨_,⟨_,e⟩,_⟩:=x;exact⟨_,e⟩
def df(P:WQ)(w:World)(cv:Nat->Value):BU:=λouter H s E e s'=>∃(ea:Addr) (n:Nat) (a0:Value) (B:Heap) (H':Hp),e= .ref ea/\s'.os=s.os/\aas s'.gens/\HOk P w H' s'.heap/\Un (iC outer) [] H H' s.heap s'.heap/\
 Heap.FlyingW B outer ea (cv n) a0 s'.heap/\(∀b o,s'.heap.get? b=some o->(H' b≠none\/(s.heap.get? b).isSome=true)->b∉iC outer->B.get? b=some o)/\E (cv n) none H'
section
variable{P:WQ}{w:World}{fs:List Addr}{acI H:Hp}{h₀ h h':Heap}
theorem x_(u:Un fs [] acI H h₀ h)(ka:∀b o,h.get? b=some o->b∉fs->(H b≠none\/(h₀.get? b).isSome=true)->h'.get? b=some o)(kb:∀b o,h.get? b=some o->b∈fs->∃sl,h'.get? b=some {o with slots:=sl}):Un fs [] acI H h₀ h' where
 keep:=λb o e n hb hx=>ka b o (u.keep b o e n hb hx) hb (.inr (by rw[e];rfl))
 slot:=λb o e n hb hx=>by
  obtain⟨sl,q⟩:=u.slot b o e n hb hx;obtain⟨Ke,q'⟩:=kb b _ q hb;exact⟨Ke,q'⟩
 free:=u.free
 there:=λb o e hx=>by
  obtain⟨o',q⟩:=u.there b o e hx;by_cases hb:b∈fs
  ·obtain⟨sl,q'⟩:=kb b _ q hb;exact⟨_,q'⟩
  ·exact⟨o',ka b o' q hb (.inr (by rw[e];rfl))⟩
 tups:=u.tups
 frzs:=u.frzs
 tbls:=u.tbls
theorem rn(x:HOk P w H h)(hf:∀b∈fs,H b=none)(ka:∀b o,h.get? b=some o->b∉fs->H b≠none->h'.get? b=some o):HOk P w H h':=λa o e=>by
 refine(x a o e).stay (λb u hb q=>ka b u q (λz=>?_) ?_) (λ_ q=>q) λ_ _ q=>q
 ·have hz:=hf b z;rcases hb with rfl | hb
  ·rw[hz] at e;cases e
  ·rw[hz] at hb;cases hb
 ·rcases hb with rfl | hb
  ·rw[e];exact λz=>nomatch z
  ·rw[hb];exact λz=>nomatch z
end
section
variable{P:WQ}{w:World}{K:Wn}{mg:Str->Option Value}{base:Heap}{N:List Str}{qual:Str}{scope:Scope}{f:Addr}{cd:Value}{A:WX}{outer:List Env}{acJ:We}{acI:Hp}{E:XK}{cv:Nat->Value}
theorem bf:Passes (df P w cv) (ba (df P w cv) P w K mg base N qual scope f cd A outer acJ acI E) (EX cv λn H'=>E (cv n) none H'):=by
 intro f8 σ H s e s' I ⟨ea,n,a0,B,H',he,DZ,hg,hok,un,DL,hB,m,hm,hE⟩;subst he;have AZ:((ba (df P w cv) P w K mg base N qual scope f cd A outer acJ acI E)).env.locals=acJ.heap.objs.size:=rfl;have wy:iC ((ba (df P w cv) P w K mg base N qual scope f cd A outer acJ acI E)).stack=acJ.heap.objs.size::iC outer:=rfl;show wpAny (model P w) (A.deeper (XD qual scope acJ.heap.objs.size f cd)) (leaving (XD qual scope acJ.heap.objs.size f cd) (.ref ea)) _ _ s';refine wpAny_leaves_onW (base:=B) (outer:=outer) (L:=acJ.heap.objs.size) I.ok.frames rfl DL λh' LJ ups=>?_;have ES:∀b∈iC ((ba (df P w cv) P w K mg base N qual scope f cd A outer acJ acI E)).stack,H' b=none:=λb hb=>by
  obtain⟨o,ho⟩:∃o,s.heap.get? b=some o:=by
   obtain⟨_,o,ho,_⟩:=I.stack.mem hb;exact⟨o,ho⟩
  exact un.free b o ho (I.stkFree b hb) (by simp)
 have mI:∀b o,s'.heap.get? b=some o->b∉iC ((ba (df P w cv) P w K mg base N qual scope f cd A outer acJ acI E)).stack->(H' b≠none\/(s.heap.get? b).isSome=true)->h'.get? b=some o:=λb o e hb hc=>LJ.1 b o (hB b o e hc hb);have unA:Un (iC outer) [] acI H' acJ.heap s'.heap:=by
  have u1:Un (iC outer) [] acI H acJ.heap s.heap:=I.base;refine⟨λb o e nn hb hx=>?_,λb o e nn hb hx=>?_,λb o e nn hx=>?_,λb o e hx=>?_,λb xs q=>un.tups b xs (u1.tups b xs q),λb o u q=>un.frzs b o u (u1.frzs b o u q),λb ps q=>?_⟩
  ·refine un.keep b o (u1.keep b o e nn hb hx) (u1.free b o e nn hx) (λz=>?_) (by simp);rw[wy] at z;rcases Wu.mp z with z | z
   ·exact acE (Ww e) (by rw[z];exact Xr _)
   ·exact hb z
  ·obtain⟨sl,q⟩:=u1.slot b o e nn hb hx;obtain⟨Ke,q'⟩:=un.slot b _ q (u1.free b o e nn hx) (by rw[wy];exact Wf _ hb) (by simp);exact⟨Ke,q'⟩
  ·obtain⟨o',q⟩:=u1.there b o e hx;exact un.free b o' q (u1.free b o e nn hx) (by simp)
  ·obtain⟨o',q⟩:=u1.there b o e hx;exact un.there b o' q (by simp)
  ·obtain⟨m1,q1⟩:=u1.tbls b ps q;obtain⟨m2,q2⟩:=un.tbls b _ q1;exact⟨m1++m2,by rw[q2,aar]⟩
 have Td:∀b,(acJ.heap.get? b).isSome=true->(s.heap.get? b).isSome=true:=λb hb=>by
  obtain⟨o,ho⟩:=Xc.mp hb;obtain⟨o',q⟩:=(show Un (iC outer) [] acI H acJ.heap s.heap from I.base).there b o ho (by simp);rw[q];rfl
 have Ek:∀b,(acJ.heap.get? b).isSome=true->b≠acJ.heap.objs.size:=λb hb z=>by
  obtain⟨o,ho⟩:=Xc.mp hb;exact acE (Ww ho) (by rw[z];exact Xr _)
 have Gu:∀b,b∉iC outer->(H' b≠none\/(acJ.heap.get? b).isSome=true)->b∉iC ((ba (df P w cv) P w K mg base N qual scope f cd A outer acJ acI E)).stack:=λb hb hc z=>by
  rcases hc with hc | hc
  ·exact hc (ES b z)
  ·rw[wy] at z;rcases Wu.mp z with z | z
   ·exact Ek b hc z
   ·exact hb z
 refine⟨ea,n,a0,B,H',rfl,DZ.trans I.os,hg,rn hok ES (λb o e hb hc=>mI b o e hb (.inl hc)),x_ unA (λb o e hb hc=>mI b o e (Gu b hb hc) (hc.imp id (Td b))) (λb o e hb=>?_),LJ,λb o e hc hb=>?_,?_⟩
 ·obtain⟨_,o',mF,hd⟩:=DL.2.2.1.mem (show b∈iC ((ba (df P w cv) P w K mg base N qual scope f cd A outer acJ acI E)).stack by rw[wy];exact Wf _ hb);rw[e] at mF;cases mF;exact ups b o e hd
 ·have Cf:=Gu b hb hc;obtain⟨o',mF⟩:∃o',s'.heap.get? b=some o':=by
   rcases hc with hc | hc
   ·cases q:H' b with
    |none=>exact acE q hc
    |some u=>
     exact obj_some (hok b u q)
   ·obtain⟨o1,h1⟩:=Xc.mp hc;exact unA.there b o1 h1 (by simp)
  have:=hB b o' mF (hc.imp id (Td b)) Cf;rw[LJ.1 b o' this] at e;cases e;exact this
 ·rw[hm];exact hE
def Ku(X:Cx)(cv:Nat->Value)(Xw:Nat->Hp->Prop):Prop:=∀(n:Nat) (f8:List (Addr×Obj)) (σ:St) (H:Hp) (s:We) (h':Heap) (ea:Addr) (args:List Value),Inv X f8 σ H s->Heap.MadeExcOf s.heap h' ea (cv n) args->Xw n H->X.xe (.ref ea) {s with heap:=h'}
theorem zh:Ku (ba (df P w cv) P w K mg base N qual scope f cd A outer acJ acI E) cv (λn H'=>E (cv n) none H'):=by
 intro n f8 σ H s hh ea args I hx hE;have wy:iC ((ba (df P w cv) P w K mg base N qual scope f cd A outer acJ acI E)).stack=acJ.heap.objs.size::iC outer:=rfl;have DV:∀env∈((ba (df P w cv) P w K mg base N qual scope f cd A outer acJ acI E)).stack,∀b,env.frame=some b->b∈iC ((ba (df P w cv) P w K mg base N qual scope f cd A outer acJ acI E)).stack:=λenv he b hb=>aaz.mpr ⟨env,he,hb⟩;have stays:(Zl s.heap (iC ((ba (df P w cv) P w K mg base N qual scope f cd A outer acJ acI E)).stack)).StaysIn s.heap:=λb o q=>abS _ q;show wpAny (model P w) (A.deeper (XD qual scope acJ.heap.objs.size f cd)) (leaving (XD qual scope acJ.heap.objs.size f cd) (.ref ea)) _ _ _;refine wpAny_leaves_madeW (base:=Zl s.heap (iC ((ba (df P w cv) P w K mg base N qual scope f cd A outer acJ acI E)).stack)) (h:=s.heap) (outer:=outer) (L:=acJ.heap.objs.size) I.ok.frames rfl stays (PySem.W.funFrames_hide I.stack DV) hx λh' t DL _ _ ups=>?_;have hB:∀b o,s.heap.get? b=some o->b∉iC ((ba (df P w cv) P w K mg base N qual scope f cd A outer acJ acI E)).stack->(Zl s.heap (iC ((ba (df P w cv) P w K mg base N qual scope f cd A outer acJ acI E)).stack)).get? b=some o:=λb o e hb=>abL _ e hb;have mI:∀b o,s.heap.get? b=some o->b∉iC ((ba (df P w cv) P w K mg base N qual scope f cd A outer acJ acI E)).stack->h'.get? b=some o:=λb o e hb=>DL.1 b o (hB b o e hb);have u1:Un (iC outer) [] acI H acJ.heap s.heap:=I.base;have Ek:∀b,(acJ.heap.get? b).isSome=true->b≠acJ.heap.objs.size:=λb hb z=>by
  obtain⟨o,ho⟩:=Xc.mp hb;exact acE (Ww ho) (by rw[z];exact Xr _)
 have Gu:∀b,b∉iC outer->(H b≠none\/(acJ.heap.get? b).isSome=true)->b∉iC ((ba (df P w cv) P w K mg base N qual scope f cd A outer acJ acI E)).stack:=λb hb hc z=>by
  rcases hc with hc | hc
  ·exact hc (I.stkFree b z)
  ·rw[wy] at z;rcases Wu.mp z with z | z
   ·exact Ek b hc z
   ·exact hb z
 refine⟨ea,n, .ref t,Zl s.heap (iC ((ba (df P w cv) P w K mg base N qual scope f cd A outer acJ acI E)).stack),H,rfl,I.os,I.bare,rn I.hok I.stkFree (λb o e hb hc=>mI b o e hb),x_ u1 (λb o e hb hc=>mI b o e (Gu b hb hc)) (λb o e hb=>?_),DL,λb o e hc hb=>?_,hE⟩
 ·obtain⟨_,o',mF,hd⟩:=I.stack.mem (show b∈iC ((ba (df P w cv) P w K mg base N qual scope f cd A outer acJ acI E)).stack by rw[wy];exact Wf _ hb);rw[e] at mF;cases mF;exact ups b o (hx.keeps b o e) hd
 ·obtain⟨o',mF⟩:∃o',s.heap.get? b=some o':=by
   rcases hc with hc | hc
   ·cases q:H b with
    |none=>exact acE q hc
    |some u=>exact obj_some (I.hok b u q)
   ·obtain⟨o1,h1⟩:=Xc.mp hc;exact u1.there b o1 h1 (by simp)
  have Cf:=Gu b hb hc;rw[mI b o' mF Cf] at e;cases e;exact hB b o mF Cf
end
section
variable{X:Cx}{Xw:Nat->Hp->Prop}{cv:Nat->Value}{n:Nat}{C:Addr}{x:Str}{np bz pos:Pos}{e:Expr}{es:List Expr}{δs:DA}{bm:List Value}{B newId Mf:String}
theorem i9(O:OwnCls x C bm newId X.mg X.base)(FB:ExcBaseFacts B newId Mf bm)(hg:Gl X x)(hc:X.calm=true)(Oy:cv n= .ref C)(hx:Ku X cv Xw)(ha:kY X Xw (e::es) δs)(mC:(x==("__debug__":Str))=false:=by decide)
 (he:Wt (e::es) X.env=(false,eval e X.env)::Wt es X.env:=by rfl)(lb:(X2 bz (Wt es X.env)).any (·.1)=false:=by rfl):
 gM X Xw (.Raise (some (.Call (.Name x np) (e::es) [] bz)) none pos) (λZ=>δs Z>>=λds=>if ds.length<=lim then a8 n else ah):=λs0 acI f8 s σ H D I ⟨F,Z,S,w⟩=>by
 obtain⟨tl,Nn,nm,q,bs,hdct,sn,sub,ab,col,dd,k0,k1,k2,k3,k5,mN,hC,hN,U0,T⟩:=O.obj;refine wpAny_Raise_call_subT (C:=C) (nm:=nm) (q:=q) (N:=Nn) (bs:=bs) (bm:=tl) (hdct:=hdct) (sn:=sn) (sub:=sub) (ab:=ab) (col:=col) (dd:=dd) (k0:=k0) (k1:=k1) (k2:=k2) (k3:=k3) (k5:=k5)
  FB (mN:=mN) (T.hasType FB.hasBase) (I.ok.hd hc) (by rw[he];show (false||(X2 bz (Wt es X.env)).any (·.1))=false;rw[lb];rfl) U0 (mL I hg O.bound ⟨rfl,?_⟩ mC)
 have w:WPS X.K Xw s0 acI (δs Z>>=λds=>if ds.length<=lim then a8 n else ah) D:=w;have hA:=ha bz f8 s σ H (λvs H1=>vs.length<=lim/\Xw n H1) I ⟨F,Z,S.st,by
  rcases(δs Z).cs with q | ⟨m,q⟩ | ⟨ds,q⟩
  ·rw[q] at w;exact w.elim
  ·rw[q] at w⊢;exact λF' H' e'=>w F' H' (S.ext.trans e')
  ·rw[q] at w⊢;intro vs H' F' e' hd;have w:WPS X.K Xw s0 acI (if ds.length<=lim then a8 n else ah) D:=w;split at w
   ·rename_i hl;exact⟨by rw[<-hd.len];exact hl,w F' H' (S.ext.trans e')⟩
   ·exact w.elim⟩
 rw[he] at hA⊢;refine YE (cV hA λus v4 ⟨vs,H1,I1,r,hl,hX⟩=>⟨rfl,by rw[<-r.length];have:=er;omega,I1.bk _ _ hC,hN.keeps I1.bk,T.keeps I1.bk,λh' ea hm=>hx n f8 σ H1 v4 h' ea us I1 (by rw[Oy];exact hm) hX⟩)
end
def KZ:D->Option String
 | .non=>some "NoneType"
 | .bl _=>some "bool"
 | .int _=>some "int"
 | .str _=>some "str"
 | .tup _=>some "tuple"
 | .lst _=>some "list"
 |_=>none
def Mi(k T:String):Option Bool:=if T="str"\/T="int"\/T="bool"\/T="tuple"\/T="list" then some (decide (k=T)||(decide (k="bool")&&decide (T="int"))) else none
def jo:List D->M D
 |[d, .raw (.ty T)]=>match KZ d with
  |some k=>match Mi k T with
   |some b=>ae (.bl b)
   |none=>ah
  |none=>ah
 |_=>ah
theorem Ms{K:Wn}{k T:String}{b:Bool}(hk:k="NoneType"\/k="bool"\/k="int"\/k="str"\/k="tuple"\/k="list")(h:Mi k T=some b):Ws K (.type k) (.type T)=some b:=by
 unfold Mi at h;split at h
 ·rename_i hT;cases h;rcases hk with rfl | rfl | rfl | rfl | rfl | rfl<;>rcases hT with rfl | rfl | rfl | rfl | rfl<;>with_unfolding_all rfl
 ·cases h
section
variable{X:Cx}{Xw:Nat->Hp->Prop}{a b e e2:Expr}{δs:DA}{pos p:Pos}
def Pz(K:Wn):List V->Hp->VK->Prop:=λxs H Q=>∃x T t b,xs=[x, .ty T]/\TyOf K H x t/\Ws K t (.type T)=some b/\Q (.bl b) H
theorem Fc:CallR X (.builtin "isinstance") (Pz X.K):=by
 intro f8 s σ H xs us Q I r h;obtain⟨x,T,t,b,rfl,ty,e,q⟩:=h;obtain⟨u,w',rfl,r1,r2⟩:=vals2 r;cases (show w'=_ from r2);exact D4 I r1 ty e λtk=>⟨.bl b,H,I.tok tk,rfl,q⟩
theorem HJ{K:Wn}{F H:Hp}{d:D}{v:V}{k:String}(s:Same F H)(h:Den K F d v)(hk:KZ d=some k):TyOf K H v (.type k)/\(k="NoneType"\/k="bool"\/k="int"\/k="str"\/k="tuple"\/k="list"):=by
 cases d with
 |non=>cases hk;cases (show _=_ from h);exact⟨.non, .inl rfl⟩
 |bl x=>cases hk;cases (show _=_ from h);exact⟨.bl x, .inr (.inl rfl)⟩
 |int x=>cases hk;cases (show _=_ from h);exact⟨.int x, .inr (.inr (.inl rfl))⟩
 |str x=>cases hk;cases (show _=_ from h.1);exact⟨.str x, .inr (.inr (.inr (.inl rfl)))⟩
 |tup x=>cases hk;obtain⟨a,vs,rfl,h2,_⟩:=h;exact⟨.tup (s _ _ h2), .inr (.inr (.inr (.inr (.inl rfl))))⟩
 |lst x=>cases hk;obtain⟨a,vs,rfl,h2,_⟩:=h;exact⟨.lst (s _ _ h2), .inr (.inr (.inr (.inr (.inr rfl))))⟩
 |_=>cases hk
theorem D3{K:Wn}:yl K (Pz K) jo:=λXw F H vs ds Q s h w=>by
 unfold jo at w;split at w
 ·rename_i d T;obtain⟨v,v',rfl,h1,h2⟩:=h.two;cases (show _=_ from h2);split at w
  ·rename_i k hk;split at w
   ·rename_i b hb;obtain⟨ty,FO⟩:=HJ s h1 hk;exact⟨v,T, .type k,b,rfl,ty,Ms FO hb,WP.now w s rfl⟩
   ·exact w.elim
  ·exact w.elim
 ·exact w.elim
theorem lZ(hg:Gl X "isinstance")(hm:X.mg "isinstance"=none)(hb:W8 "isinstance"=some (.builtin "isinstance"))(ha:kY X Xw [e,e2] δs)(he:Wt [e,e2] X.env=(false,eval e X.env)::Wt [e2] X.env:=by rfl)
 (lb:(X2 pos (Wt [e2] X.env)).any (·.1)=false:=by rfl):PD X Xw (.Call (.Name "isinstance" p) [e,e2] [] pos) (dA jo δs):=
 eO Fc D3 hg hm hb ha (by decide) (by decide) he lb
theorem pW{x:Str}{T:String}(hg:Gl X x)(hm:X.mg x=none)(hv:W8 x=some (.type T))(hn:x≠"__name__":=by decide)(hd:(x==("__debug__":Str))=false:=by decide):PD X Xw (.Name x pos) (dC (.raw (.ty T))):=
 i7 (v:= .ty T) (JJ hg hm hv (show RelV (.ty T) (.type T) from rfl) hn hd) λ_=>rfl
def bools:List D->Option (List Bool)
 |[]=>some []
 | .bl b::r=>(bools r).map (b:: ·)
 |_=>none
def allM:List D->M D
 |[.lst ds]=>match bools ds with
  |some bs=>ae (.bl (bs.all id))
  |none=>ah
 |_=>ah
theorem kH{K:Wn}{F:Hp}:∀{ds:List D}{vs:List V}{bs:List Bool},bools ds=some bs->DenL K F ds vs->vs=bs.map V.bl
 |[],_,_,e,h=>by cases e;exact h
 | .bl b::r,_,_,e,⟨v,r',h1,h2,h3⟩=>by
   unfold bools at e;cases q:bools r with
   |none=>rw[q] at e;cases e
   |some bs=>rw[q] at e;cases e;subst h1;rw[kH q h3,show v= .bl b from h2];rfl
 | .non::_,_,_,e,_=>by cases e
 | .int _::_,_,_,e,_=>by cases e
 | .str _::_,_,_,e,_=>by cases e
 | .raw _::_,_,_,e,_=>by cases e
 | .exc _::_,_,_,e,_=>by cases e
 | .scr _::_,_,_,e,_=>by cases e
 | .tup _::_,_,_,e,_=>by cases e
 | .lst _::_,_,_,e,_=>by cases e
theorem qM:∀{bs:List Bool}{aS:List Value},Vals (bs.map V.bl) aS->aS=bs.map Yn
 |[],_,r=>by cases r;rfl
 |b::bs,_,r=>by
  cases r with
  |cons r1 r2=>cases (show _=_ from r1);rw[qM r2];rfl
def RT:List V->Hp->VK->Prop:=λxs H Q=>∃(a:Addr) (bs:List Bool),xs=[.ref a]/\H a=some (.lst (bs.map V.bl))/\Q (.bl (bs.all id)) H
theorem all_range{bs:List Bool}:(WD bs.length).all (λi=>bs.getD i false)=bs.all id:=by
 induction bs with
 |nil=>rfl
 |cons b bs ih=>
  rw[Wl,abN,Y3,YR,Y3];congr 1
theorem Dv(hc:X.calm=true):CallR X (.builtin "all") RT:=by
 intro f8 s σ H xs us Q I r h;obtain⟨a,bs,rfl,hH,q⟩:=h;obtain⟨u,rfl,r1⟩:=vals1 r;cases (show u=_ from r1);obtain⟨aS,r2,pl,hz⟩:=I.list (SqL.of (K:=X.K) hH);obtain rfl:=qM r2;have jU:a≠s.heap.objs.size:=WS (I.hok.lt hH);refine call_all_walk (aa6 pl.isList ?_);refine⟨s.heap.objs.size,_,_,_,_,_,λi=>bs.getD i false,rfl,Walks.list (A:=X.A.in1) (show X.A.in1.handled=none from I.ok.hd hc) s.heap.objs.size a jU (bs.map Yn).toArray,⟨⟨_,WA _ rfl,rfl,rfl⟩,Heap.IsList.at pl.isList λo e=>Wg _ e⟩,?_,λh' tk k=>?_⟩
 ·intro i v s' Q' E' hv hq;have hv:(bs.map Yn).toArray[i]? =some v:=hv;rw[List.getElem?_toArray,Wz] at hv;cases q':bs[i]? with
  |none=>rw[q'] at hv;cases hv
  |some b=>
   rw[q'] at hv;cases hv;have:bs.getD i false=b:=by rw[WK,q'];rfl
   have hq:Q' (bs.getD i false) s':=hq;rw[this] at hq;exact XO hq
 ·have e:(WD (bs.map Yn).toArray.size).all (λi=>bs.getD i false)=bs.all id:=by
   rw[Wo,Wc];exact all_range
  rw[e];refine⟨.bl (bs.all id),H,I.kept (h':=h') (t':=tk) λb o e'=>k b o (λz=>?_) (Wg _ e'),rfl,q⟩;have z:b=s.heap.objs.size:=by simpa using z
  exact acE (Ww e') (by rw[z];exact Xr _)
theorem xg(hc:X.calm=true)(hg:Gl X "all")(hm:X.mg "all"=none)(hb:W8 "all"=some (.builtin "all"))(ha:kY X Xw [e] δs)(he:Wt [e] X.env=[(false,eval e X.env)]:=by rfl):PD X Xw (.Call (.Name "all" p) [e] [] pos) (dA allM δs):=
 eO (Dv hc) (λXw F H vs ds Q s h w=>by
  unfold allM at w;split at w
  ·rename_i ds;obtain⟨v,rfl,h1⟩:=h.one;obtain⟨a,ws,rfl,h2,h3,_⟩:=h1;split at w
   ·rename_i bs hb;exact⟨a,bs,rfl,by rw[<-kH hb h3];exact s _ _ h2,WP.now w s rfl⟩
   ·exact w.elim
  ·exact w.elim) hg hm hb ha (by decide) (by decide) he rfl
end
section
variable{X:Cx}{Xw:Nat->Hp->Prop}{a b e e2:Expr}{es:List Expr}{δ δa δb:DE}{pos p W1 bz:Pos}
theorem Km{i:Nat}:∀s0 acI D σ H,tS X.K Xw s0 acI (gA i δ) D σ H->Hy (R8 X.K "list" C7 (tm i) (Hx (tD X.K Xw δ) ND)) D σ H:=λs0 acI D σ H ⟨F,Z,s,w⟩=>by
 unfold gA at w;cases ho:Eu Z i with
 |none=>rw[ho] at w;exact w.elim
 |some ds=>
  rw[ho] at w;have hi:=vn ho;obtain⟨v,hv,a,o,rfl,hH,hF,vs,rfl,hd,hl⟩:=s.st.den i _ hi;have w:WPS X.K Xw s0 acI (δ Z>>=λd=>if ds.length<lim then ae (.nx (Z.set i (some (.ow (.lst (ds++[d])))))) else ah) D:=w;refine⟨.ref a,hv, .inl ⟨rfl,vs,SqL.of hH⟩,F,Z,s.st,?_⟩;rcases(δ Z).cs with q | ⟨n,q⟩ | ⟨d,q⟩
  ·rw[q] at w;exact w.elim
  ·rw[q] at w⊢;exact λF' H' e'=>w F' H' (s.ext.trans e')
  ·rw[q] at w⊢;intro u H1 F1 e1 hq;have w:WPS X.K Xw s0 acI (if ds.length<lim then ae (.nx (Z.set i (some (.ow (.lst (ds++[d])))))) else ah) D:=w;split at w
   ·rename_i jl;have T0:=hd.len;refine⟨a,vs,u,rfl,rfl,e1.hh _ _ hH,by have:=er;omega,?_⟩;exact w σ F1 _ ((s.ext' e1).chg (c₀:= .lst (ds++[d])) hi hv ⟨_,rfl,DenL.append (DenL.mono e1.ff hd) (.cons hq .nil),by rw[Wj];exact jl⟩)
   ·exact w.elim
theorem Kn{i:Nat}:∀s0 acI D σ H,tS X.K Xw s0 acI (BE i δ) D σ H->Hy (R8 X.K "list" C8 (tm i) (Hx (tD X.K Xw δ) ND)) D σ H:=λs0 acI D σ H ⟨F,Z,s,w⟩=>by
 unfold BE at w;cases ho:Eu Z i with
 |none=>rw[ho] at w;exact w.elim
 |some ds=>
  rw[ho] at w;have hi:=vn ho;obtain⟨v,hv,a,o,rfl,hH,hF,vs,rfl,hd,hl⟩:=s.st.den i _ hi;have w:WPS X.K Xw s0 acI (δ Z>>=λd=>lstM d>>=λes=>if ds.length+es.length<=lim then ae (.nx (Z.set i (some (.ow (.lst (ds++es)))))) else ah) D:=w;refine⟨.ref a,hv, .inl ⟨rfl,vs,SqL.of hH⟩,F,Z,s.st,?_⟩;rcases(δ Z).cs with q | ⟨n,q⟩ | ⟨d,q⟩
  ·rw[q] at w;exact w.elim
  ·rw[q] at w⊢;exact λF' H' e'=>w F' H' (s.ext.trans e')
  ·rw[q] at w⊢;intro u H1 F1 e1 hq;cases d with
   |lst es=>
    obtain⟨b,ws,rfl,k2,k3,k4⟩:=hq;have w:WPS X.K Xw s0 acI (if ds.length+es.length<=lim then ae (.nx (Z.set i (some (.ow (.lst (ds++es)))))) else ah) D:=w;split at w
    ·rename_i jl;have T0:=hd.len;have SS:=k3.len;refine⟨a,b,vs,ws,rfl,rfl,e1.hh _ _ hH,e1.fh _ _ k2,by have:=er;omega,?_⟩;exact w σ F1 _ ((s.ext' e1).chg (c₀:= .lst (ds++es)) hi hv ⟨_,rfl,DenL.append (DenL.mono e1.ff hd) k3,by rw[Wj];exact jl⟩)
    ·exact w.elim
   |_=>exact w.elim
theorem gy{i:Nat}{x:Str}(hv:PE X (.Name x p) (tm i))(he:PD X Xw e δ)(hs:ZU (.Call (.Attribute (.Name x p) "append" W1) [e] [] bz) none pos.line X.env=pure false:=by rfl)
 (iT:Yr (.Name x p) "append" X.env (eval (.Name x p) X.env)=eval (.Name x p) X.env:=by rfl)
 (ot:((X2 bz (Wt [e] X.env)).all (λx=>!x.1)&&(ZN bz (YI [] X.env)).all (λx=>x.1.isSome)&&decide ([e].length+([]:List YS).length+(if ([]:List YS).isEmpty then 0 else 1)<30))=true:=by rfl)
 (iV:(W1.endLine==bz.line)=true:=by rfl)(A1:Wt [e] X.env=[(false,eval e X.env)]:=by rfl):gM X Xw (.Expr (.Call (.Attribute (.Name x p) "append" W1) [e] [] bz) pos) (gA i δ):=λs0 acI=>
 PS.weak (qJ (GV YQ PySem.F.slot_list_append PySem.F.type_list_append vf hv (nv he sC A1) iT ot iV A1 rfl) hs) λD σ H w=>Km s0 acI D σ H w
theorem CV{i:Nat}{x:Str}(hv:PE X (.Name x p) (tm i))(he:PD X Xw e δ)(hs:ZU (.Call (.Attribute (.Name x p) "extend" W1) [e] [] bz) none pos.line X.env=pure false:=by rfl)
 (iT:Yr (.Name x p) "extend" X.env (eval (.Name x p) X.env)=eval (.Name x p) X.env:=by rfl)
 (ot:((X2 bz (Wt [e] X.env)).all (λx=>!x.1)&&(ZN bz (YI [] X.env)).all (λx=>x.1.isSome)&&decide ([e].length+([]:List YS).length+(if ([]:List YS).isEmpty then 0 else 1)<30))=true:=by rfl)
 (iV:(W1.endLine==bz.line)=true:=by rfl)(A1:Wt [e] X.env=[(false,eval e X.env)]:=by rfl):gM X Xw (.Expr (.Call (.Attribute (.Name x p) "extend" W1) [e] [] bz) pos) (BE i δ):=λs0 acI=>
 PS.weak (qJ (GV YQ PySem.F.slot_list_extend PySem.F.type_list_extend Ei hv (nv he sC A1) iT ot iV A1 rfl) hs) λD σ H w=>Kn s0 acI D σ H w
theorem GC:OpR X (Zd .Add) (λx y H Q=>∃a b ys,x= .ref a/\y= .ref b/\SqT X.K H a []/\SqT X.K H b ys/\Q (.ref b) H):=by
 intro f8 s σ H x y v u Q I rx ry h;obtain⟨a,b,ys,rfl,rfl,ha,hb,q⟩:=h;cases rx;cases ry;obtain⟨aS,r1,p1,_⟩:=I.tuple ha;obtain⟨fO,r2,p2,_⟩:=I.tuple hb;cases r1;obtain⟨⟨cls,dd,data,sl⟩,ho,hc,n,hd⟩:=id p1;obtain⟨⟨N8,Au,data2,Lb⟩,HZ,FJ,n2,hd2⟩:=id p2;simp only at hc hd FJ hd2;subst hc hd FJ hd2;exact concat_meets ⟨_,ho,rfl⟩ ⟨_,HZ,rfl⟩ abt acd ZK ZF (Zv _ _)
  (tuple_addW0 a b _ _ n n2 dd Au sl Lb (by simp)) ⟨ho,HZ,⟨.ref b,H,I,rfl,q⟩⟩
def jS:D->D->M D
 | .tup x, .tup y=>if x.length+y.length<=lim then ae (.tup (x++y)) else ah
 |_,_=>ah
theorem qH(ha:PD X Xw a δa)(hb:PD X Xw b δb):PD X Xw (.BinOp a .Add b pos) (d2 jS δa δb):=nz (GC.or Ju) (λXw F H x y dx dy Q s hx hy w=>by
 unfold jS at w;split at w
 ·rename_i i j;obtain⟨a,vs,h1,h2,h3,h4⟩:=hx;obtain⟨a',vs',k1,k2,k3,k4⟩:=hy;split at w
  ·rename_i hl;have e1:=h3.len;have e2:=k3.len;have:=er;by_cases hv:vs=[]
   ·subst hv;have:i=[]:=by cases i with | nil=>rfl | cons _ _=>simp at e1
    subst this;exact .inl ⟨a,a',vs',h1,k1,SqT.of (s _ _ h2),SqT.of (s _ _ k2),WP.now w s ⟨a',vs',k1▸rfl,k2,k3,k4⟩⟩
   ·refine .inr ⟨a,a',vs,vs',h1,k1,SqT.of (s _ _ h2),SqT.of (s _ _ k2),hv,by omega,λz=>?_,λz p hp=>?_⟩
    ·subst z;have:j=[]:=by cases j with | nil=>rfl | cons _ _=>simp at e2
     subst this;rw[WU] at w;exact WP.now w s ⟨a,vs,rfl,h2,h3,h4⟩
    ·exact WP.fin w (Ext.lay s hp) ⟨p,_,rfl,aQ,DenL.mono (Ext.lay s hp).ff (h3.append k3),by rw[Wj];exact hl⟩
  ·exact w.elim
 ·exact w.elim) ha hb
end
section
variable{X:Cx}{Xw:Nat->Hp->Prop}{a b e e2 o:Expr}{es:List Expr}{δa δb δo:DE}{δs:DA}{pos p W1 bz:Pos}
def dM(kd:D->Bool)(g:D->List D->M D)(o:DE)(s:DA):DE:=λZ=>o Z>>=λd=>if kd d then s Z>>=λds=>g d ds else ah
theorem GL{T:String}{name:Str}{id:String}{r:V->List V->Hp->VK->Prop}{kd:D->Bool}{g:D->List D->M D}(pa:PlainAttrs T)(slot:Slot T name id)(Rq:typeOf (.builtin id)=pure (.type "method_descriptor"))(hm:N2 X id r)
 (hk:∀(F H:Hp) (x:V) (d:D),kd d=true->Same F H->Den X.K F d x->P9 X.K T x H)
 (hd:∀(Xw:Nat->Hp->Prop) (F H:Hp) (x:V) (vs:List V) (d:D) (ds:List D) (Q:VK),Same F H->Den X.K F d x->DenL X.K F ds vs->WP X.K Xw F H (g d ds) Q->r x vs H Q)
 (ho:PD X Xw o δo)(ha:kY X Xw (e::es) δs)
 (iT:Yr o name X.env (eval o X.env)=eval o X.env:=by rfl)
 (ot:((X2 bz (Wt (e::es) X.env)).all (λx=>!x.1)&&(ZN bz (YI [] X.env)).all (λx=>x.1.isSome)
  &&decide ((e::es).length+([]:List YS).length+(if ([]:List YS).isEmpty then 0 else 1)<30))=true:=by rfl)
 (iV:(W1.endLine==bz.line)=true:=by rfl) (hs:Wt (e::es) X.env=(false,eval e X.env)::Wt es X.env:=by rfl) (A0:(X2 bz (Wt es X.env)).any (·.1)=false:=by rfl):
 PD X Xw (.Call (.Attribute o name W1) (e::es) [] bz) (dM kd g δo δs):=PE.weak (GV pa slot Rq hm ho ha iT ot iV hs A0) λσ H Q ⟨F,Z,s,w⟩=>by
 refine⟨F,Z,s,WP.mono (WP.bind w) λv H1 ⟨F1,d,e1,q1,w1⟩=>?_⟩;split at w1
 ·rename_i UK;refine⟨hk F1 H1 v d UK e1.fh q1,F1,Z,s.ext e1,WPL.mono (WP.bindL w1) λvs H2 ⟨F2,ds,e2,q2,w2⟩=>?_⟩;exact hd Xw F2 H2 v vs d ds Q e2.fh (Den.mono e2.ff q1) q2 w2
 ·exact w1.elim
def Cs:D->Bool
 | .str _=>true
 |_=>false
def mG:D->Bool
 | .lst _=>true
 |_=>false
theorem Mg{K:Wn}(F H:Hp)(x:V)(d:D)(h:Cs d=true)(s:Same F H)(q:Den K F d x):P9 K "str" x H:=by
 cases d with
 |str z=>cases (show _=_ from q.1);exact rfl
 |_=>cases h
theorem y8{K:Wn}(F H:Hp)(x:V)(d:D)(h:mG d=true)(s:Same F H)(q:Den K F d x):P9 K "list" x H:=by
 cases d with
 |lst z=>obtain⟨a,vs,rfl,h2,_⟩:=q;exact .inl ⟨rfl,vs,SqL.of (s _ _ h2)⟩
 |_=>cases h
def qz:List D->Option (List Str)
 |[]=>some []
 | .str x::r=>(qz r).map (x:: ·)
 |_=>none
theorem tu{K:Wn}{F:Hp}:∀{ds:List D}{vs:List V}{xs:List Str},qz ds=some xs->DenL K F ds vs->vs=xs.map V.str
 |[],_,_,e,h=>by cases e;exact h
 | .str b::r,_,_,e,⟨v,r',h1,h2,h3⟩=>by
   unfold qz at e;cases q:qz r with
   |none=>rw[q] at e;cases e
   |some bs=>rw[q] at e;cases e;subst h1;rw[tu q h3,show v= .str b from h2.1];rfl
 | .non::_,_,_,e,_=>by cases e
 | .int _::_,_,_,e,_=>by cases e
 | .bl _::_,_,_,e,_=>by cases e
 | .raw _::_,_,_,e,_=>by cases e
 | .exc _::_,_,_,e,_=>by cases e
 | .scr _::_,_,_,e,_=>by cases e
 | .tup _::_,_,_,e,_=>by cases e
 | .lst _::_,_,_,e,_=>by cases e
theorem tE:∀{xs:List Str}{aS:List Value},Vals (xs.map V.str) aS->StrsAre aS xs
 |[],_,r=>by cases r;exact .nil
 |b::bs,_,r=>by
  cases r with
  |cons r1 r2=>obtain⟨t,rfl⟩:=r1;exact .cons b t (tE r2)
def e_:List Str->Str
 |[]=>⟨#[]⟩
 |x::r=>x++e_ r
def joinM:D->List D->M D
 | .str sep,[.lst ds]=>match qz ds with
   |some xs=>if sep.length=0/\(xs.map (·.length)).sum<=lim then ae (.str (e_ xs)) else ah
   |none=>ah
 | .str sep,[.tup ds]=>match qz ds with
   |some xs=>if sep.length=0/\(xs.map (·.length)).sum<=lim then ae (.str (e_ xs)) else ah
   |none=>ah
 |_,_=>ah
theorem qT:∀xs:List Str,(e_ xs).length=(xs.map (·.length)).sum
 |[]=>rfl
 |x::r=>by
  show (x++e_ r).length=_;rw[g9,qT r,Wq,YA]
theorem Kk{x:Str}(h:x.length=0):x=⟨#[]⟩:=by
 obtain⟨⟨l⟩⟩:=x;have:l.length=0:=h;cases l with
 |nil=>rfl
 |cons _ _=>simp at this
theorem pZ(x:Str):x++(⟨#[]⟩:Str)=x:=by
 obtain⟨c⟩:=x;show (⟨c++ #[]⟩:Str)=⟨c⟩
 simp
theorem pw(sep:Str)(h:sep.length=0):∀xs:List Str,Txt.join sep xs=e_ xs:=by
 have e:=Kk h;subst e;intro xs;show Builtin.Str.glued _ xs=_;rw[StrLaws.glued_eq_join];induction xs with
 |nil=>rfl
 |cons x r ih=>
  cases r with
  |nil=>show x=x++(⟨#[]⟩:Str);rw[pZ]
  |cons y r=>show x++(⟨#[]⟩:Str)++Str.join _ (y::r)=x++e_ (y::r);rw[pZ,ih]
def rJoin(K:Wn):V->List V->Hp->VK->Prop:=λx vs H Q=>∃(sep:Str) (a:Addr) (xs:List Str),x= .str sep/\vs=[.ref a]/\(H a=some (.lst (xs.map V.str))\/H a=some (.tup (xs.map V.str)))/\sep.length=0/\(xs.map (·.length)).sum<=lim/\Q (.str (e_ xs)) H
theorem Jp:N2 X "str.join" (rJoin X.K):=by
 intro f8 s σ H x vs v us Q I rx rv h;obtain⟨sep,a,xs,rfl,rfl,hH,hs,hl,q⟩:=h;obtain⟨t,rfl⟩:=rx;obtain⟨u,rfl,r1⟩:=rv.one;cases (show u=_ from r1);have hok:(xs.map (·.length)).sum+xs.length*sep.length<=16777216:=by
  rw[hs,Nat.mul_zero];unfold lim at hl;omega
 rcases hH with hH | hH
 ·obtain⟨aS,r2,pl,hz⟩:=I.list (SqL.of (K:=X.K) hH);refine join_list pl.isList (by simpa using tE r2) hok λt' k=>⟨.str (e_ xs),H,I.tok k,⟨t',by rw[pw sep hs]⟩,q⟩
 ·obtain⟨aS,r2,pl,hz⟩:=I.tuple (SqT.of (K:=X.K) hH);refine join_tuple pl (by simpa using tE r2) hok λt' k=>⟨.str (e_ xs),H,I.tok k,⟨t',by rw[pw sep hs]⟩,q⟩
theorem xk(ho:PD X Xw o δo)(ha:kY X Xw [e] δs)(iT:Yr o "join" X.env (eval o X.env)=eval o X.env:=by rfl)
 (ot:((X2 bz (Wt [e] X.env)).all (λx=>!x.1)&&(ZN bz (YI [] X.env)).all (λx=>x.1.isSome)&&decide ([e].length+([]:List YS).length+(if ([]:List YS).isEmpty then 0 else 1)<30))=true:=by rfl)
 (iV:(W1.endLine==bz.line)=true:=by rfl)(A1:Wt [e] X.env=[(false,eval e X.env)]:=by rfl):PD X Xw (.Call (.Attribute o "join" W1) [e] [] bz) (dM Cs joinM δo δs):=
 GL PySem.F.plainAttrs_str PySem.F.slot_str_join PySem.F.type_str_join Jp Mg (λXw F H x vs d ds Q s hx hv w=>by
  unfold joinM at w;split at w
  ·rename_i sep ds;obtain⟨v,rfl,h1⟩:=hv.one;obtain⟨a,ws,rfl,h2,h3,_⟩:=h1;split at w
   ·rename_i xs OV;split at w
    ·rename_i hc;exact⟨sep,a,xs,hx.1,rfl, .inl (by rw[<-tu OV h3];exact s _ _ h2),hc.1,hc.2,WP.now w s ⟨rfl,by rw[qT];exact hc.2⟩⟩
    ·exact w.elim
   ·exact w.elim
  ·rename_i sep ds;obtain⟨v,rfl,h1⟩:=hv.one;obtain⟨a,ws,rfl,h2,h3,_⟩:=h1;split at w
   ·rename_i xs OV;split at w
    ·rename_i hc;exact⟨sep,a,xs,hx.1,rfl, .inr (by rw[<-tu OV h3];exact s _ _ h2),hc.1,hc.2,WP.now w s ⟨rfl,by rw[qT];exact hc.2⟩⟩
    ·exact w.elim
   ·exact w.elim
  ·exact w.elim) ho ha iT ot iV A1 rfl
def HI:List D->M D
 |[.lst ds]=>ae (.tup ds)
 |[.tup ds]=>ae (.tup ds)
 |_=>ah
def Ge:List D->M D
 |[.lst ds]=>ae (.lst ds)
 |[.tup ds]=>ae (.lst ds)
 |_=>ah
theorem GS(hg:Gl X "tuple")(hm:X.mg "tuple"=none)(hb:W8 "tuple"=some (.type "tuple"))(ha:kY X Xw [e] δs)(he:Wt [e] X.env=[(false,eval e X.env)]:=by rfl):PD X Xw (.Call (.Name "tuple" p) [e] [] pos) (dA HI δs):=
 oK tO (λXw F H vs ds Q s h w=>by
  unfold HI at w;split at w
  ·rename_i ds;obtain⟨v,rfl,h1⟩:=h.one;obtain⟨a,ws,rfl,h2,h3,h4⟩:=h1;exact⟨a,ws,rfl, .inl ⟨SqL.of (s _ _ h2),λl hl=>WP.fin w (Ext.lay s hl) ⟨l,ws,rfl,aQ,DenL.mono (Ext.lay s hl).ff h3,h4⟩⟩⟩
  ·rename_i ds;obtain⟨v,rfl,h1⟩:=h.one;obtain⟨a,ws,rfl,h2,h3,h4⟩:=h1;exact⟨a,ws,rfl, .inr ⟨SqT.of (s _ _ h2),WP.now w s ⟨a,ws,rfl,h2,h3,h4⟩⟩⟩
  ·exact w.elim) hg hm hb ha (by decide) (by decide) he rfl
theorem JE(hg:Gl X "list")(hm:X.mg "list"=none)(hb:W8 "list"=some (.type "list"))(ha:kY X Xw [e] δs)(he:Wt [e] X.env=[(false,eval e X.env)]:=by rfl):PD X Xw (.Call (.Name "list" p) [e] [] pos) (dA Ge δs):=
 oK vZ (λXw F H vs ds Q s h w=>by
  unfold Ge at w;split at w
  ·rename_i ds;obtain⟨v,rfl,h1⟩:=h.one;obtain⟨a,ws,rfl,h2,h3,h4⟩:=h1;exact⟨a,ws,rfl, .inl (SqL.of (s _ _ h2)),λl hl=>WP.fin w (Ext.lay s hl) ⟨l,ws,rfl,aQ,DenL.mono (Ext.lay s hl).ff h3,h4⟩⟩
  ·rename_i ds;obtain⟨v,rfl,h1⟩:=h.one;obtain⟨a,ws,rfl,h2,h3,h4⟩:=h1;exact⟨a,ws,rfl, .inr (SqT.of (s _ _ h2)),λl hl=>WP.fin w (Ext.lay s hl) ⟨l,ws,rfl,aQ,DenL.mono (Ext.lay s hl).ff h3,h4⟩⟩
  ·exact w.elim) hg hm hb ha (by decide) (by decide) he rfl
theorem Bz(hc:X.calm=true)(hg:Gl X "max")(hm:X.mg "max"=none)(hb:W8 "max"=some (.builtin "max"))(ha:kY X Xw [e,e2] δs)(he:Wt [e,e2] X.env=(false,eval e X.env)::Wt [e2] X.env:=by rfl)
 (lb:(X2 pos (Wt [e2] X.env)).any (·.1)=false:=by rfl):PD X Xw (.Call (.Name "max" p) [e,e2] [] pos) (dA Bd δs):=
 eO (Dx hc) (λXw F H vs ds Q s h w=>by
  unfold Bd at w;split at w
  ·obtain⟨v,v',rfl,h1,h2⟩:=h.two;cases (show _=_ from h1);cases (show _=_ from h2);exact⟨_,_,rfl,WP.now w s rfl⟩
  ·exact w.elim) hg hm hb ha (by decide) (by decide) he lb
theorem GQ(hc:X.calm=true)(hg:Gl X "min")(hm:X.mg "min"=none)(hb:W8 "min"=some (.builtin "min"))(ha:kY X Xw [e,e2] δs)(he:Wt [e,e2] X.env=(false,eval e X.env)::Wt [e2] X.env:=by rfl)
 (lb:(X2 pos (Wt [e2] X.env)).any (·.1)=false:=by rfl):PD X Xw (.Call (.Name "min" p) [e,e2] [] pos) (dA Eg δs):=
 eO (Dy hc) (λXw F H vs ds Q s h w=>by
  unfold Eg at w;split at w
  ·obtain⟨v,v',rfl,h1,h2⟩:=h.two;cases (show _=_ from h1);cases (show _=_ from h2);exact⟨_,_,rfl,WP.now w s rfl⟩
  ·exact w.elim) hg hm hb ha (by decide) (by decide) he lb
def nums:List D->Option (List Int)
 |[]=>some []
 | .int x::r=>(nums r).map (x:: ·)
 |_=>none
theorem iW{K:Wn}{F:Hp}:∀{ds:List D}{vs:List V}{xs:List Int},nums ds=some xs->DenL K F ds vs->vs=xs.map V.int
 |[],_,_,e,h=>by cases e;exact h
 | .int b::r,_,_,e,⟨v,r',h1,h2,h3⟩=>by
   unfold nums at e;cases q:nums r with
   |none=>rw[q] at e;cases e
   |some bs=>rw[q] at e;cases e;subst h1;rw[iW q h3,show v= .int b from h2];rfl
 | .non::_,_,_,e,_=>by cases e
 | .str _::_,_,_,e,_=>by cases e
 | .bl _::_,_,_,e,_=>by cases e
 | .raw _::_,_,_,e,_=>by cases e
 | .exc _::_,_,_,e,_=>by cases e
 | .scr _::_,_,_,e,_=>by cases e
 | .tup _::_,_,_,e,_=>by cases e
 | .lst _::_,_,_,e,_=>by cases e
def II(neg:Bool):D->D->M D
 | .int i, .tup ds=>match nums ds with | some ns=>ae (.bl (if neg then !ns.contains i else ns.contains i)) | none=>ah
 |_,_=>ah
theorem FW(i:Int)(ns:List Int):Qv (.int i) (ns.map V.int)=ns.contains i:=by
 unfold Qv;rw[List.any_map];induction ns with
 |nil=>rfl
 |cons n ns ih=>
  rw[Y2,List.contains_cons,ih];congr 1;show HQ (.int n) (.int i)=(i==n)
  unfold HQ;exact Bool.beq_comm
theorem Mc{neg:Bool}{K:Wn}:yn K (Tx K neg) (II neg):=λXw F H x y dx dy Q s hx hy w=>by
 unfold II at w;split at w
 ·rename_i i ds;obtain⟨a,vs,h1,h2,h3,h4⟩:=hy;split at w
  ·rename_i ns hn;have hv:=iW hn h3;subst hv;cases (show _=_ from hx);refine⟨a,ns.map V.int,h1, .inr (SqT.of (s _ _ h2)),rfl,?_,?_⟩
   ·rw[YR];exact W3.mpr λ_ _=>rfl
   ·rw[FW];exact WP.now w s rfl
  ·exact w.elim
 ·exact w.elim
theorem EC(ha:PD X Xw a δa)(hb:PD X Xw b δb)(hm:Xv .NotIn b=false:=by rfl):qe X Xw (.Compare a [.NotIn] [b] pos) (cE (d2 (II true) δa δb)):=gz xc Mc ha hb hm
def FA(neg:Bool):D->D->M D
 | .str x, .str y=>ae (.bl (if neg then !(!(YJ y x 0 y.length 1).isEmpty) else !(YJ y x 0 y.length 1).isEmpty))
 |_,_=>ah
theorem MT(ha:PD X Xw a δa)(hb:PD X Xw b δb)(hm:Xv .In b=false:=by rfl):PD X Xw (.Compare a [.In] [b] pos) (d2 (FA false) δa δb):=By Es (λXw F H x y dx dy Q s hx hy w=>by
 unfold FA at w;split at w
 ·exact⟨_,_,hx.1,hy.1,WP.now w s rfl⟩
 ·exact w.elim) ha hb hm
end
end L3
namespace L3
open PySem PySem.Spec L2 SeqAt HT
open PyProof.Rows hiding St
section
variable{prog:WQ}{w:World}{A:WX}{E:Value->We->Prop}{s:We}
theorem k7{t sl:Addr}{items:Array Value}{vl vu:Value}{lo hi:Option Int}{Q:Value->We->Prop}(ht:IsTup s.heap t items)(hs:s.heap.IsSliceOf sl vl vu .none)(pl:abn vl lo)(pu:abn vu hi)
 (hw:sIx items.size 0 lo=0/\sIx items.size items.size hi=items.size)(h:Q (.ref t) s):wpAny (model prog w) A (aal (.ref t) (.ref sl)) Q E s:=by
 obtain⟨os,DZ,HX,KN⟩:=id hs;have QV:s.TypeIs (.ref sl) "slice":=⟨os,DZ,HX⟩
 unfold aal
 try with_reducible refine XR ?_
 first | refine Wb (Wk ?_) | skip
 refine Wb (wpAny_sequenceKey ht.typeIs (by decide) ?_);refine Wb (Zb (name:=W4 "__getitem__") ht.typeIs X5
  (Yd X5 ht.typeIs entry_tuple_getitem ?_ (args_tuple_getitem _ _)))
 show wpAny _ _ (aaf (.ref t)>>=_) _ _ s;refine Wb (tupleItemsOf_ ht ?_);refine Wb (ZL QV ?_);rw[acy (by decide)];refine Wb (sliceApplied_gen hs pl pu ?_);have DW:((((sIx items.size 0 lo:Nat):Int)==0&&(1:Int)==1&&(sIx items.size items.size hi - sIx items.size 0 lo)==items.size)=true):=by
  rw[hw.1,hw.2];simp
 show wpAny _ _ (if (((sIx items.size 0 lo:Nat):Int)==0&&(1:Int)==1&&(sIx items.size items.size hi - sIx items.size 0 lo)==items.size)=true then _ else _) _ _ s;rw[acy DW];refine Wb ?_;unfold Builtin.Tuple.tupleIsExact;refine Wb (ZL ht.typeIs (Wk ?_));rw[acy (by decide)];exact Wb (ab3 (Wk ⟨_,rfl,Wk h⟩))
end
section
variable{X:Cx}{Xw:Nat->Hp->Prop}{a b e:Expr}{lo hi:Option Expr}{δ:DE}{pos p p2:Pos}
theorem Kh:SlR X (λx lo hi H Q=>∃a xs,x= .ref a/\SqT X.K H a xs/\(sIx xs.length 0 lo=0/\sIx xs.length xs.length hi=xs.length)/\Q (.ref a) H):=by
 intro f8 s σ H x v vl vu lo hi sl Q I rx hs pl pu h;obtain⟨a,xs,rfl,hx,hw,q⟩:=h;cases rx;obtain⟨aS,r,ht,hz⟩:=I.tuple hx;have T0:aS.toArray.size=xs.length:=by rw[Wo];exact r.length.symm
 exact⟨"tuple",_,PyProof.Rows.slot_tuple_getitem.lookup,ht.typeIs,k7 ht hs pl pu (by rw[T0];exact hw) ⟨.ref a,H,I,rfl,q⟩⟩
theorem Nx:SlR X (λx lo hi H Q=>∃z:Str,x= .str z/\z.length<=lim/\Q (.str (aaD z lo hi)) H):=by
 intro f8 s σ H x v vl vu lo hi sl Q I rx hs pl pu h;obtain⟨z,rfl,hl,q⟩:=h;obtain⟨t,rfl⟩:=rx;have hz:z.length<=WB:=by have:=er;omega
 cases pl with
 |none=>
  cases pu with
  |none=>exact⟨"str",_,PySem.F.slot_str_getitem.lookup,aau _ _ _,Za (l:=none) (u:=none) (st:=none) hs rfl (aaj ⟨WM (Z5 z _ _) hz,λt' k=>⟨.str _,H,I.tok k,⟨t',rfl⟩,q⟩⟩)⟩
  |int j uj=>exact⟨"str",_,PySem.F.slot_str_getitem.lookup,aau _ _ _,Za (l:=none) (u:=some (j,uj)) (st:=none) hs rfl (aaj ⟨WM (Z5 z _ _) hz,λt' k=>⟨.str _,H,I.tok k,⟨t',rfl⟩,q⟩⟩)⟩
 |int i ui=>
  cases pu with
  |none=>exact⟨"str",_,PySem.F.slot_str_getitem.lookup,aau _ _ _,Za (l:=some (i,ui)) (u:=none) (st:=none) hs rfl (aaj ⟨WM (Z5 z _ _) hz,λt' k=>⟨.str _,H,I.tok k,⟨t',rfl⟩,q⟩⟩)⟩
  |int j uj=>exact⟨"str",_,PySem.F.slot_str_getitem.lookup,aau _ _ _,Za (l:=some (i,ui)) (u:=some (j,uj)) (st:=none) hs rfl (aaj ⟨WM (Z5 z _ _) hz,λt' k=>⟨.str _,H,I.tok k,⟨t',rfl⟩,q⟩⟩)⟩
abbrev DO:=bo->M (Option Int)
def WPO(Xw:Nat->Hp->Prop)(F H:Hp)(m:M (Option Int))(Q:Option Int->Hp->Prop):Prop:=
 match m with
 |none=>False
 |some (.ok b)=>∀H' F',Ext F H F' H'->Q b H'
 |some (.ex n)=>∀F' H',Ext F H F' H'->Xw n H'
def VH(K:Wn)(Xw:Nat->Hp->Prop)(δ:DO):TO:=λσ H Q=>∃F Z,StE K F H σ Z/\WPO Xw F H (δ Z) Q
def Qe(X:Cx)(Xw:Nat->Hp->Prop)(e:Option Expr)(δ:DO):Prop:=PO X e (VH X.K Xw δ)
def oN:DO:=λ_=>ae none
def oS(δ:DE):DO:=λZ=>δ Z>>=λd=>match d with | .int i=>ae (some i) | _=>ah
theorem nA:Qe X Xw none oN:=λf8 s σ H Q I ⟨F,Z,S,w⟩=>JO f8 s σ H Q I (w H F (Ext.refl S.fh))
theorem nB(h:PD X Xw e δ):Qe X Xw (some e) (oS δ):=λf8 s σ H Q I ⟨F,Z,S,w⟩=>JP h f8 s σ H Q I ⟨F,Z,S,by
 have w:WPO Xw F H (δ Z>>=λd=>match d with | .int i=>ae (some i) | _=>ah) Q:=w;rcases(δ Z).cs with q | ⟨n,q⟩ | ⟨d,q⟩
 ·rw[q] at w;exact w.elim
 ·rw[q] at w⊢;exact w
 ·rw[q] at w⊢;intro v H' F' e' hd;cases d with
  |int i=>exact⟨i,hd,w H' F' e'⟩
  |_=>exact w.elim⟩
theorem WP.bindO{K:Wn}{Xw:Nat->Hp->Prop}{F H:Hp}{Q:VK}{m:M (Option Int)}{k:Option Int->M D}(h:WP K Xw F H (m>>=k) Q):WPO Xw F H m λb H1=>∃F1,Ext F H F1 H1/\WP K Xw F1 H1 (k b) Q:=by
 match m,h with
 |none,h=>exact h
 |some (.ok d),h=>exact λH2 F2 e2=>⟨F2,e2,WP.ext e2 (show WP K Xw F H (k d) Q from h)⟩
 |some (.ex n),h=>exact h
theorem WPO.mono{Xw:Nat->Hp->Prop}{F H:Hp}{m:M (Option Int)}{Q Q':Option Int->Hp->Prop}(h:WPO Xw F H m Q)(k:∀v H',Q v H'->Q' v H'):WPO Xw F H m Q':=by
 match m,h with
 |none,h=>exact h
 |some (.ok d),h=>exact λH2 F2 e2=>k _ _ (h H2 F2 e2)
 |some (.ex n),h=>exact h
def cutD(ds:List D)(lo hi:Option Int):List D:=(ds.drop (sIx ds.length 0 lo)).take (sIx ds.length ds.length hi - sIx ds.length 0 lo)
def VD:D->Option Int->Option Int->M D
 | .tup ds,lo,hi=>ae (.tup (cutD ds lo hi))
 | .lst ds,lo,hi=>ae (.lst (cutD ds lo hi))
 | .str x,lo,hi=>ae (.str (aaD x lo hi))
 |_,_,_=>ah
def Io(a:DE)(lo hi:DO):DE:=λZ=>a Z>>=λd=>lo Z>>=λl=>hi Z>>=λh=>VD d l h
theorem yG(ds:List D)(lo hi:Option Int):(cutD ds lo hi).length<=ds.length:=by
 unfold cutD;rw[XS,Yo];omega
theorem DenL.cut{K:Wn}{F:Hp}{ds:List D}{vs:List V}(h:DenL K F ds vs)(lo hi:Option Int):DenL K F (cutD ds lo hi) (yH vs lo hi):=by
 unfold cutD yH;rw[h.len];exact(h.drop _).take _
theorem CS{δo:DE}{κl κh:DO}(he:PD X Xw e δo)(hl:Qe X Xw lo κl)(hh:Qe X Xw hi κh):PD X Xw (.Subscript e (.Slice lo hi none p2) pos) (Io δo κl κh):=
 PE.weak (G2 (Kh.or (Ny.or (Kg.or Nx))) he hl hh) λσ H Q ⟨F,Z,s,w⟩=>by
  refine⟨F,Z,s,WP.mono (WP.bind w) λv H1 ⟨F1,d,e1,q1,w1⟩=>?_⟩;refine⟨F1,Z,s.ext e1,WPO.mono (WP.bindO w1) λl H2 ⟨F2,e2,w2⟩=>?_⟩;refine⟨F2,Z,(s.ext e1).ext e2,WPO.mono (WP.bindO w2) λh H3 ⟨F3,e3,w3⟩=>?_⟩;have q3:=Den.mono (e2.ff.trans e3.ff) q1;have fh:=e3.fh;cases d with
  |tup ds=>
   obtain⟨a,vs,rfl,h2,h3,h4⟩:=q3;by_cases hw:sIx vs.length 0 l=0/\sIx vs.length vs.length h=vs.length
   ·refine .inl ⟨a,vs,rfl,SqT.of (fh _ _ h2),hw,?_⟩;have hc:cutD ds l h=ds:=by
     unfold cutD;rw[h3.len,hw.1,hw.2,Nat.sub_zero,List.drop_zero,<-h3.len,ZR]
    have w3:WP X.K Xw F3 H3 (ae (.tup (cutD ds l h))) Q:=w3;rw[hc] at w3;exact WP.now w3 fh ⟨a,vs,rfl,h2,h3,h4⟩
   ·exact .inr (.inl ⟨a,vs,rfl,SqT.of (fh _ _ h2),hw,λp hp=>WP.fin w3 (Ext.lay fh hp) ⟨p,_,rfl,aQ,DenL.mono (Ext.lay fh hp).ff (h3.cut l h),WM (yG _ _ _) h4⟩⟩)
  |lst ds=>
   obtain⟨a,vs,rfl,h2,h3,h4⟩:=q3;exact .inr (.inr (.inl ⟨a,vs,rfl,SqL.of (fh _ _ h2),λp hp=>WP.fin w3 (Ext.lay fh hp) ⟨p,_,rfl,aQ,DenL.mono (Ext.lay fh hp).ff (h3.cut l h),WM (yG _ _ _) h4⟩⟩))
  |str x=>exact .inr (.inr (.inr ⟨x,q3.1,q3.2,WP.now w3 fh ⟨rfl,WM (Z5 x _ _) q3.2⟩⟩))
  |_=>exact w3.elim
end
def Qc(x:Str):It:=⟨λi _=>i<x.cps.size,λi H v H'=>H'=H/\∃c,x.cps[i]? =some c/\v= .str ⟨#[c]⟩,λi _=>x.cps.size<=i⟩
theorem EI{P:WQ}{w:World}{K:Wn}{tg:Expr}(it:Addr)(x:Str)(t:Tok):Turn P w K tg (Qc x) [it] it (λi h=>i<=x.cps.size/\h.IsStrIter it "str_ascii_iterator" x t i) where
 mem:=by simp
 obj:=λi h st b hb=>by
  have e:b=it:=by simpa using hb
  subst e;obtain⟨_,o,e,c,d⟩:=st;exact⟨o,e,λv z=>by rw[d] at z;cases z⟩
 keep:=λi h h' st k=>⟨st.1,let ⟨o,e,r⟩:=st.2;⟨o,k it (by simp) o e,r⟩⟩
 item:=by
  intro X hP hw hK hc i f8 s σ H E I hf st hg;subst hP hw hK;obtain⟨f0,f1,f2,f3,f4,f5⟩:=hf it (by simp);have hi:i<x.cps.size:=hg;refine(Walks.strAscii (prog:=X.prog) (w:=X.w) (I.ok.hd hc) it x t).item i s _ _ hi st.2 λv h' tk hv s_ kk=>?_;obtain⟨c,u,Q0,rfl⟩:=hv;have I1:Inv X f8 σ H {s with heap:=h',toks:=tk}:=I.turned (λb o hb e=>kk b o (by simpa using hb) e) f0 f1 f3 f4 f5;obtain⟨o,e,cc,dd⟩:=id s_;exact⟨_,rfl,uY (s:={s with heap:=h',toks:=tk}) e cc dd (by decide) ⟨.str ⟨#[c]⟩,H,I1,⟨u,rfl⟩,⟨rfl,c,Q0,rfl⟩,⟨hi,s_⟩,λb hb=>(hf b hb).1⟩⟩
 done:=by
  intro X hP hw hK hc i f8 s σ H E I hf st hg;subst hP hw hK;obtain⟨f0,f1,f2,f3,f4,f5⟩:=hf it (by simp);have hi:i=x.cps.size:=abe st.1 hg;subst hi;exact(Walks.strAscii (prog:=X.prog) (w:=X.w) (I.ok.hd hc) it x t).done s _ _ st.2 λh' tk kk=>⟨rfl,I.turned (λb o hb e=>kk b o (by simpa using hb) e) f0 f1 f3 f4 f5⟩
 self:=λ_ _ _ _ _ st h=>wpAny_pyIter_striter_ascii st.2 h
theorem EJ{P:WQ}{w:World}{K:Wn}{tg:Expr}(it:Addr)(x:Str)(t:Tok):Turn P w K tg (Qc x) [it] it (λi h=>i<=x.cps.size/\h.IsStrIter it "str_iterator" x t i) where
 mem:=by simp
 obj:=λi h st b hb=>by
  have e:b=it:=by simpa using hb
  subst e;obtain⟨_,o,e,c,d⟩:=st;exact⟨o,e,λv z=>by rw[d] at z;cases z⟩
 keep:=λi h h' st k=>⟨st.1,let ⟨o,e,r⟩:=st.2;⟨o,k it (by simp) o e,r⟩⟩
 item:=by
  intro X hP hw hK hc i f8 s σ H E I hf st hg;subst hP hw hK;obtain⟨f0,f1,f2,f3,f4,f5⟩:=hf it (by simp);have hi:i<x.cps.size:=hg;refine(Walks.strWide (prog:=X.prog) (w:=X.w) (I.ok.hd hc) it x t).item i s _ _ hi st.2 λv h' tk hv s_ kk=>?_;obtain⟨c,u,Q0,rfl⟩:=hv;have I1:Inv X f8 σ H {s with heap:=h',toks:=tk}:=I.turned (λb o hb e=>kk b o (by simpa using hb) e) f0 f1 f3 f4 f5;obtain⟨o,e,cc,dd⟩:=id s_;exact⟨_,rfl,uY (s:={s with heap:=h',toks:=tk}) e cc dd (by decide) ⟨.str ⟨#[c]⟩,H,I1,⟨u,rfl⟩,⟨rfl,c,Q0,rfl⟩,⟨hi,s_⟩,λb hb=>(hf b hb).1⟩⟩
 done:=by
  intro X hP hw hK hc i f8 s σ H E I hf st hg;subst hP hw hK;obtain⟨f0,f1,f2,f3,f4,f5⟩:=hf it (by simp);have hi:i=x.cps.size:=abe st.1 hg;subst hi;exact(Walks.strWide (prog:=X.prog) (w:=X.w) (I.ok.hd hc) it x t).done s _ _ st.2 λh' tk kk=>⟨rfl,I.turned (λb o hb e=>kk b o (by simpa using hb) e) f0 f1 f3 f4 f5⟩
 self:=λ_ _ _ _ _ st h=>wpAny_pyIter_striter_wide st.2 h
section
variable{X:Cx}{Xw:Nat->Hp->Prop}{tg a b e l o:Expr}{δ δo:DE}{δs:DA}{p W1 bz:Pos}
def RA(tl:TE):TI:=λσ H R=>tl σ H λx H1=>∃z,x= .str z/\R (Qc z) H1
theorem Na{tl:TE}(hl:PE X l tl):PI X tg l (RA tl):=by
 intro f8 s σ H R I h;refine cV (hl f8 s σ H _ I h) λv s1 ⟨x,H1,I1,r1,q1⟩=>?_;obtain⟨z,e,q⟩:=q1;subst e;obtain⟨t,rfl⟩:=r1;have fp:∀b∈[s1.heap.objs.size],ym X f8 H1 b:=λb hb=>by
  have e:b=s1.heap.objs.size:=by simpa using hb
  subst e;exact I1.fpOk (Wr _) (I1.hok.fresh (Wr _))
 cases ha:z.cps.all (· <128)
 ·exact wpAny_pyIter_wide ha ⟨s1.heap.objs.size,[s1.heap.objs.size],_,_,H1,rfl,I1.kept (t':=s1.toks) λb o e=>Wg _ e,EJ _ z t,⟨Xe _,_,WA _ rfl,rfl,rfl⟩,fp,q⟩
 ·exact wpAny_pyIter_ascii ha ⟨s1.heap.objs.size,[s1.heap.objs.size],_,_,H1,rfl,I1.kept (t':=s1.toks) λb o e=>Wg _ e,EI _ z t,⟨Xe _,_,WA _ rfl,rfl,rfl⟩,fp,q⟩
def signs(x:Str):List D:=x.cps.toList.map λc=>D.str ⟨#[c]⟩
def Nw:D->M (List D)
 | .str x=>ae (signs x)
 |_=>ah
theorem IZ{K:Wn}{F:Hp}(x:Str):ItD K F (Qc x) (signs x):=λF' H' i s1 s2=>by
 refine⟨λd e=>?_,λhl=>show x.cps.size<=i by simpa[signs] using hl⟩;unfold signs at e;rw[Wz] at e;cases q:x.cps.toList[i]? with
 |none=>rw[q] at e;cases e
 |some c=>
  rw[q] at e;cases e;have hi:i<x.cps.size:=by
   have:=(Wy.mp q).1;simpa using this
  refine⟨hi,λv H'' y=>?_⟩;obtain⟨e2,c',HV,rfl⟩:=y;subst e2;have:c'=c:=by
   have q':x.cps[i]? =some c:=by simpa using q
   rw[q'] at HV;exact(WY HV).symm
  subst this;exact⟨F',Ext.refl s2,rfl,by show 1<=lim;decide⟩
theorem JI(h:PD X Xw l δ):Dh X Xw tg l (λZ=>δ Z>>=Nw):=PI.weak (Na h) λσ H R ⟨F,Z,s,w⟩=>by
 refine⟨F,Z,s,WP.mono (WPI.bind w) λv H1 ⟨F1,d,e1,q1,w1⟩=>?_⟩;cases d with
 |str z=>exact⟨z,q1.1,w1 _ _ _ (Ext.refl e1.fh) (IZ z)⟩
 |_=>exact w1.elim
def Mh:Value->Bool
 | .bool b=>b
 |_=>false
theorem Fw{A:WX}{s:We}{bs:List Bool}:∀y,y∈(bs.map Yn).toArray->EqAt A s y (.bool true) (Mh y):=λy hy=>by
 have hy:y∈bs.map Yn:=by simpa using hy
 obtain⟨b,_,rfl⟩:=WC.mp hy;have:=EqAt.bool_bool (A:=A) (s:=s) b true;cases b<;>exact this
def AN:D->List D->M D
 | .lst ds,[.bl true]=>match bools ds with | some bs=>ae (.int (bs.count true)) | none=>ah
 |_,_=>ah
def Mb:D->List D->M D
 | .lst ds,[.bl true]=>match bools ds with
   |some bs=>if bs.contains true then ae (.int (bs.idxOf true)) else ah
   |none=>ah
 |_,_=>ah
theorem yF:∀bs:List Bool,(bs.map Yn).countP Mh=bs.count true
 |[]=>rfl
 |b::bs=>by
  rw[Wq,List.countP_cons,yF bs,List.count_cons];cases b<;>rfl
def RV:V->List V->Hp->VK->Prop:=λx vs H Q=>∃(a:Addr) (bs:List Bool),x= .ref a/\vs=[.bl true]/\H a=some (.lst (bs.map V.bl))/\Q (.int (bs.count true)) H
def RW:V->List V->Hp->VK->Prop:=λx vs H Q=>∃(a:Addr) (bs:List Bool),x= .ref a/\vs=[.bl true]/\H a=some (.lst (bs.map V.bl))/\bs.contains true=true/\Q (.int (bs.idxOf true)) H
theorem Mw:N2 X "list.count" RV:=by
 intro f8 s σ H x vs v us Q I rx rv h;obtain⟨a,bs,rfl,rfl,hH,q⟩:=h;cases rx;obtain⟨u,rfl,r1⟩:=rv.one;cases (show u=_ from r1);obtain⟨z,aS,n,r,hl,e⟩:=I.lstM hH;obtain rfl:=qM r;refine ZW F.slot_list_count ⟨_,e,rfl⟩ F.entry_list_count (F.args_list_count_2 _ _) (list_countAt a _ n none #[] (.bool true) Mh) ⟨e,Fw,?_⟩;have ec:((bs.map Yn).toArray.toList.countP Mh)=bs.count true:=yF bs;rw[ec];exact⟨.int (bs.count true),H,I.tok _,⟨_,rfl⟩,q⟩
theorem Mx:N2 X "list.index" RW:=by
 intro f8 s σ H x vs v us Q I rx rv h;obtain⟨a,bs,rfl,rfl,hH,hc,q⟩:=h;cases rx;obtain⟨u,rfl,r1⟩:=rv.one;cases (show u=_ from r1);obtain⟨z,aS,n,r,hl,e⟩:=I.lstM hH;obtain rfl:=qM r;have hm:true∈bs:=by simpa using hc
 have jl:bs.idxOf true<bs.length:=List.idxOf_lt_length_iff.mpr hm;have hz:bs.length<=WB:=by simpa using z
 have hs:WB=16777216:=Yq;refine ZW F.slot_list_index ⟨_,e,rfl⟩ F.entry_list_index (F.args_list_index_2 _ _) (list_indexAt a _ n none #[] (.bool true) Mh (bs.idxOf true) (by simpa using jl) (by omega) ?_ ?_) ⟨e,Fw,?_⟩
 ·have:bs[bs.idxOf true]=true:=List.getElem_idxOf jl;simp[Mh,this]
 ·intro m UT IP;have NO:m<bs.length:=by simpa using UT
  have:bs[m]≠true:=λz=>by
   have:=List.not_of_lt_findIdx (p:=(· ==true)) (xs:=bs) (i:=m) IP;rw[z] at this;simp at this
  simp[Mh];simpa using this
 ·exact⟨.int (bs.idxOf true),H,I.tok _,⟨_,rfl⟩,q⟩
theorem MR(ho:PD X Xw o δo)(ha:kY X Xw [e] δs)(iT:Yr o "count" X.env (eval o X.env)=eval o X.env:=by rfl)
 (ot:((X2 bz (Wt [e] X.env)).all (λx=>!x.1)&&(ZN bz (YI [] X.env)).all (λx=>x.1.isSome)&&decide ([e].length+([]:List YS).length+(if ([]:List YS).isEmpty then 0 else 1)<30))=true:=by rfl)
 (iV:(W1.endLine==bz.line)=true:=by rfl)(A1:Wt [e] X.env=[(false,eval e X.env)]:=by rfl):PD X Xw (.Call (.Attribute o "count" W1) [e] [] bz) (dM mG AN δo δs):=
 GL YQ PySem.F.slot_list_count PySem.F.type_list_count Mw y8 (λXw F H x vs d ds Q s hx hv w=>by
  unfold AN at w;split at w
  ·rename_i ds;obtain⟨v,rfl,h1⟩:=hv.one;cases (show _=_ from h1);obtain⟨a,ws,rfl,h2,h3,_⟩:=hx;split at w
   ·rename_i bs hb;exact⟨a,bs,rfl,rfl,by rw[<-kH hb h3];exact s _ _ h2,WP.now w s rfl⟩
   ·exact w.elim
  ·exact w.elim) ho ha iT ot iV A1 rfl
theorem MS(ho:PD X Xw o δo)(ha:kY X Xw [e] δs)(iT:Yr o "index" X.env (eval o X.env)=eval o X.env:=by rfl)
 (ot:((X2 bz (Wt [e] X.env)).all (λx=>!x.1)&&(ZN bz (YI [] X.env)).all (λx=>x.1.isSome)&&decide ([e].length+([]:List YS).length+(if ([]:List YS).isEmpty then 0 else 1)<30))=true:=by rfl)
 (iV:(W1.endLine==bz.line)=true:=by rfl)(A1:Wt [e] X.env=[(false,eval e X.env)]:=by rfl):PD X Xw (.Call (.Attribute o "index" W1) [e] [] bz) (dM mG Mb δo δs):=
 GL YQ PySem.F.slot_list_index PySem.F.type_list_index Mx y8 (λXw F H x vs d ds Q s hx hv w=>by
  unfold Mb at w;split at w
  ·rename_i ds;obtain⟨v,rfl,h1⟩:=hv.one;cases (show _=_ from h1);obtain⟨a,ws,rfl,h2,h3,_⟩:=hx;split at w
   ·rename_i bs hb;split at w
    ·rename_i hc;exact⟨a,bs,rfl,rfl,by rw[<-kH hb h3];exact s _ _ h2,hc,WP.now w s rfl⟩
    ·exact w.elim
   ·exact w.elim
  ·exact w.elim) ho ha iT ot iV A1 rfl
end
end L3
namespace L3
open PySem PySem.Spec L2 SeqAt HT
open PyProof.Rows hiding St
open PySem.W (Frag Looks InstAt findIn mroIn)
open PySem.Builtin PySem.Builtin.ObjectAttr PySem.Builtin.Getset_descriptor
section
variable{prog:WQ}{w:World}{A:WX}{E:Value->We->Prop}{h:Heap}{g:Array GenState}{d:Drawn}{t:Nat}{os:OsState}{x D:Addr}{ox:Obj}{K:Frag}
theorem AM{tp:Value}{R:Result->We->Prop}(X:K.In h)(hx:h.get? x=some ox)(hc:ox.cls= .ref D)(hm:mroIn K D (.type "object")=some true)
 (hq:R (.ok (.ret (.ref D))) ⟨h,g,d,t,os⟩):ZD (model prog w) A (.call (.builtin "getset_descriptor.__get__") ⟨[.builtin "object.__class__", .ref x,tp],[]⟩) R ⟨h,g,d,t,os⟩:=by
 have L0:Looks (model prog w) h (typeOf (.ref x)) (.ref D):=hc▸(Looks.ld hx).andThen .now;have L1:=abK (M:=model prog w) X hm;refine codeAny_call_builtin PySem.W.KF.slot_gs.plain PySem.W.KF.entry_gs (PySem.W.KF.slot_gs.check _ _ _ _ _ _ _ _ PySem.W.KF.type_class (PySem.W.KF.args_gs _ _ _) ?_);unfold Z8.«getset_descriptor.__get__» descrGet;rw[PySem.W.dga_obj];refine Wb (Wk ?_);unfold descrGetter descrCheckInstance descrNameAndClass isInstance;simp only[PySem.W.KF.owner_class]
 repeat lk
 refine⟨Code.quiet_builtin _ (by decide+kernel),Zc PySem.W.KF.entry_class ?_⟩;unfold Z8.«object.__class__» shownTypeOf
 repeat lk
 exact hq
theorem qh{tk:Tok}{Q:PySem.Fin->We->Prop}(X:K.In h)(hx:h.get? x=some ox)(hc:ox.cls= .ref D)(ha:findIn K (.ref D) "__class__"=some (some (.builtin "object.__class__")))(hm:mroIn K D (.type "object")=some true)
 (hq:Q (.done (.ret (.ref D))) ⟨h,g,d,t,os⟩):wpAny (model prog w) A (Z8.«object.__getattribute__» ⟨[.ref x, .str "__class__" tk],[]⟩) Q E ⟨h,g,d,t,os⟩:=by
 have V0:(⟨h,g,d,t,os⟩:We).TypeIs (.builtin "object.__class__") "getset_descriptor":=acn;have f5:=acn;have f6:=F.slot_gs_get.lookup;have f7:=F.slot_gs_set.lookup;have LC:Looks (model prog w) h (aat (.ref D) "__class__") (some (.builtin "object.__class__")):=ZY X ha
 repeat (any_goals (first | assumption | (with_reducible refine aa7 hx ?_;rw[hc]) | with_reducible refine LC.at ?_ | wp_step))
 exact AM X hx hc hm (Wk hq)
theorem v7{M:Model}{K2:Value}{Q:Unit->We->Prop}(X:K.In h)(hx:h.get? x=some ox)(hc:ox.cls= .ref D)(hb:mroIn K D (.type "BaseException")=some true)(hq:Q () ⟨h,g,d,t,os⟩):
 wpAny M A (checkBuiltinCall "BaseException.__getattribute__" ⟨[.ref x,K2],[]⟩) Q E ⟨h,g,d,t,os⟩:=by
 have hk:builtinKind "BaseException.__getattribute__"=some .slot:=by decide+kernel
 have L9:splitId "BaseException.__getattribute__"=some ("BaseException","__getattribute__"):=by decide+kernel
 have LB:Looks M h (isSubtype (.ref D) (.type "BaseException")) true:=abK X hb;have ha:=F.args_bexc_ga (.ref x) K2;simp only[checkBuiltinCall,hk,L9];refine Wb ?_
 ·unfold isInstance
  repeat (first | (with_reducible refine aa7 hx ?_;rw[hc]) | with_reducible refine LB.at ?_ | wp_step)
  exact hq
theorem qV{tk:Tok}{R:Result->We->Prop}(X:K.In h)(hx:h.get? x=some ox)(hc:ox.cls= .ref D)(ha:findIn K (.ref D) "__class__"=some (some (.builtin "object.__class__")))(hm:mroIn K D (.type "object")=some true)(hb:mroIn K D (.type "BaseException")=some true)
 (hq:R (.ok (.ret (.ref D))) ⟨h,g,d,t,os⟩):ZD (model prog w) A (.call (.builtin "BaseException.__getattribute__") ⟨[.ref x, .str "__class__" tk],[]⟩) R ⟨h,g,d,t,os⟩:=
 codeAny_call_builtin (by decide+kernel) F.entry_bexc_ga (v7 X hx hc hb (qh X hx hc ha hm hq))
theorem qU{Q:Option Value->We->Prop}(X:K.In h)(hx:h.get? x=some ox)(hc:ox.cls= .ref D)(UB:findIn K (.ref D) "__getattribute__"=some (some (.builtin "BaseException.__getattribute__")))(UE:findIn K (.ref D) "__getattr__"=some none)
 (ha:findIn K (.ref D) "__class__"=some (some (.builtin "object.__class__")))(hm:mroIn K D (.type "object")=some true)(hb:mroIn K D (.type "BaseException")=some true)
 (hq:Q (some (.ref D)) ⟨h,g,d,t+1,os⟩):wpAny (model prog w) A (getAttr? (.ref x) "__class__") Q E ⟨h,g,d,t,os⟩:=by
 have LG:Looks (model prog w) h (aat (.ref D) "__getattribute__") (some (.builtin "BaseException.__getattribute__")):=ZY X UB;have LH:Looks (model prog w) h (aat (.ref D) "__getattr__") none:=ZY X UE;have Tb:(YU "BaseException.__getattribute__"==YU "object.__getattribute__")=false:=by decide+kernel
 have Vi:(onTheHeap (WT D)&&YU "BaseException.__getattribute__"==YU "object.__getattribute__")=false:=by rw[Tb];rfl
 have f3:=PySem.F.excAttr_ValueError.ga.bind (.ref x);unfold getAttr? getAttrBy?
 repeat (any_goals (first | assumption | (with_reducible refine aa7 hx ?_;rw[hc]) | with_reducible refine LG.at ?_ | with_reducible refine LH.at ?_ | wp_step))
 refine qV X hx hc ha hm hb ?_
 repeat (any_goals (first | assumption | wp_step))
structure ExcC (K:Frag) (D:Addr):Prop where
 ga:findIn K (.ref D) "__getattribute__"=some (some (.builtin "BaseException.__getattribute__"))
 gt:findIn K (.ref D) "__getattr__"=some none
 ca:findIn K (.ref D) "__class__"=some (some (.builtin "object.__class__"))
 mo:mroIn K D (.type "object")=some true
 mb:mroIn K D (.type "BaseException")=some true
 cl:(YO K D).isSome=true
theorem y_(c:ExcC K D):PySem.W.KitX K (.ref x) (.ref D) (λh=>∃ox,h.get? x=some ox/\ox.cls= .ref D) where
 ty:=λ_ _ _ ⟨_,hx,hc⟩=>hc▸(Looks.ld hx).andThen .now
 it:=λ_ _ X _=>by
  obtain⟨TR,LS⟩:=Xc.mp c.cl;unfold YO at LS;split at LS
  ·rename_i c' d' TQ Ke ho;intro A' Q' E' s' k q;unfold isType loadHead;exact Wb (wpAny_loadPart (k _ _ (X _ _ ho)) (Wk q))
  ·cases LS
 ne:=λh tp dd aS n sl X Vc=>by
  obtain⟨TR,LS⟩:=Xc.mp c.cl;refine aaN.mpr λq=>?_;have e:D=tp:=acf (beq_iff_eq.mp q);subst e;unfold YO at LS;split at LS
  ·rename_i c' d' TQ Ke ho;have z:=(X _ _ ho).symm.trans Vc;cases z
  ·cases LS
 ca:=λ{_ _ _ _ _ s} X ⟨_,hx,hc⟩ k=>by
  obtain⟨hh,g,d,t,os⟩:=s;exact qU X hx hc c.ga c.gt c.ca c.mo c.mb k
end
section
variable{X:Cx}{Xw:Nat->Hp->Prop}{e e2:Expr}{δs:DA}{pos p:Pos}
def RX(K:Frag):List V->Hp->VK->Prop:=λxs H Q=>∃ea C D b,xs=[.ref ea, .ref D]/\H ea=some (Lf ea C)/\ExcC K C/\Ws K (.ref C) (.ref D)=some b/\Q (.bl b) H
def PB(K:Frag):List V->Hp->VK->Prop:=λxs H Q=>∃ea C T b,xs=[.ref ea, .ty T]/\H ea=some (Lf ea C)/\ExcC K C/\Ws K (.ref C) (.type T)=some b/\Q (.bl b) H
theorem Fd:CallR X (.builtin "isinstance") (RX X.K):=by
 intro f8 s σ H xs us Q I r h;obtain⟨ea,C,D,b,rfl,hH,hc,e,q⟩:=h;obtain⟨u,w',rfl,r1,r2⟩:=vals2 r;cases (show u=_ from r1);cases (show w'=_ from r2);obtain⟨hx,_,_⟩:=I.hok ea _ hH;exact Xm (y_ hc) I.kIn hx e (λz=>nomatch z) λtk=>⟨.bl b,H,I.tok tk,rfl,q⟩
theorem Dw:CallR X (.builtin "isinstance") (PB X.K):=by
 intro f8 s σ H xs us Q I r h;obtain⟨ea,C,D,b,rfl,hH,hc,e,q⟩:=h;obtain⟨u,w',rfl,r1,r2⟩:=vals2 r;cases (show u=_ from r1);cases (show w'=_ from r2);obtain⟨hx,_,_⟩:=I.hok ea _ hH;exact Xm (y_ hc) I.kIn hx e (λz=>nomatch z) λtk=>⟨.bl b,H,I.tok tk,rfl,q⟩
def ou(K:Frag)(cs:List Addr):List D->M D
 |[.exc C, .raw (.ref D)]=>if C∈cs then(match Ws K (.ref C) (.ref D) with | some b=>ae (.bl b) | none=>ah) else ah
 |[.exc C, .raw (.ty T)]=>if C∈cs then(match Ws K (.ref C) (.type T) with | some b=>ae (.bl b) | none=>ah) else ah
 |_=>ah
theorem j8{cs:List Addr}(HX:∀C∈cs,ExcC X.K C)(hg:Gl X "isinstance")(hm:X.mg "isinstance"=none)(hb:W8 "isinstance"=some (.builtin "isinstance"))(ha:kY X Xw [e,e2] δs)(he:Wt [e,e2] X.env=(false,eval e X.env)::Wt [e2] X.env:=by rfl)
 (lb:(X2 pos (Wt [e2] X.env)).any (·.1)=false:=by rfl):PD X Xw (.Call (.Name "isinstance" p) [e,e2] [] pos) (dA (ou X.K cs) δs):=
 eO (Fd.or Dw) (λXw F H vs ds Q s h w=>by
  unfold ou at w;split at w
  ·rename_i C D;obtain⟨v,v',rfl,h1,h2⟩:=h.two;cases (show _=_ from h2);obtain⟨ea,rfl,h3⟩:=h1;split at w
   ·rename_i hC;split at w
    ·rename_i b hb;exact .inl ⟨ea,C,D,b,rfl,s _ _ h3,HX C hC,hb,WP.now w s rfl⟩
    ·exact w.elim
   ·exact w.elim
  ·rename_i C T;obtain⟨v,v',rfl,h1,h2⟩:=h.two;cases (show _=_ from h2);obtain⟨ea,rfl,h3⟩:=h1;split at w
   ·rename_i hC;split at w
    ·rename_i b hb;exact .inr ⟨ea,C,T,b,rfl,s _ _ h3,HX C hC,hb,WP.now w s rfl⟩
    ·exact w.elim
   ·exact w.elim
  ·exact w.elim) hg hm hb ha (by decide) (by decide) he lb
end
end L3
namespace L3
open PySem PySem.Spec L2 SeqAt HT
open PyProof.Rows hiding St
open PySem.W (Frag Looks findIn mroIn)
theorem wB{ea C:Addr}{h1 h2:Heap}(x:BV h1 ea C)(k:∀o,h1.get? ea=some o->h2.get? ea=some o):BV h2 ea C:=
 let ⟨ox,a,b⟩:=x
 ⟨ox,k ox a,b⟩
def Hm(τ:DS)(hd:Nat->M D):DS:=λZ=>match τ Z with
 |some (.ex n)=>hd n>>=λd=>ae (.rt d)
 |r=>r
abbrev rp(X:Cx)(pn:List (Addr×Obj))(E:Value->We->Prop):Cx:={X with pn:=pn,xe:=E}
abbrev kM(X:Cx)(ea:Addr)(E:Value->We->Prop):Cx:={X with A:=X.A.mark (some (.ref ea)),calm:=false,xe:=E}
section
variable{X:Cx}{f8 pn:List (Addr×Obj)}{σ:St}{H:Hp}{s:We}{E:Value->We->Prop}{ea:Addr}
theorem Gz(ok:X.Ok):(rp X pn E).Ok:=⟨ok.mod,ok.kind,ok.glob,ok.blt,ok.above,ok.inj,ok.has,ok.cab,ok.hd,ok.frames,ok.stk,ok.exf,ok.bs,ok.bsz,ok.noex,ok.exfs,ok.funs,ok.frf⟩
theorem D0(I:Inv X f8 σ H s)(hp:X.pn=[]):Inv (rp X f8 E) [] σ H s:=
 ⟨Gz I.ok,I.os,I.bare,I.base,I.loc,I.cell,I.free,I.freeC,λp q=>I.pin p (by rw[hp];rw[WU] at q;exact q),I.hok,I.len⟩
theorem Er(ok:(rp X pn E).Ok):X.Ok:=⟨ok.mod,ok.kind,ok.glob,ok.blt,ok.above,ok.inj,ok.has,ok.cab,ok.hd,ok.frames,ok.stk,ok.exf,ok.bs,ok.bsz,ok.noex,ok.exfs,ok.funs,ok.frf⟩
theorem gX{zR:List (Addr×Obj)}(I:Inv (rp X f8 E) zR σ H s)(hp:X.pn=[]):Inv X f8 σ H s:=
 ⟨Er I.ok,I.os,I.bare,I.base,I.loc,I.cell,I.free,I.freeC,λp q=>I.pin p (by rw[hp] at q;exact Yg _ q),I.hok,I.len⟩
theorem jV(I:Inv X f8 σ H s):Inv (kM X ea E) f8 σ H s:=
 ⟨⟨I.ok.mod,I.ok.kind,I.ok.glob,I.ok.blt,I.ok.above,I.ok.inj,I.ok.has,I.ok.cab,λz=>(by cases z),I.ok.frames,I.ok.stk,I.ok.exf,I.ok.bs,I.ok.bsz,I.ok.noex,I.ok.exfs,I.ok.funs,I.ok.frf⟩,I.os,I.bare,I.base,I.loc,I.cell,I.free,I.freeC,I.pin,I.hok,I.len⟩
theorem wA(I:Inv (kM X ea E) f8 σ H s)(hd:X.calm=true->X.A.handled=none)(ES:X.A.frames=some X.stack):Inv X f8 σ H s:=
 ⟨⟨I.ok.mod,I.ok.kind,I.ok.glob,I.ok.blt,I.ok.above,I.ok.inj,I.ok.has,I.ok.cab,hd,ES,I.ok.stk,I.ok.exf,I.ok.bs,I.ok.bsz,I.ok.noex,I.ok.exfs,I.ok.funs,I.ok.frf⟩,I.os,I.bare,I.base,I.loc,I.cell,I.free,I.freeC,I.pin,I.hok,I.len⟩
theorem A2{h':Heap}{m':Str->Option Value}{tk:Nat}(I:Inv X f8 σ H s)(Cj:Yj X.env.locals s.heap h')(hn:h'.Ns X.env.locals m'):Inv X f8 (σ.map λ_=>none) H {s with heap:=h',toks:=tk}:=by
 have NS:∀b o,X.acJ.heap.get? b=some o->b≠X.env.locals:=λb o e=>WS (WW (Ww e) I.ok.above);refine⟨I.ok,I.os,I.bare,⟨λb o e n hb hx=>?_,λb o e n hb hx=>?_,I.base.free,λb o e hx=>?_,I.base.tups,I.base.frzs,I.base.tbls⟩,⟨m',hn,λi x v h1 h2 h3=>?_⟩,λx c e=>?_,I.free,I.freeC,λp hp=>?_,z3 I.hok Cj I.free,by rw[Wc];exact I.len⟩
 ·exact(Cj.2 b (NS b o e)).trans (I.base.keep b o e n hb hx)
 ·obtain⟨sl,q⟩:=I.base.slot b o e n hb hx;exact⟨sl,(Cj.2 b (NS b o e)).trans q⟩
 ·obtain⟨o',q⟩:=I.base.there b o e hx;exact⟨o',(Cj.2 b (NS b o e)).trans q⟩
 ·rw[Wz] at h2;cases q:σ[i]? with
  |none=>rw[q] at h2;cases h2
  |some z=>rw[q] at h2;cases h2
 ·obtain⟨v,q⟩:=I.cell x c e;exact⟨v,q.sameBut Cj (I.cne x c e)⟩
 ·obtain⟨e,n,ne,nf,d⟩:=I.pin p hp;exact⟨(Cj.2 p.1 ne).trans e,n,ne,nf,d⟩
theorem D1{a:Addr}{o:HO}(I:Inv X f8 σ H s)(hn:H a=none)(h0:X.acJ.heap.get? a=none)(hl:a≠X.env.locals)(hc:∀x c,X.env.cells.lookup x=some c->c≠a)(hp:∀p∈X.pn++f8,p.1≠a)(ho:ObjOk X.prog X.w (upd H a o) s.heap a o):
 Inv X f8 σ (upd H a o) s:=by
 have ne:∀b u,H b=some u->b≠a:=λb u e=>cU e hn;have Vu:∀b u,X.acJ.heap.get? b=some u->b≠a:=λb u e z=>by rw[z,h0] at e;cases e
 refine⟨I.ok,I.os,I.bare,⟨I.base.keep,I.base.slot,λb u e n hx=>?_,I.base.there,λb xs e=>?_,λb u xs e=>?_,λb ps e=>?_⟩,I.loc,I.cell,?_,λx c e=>?_,λp q=>?_,λb u e=>?_,I.len⟩
 ·rw[aE (Vu b u e)];exact I.base.free b u e n hx
 ·have q:=I.base.tups b xs e;rw[aE (ne b _ q)];exact q
 ·have q:=I.base.frzs b u xs e;rw[aE (ne b _ q)];exact q
 ·obtain⟨more,q⟩:=I.base.tbls b ps e;exact⟨more,by rw[aE (ne b _ q)];exact q⟩
 ·rw[aE (Xq hl)];exact I.free
 ·rw[aE (hc x c e)];exact I.freeC x c e
 ·obtain⟨e,n,r1,r2,d⟩:=I.pin p q;exact⟨e,by rw[aE (hp p q)];exact n,r1,r2,d⟩
 ·by_cases hb:b=a
  ·subst hb;rw[aQ] at e;cases e;exact ho
  ·rw[aE hb] at e;exact(I.hok b u e).stay (λ_ _ _ q=>q) (λc q=>by rw[aE (ne c _ q)];exact q) λc xs q=>by rw[aE (ne c _ q)];exact q
end
section
variable{P:WQ}{w:World}{K:Wn}{mg:Str->Option Value}{base:Heap}{N:List Str}{qual:Str}{scope:Scope}{f:Addr}{cd:Value}{A:WX}{outer:List Env}{acJ:We}{acI:Hp}{E:XK}{cv:Nat->Value}
theorem JV{Xw:Nat->Hp->Prop}{body Ht:List Stmt}{b₀:Stmt}{x n:Str}{np OQ pos:Pos}{i:Nat}{Cp:Addr}{τb τh:DS}{hd:Nat->M D}{cA:Nat->Addr}
 (Oy:∀k,cv k= .ref (cA k))(hN:(ba (df P w cv) P w K mg base N qual scope f cd A outer acJ acI E).N.Nodup)(hi:(ba (df P w cv) P w K mg base N qual scope f cd A outer acJ acI E).N[i]? =some n)(AZ:(ba (df P w cv) P w K mg base N qual scope f cd A outer acJ acI E).env.scope.names.lookup n=some .local)(hg:Gl (ba (df P w cv) P w K mg base N qual scope f cd A outer acJ acI E) x)(hm:mg x=some (.ref Cp))(hex:∀k,Zt K (cv k) (.ref Cp)=some true)
 (hb:∀(pn:List (Addr×Obj)) (Ec:Value->We->Prop) (Xw':Nat->Hp->Prop),Passes (df P w cv) (rp (ba (df P w cv) P w K mg base N qual scope f cd A outer acJ acI E) pn Ec) (EX cv Xw')->PSDs (rp (ba (df P w cv) P w K mg base N qual scope f cd A outer acJ acI E) pn Ec) Xw' body τb)
 (hs:∀ea,PSDs (kM (ba (df P w cv) P w K mg base N qual scope f cd A outer acJ acI E) ea λ_ _=>False) (λ_ _=>False) (b₀::Ht) τh)(hh:∀(k:Nat) (Z:bo),Z.length=N.length->Z[i]? =some (some (.fz (.exc (cA k))))->τh Z=(hd k>>=λd=>ae (.rt d)))
 (mC:(x==("__debug__":Str))=false:=by decide):
 gM (ba (df P w cv) P w K mg base N qual scope f cd A outer acJ acI E) Xw (.Try body [.ExceptHandler (some (.Name x np)) (some n) (b₀::Ht) OQ] [] [] pos) (Hm τb λk=>noex (hd k)):=λG₀ J₀ f8 s σ H D I ⟨F,Z,S,wq⟩=>by
 have wy:iC (ba (df P w cv) P w K mg base N qual scope f cd A outer acJ acI E).stack=acJ.heap.objs.size::iC outer:=rfl;have pass:Passes (df P w cv) (rp (ba (df P w cv) P w K mg base N qual scope f cd A outer acJ acI E) f8 λe P3=>wpAny (model P w) (ba (df P w cv) P w K mg base N qual scope f cd A outer acJ acI E).A (noteFrame e (ba (df P w cv) P w K mg base N qual scope f cd A outer acJ acI E).env) (λ_ v4=>wpAny (model P w) (ba (df P w cv) P w K mg base N qual scope f cd A outer acJ acI E).A (setFlight e none) (λ_ s₃=>wpAny (model P w) (ba (df P w cv) P w K mg base N qual scope f cd A outer acJ acI E).A (handleBy e (ba (df P w cv) P w K mg base N qual scope f cd A outer acJ acI E).env [.ExceptHandler (some (.Name x np)) (some n) (b₀::Ht) OQ]) (SP (ba (df P w cv) P w K mg base N qual scope f cd A outer acJ acI E) f8 D) (ba (df P w cv) P w K mg base N qual scope f cd A outer acJ acI E).xe s₃) (ba (df P w cv) P w K mg base N qual scope f cd A outer acJ acI E).xe v4) (ba (df P w cv) P w K mg base N qual scope f cd A outer acJ acI E).xe P3)
  (EX cv λk H'=>∃F',Ext G₀ J₀ F' H'/\WPS K Xw G₀ J₀ (noex (hd k)>>=λd=>ae (.rt d)) D):=by
  intro zR σ' H1 s1 e s' I1 ⟨ea,nn,a0,B,H',he,DZ,UC,hok,un,DL,hB,m,Rh,F',ext',w'⟩;subst he;have ES:∀b∈iC (ba (df P w cv) P w K mg base N qual scope f cd A outer acJ acI E).stack,H' b=none:=λb hb=>by
   obtain⟨_,o,ho,_⟩:=I1.stack.mem hb;exact un.free b o ho (I1.stkFree b hb) (by simp)
  have QO:ea∉iC (ba (df P w cv) P w K mg base N qual scope f cd A outer acJ acI E).stack:=λhb=>by
   obtain⟨_,o,ho,u0⟩:=DL.2.2.1.mem hb;obtain⟨oe,vs,q1,_,q2,_⟩:=DL.first;rw[q1] at ho;cases ho;exact u0 vs q2
  have SG:B.get? ea=none:=DL.2.1;have wx:s1.heap.get? ea=none:=by
   cases q:s1.heap.get? ea with
   |none=>rfl
   |some o=>
    obtain⟨ob,h1,_⟩:=DL.there;have:=hB ea ob h1 (.inr (by rw[q];rfl)) QO;rw[SG] at this;cases this
  have SI:H' ea=none:=by
   cases q:H' ea with
   |none=>rfl
   |some u=>
    obtain⟨ob,h1,_⟩:=DL.there;have:=hB ea ob h1 (.inl (by rw[q];exact λz=>nomatch z)) QO;rw[SG] at this;cases this
  have KY:∀h₅,B.StaysIn h₅->s'.heap.UpToSlots h₅->Inv (ba (df P w cv) P w K mg base N qual scope f cd A outer acJ acI E) f8 σ' H' {s' with heap:=h₅}:=λh₅ st ups=>by
   have mI:∀b o,s'.heap.get? b=some o->b∉iC (ba (df P w cv) P w K mg base N qual scope f cd A outer acJ acI E).stack->(H' b≠none\/(s1.heap.get? b).isSome=true)->h₅.get? b=some o:=λb o e hb hc=>st b o (hB b o e hc hb);have VO:Un (iC (ba (df P w cv) P w K mg base N qual scope f cd A outer acJ acI E).stack) [] H1 H' s1.heap h₅:=x_ un (λb o e hb hc=>mI b o e hb hc) (λb o e hb=>by
    obtain⟨_,o',mF,u0⟩:=DL.2.2.1.mem hb;rw[e] at mF;cases mF;exact ups b o e u0)
   have Rn:HOk P w H' h₅:=rn hok ES λb o e hb hc=>mI b o e hb (.inl hc);exact gX (I1.call' (s':={s' with heap:=h₅}) (ch:=[]) DZ VO Rn UC (λb hb=>acE hb (by simp))) rfl
  show wpAny (model P w) (ba (df P w cv) P w K mg base N qual scope f cd A outer acJ acI E).A (noteFrame (.ref ea) (ba (df P w cv) P w K mg base N qual scope f cd A outer acJ acI E).env) _ _ s';refine wpAny_looks_onW (base:=B) (outer:=outer) (L:=acJ.heap.objs.size) I1.ok.frames rfl DL λh₄ OB P_=>?_;refine wpAny_landsW OB λh₅ LK Qa=>?_;have J5:=KY h₅ LK.1 (P_.trans Qa);have M5:Inv (kM (ba (df P w cv) P w K mg base N qual scope f cd A outer acJ acI E) ea λ_ _=>False) f8 σ' H' {s' with heap:=h₅}:=jV J5;refine wpAny_handleBy_cons (codeAny_handlers_test (mL M5 hg hm ?_ mC)) (by intro q;cases q);have LT:Looks (model P w) h₅ (typeOf (.ref ea)) (cv nn):=by
   obtain⟨ob,h1,h2⟩:=LK.there;exact h2▸(Looks.ld h1).andThen .now
  refine(PySem.W.exm_one M5.kIn LT (hex nn)).here ?_;refine codeAny_handlers_suite_as ?_;refine lands_againW LK λh₆ Oi Sk=>?_;have J6:=KY h₆ Oi.1 ((P_.trans Qa).trans Sk);have M6:Inv (kM (ba (df P w cv) P w K mg base N qual scope f cd A outer acJ acI E) ea λ_ _=>False) f8 σ' H' {s' with heap:=h₆}:=jV J6;have Ek:ea≠(ba (df P w cv) P w K mg base N qual scope f cd A outer acJ acI E).env.locals:=λz=>QO (by rw[wy,z];exact Wh);have K4:∀y c,(ba (df P w cv) P w K mg base N qual scope f cd A outer acJ acI E).env.cells.lookup y=some c->c≠ea:=λy c q z=>by
   obtain⟨v,o,ho,_⟩:=I1.cell y c q;rw[z,wx] at ho;cases ho
  refine o6 J6 hN hi (.inl AZ) (v:= .ref ea) rfl (λs7 I7 ⟨a,sb,ha⟩=>?_) (.inr AZ);have OA:BV s7.heap ea (cA nn):=by
   obtain⟨ob,h1,h2⟩:=Oi.there;refine⟨ob,(sb.2 ea ?_).trans h1,by rw[h2,Oy]⟩;rcases ha with z | z
   ·rw[z];exact Ek
   ·exact Xq (K4 n a z)
  have h0:acJ.heap.get? ea=none:=by
   cases q:acJ.heap.get? ea with
   |none=>rfl
   |some o=>
    obtain⟨o',q'⟩:=I1.base.there ea o q (λz=>acE (show ea∈([]:List Addr) from z) (by simp));rw[wx] at q';cases q'
  have I8:Inv (kM (ba (df P w cv) P w K mg base N qual scope f cd A outer acJ acI E) ea λ_ _=>False) f8 (σ'.set i (some (.ref ea))) (upd H' ea (Lf ea (cA nn))) s7:=
   D1 (jV I7) SI h0 Ek K4 (λp q z=>by
    have hp:=I1.pin p (Yg _ (show p∈f8 from q));rw[z,wx] at hp;cases hp.1) ⟨OA,(by obtain⟨ox,h1,_⟩:=OA;exact⟨ox,h1⟩),λh1 h2 hx k=>wB hx k⟩
  have T0:σ'.length=N.length:=I1.len;have NN:i<σ'.length:=by rw[T0];exact(Wy.mp hi).1
  have eL:=Ext.lay (o:=Lf ea (cA nn)) ext'.fh SI;have hZ:((Wm σ'.length none).set i (some (Sl.fz (.exc (cA nn)))))[i]? =some (some (.fz (.exc (cA nn)))):=WG (by simpa using NN);have only:∀(j:Nat) (sl:Sl),((Wm σ'.length (none:Option Sl)).set i (some (Sl.fz (.exc (cA nn)))))[j]? =some (some sl)->j=i/\sl= .fz (.exc (cA nn)):=λj sl e=>by
   by_cases hj:j=i
   ·subst hj;rw[hZ] at e;cases e;exact⟨rfl,rfl⟩
   ·rw[Wx (Xq hj),XC] at e;split at e<;>cases e
  have S8:StOk K G₀ J₀ (upd F' ea (Lf ea (cA nn))) (upd H' ea (Lf ea (cA nn))) (σ'.set i (some (.ref ea))) ((Wm σ'.length none).set i (some (.fz (.exc (cA nn))))):=by
   refine⟨ext'.trans eL,⟨eL.fh,λj sl e=>?_⟩,by simp,λj c a e=>?_,λj k c c' a e=>?_⟩
   ·obtain⟨rfl,rfl⟩:=only j sl e;exact⟨.ref ea,WG NN,ea,rfl,aQ⟩
   ·obtain⟨_,z⟩:=only j _ e;cases z
   ·obtain⟨_,z⟩:=only j _ e;cases z
  have Up:cA m=cA nn:=by
   have:=Rh;rw[Oy,Oy] at this;exact(acf this).symm
  have w8:WPS K (λ_ _=>False) G₀ J₀ (τh ((Wm σ'.length none).set i (some (.fz (.exc (cA nn)))))) {nx:=λ_ _=>False,rt:=D.rt}:=by
   rw[hh m _ (by simpa using T0) (by rw[Up];exact hZ)];rcases(hd m).cs with q | ⟨k,q⟩ | ⟨d,q⟩
   ·rw[q] at w';exact w'.elim
   ·rw[q] at w';exact w'.elim
   ·rw[q] at w'⊢;exact w'
  refine Xp (hs ea G₀ J₀ f8 s7 _ _ {nx:=λ_ _=>False,rt:=D.rt} I8 ⟨_,_,S8,w8⟩) (λfl s8 q8=>?_) λ_ _ z=>z.elim;cases fl with
  |next=>obtain⟨_,_,_,z⟩:=q8;exact z.elim
  |brk=>obtain⟨_,_,_,z⟩:=q8;exact z.elim
  |cont=>obtain⟨_,_,_,z⟩:=q8;exact z.elim
  |ret u=>
   obtain⟨v,σ9,H9,I9,rv,q9⟩:=q8;have I10:Inv (ba (df P w cv) P w K mg base N qual scope f cd A outer acJ acI E) f8 σ9 H9 s8:=wA I9 J5.ok.hd J5.ok.frames;obtain⟨mm,Qo,_⟩:=I10.loc;exact wpAny_nameGoes AZ Qo (by rw[show (ba (df P w cv) P w K mg base N qual scope f cd A outer acJ acI E).env.scope.kind= .function from I10.ok.kind];rfl) λh' m' OK Cj=>⟨v,_,H9,A2 I10 Cj OK,rv,q9⟩
 have wb:WPS K (λk H'=>∃F',Ext G₀ J₀ F' H'/\WPS K Xw G₀ J₀ (noex (hd k)>>=λd=>ae (.rt d)) D) G₀ J₀ (τb Z) D:=by
  unfold Hm at wq
  match τb Z,wq with
  |none,wq=>exact wq
  |some (.ok (.nx Z')),wq=>exact wq
  |some (.ok (.rt d)),wq=>exact wq
  |some (.ex k),wq=>exact λF' H' e=>⟨F',e,wq⟩
 refine wpAny_Try_except (Xp (hb f8 _ _ pass G₀ J₀ [] s σ H D (D0 I rfl) ⟨F,Z,S,wb⟩) (λfl s1 q1=>?_) λ_ _ z=>z);cases fl with
 |next=>obtain⟨σ1,H1,I1,q⟩:=q1;exact Zz ⟨σ1,H1,gX I1 rfl,q⟩
 |brk=>obtain⟨σ1,H1,I1,q⟩:=q1;exact⟨σ1,H1,gX I1 rfl,q⟩
 |cont=>obtain⟨σ1,H1,I1,q⟩:=q1;exact⟨σ1,H1,gX I1 rfl,q⟩
 |ret u=>obtain⟨v,σ1,H1,I1,r,q⟩:=q1;exact⟨v,σ1,H1,gX I1 rfl,r,q⟩
end
end L3
namespace L3
open PySem PySem.Spec L2 SeqAt HT
open PyProof.Rows hiding St
structure RoomH (k:Nat) (A:WX):Prop where
 dp:A.depth+3*k+5<aaJ
 un:A.units+16*k+200<cLine
theorem RoomH.deeper{k:Nat}{A:WX}(r:RoomH (k+1) A)(env:Env):RoomH k (A.deeper env):=
 ⟨by have:=r.dp;show A.depth+1+3*k+5<_;omega,by have:=r.un;show A.units+3+16*k+200<_;omega⟩
theorem RoomH.of{k:Nat}{A:WX}(r:Room k A)(v:Option Value):RoomH k (A.mark v):=⟨r.dp,r.un⟩
theorem RoomH.units{k:Nat}{A:WX}(r:RoomH k A):A.units+64<cLine:=by have:=r.un;omega
structure FnOkH (P:WQ) (w:World) (K:Wn) (mg:Str->Option Value) (base:Heap) (k:Nat) (f:Addr) (fd:Yk) (ps:List Str) (sp:Sp):Prop where
 len:∀vs H Q E,sp vs H Q E->vs.length=ps.length
 run:∀(A:WX) (outer:List Env) (s:We) (H:Hp) (args:Args) (us:List Value) (vs:List V) (Q:VK) (E:XK),RoomH k A->Env0 P w K mg base A outer s H->abP s fd args (ps.zip us)->Vals vs us->sp vs H Q E->
  ZD (model P w) A (.call (.ref f) args) (CR NX outer P w H s Q E) s
abbrev uP(P:WQ)(w:World)(K:Wn)(mg:Str->Option Value)(base:Heap)(N:List Str)(qual:Str)(scope:Scope)(f:Addr)(cd:Value)(A:WX)(outer:List Env)(s:We)(H:Hp):Cx:=
 {ba NX P w K mg base N qual scope f cd A outer s H E0 with calm:=false,xe:=λ_ _=>False}
theorem A3{P:WQ}{w:World}{K:Wn}{mg:Str->Option Value}{base:Heap}{N ps:List Str}{qual:Str}{scope:Scope}{f:Addr}{cd:Value}{A:WX}{outer:List Env}{s s1:We}{H:Hp}{us:List Value}{vs:List V}
 (S:FnScope N ps scope)(e0:Env0 P w K mg base A outer s H)(hl:vs.length=ps.length)(r:Vals vs us)
 (x:InCallC s s.heap.objs.size (bindL (XD qual scope s.heap.objs.size f cd).kindOf (ps.zip us) λ_=>none) (abH (s.heap.objs.size+1) scope.names []) (bindC (XD qual scope s.heap.objs.size f cd).kindOf (ps.zip us) λ_=>none) s1):
 Inv (uP P w K mg base N qual scope f cd A outer s H) [] (L2.start N vs) H s1:=by
 have e1:Env0 P w K mg base {A with handled:=none} outer s H:=⟨e0.frames,e0.mod,e0.bs,e0.bsz,e0.funs,e0.frf,e0.hok,e0.bare⟩
 have J:=u7 (CX:=NX) (E:=E0) (A:={A with handled:=none}) S rfl e1 hl r x;exact⟨⟨J.ok.mod,J.ok.kind,J.ok.glob,J.ok.blt,J.ok.above,J.ok.inj,J.ok.has,J.ok.cab,λz=>(by cases z),abQ e0.frames,J.ok.stk,J.ok.exf,J.ok.bs,J.ok.bsz,J.ok.noex,J.ok.exfs,J.ok.funs,J.ok.frf⟩,J.os,J.bare,J.base,J.loc,J.cell,J.free,J.freeC,J.pin,J.hok,J.len⟩
theorem LL{P:WQ}{w:World}{K:Wn}{mg:Str->Option Value}{base:Heap}{k:Nat}{f:Addr}{name qual:Str}{params:Arguments}{body:List Stmt}{scope:Scope}{dV kV doc pm bT ct oc:Value}{an od:Option Addr}
 {EV:Array (Option Value)}{N ps:List Str}{sp:Sp}(lk:K.lookup f=some ⟨oc,od, .func (XA name qual params body scope dV kV doc pm an bT ct),EV⟩)(uZ:YD K bT qual=true)(S:FnScope N ps scope)
 (len:∀vs H Q E,sp vs H Q E->vs.length=ps.length)
 (iU:∀(A:WX) (outer:List Env) (s:We) (H:Hp) (vs:List V) (Q:VK) (E:XK),RoomH k (A.deeper (XD qual scope s.heap.objs.size f bT))->sp vs H Q E->
  ∃t,PSs (uP P w K mg base N qual scope f bT A outer s H) body t/\t {nx:=λ_ H'=>Q .non H',rt:=Q} (L2.start N vs) H):
 FnOkH P w K mg base (k+1) f (XA name qual params body scope dV kV doc pm an bT ct) ps sp:=by
 refine⟨len,λA outer s H args us vs Q E hr e0 hb r yj=>?_⟩;have hl:=len _ _ _ _ yj;have KX:K.In s.heap:=e0.mod.kin.keeps λb o e=>(e0.bs b o e).1;have lim:s.heap.NoLimit:=e0.mod.nolimit.keeps λb o e=>(e0.bs b o e).1;have FQ:∀y∈ps.zip us,scope.names.lookup y.1=some .local\/(scope.names.lookup y.1=some .cell/\((abH (s.heap.objs.size+1) scope.names []).lookup y.1).isSome=true):=λ⟨n,v⟩ hy=>by
  rcases S.par n (Zq hy).1 with q | q
  ·exact .inl q
  ·exact .inr ⟨q,ZJ _ _ _ (.inl q)⟩
 have Q2:A.depth<aaJ:=by have:=hr.dp;omega
 refine codeAny_call_function Q2 (KX _ _ lk) rfl S.co S.gen rfl (abT KX uZ) (hb _ _ _ _ ?_);refine abR S.kind FQ λenv he s1 x=>?_;subst he;refine⟨lim.keeps x.toInCall.keep,codeAny_func ?_⟩;obtain⟨t,ht,hq⟩:=iU A outer s H vs Q E (hr.deeper _) yj;have I:Inv (uP P w K mg base N qual scope f bT A outer s H) [] (L2.start N vs) H s1:=A3 S e0 hl r x;refine Xp (ht [] s1 (L2.start N vs) H _ I hq) (λfl s' hs=>?_) λe s' hs=>hs.elim;have fin:∀{σ':St}{H':Hp}{v:V}{u:Value},Inv (uP P w K mg base N qual scope f bT A outer s H) [] σ' H' s'->RelV v u->Q v H'->CE outer P w H s Q u s':=
  λ{σ' H' v u} J rv q=>⟨v,H',J.os,J.bare,J.base,J.hok,rv,q⟩
 cases fl with
 |ret u=>
  obtain⟨v,σ',H',J,rv,q⟩:=hs;exact fin J rv q
 |next=>
  obtain⟨σ',H',J,q⟩:=hs;exact fin (v:=V.non) (u:=Xy) J rfl q
 |brk=>
  obtain⟨_,_,_,q⟩:=hs;exact XG q
 |cont=>
  obtain⟨_,_,_,q⟩:=hs;exact XG q
theorem Hs{K:Wn}{F H:Hp}{N:List Str}{ds:List D}{vs:List V}(fh:Same F H)(hd:DenL K F ds vs):StOk K F H F H (L2.start N vs) (ds.map (λd=>some (Sl.fz d))++Wm (N.length - ds.length) none):=by
 have T0:=hd.len;have get:∀(i:Nat) (sl:Sl),(ds.map (λd=>some (Sl.fz d))++Wm (N.length - ds.length) none)[i]? =some (some sl)->∃d,ds[i]? =some d/\sl= .fz d:=λi sl e=>by
  by_cases hi:i<ds.length
  ·rw[W5 (by simpa using hi),Wz] at e;cases q:ds[i]? with
   |none=>rw[q] at e;cases e
   |some d=>rw[q] at e;cases e;exact⟨d,rfl,rfl⟩
  ·rw[W_ (by simpa using hi),XC] at e;split at e<;>cases e
 refine⟨Ext.refl fh,⟨fh,λi sl e=>?_⟩,?_,λi c a e=>?_,λi j c c' a e=>?_⟩
 ·obtain⟨d,q,rfl⟩:=get i sl e;obtain⟨v,e1,e2⟩:=hd.get q;have hi:=(Wy.mp q).1;refine⟨v,?_,e2⟩;unfold L2.start;rw[W5 (by simp;omega),Wz,e1];rfl
 ·unfold L2.start;simp[T0]
 ·obtain⟨d,_,z⟩:=get i _ e;cases z
 ·obtain⟨d,_,z⟩:=get i _ e;cases z
section
variable{P:WQ}{w:World}{K:Wn}{mg:Str->Option Value}{base:Heap}{cv:Nat->Value}
theorem Ol{x qual:Str}{st:Stmt}{f:Addr}{fd:Yk}{N ps:List Str}{k:Nat}{τ:DS}(Fn:Fun K x qual st f fd)(S:FnScope N ps (ai st))
 (iU:∀(bT:Value) (A:WX) (outer:List Env) (s:We) (H:Hp),RoomH k (A.deeper (XD qual (ai st) s.heap.objs.size f bT))->
  PSDs (uP P w K mg base N qual (ai st) f bT A outer s H) (λ_ _=>False) (aV st) τ):FnOkH P w K mg base (k+1) f fd ps (EW K cv ps.length λds=>noex (bQ N.length τ ds)):=by
 obtain⟨oc,od,kV,doc,pm,an,bT,ct,EV,rfl,lk,uZ⟩:=Fn.ex;refine LL lk uZ S (λvs H Q E ⟨_,_,_,_,hl,_⟩=>hl) λA outer s H vs Q E hr yj=>?_;obtain⟨F,ds,fh,hd,hl,hw⟩:=yj;refine⟨_,iU bT A outer s H hr F H,F,_,Hs fh hd,?_⟩;have hw:WP K (λn H'=>E (cv n) none H') F H (noex (τ (ds.map (λd=>some (Sl.fz d))++Wm (N.length - ds.length) none)>>=λo=>match o with | .nx _=>ae .non | .rt d=>ae d)) Q:=hw;rcases(τ (ds.map (λd=>some (Sl.fz d))++Wm (N.length - ds.length) none)).cs with e | ⟨n,e⟩ | ⟨o,e⟩
 ·rw[e] at hw;exact hw.elim
 ·rw[e] at hw;exact hw.elim
 ·rw[e] at hw⊢;cases o with
  |nx Z'=>exact λσ' F' H' s'=>hw .non H' F' s'.ext rfl
  |rt d=>exact λv F' H' e' q=>hw v H' F' e' q
end
section
variable{X:Cx}{Xw:Nat->Hp->Prop}{cv:Nat->Value}{k m:Nat}{f:Addr}{fd:Yk}{ps:List Str}{g:List D->M D}{x:Str}{p pos:Pos}{e:Expr}{es:List Expr}{δs:DA}
theorem GN(F:FnOkH X.prog X.w X.K X.mg X.base k f fd ps (EW X.K cv m g))(hr:RoomH k X.A)(hg:Gl X x)(hm:X.mg x=some (.ref f))(hk:XF X.K (.ref f)=true)(hb:Binds X.K fd ps [])
 (ha:kY X Xw (e::es) δs)(mC:(x==("__debug__":Str))=false:=by decide)(he:Wt (e::es) X.env=(false,eval e X.env)::Wt es X.env:=by rfl)(lb:(X2 pos (Wt es X.env)).any (·.1)=false:=by rfl):
 PD X Xw (.Call (.Name x p) (e::es) [] pos) (λZ=>δs Z>>=λds=>if ds.length=m then noex (g ds) else ah):=by
 intro f8 s σ H Q I ⟨Fz,Z,S,wq⟩;refine ZM (mL I hg hm ?_ mC);refine Z_ (h₀:=X.base) I.ok.mod.kin hk (cV (ha pos f8 s σ H _ I ⟨Fz,Z,S,WP.bindL wq⟩) λus s1 ⟨vs,H1,I1,r,q⟩=>⟨I1.kIn,?_⟩) he lb;obtain⟨F1,ds,e1,q1,w1⟩:=q;split at w1
 ·rename_i Av;have yj:EW X.K cv m g vs H1 Q E0:=⟨F1,ds,e1.fh,q1,by rw[<-q1.len];exact Av,by
   rcases(g ds).cs with q | ⟨n,q⟩ | ⟨d,q⟩
   ·rw[q] at w1;exact w1.elim
   ·rw[q] at w1;exact w1.elim
   ·rw[q] at w1⊢;exact w1⟩
  have US:us.length=ps.length:=by rw[<-r.length];exact F.len _ _ _ _ yj
  refine wpAny_call (abk (F.run X.A X.stack s1 H1 ⟨us,[]⟩ us vs Q E0 hr I1.env0 (by have:=hb s1 us I1.kIn (by rw[WU];exact US);rwa [WU] at this) r yj) λres s' hq=>?_);cases res with
  |error e=>exact hq.elim
  |ok fl=>
   cases fl with
   |ret u=>exact I1.after hq
   |next=>exact XG hq
   |brk=>exact XG hq
   |cont=>exact XG hq
 ·exact w1.elim
end
def B8(N:List Str)(osc scope:Scope)(tn:List Str):Bool:=
 decide (scope.kind= .function)&&scope.names.all (λy=>decide (y.2≠ .cell))&&scope.names.all (λy=>decide (y.2= .local->scope.names.lookup y.1=some .local))&&
 scope.names.all (λy=>decide (y.2= .free->(osc.names.lookup y.1=some .cell\/osc.names.lookup y.1=some .free)))&&
 ((cW tn N).zip N).all (λp=>decide (scope.names.lookup p.1=none\/(p.1=p.2/\scope.names.lookup p.1=some .free)))
theorem bt{X:Cx}{N:List Str}{osc scope:Scope}{tn:List Str}(hN:X.N=N)(ho:X.env.scope=osc)(h:B8 N osc scope tn=true):CompSc X scope tn:=by
 unfold B8 at h;simp only[Wv,W3,acA] at h;obtain⟨⟨⟨⟨h1,h2⟩,h3⟩,h4⟩,h5⟩:=h;refine⟨h1,h2,h3,λy hy hf=>?_,?_⟩
 ·have:=h4 y hy hf;rw[<-ho] at this;exact this
 ·rw[hN];exact h5
theorem cu{X:Cx}{x:Str}{px:Pos}{σ:St}(hN:X.N.Nodup)(h0:X.N[0]? =some x)(AZ:X.env.scope.names.lookup x=some .local):EZ X (.Name x px) 0 σ:=λf8 s σ' F H d ts v u I fh hd rv q e=>by
 have e:ae [d]=ae ts:=e;have e:=iw e;subst e;refine aa8 (Aa I hN h0 (.inl AZ) rv (λs' I'=>⟨[v],?_, .cons q .nil⟩) (.inr AZ));have hl:0<σ'.length:=by rw[I.len];exact(Wy.mp h0).1
 have:σ'.set 0 (some v)=[v].map some++σ:=by
  cases σ' with
  |nil=>simp at hl
  |cons a r=>
   have hd:r=σ:=by simpa using hd
   subst hd;rfl
 rw[<-this];exact I'
theorem cS{P:WQ}{w:World}{cv:Nat->Value}{X:Cx}:Passes (df P w cv) X (EX cv λ_ _=>False):=λ_ _ _ _ _ _ _ ⟨_,_,_,_,_,_,_,_,_,_,_,_,_,_,z⟩=>z.elim
def bJ(K:Wn)(mg:Str->Option Value)(x:Str)(st:Stmt)(f:Addr):Prop:=mg x=some (.ref f)/\∃fd,Fun K x x st f fd
def ar(P:WQ)(w:World)(K:Wn)(mg:Str->Option Value)(base:Heap)(cv:Nat->Value)(k:Nat)(x:Str)(m:Nat)(g:List D->M D):Prop:=
 ∃f fd ps,mg x=some (.ref f)/\XF K (.ref f)=true/\Binds K fd ps []/\FnOk P w K mg base (df P w cv) k f fd ps (EW K cv m g)
section
variable{X:Cx}{Xw:Nat->Hp->Prop}{cv:Nat->Value}{k m:Nat}{g:List D->M D}{x:Str}{p pos:Pos}{e:Expr}{es:List Expr}{δs:DA}
def aw(m:Nat)(g:List D->M D)(δs:DA):DE:=λZ=>δs Z>>=λds=>if ds.length=m then g ds else ah
theorem a6(F:ar X.prog X.w X.K X.mg X.base cv k x m g)(hr:Room k X.A)(hg:Gl X x)(hx:Passes (df X.prog X.w cv) X (EX cv Xw))
 (ha:kY X Xw (e::es) δs)(hl:(e::es).length=m)(mC:(x==("__debug__":Str))=false:=by decide)(he:Wt (e::es) X.env=(false,eval e X.env)::Wt es X.env:=by rfl)(lb:(X2 pos (Wt es X.env)).any (·.1)=false:=by rfl):
 PD X Xw (.Call (.Name x p) (e::es) [] pos) (aw m g δs):=by
 obtain⟨f,fd,ps,h1,h2,h3,h4⟩:=F;exact JC h4 hr hg h1 h2 h3 hx ha hl mC he lb
end
theorem aF{P:WQ}{w:World}{K:Wn}{mg:Str->Option Value}{base:Heap}{cv:Nat->Value}{k:Nat}{x:Str}{st:Stmt}{f:Addr}{N ps:List Str}{τ:DS}(T:bJ K mg x st f)(S:FnScope N ps (ai st))
 (QX:∀(kV doc pm:Value) (an:Option Addr) (bT ct:Value) (us:List Value),us.length=ps.length->bindArgs (XA x x (fb st) (aV st) (ai st) .none kV doc pm an bT ct) ⟨us,[]⟩=pure (ps.zip us))
 (iU:∀(bT:Value) (A:WX) (outer:List Env) (s:We) (H:Hp) (E:XK),Room k (A.deeper (XD x (ai st) s.heap.objs.size f bT))->
  PSDs (ba (df P w cv) P w K mg base N x (ai st) f bT A outer s H E) (λn H'=>E (cv n) none H') (aV st) τ):ar P w K mg base cv (k+1) x ps.length (bQ N.length τ):=by
 obtain⟨h1,fd,Fn⟩:=T;exact⟨f,fd,ps,h1,Fn.kp,Fn.binds QX,Oj Fn S iU⟩
section
variable{X:Cx}{Xw:Nat->Hp->Prop}{a e:Expr}{δ:DE}{pos:Pos}
def Ej:D->M D
 | .int i=>ae (.int (-i))
 |_=>ah
theorem xl(ha:PD X Xw a δ):PD X Xw (.UnaryOp .USub a pos) (d1 Ej δ):=PE.weak (Pm NI ha) λσ H Q ⟨F,Z,s,w⟩=>by
 refine⟨F,Z,s,WP.mono (WP.bind w) λv H1 ⟨F1,d,e1,q,w1⟩=>?_⟩;cases d with
 |int i=>
  have q:v= .int i:=q;subst q;exact⟨i,rfl,WP.now w1 e1.fh rfl⟩
 |_=>exact w1.elim
def Nr(put:D->bo->Option bo)(δ:DE):DS:=λZ=>δ Z>>=λd=>match put d Z with
 |some Z'=>ae (.nx Z')
 |none=>ah
theorem JU{tg:Expr}{g:TG}{put:D->bo->Option bo}(he:PD X Xw e δ)(hg:PG X tg g)(L6:BW X.K g put)(hs:aaU [tg] e pos.line X.env=pure false:=by rfl)(hw:swappedStores [tg] e X.env=pure none:=by rfl)
 (h1:(ZX [tg] X.env).map (·.2)=[assign tg X.env]:=by rfl):gM X Xw (.Assign [tg] e pos) (Nr put δ):=λs0 acI=>PS.weak (sM he hg hs hw h1) λD σ H ⟨F,Z,s,w⟩=>by
 refine⟨F,Z,s.st,?_⟩;unfold Nr at w
 match δ Z,w with
 |none,w=>exact w
 |some (.ex n),w=>exact λF' H' e'=>w F' H' (s.ext.trans e')
 |some (.ok d),w=>
  intro v H' F' e' q;have w:WPS X.K Xw s0 acI (match put d Z with | some Z'=>ae (.nx Z') | none=>ah) D:=w
  match hp:put d Z,w with
  |none,w=>exact w.elim
  |some Z',w=>exact L6 s0 acI F' H' σ Z Z' d v _ (s.ext' e') q hp λσ' s'=>w σ' F' H' s'
end
section
variable{X:Cx}{Xw:Nat->Hp->Prop}{pos:Pos}
theorem JG{x z:Str}(hg:Gl X x)(h:∃t,X.mg x=some (.str z t))(hz:z.length<=lim)(mC:(x==("__debug__":Str))=false:=by decide):PD X Xw (.Name x pos) (dC (.str z)):=by
 obtain⟨t,h⟩:=h;exact xj (v:= .str z) hg h ⟨t,rfl⟩ (λ_=>⟨rfl,hz⟩) mC
theorem CP{x:Str}{i:Int}(hg:Gl X x)(h:∃t,X.mg x=some (.int i t))(mC:(x==("__debug__":Str))=false:=by decide):PD X Xw (.Name x pos) (dC (.int i)):=by
 obtain⟨t,h⟩:=h;exact xj (v:= .int i) hg h ⟨t,rfl⟩ (λ_=>rfl) mC
theorem jx{x:Str}{a:Addr}(hg:Gl X x)(h:X.mg x=some (.ref a))(mC:(x==("__debug__":Str))=false:=by decide):PD X Xw (.Name x pos) (dC (.raw (.ref a))):=
 xj (v:= .ref a) hg h rfl (λ_=>rfl) mC
end
def J8(sc osc:Scope):Scope:={sc with names:=sc.names.map λ(n,k)=>if (k== .free&&osc.kind== .function&&osc.names.lookup n==some .cell) then(n, .cell) else(n,k)}
def qB(P:WQ)(w:World)(K:Wn)(mg:Str->Option Value)(base:Heap)(cv:Nat->Value)(k:Nat)(x:Str)(m:Nat)(g:List D->M D):Prop:=
 ∃f fd ps,mg x=some (.ref f)/\XF K (.ref f)=true/\Binds K fd ps []/\FnOkH P w K mg base k f fd ps (EW K cv m λds=>noex (g ds))
def E_(m:Nat)(g:List D->M D)(δs:DA):DE:=λZ=>δs Z>>=λds=>if ds.length=m then noex (noex (g ds)) else ah
theorem Ii{X:Cx}{Xw:Nat->Hp->Prop}{cv:Nat->Value}{k m:Nat}{g:List D->M D}{x:Str}{p pos:Pos}{e:Expr}{es:List Expr}{δs:DA}(F:qB X.prog X.w X.K X.mg X.base cv k x m g)(hr:RoomH k X.A)(hg:Gl X x)
 (ha:kY X Xw (e::es) δs)(mC:(x==("__debug__":Str))=false:=by decide)(he:Wt (e::es) X.env=(false,eval e X.env)::Wt es X.env:=by rfl)(lb:(X2 pos (Wt es X.env)).any (·.1)=false:=by rfl):
 PD X Xw (.Call (.Name x p) (e::es) [] pos) (E_ m g δs):=by
 obtain⟨f,fd,ps,h1,h2,h3,h4⟩:=F;exact GN h4 hr hg h1 h2 h3 ha mC he lb
theorem AI{P:WQ}{w:World}{K:Wn}{mg:Str->Option Value}{base:Heap}{cv:Nat->Value}{k:Nat}{x:Str}{st:Stmt}{f:Addr}{N ps:List Str}{τ:DS}(T:bJ K mg x st f)(S:FnScope N ps (ai st))
 (QX:∀(kV doc pm:Value) (an:Option Addr) (bT ct:Value) (us:List Value),us.length=ps.length->bindArgs (XA x x (fb st) (aV st) (ai st) .none kV doc pm an bT ct) ⟨us,[]⟩=pure (ps.zip us))
 (iU:∀(bT:Value) (A:WX) (outer:List Env) (s:We) (H:Hp),RoomH k (A.deeper (XD x (ai st) s.heap.objs.size f bT))->
  PSDs (uP P w K mg base N x (ai st) f bT A outer s H) (λ_ _=>False) (aV st) τ):qB P w K mg base cv (k+1) x ps.length (bQ N.length τ):=by
 obtain⟨h1,fd,Fn⟩:=T;exact⟨f,fd,ps,h1,Fn.kp,Fn.binds QX,Ol Fn S iU⟩
structure Box (p:Prop):Prop where
 out:p
section
variable{X:Cx}{Xw:Nat->Hp->Prop}
theorem dg{st:Stmt}{rest:List Stmt}{τ τ':DS}(h1:Box (gM X Xw st τ))(h2:Box (PSDs X Xw rest τ')):Box (PSDs X Xw (st::rest) (az τ τ')):=⟨ao h1.out h2.out⟩
theorem Lq{st:Stmt}{τ:DS}(h1:Box (gM X Xw st τ)):Box (PSDs X Xw [st] τ):=⟨av h1.out⟩
end
theorem Qb{l:aci}{n k:Nat}{q:WQ}{loose:List Str}{XP:(Str->Option Value)->Heap->Prop}{YP:World->Heap->Prop}{d:DefRec}{K:Params->Wn}{x:Str}{g:List D->M D}
 (hn:l.most=some n)(Qn:n<=lim)(Oz:d.params.defaults=[])(hr:Room k aa_)
 (hY:∀(w:World) (h:Heap),YP w h->(K w.params).In h)(hg:∀ns:List Int,ns.length<=n->g [.scr ns]=ae (.bl true))
 (F:∀(w:World) (mg:Str->Option Value) (fa:Addr) (h:Heap),(K w.params).In h->h.Ns WH mg->mg d.name=some (.ref fa)->
  ∃(cv:Nat->Value) (fd:Yk),(∀(s:We) (u:Value),abP s fd ⟨[u],[]⟩ [(x,u)])/\
   ∀base:Heap,(K w.params).In base->base.Ns WH mg->FnOk l.prog w (K w.params) mg base (df l.prog w cv) k fa fd [x] (EW (K w.params) cv 1 g)):
 PySem.W.WalkO q loose XP YP l.row.toRowW d [] (λf vs=>ach f vs):=by
 refine Att.attach_call hn Oz λw acJ P3 mg mb fa o pm cd doc a vs ns G Y ho hd uZ LX FT hints T0 UD=>?_;have KX:=hY w _ Y;obtain⟨cv,fd,hb,hF⟩:=F w mg fa _ KX G.T.g LX;refine za KX G.T.g G.T.b G.T.builtins G.T.nolimit UD FT hints (WM T0 (WM Qn (XX er))) hr hF hb (λH hO hS=>?_) λH e s' z=>?_
 ·refine⟨H,[.scr ns],λ_ _ e=>e,⟨_,_,rfl,⟨a,rfl,hS,WM T0 Qn⟩,rfl⟩,rfl,?_⟩;rw[hg ns T0];exact λv H' F' e q=>q
 ·obtain⟨_,_,_,_,_,_,_,_,_,_,_,_,_,_,y⟩:=z
theorem xf{K:Wn}{h:Heap}{mg:Str->Option Value}{x:Str}{C:Addr}{ms:List Value}{id:String}(hK:K.In h)(hG:h.Ns WH mg)(at':WR K WH x=some (some (.ref C)))
 (qq:Zh K C ms id=true):OwnCls x C ms id mg h:=OwnCls.mk (Xx hK hG at')<|by
 revert qq;unfold Zh;split<;>intro qq
 rotate_left
 ·exact Bool.noConfusion qq
 rename_i Od Nq Tz LM;split at qq
 rotate_left
 ·exact Bool.noConfusion qq
 rename_i C₁ RJ v0 v1 v2 v3 Vo v5 em es;rw[Wv,Wv,Wv,Wv,Wv] at qq;rcases qq with⟨⟨⟨⟨⟨q1,q2⟩,q3⟩,q4⟩,q5⟩,q6⟩
 have q1:=aam q1;have q2:=aam q2;have q6:=aam q6;have q3:Nq.hasDel=false:=by
  cases z:Nq.hasDel
  ·rfl
  ·rw[z] at q3;cases q3
 subst q1 q2;rcases Nq with⟨r1,r2,r3,r4,r5,r6,r7,r8,r9,VA,VB⟩
 have em:r3=_:=em;have q3:VB=false:=q3;subst em q3;have VE:Tz= #[v0,v1,v2,v3,some (.builtin Vo),v5]:=by
  rcases Tz with⟨y⟩
  exact acH Array.mk es
 subst VE;have n5:=Heap.Ns.of_isNs (PySem.W.isNs_of_in hK q5);have n6:=PySem.W.nsMap_none_of_in hK q5 q6;exact⟨RJ,r4,r1,r5,r2,r6,r7,r8,r9,VA,Od,v0,v1,v2,v3,v5,_,hK _ _ LM,n5,n6,PySem.W.tail_of_in hK q4⟩
theorem wg{K:Wn}{t c:Value}(h1:PySem.W.subIn K c (.type "BaseException")=some true)(h2:Ws K t c=some true)(jU:(t==c)=false):Zt K t c=some true:=by
 unfold Zt;unfold Ws at h2;rw[jU] at h2;rw[h1];exact h2
section
end
def IsTupRev(h:Heap)(it t:Addr)(i:Int):Prop:=∃o,h.get? it=some o/\o.cls= .type "reversed"/\o.data= .fields #[.ref t,aaK i]
section
variable{s:We}
theorem IsTupRev.typeIs{it t:Addr}{i:Int}(x:IsTupRev s.heap it t i):s.TypeIs (.ref it) "reversed":=let ⟨o,ho,hc,_⟩:=x;⟨o,ho,hc⟩
end
section
variable{e:Expr}{δi:DE}{δs:DA}
def Pn(gs:List (List D->M D))(m:Nat)(i:D)(ds:List D):M D:=match i with
 | .int k=>match L2.atI gs k with
   |some g=>if ds.length=m then g ds else ah
   |none=>ah
 |_=>ah
def Gy(gs:List (List D->M D)):D->Bool
 | .int k=>(L2.atI gs k).isSome
 |_=>false
def Kx(gs:List (List D->M D))(m:Nat)(δi:DE)(δs:DA):DE:=λZ=>δi Z>>=λi=>if Gy gs i then δs Z>>=λds=>Pn gs m i ds else ah
end
def wG:D->Option Key
 | .int i=>some (.inl i)
 | .str x=>some (.inr x)
 |_=>none
def wH:List D->Option (List Key)
 |[]=>some []
 |d::ds=>match wG d,wH ds with
  |some k,some ks=>some (k::ks)
  |_,_=>none
def eV:D->Option (List Key)
 | .tup ds=>wH ds
 |_=>none
theorem mJ{K:Wn}{F:Hp}{d:D}{v:V}{k:Key}(e:wG d=some k)(h:Den K F d v):v=kV k:=by
 cases d<;>first | cases e | skip
 ·exact h
 ·exact h.1
theorem iX{K:Wn}{F:Hp}:∀{ds:List D}{vs:List V}{ks:List Key},wH ds=some ks->DenL K F ds vs->vs=ks.map kV
 |[],_,_,e,h=>by cases e;exact h
 |d::ds,_,_,e,⟨v,r,h1,h2,h3⟩=>by
  unfold wH at e;split at e
  ·rename_i k ks e1 e2;cases e;subst h1;rw[Wq,mJ e1 h2,iX e2 h3]
  ·cases e
section
variable{κ:Type}[DecidableEq κ]
def fK:List κ->List D->κ->Option D
 |k'::ks,d::ds,k=>if k'=k then some d else fK ks ds k
 |_,_,_=>none
def oY:List κ->List D->κ->D->List D
 |k'::ks,d'::ds,k,d=>(if k'=k then d else d')::oY ks ds k d
 |_,_,_,_=>[]
theorem nM{K:Wn}{F:Hp}:∀{ks:List κ}{ds:List D}{vs:List V}(k:κ),DenL K F ds vs->ks.length=ds.length->
 (match fK ks ds k with | some d=>∃v,nO (ks.zip vs) k=some v/\Den K F d v | none=>nO (ks.zip vs) k=none)
 |[],[],_,_,_,_=>rfl
 |k'::ks,d::ds,_,k,⟨v,r,h1,h2,h3⟩,hl=>by
  subst h1;unfold fK;rw[X9];by_cases e:k'=k
  ·rw[acy e,nQ (p:=(k',v)) e];exact⟨v,rfl,h2⟩
  ·rw[acz e,nP (p:=(k',v)) e];exact nM k h3 (by simpa using hl)
 |[],_::_,_,_,_,hl=>by simp at hl
 |_::_,[],_,_,_,hl=>by simp at hl
theorem kF{K:Wn}{F:Hp}{ks:List κ}{ds:List D}{vs:List V}(k:κ)(h:DenL K F ds vs)(hl:ks.length=ds.length):(nO (ks.zip vs) k).isSome=(fK ks ds k).isSome:=by
 have:=nM k h hl;split at this
 ·rename_i d e;obtain⟨v,e1,_⟩:=this;rw[e1,e];rfl
 ·rename_i e;rw[this,e];rfl
theorem zY{K:Wn}{F:Hp}{d:D}{v:V}(hd:Den K F d v):∀{ks:List κ}{ds:List D}{vs:List V}(k:κ),DenL K F ds vs->ks.length=ds.length->
 ∃ws,(ks.zip vs).map (λkv=>if kv.1=k then(kv.1,v) else kv)=ks.zip ws/\DenL K F (oY ks ds k d) ws
 |[],[],_,_,h,_=>⟨[],rfl,rfl⟩
 |k'::ks,d'::ds,_,k,⟨v',r,h1,h2,h3⟩,hl=>by
  subst h1;obtain⟨ws,e1,e2⟩:=zY hd k h3 (by simpa using hl);by_cases e:k'=k
  ·refine⟨v::ws,?_,?_⟩
   ·rw[X9,Wq,e1,acy e];rfl
   ·unfold oY;rw[acy e];exact .cons hd e2
  ·refine⟨v'::ws,?_,?_⟩
   ·rw[X9,Wq,e1,acz e];rfl
   ·unfold oY;rw[acz e];exact .cons h2 e2
 |[],_::_,_,_,_,hl=>by simp at hl
 |_::_,[],_,_,_,hl=>by simp at hl
theorem kg:∀(ks:List κ) (ds:List D) (k:κ) (d:D),ks.length=ds.length->(oY ks ds k d).length=ds.length
 |[],[],_,_,_=>rfl
 |_::ks,_::ds,k,d,h=>by unfold oY;rw[Wl,Wl,kg ks ds k d (by simpa using h)]
 |[],_::_,_,_,h=>by simp at h
 |_::_,[],_,_,h=>by simp at h
def eG(ks:List κ)(ds:List D)(k:κ):List κ:=if (fK ks ds k).isSome then ks else ks++[k]
def dH(ks:List κ)(ds:List D)(k:κ)(d:D):List D:=if (fK ks ds k).isSome then oY ks ds k d else ds++[d]
theorem xr{K:Wn}{F:Hp}{d:D}{v:V}(hd:Den K F d v){ks:List κ}{ds:List D}{vs:List V}(k:κ)(h:DenL K F ds vs)(hl:ks.length=ds.length):
 ∃ws,putK (ks.zip vs) k v=(eG ks ds k).zip ws/\DenL K F (dH ks ds k d) ws/\(eG ks ds k).length=(dH ks ds k d).length:=by
 have hs:=kF (K:=K) (F:=F) k h hl;unfold putK eG dH;have ha:((ks.zip vs).any λkv=>decide (kv.1=k))=(nO (ks.zip vs) k).isSome:=tw ..;rw[ha,hs];cases e:(fK ks ds k).isSome with
 |true=>
  rw[acy rfl,acy rfl,acy rfl];obtain⟨ws,e1,e2⟩:=zY hd k h hl;exact⟨ws,e1,e2,by rw[kg ks ds k d hl];exact hl⟩
 |false=>
  rw[acz WO,acz WO,acz WO];refine⟨vs++[v],?_,h.append (.cons hd .nil),by simp[hl]⟩;rw[List.zip_append (by rw[hl];exact h.len)];rfl
end
theorem Dg{κ:Type}{K:Wn}{F:Hp}{ks:List κ}{ds:List D}{vs:List V}(h:DenL K F ds vs)(hl:ks.length=ds.length):(ks.zip vs).length=ds.length:=by
 rw[aa0,hl,<-h.len];omega
def s9(Z:bo)(i:Nat):Option D:=match Z[i]? with
 |some (some (.fz d))=>some d
 |some (some (.ow c))=>some c.d
 |_=>none
theorem Hq{K:Wn}{F H:Hp}{σ:St}{Z:bo}{i:Nat}{ks:List (List Key)}{ds:List D}(s:StE K F H σ Z)(e:s9 Z i=some (.dct ks ds)):
 ∃a vs,σ[i]? =some (some (.ref a))/\Rd H a (.dT (ks.zip vs))/\DenL K F ds vs/\ks.length=ds.length/\ds.length<=lim:=by
 unfold s9 at e;split at e
 ·rename_i d e1;cases e;obtain⟨v,h1,a,ob,vs,rfl,h2,h3,h4,h5⟩:=s.den i _ e1;exact⟨a,vs,h1, .inr ⟨ob,s.fh _ _ h2⟩,h3,h4,h5⟩
 ·rename_i c e1;cases c<;>cases e
  obtain⟨v,h1,a,o,rfl,h2,_,vs,rfl,h3,h4,h5⟩:=s.den i _ e1;exact⟨a,vs,h1, .inl h2,h3,h4,h5⟩
 ·cases e
theorem Ho{K:Wn}{F H:Hp}{σ:St}{Z:bo}{i:Nat}{ks:List Key}{ds:List D}(s:StE K F H σ Z)(e:s9 Z i=some (.dci ks ds)):
 ∃a vs,σ[i]? =some (some (.ref a))/\Rd H a (.dK (ks.zip vs))/\DenL K F ds vs/\ks.length=ds.length/\ds.length<=lim:=by
 unfold s9 at e;split at e
 ·rename_i d e1;cases e;obtain⟨v,h1,a,ob,vs,rfl,h2,h3,h4,h5⟩:=s.den i _ e1;exact⟨a,vs,h1, .inr ⟨ob,s.fh _ _ h2⟩,h3,h4,h5⟩
 ·rename_i c e1;cases c<;>cases e
  obtain⟨v,h1,a,o,rfl,h2,_,vs,rfl,h3,h4,h5⟩:=s.den i _ e1;exact⟨a,vs,h1, .inl h2,h3,h4,h5⟩
 ·cases e
def EL:D->D->Option (Option D)
 | .dct ks ds,k=>(eV k).map (fK ks ds)
 | .dci ks ds,k=>(wG k).map (fK ks ds)
 |_,_=>none
theorem B2{K:Wn}{F H:Hp}{σ:St}{Z:bo}{i:Nat}{d k:D}{y:V}{o:Option D}(s:StE K F H σ Z)(hi:s9 Z i=some d)(hk:Den K F k y)(e:EL d k=some o):
 ∃a ov,σ[i]? =some (some (.ref a))/\lK H a y ov/\ov.isSome=o.isSome/\∀d',o=some d'->∃v,ov=some v/\Den K F d' v:=by
 unfold EL at e;split at e
 ·rename_i ks ds;cases q:eV k with
  |none=>rw[q] at e;cases e
  |some kk=>
   rw[q] at e;cases e;obtain⟨a,vs,h1,h2,h3,h4,h5⟩:=Hq s hi;unfold eV at q;split at q
   ·rename_i es;obtain⟨b,ws,rfl,k2,k3,_⟩:=hk;have e1:=iX q k3;subst e1;refine⟨a,_,h1, .inr ⟨_,kk,b,h2,rfl,s.fh _ _ k2,rfl⟩,kF kk h3 h4,λd' u0=>?_⟩;have:=nM (K:=K) (F:=F) kk h3 h4;rw[u0] at this;exact this
   ·cases q
 ·rename_i ks ds;cases q:wG k with
  |none=>rw[q] at e;cases e
  |some kk=>
   rw[q] at e;cases e;obtain⟨a,vs,h1,h2,h3,h4,h5⟩:=Ho s hi;have e1:=mJ q hk;subst e1;refine⟨a,_,h1, .inl ⟨_,kk,h2,rfl,rfl⟩,kF kk h3 h4,λd' u0=>?_⟩;have:=nM (K:=K) (F:=F) kk h3 h4;rw[u0] at this;exact this
 ·cases e
section
variable{X:Cx}{Xw:Nat->Hp->Prop}{a b:Expr}{δa δb:DE}{pos:Pos}
theorem Ph(ha:PD X Xw a δa)(hb:PD X Xw b δb):PD X Xw (.Compare a [.Gt] [b] pos) (d2 LO δa δb):=By K7 (vk λ_ _ _=>rfl) ha hb
end
section
variable{X:Cx}{Xw:Nat->Hp->Prop}{a e:Expr}{δ δk δv:DE}{pos p pos' Nc:Pos}{x:Str}{i:Nat}
def Oa(neg:Bool)(i:Nat)(δ:DE):DE:=λZ=>δ Z>>=λk=>match s9 Z i with
 |some d=>match EL d k with
  |some o=>ae (.bl (if neg then !o.isSome else o.isSome))
  |none=>ah
 |none=>ah
theorem Md{neg:Bool}{σ:St}{H:Hp}{Q:VK}(h:tD X.K Xw (Oa neg i δ) σ H Q):(λσ H Q=>tD X.K Xw δ σ H λy H1=>tm i σ H1 λx H2=>∃a o,x= .ref a/\lK H2 a y o/\Q (.bl (if neg then !o.isSome else o.isSome)) H2) σ H Q:=by
 obtain⟨F,Z,s,w⟩:=h;refine⟨F,Z,s,WP.mono (WP.bind w) λy H1 ⟨F1,k,e1,q1,w1⟩=>?_⟩;have s1:=s.ext e1;cases hi:s9 Z i with
 |none=>rw[hi] at w1;exact w1.elim
 |some d=>
  rw[hi] at w1;have w1:WP X.K Xw F1 H1 (match EL d k with | some o=>ae (.bl (if neg then !o.isSome else o.isSome)) | none=>ah) Q:=w1;cases he:EL d k with
  |none=>rw[he] at w1;exact w1.elim
  |some o=>
   rw[he] at w1;obtain⟨a,ov,h1,h2,h3,_⟩:=B2 s1 hi q1 he;refine⟨.ref a,h1,a,ov,rfl,h2,?_⟩;rw[h3];exact WP.now w1 e1.fh rfl
theorem RQ(hu:X.A.units+64<cLine)(ha:PD X Xw a δ)(hv:PE X (.Name x p) (tm i))(hm:Xv .In (.Name x p)=false:=by rfl):PD X Xw (.Compare a [.In] [.Name x p] pos) (Oa false i δ):=
 PE.weak (MY (MQ (by omega) ha hv) hm) λσ H Q h=>Md (neg:=false) h
def sU(i:Nat):DS:=λZ=>ae (.nx (Z.set i (some (.ow (.dct [] [])))))
theorem kc(hN:X.N.Nodup)(hi:X.N[i]? =some x)(hx:Loc X.env.scope x)(hf:X.fn x=true\/X.env.scope.names.lookup x=some .local:=by first | exact .inl rfl | exact .inr rfl):
 gM X Xw (.Assign [.Name x pos'] (.Dict [] [] Nc) pos) (sU i):=λs0 acI=>PS.weak (sM G0 (bb hN hi hx hf) rfl) λD σ H ⟨F,Z,s,w⟩=>λq hq=>
 w _ F _ (s.setNew (c₀:= .dct [] []) hq ⟨[],rfl,rfl,rfl,Xe _⟩)
def ke:C->D->D->Option C
 | .dct ks ds,k,d=>match eV k with
   |some kk=>if ds.length<lim then some (.dct (eG ks ds kk) (dH ks ds kk d)) else none
   |none=>none
 | .dci ks ds,k,d=>match wG k with
   |some kk=>if ds.length<lim then some (.dci (eG ks ds kk) (dH ks ds kk d)) else none
   |none=>none
 |_,_,_=>none
def zI(Z:bo)(i:Nat):Option C:=match Z[i]? with
 |some (some (.ow c))=>some c
 |_=>none
theorem vm{Z:bo}{i:Nat}{c:C}(h:zI Z i=some c):Z[i]? =some (some (.ow c)):=by
 unfold zI at h;split at h
 ·rename_i c' e;cases h;exact e
 ·cases h
def d8(i:Nat)(δk δv:DE):DS:=λZ=>match zI Z i with
 |some c=>δv Z>>=λv=>δk Z>>=λk=>match ke c k v with
  |some c'=>ae (.nx (Z.set i (some (.ow c'))))
  |none=>ah
 |none=>ah
theorem vx{κ:Type}[DecidableEq κ]{ks:List κ}{ds:List D}{k:κ}{d:D}(hl:ks.length=ds.length)(h:ds.length<lim):(dH ks ds k d).length<=lim:=by
 unfold dH;split
 ·rw[kg ks ds k d hl];omega
 ·rw[Wj];exact h
theorem Hc{K:Wn}{F H:Hp}{c c':C}{k d:D}{y v:V}{o:HO}{b:Addr}(hs:Same F H)(hb:H b=some o)(hc:DenC K F c o)(hk:Den K F k y)(hd:Den K F d v)(e:ke c k d=some c'):∃o',DPut H b y v (upd H b o')/\DenC K F c' o':=by
 have OH:=er;unfold ke at e;split at e
 ·rename_i ks ds k d;obtain⟨vs,rfl,h3,h4,h5⟩:=hc;split at e
  ·rename_i kk q;split at e
   ·rename_i jl;cases e;unfold eV at q;split at q
    ·rename_i es;obtain⟨b2,ws,rfl,k2,k3,_⟩:=hk;have e1:=iX q k3;subst e1;obtain⟨us,e2,e3,e4⟩:=xr hd kk h3 h4;refine⟨_,DPut.t hb (hs _ _ k2) (by rw[Dg h3 h4];omega),us,?_,e3,e4,vx h4 jl⟩;rw[e2]
    ·cases q
   ·cases e
  ·cases e
 ·rename_i ks ds k d;obtain⟨vs,rfl,h3,h4,h5⟩:=hc;split at e
  ·rename_i kk q;split at e
   ·rename_i jl;cases e;have e1:=mJ q hk;subst e1;obtain⟨us,e2,e3,e4⟩:=xr hd kk h3 h4;refine⟨_,DPut.k hb (by rw[Dg h3 h4];omega),us,?_,e3,e4,vx h4 jl⟩;rw[e2]
   ·cases e
  ·cases e
 ·cases e
theorem g6(hu:X.A.units+64<cLine)(hv:PE X (.Name x p) (tm i))(hk:PD X Xw a δk)(he:PD X Xw e δv)(hs:ZU e (some (.Subscript (.Name x p) a pos')) pos.line X.env=pure false:=by rfl):
 gM X Xw (.Assign [.Subscript (.Name x p) a pos'] e pos) (d8 i δk δv):=λs0 acI=>PS.weak (JT (by omega) hv hk he hs) λD σ H ⟨F,Z,s,w⟩=>by
 unfold d8 at w;cases ho:zI Z i with
 |none=>rw[ho] at w;exact w.elim
 |some c=>
  rw[ho] at w;have hi:=vm ho;have w:WPS X.K Xw s0 acI (δv Z>>=λv=>δk Z>>=λk=>match ke c k v with | some c'=>ae (.nx (Z.set i (some (.ow c')))) | none=>ah) D:=w;refine⟨F,Z,s.st,?_⟩;rcases(δv Z).cs with q | ⟨n,q⟩ | ⟨dv,q⟩
  ·rw[q] at w;exact w.elim
  ·rw[q] at w⊢;exact λF' H' e'=>w F' H' (s.ext.trans e')
  ·rw[q] at w⊢;intro v H1 F1 e1 hq;have s1:=s.ext' e1;obtain⟨u,h1,b,o,rfl,h2,h3,h4⟩:=s1.st.den i _ hi;have w:WPS X.K Xw s0 acI (δk Z>>=λk=>match ke c k dv with | some c'=>ae (.nx (Z.set i (some (.ow c')))) | none=>ah) D:=w;refine⟨.ref b,h1,F1,Z,s1.st,?_⟩;rcases(δk Z).cs with q2 | ⟨n,q2⟩ | ⟨dk,q2⟩
   ·rw[q2] at w;exact w.elim
   ·rw[q2] at w⊢;exact λF' H' e'=>w F' H' (s1.ext.trans e')
   ·rw[q2] at w⊢;intro y H2 F2 e2 hy;have w:WPS X.K Xw s0 acI (match ke c dk dv with | some c'=>ae (.nx (Z.set i (some (.ow c')))) | none=>ah) D:=w;cases hp:ke c dk dv with
    |none=>rw[hp] at w;exact w.elim
    |some c'=>
     rw[hp] at w;have s2:=s1.ext' e2;obtain⟨u2,k1,b2,o2,Ul,k2,k3,k4⟩:=s2.st.den i _ hi;rw[h1] at k1;cases k1;cases Ul;obtain⟨o',g,hc⟩:=Hc s2.st.fh k2 k4 hy (Den.mono e2.ff hq) hp;exact⟨b,_,rfl,g,w σ F2 _ (s2.chg hi h1 hc)⟩
end
def fH(c:DT)(body:DS):Nat->DS
 |0,_=>ah
 |n+1,Z=>c Z>>=λb=>if b then body Z>>=λo=>match o with | .nx Z'=>fH c body n Z' | .rt d=>ae (.rt d) else ae (.nx Z)
def sV(c:DT)(body:DS):DS:=λZ=>fH c body lim Z
section
variable{X:Cx}{Xw:Nat->Hp->Prop}{τ:DS}{tc:DT}{pos:Pos}
theorem oQ{c:Expr}{body:List Stmt}(hp:PassesOwn (model X.prog X.w) X.A X.env X.xe)(hc:qe X Xw c tc)(hb:PSDs X Xw body τ):gM X Xw (.While c body [] pos) (sV tc τ):=λs0 acI=>PS.weak (G6 hp hc hb.ex) λD σ H ⟨F,Z,s,w⟩=>by
 refine⟨λm σ H=>∃F Z,StOk X.K s0 acI F H σ Z/\WPS X.K Xw s0 acI (fH tc τ m Z) D,⟨lim,F,Z,s,w⟩,?_⟩;rintro m σ H ⟨F,Z,s,w⟩;cases m with
 |zero=>exact w.elim
 |succ m=>
  refine⟨F,Z,s.st,?_⟩;unfold fH at w
  match tc Z,w with
  |none,w=>exact w
  |some (.ex n),w=>exact λF' H' e'=>w F' H' (s.ext.trans e')
  |some (.ok false),w=>exact λH' F' e'=>w σ F' H' (s.ext' e')
  |some (.ok true),w=>
   intro H' F' e';have w:WPS X.K Xw s0 acI (τ Z>>=λo=>match o with | .nx Z'=>fH tc τ m Z' | .rt d=>ae (.rt d)) D:=w;refine⟨λσ' H'=>∃F' Z',StOk X.K s0 acI F' H' σ' Z'/\WPS X.K Xw s0 acI (fH tc τ m Z') D,λσ' H' h=>⟨m,Zm m,h⟩,s0,acI,F',Z,s.ext' e',?_⟩
   match τ Z,w with
   |none,w=>exact w
   |some (.ok (.nx Z')),w=>exact λσ' F' H' s'=>⟨F',Z',s',w⟩
   |some (.ok (.rt d)),w=>exact w
   |some (.ex n),w=>exact w
end
def mK:List D->Option (List (List Key))
 |[]=>some []
 |d::ds=>match eV d,mK ds with
  |some k,some ks=>some (k::ks)
  |_,_=>none
theorem LA:∀{x y:D}{k k':Key}{n:Nat},wG x=some k->wG y=some k'->kZ n x y=some (decide (k=k'))
 | .int i, .int j,_,_,n,e1,e2=>by
   cases e1;cases e2;have:kZ n (.int i) (.int j)=some (i==j):=by cases n<;>rfl
   rw[this];congr 1;by_cases h:i=j
   ·subst h;simp
   ·simp[h]
 | .str x, .str y,_,_,n,e1,e2=>by
   cases e1;cases e2;have:kZ n (.str x) (.str y)=some (x==y):=by cases n<;>rfl
   rw[this];congr 1;by_cases h:x=y
   ·subst h;simp
   ·simp[h]
 | .int i, .str y,_,_,n,e1,e2=>by
   cases e1;cases e2;have:kZ n (.int i) (.str y)=some false:=by cases n<;>rfl
   rw[this];simp
 | .str x, .int j,_,_,n,e1,e2=>by
   cases e1;cases e2;have:kZ n (.str x) (.int j)=some false:=by cases n<;>rfl
   rw[this];simp
 | .non,_,_,_,_,e1,_=>by cases e1
 | .bl _,_,_,_,_,e1,_=>by cases e1
 | .raw _,_,_,_,_,e1,_=>by cases e1
 | .exc _,_,_,_,_,e1,_=>by cases e1
 | .scr _,_,_,_,_,e1,_=>by cases e1
 | .tup _,_,_,_,_,e1,_=>by cases e1
 | .lst _,_,_,_,_,e1,_=>by cases e1
 | .dct _ _,_,_,_,_,e1,_=>by cases e1
 | .dci _ _,_,_,_,_,e1,_=>by cases e1
 |_, .non,_,_,_,_,e2=>by cases e2
 |_, .bl _,_,_,_,_,e2=>by cases e2
 |_, .raw _,_,_,_,_,e2=>by cases e2
 |_, .exc _,_,_,_,_,e2=>by cases e2
 |_, .scr _,_,_,_,_,e2=>by cases e2
 |_, .tup _,_,_,_,_,e2=>by cases e2
 |_, .lst _,_,_,_,_,e2=>by cases e2
 |_, .dct _ _,_,_,_,_,e2=>by cases e2
 |_, .dci _ _,_,_,_,_,e2=>by cases e2
theorem Ca{n:Nat}:∀{xs ys:List D}{k k':List Key},wH xs=some k->wH ys=some k'->pj (kZ n) xs ys=some (decide (k=k'))
 |[],[],_,_,e1,e2=>by cases e1;cases e2;rfl
 |x::xs,[],_,_,e1,e2=>by
  cases e2;unfold wH at e1;split at e1
  ·cases e1;simp[pj]
  ·cases e1
 |[],y::ys,_,_,e1,e2=>by
  cases e1;unfold wH at e2;split at e2
  ·cases e2;simp[pj]
  ·cases e2
 |x::xs,y::ys,_,_,e1,e2=>by
  unfold wH at e1 e2;split at e1
  ·rename_i k ks q1 q2;cases e1;split at e2
   ·rename_i k' ks' q3 q4;cases e2;unfold pj;rw[LA q1 q3,Ca q2 q4];simp
   ·cases e2
  ·cases e1
theorem IG{x y:D}{k k':List Key}{n:Nat}(e1:eV x=some k)(e2:eV y=some k'):kZ (n+1) x y=some (decide (k=k')):=by
 cases x with
 |tup xs=>
  cases y with
  |tup ys=>exact Ca (n:=n) e1 e2
  |_=>cases e2
 |_=>cases e1
theorem F9{K:Wn}{F:Hp}{d:D}{v:V}{k:List Key}(e:eV d=some k)(h:Den K F d v):∃a,v= .ref a/\F a=some (.tup (k.map kV)):=by
 cases d with
 |tup ds=>
  obtain⟨a,vs,rfl,h2,h3,_⟩:=h;have:=iX e h3;subst this;exact⟨a,rfl,h2⟩
 |_=>cases e
def oD(k:List Key)(ks:List (List Key)):Bool:=ks.any λk'=>decide (k'=k)
open Classical in
noncomputable def isKey(H:Hp)(k:List Key)(u:Value):Bool:=decide (∃a,u= .ref a/\H a=some (.tup (k.map kV)))
theorem D2{K:Wn}{F H:Hp}{d:D}{v:V}{u:Value}{k k':List Key}(hs:Same F H)(e:eV d=some k')(h:Den K F d v)(r:RelV v u):isKey H k u=decide (k'=k):=by
 obtain⟨a,rfl,h2⟩:=F9 e h;cases (show u=_ from r);unfold isKey;by_cases hk:k'=k
 ·subst hk;rw[acB rfl];exact @acB _ (aaX _) ⟨a,rfl,hs _ _ h2⟩
 ·rw[acC hk];refine @acC _ (aaX _) λ⟨b,e1,e2⟩=>hk ?_;cases e1;rw[hs _ _ h2] at e2;injection e2 with e2
  injection e2 with e2
  exact Cv e2
theorem oy{X:Cx}{f8:List (Addr×Obj)}{σ:St}{F H:Hp}{s:We}{A:WX}{x:D}{v:V}{u:Value}{k:List Key}(I:Inv X f8 σ H s)(hs:Same F H)(hu:A.units+6<cLine)(ex:eV x=some k)(hx:Den X.K F x v)(rx:RelV v u):
 ∀{ys:List D}{vs:List V}{aS:List Value}{ks:List (List Key)},mK ys=some ks->DenL X.K F ys vs->Vals vs aS->aS.any (isKey H k)=oD k ks/\∀t∈aS,EqAt A s t u (isKey H k t)
 |[],_,_,_,e,h,r=>by
  cases e;cases (show _=_ from h);cases r;exact⟨rfl,λt ht=>by cases ht⟩
 |y::ys,_,_,_,e,⟨w,ws,h1,h2,h3⟩,r=>by
  subst h1;unfold mK at e;split at e
  ·rename_i k' ks e1 e2;cases e;cases r with
   |cons r1 r2=>
    obtain⟨RC,RD⟩:=oy I hs hu ex hx rx e2 h3 r2;have hk:=D2 (k:=k) hs e1 h2 r1;refine⟨?_,λt ht=>?_⟩
    ·rw[Y2,RC,hk];rfl
    ·rcases Wu.mp ht with rfl | ht
     ·rw[hk];exact(we I hs 6 A y x w v t u _ hu h2 hx r1 rx (IG e1 ex)).eq
     ·exact RD t ht
  ·cases e
def rk(neg:Bool):D->D->M D
 |x, .lst ys=>match eV x,mK ys with
  |some k,some ks=>ae (.bl (if neg then !oD k ks else oD k ks))
  |_,_=>ah
 |x, .tup ys=>match eV x,mK ys with
  |some k,some ks=>ae (.bl (if neg then !oD k ks else oD k ks))
  |_,_=>ah
 |_,_=>ah
def Py(K:Wn)(neg:Bool):R2:=λx y H Q=>∃F dx ys vs p k ks,Same F H/\Den K F dx x/\eV dx=some k/\mK ys=some ks/\DenL K F ys vs/\y= .ref p/\(SqL K H p vs\/SqT K H p vs)/\Q (.bl (if neg then !oD k ks else oD k ks)) H
section
variable{X:Cx}{Xw:Nat->Hp->Prop}{a b:Expr}{δa δb:DE}{pos:Pos}
theorem MI(hu:X.A.units+64<cLine):OpR X (Xh .In) (Py X.K false):=by
 intro f8 s σ H x y v u Q I rx ry h;obtain⟨F,dx,ys,vs,p,k,ks,hs,hx,ex,ek,hd,rfl,hq,q⟩:=h;cases (show u=_ from ry);have L_:X.A.in1.units+6<cLine:=by show X.A.units+1+6<cLine;omega
 rcases hq with hq | hq
 ·obtain⟨aS,r,pl,hz⟩:=I.list hq;obtain⟨e1,e2⟩:=oy (A:=X.A.in1) I hs L_ ex hx rx ek hd r;refine SeqAt.in_listAt (isKey H k) pl.isList (λw hw=>e2 w (by simpa using hw)) ⟨.bl _,H,I,rfl,?_⟩;rw[show aS.toArray.any (isKey H k)=aS.any (isKey H k) by simp,e1];exact q
 ·obtain⟨aS,r,pl,hz⟩:=I.tuple hq;obtain⟨e1,e2⟩:=oy (A:=X.A.in1) I hs L_ ex hx rx ek hd r;refine SeqAt.in_tupleAt (isKey H k) pl (λw hw=>e2 w (by simpa using hw)) ⟨.bl _,H,I,rfl,?_⟩;rw[show aS.toArray.any (isKey H k)=aS.any (isKey H k) by simp,e1];exact q
theorem Me{neg:Bool}{K:Wn}:yn K (Py K neg) (rk neg):=λXw F H x y dx dy Q s hx hy w=>by
 unfold rk at w;split at w
 ·rename_i ys;split at w
  ·rename_i k ks e1 e2;obtain⟨p,vs,h1,h2,h3,_⟩:=hy;exact⟨F,dx,ys,vs,p,k,ks,s,hx,e1,e2,h3,h1, .inl (SqL.of (s _ _ h2)),WP.now w s rfl⟩
  ·exact w.elim
 ·rename_i ys;split at w
  ·rename_i k ks e1 e2;obtain⟨p,vs,h1,h2,h3,_⟩:=hy;exact⟨F,dx,ys,vs,p,k,ks,s,hx,e1,e2,h3,h1, .inr (SqT.of (s _ _ h2)),WP.now w s rfl⟩
  ·exact w.elim
 ·exact w.elim
theorem Ha(hu:X.A.units+64<cLine)(ha:PD X Xw a δa)(hb:PD X Xw b δb)(hm:Xv .In b=false:=by rfl):qe X Xw (.Compare a [.In] [b] pos) (cE (d2 (rk false) δa δb)):=gz (MI hu) Me ha hb hm
end
end L3
namespace L3
open PySem PySem.W PyProof.Rows
def eP{α:Type}(b:Nat->Nat->Bool):KasT α->α
 | .ret a=>a
 | .ask i j k=>eP b (k (b i j))
theorem gJ{α β:Type}(b:Nat->Nat->Bool)(f:α->KasT β):∀t:KasT α,eP b (t.bind f)=eP b (f (eP b t))
 | .ret _=>rfl
 | .ask i j k=>gJ b f (k (b i j))
structure Lt (n:Nat) (b:Nat->Nat->Bool):Prop where
 tr:∀i j k,b i j=true->b j k=true->b i k=true
 VZ:∀i j,b i j=true->b j i=false
 tot:∀i j,i<n->j<n->i≠j->b i j=true\/b j i=true
abbrev at'(p:Array Nat)(i:Nat):Nat:=p.getD i 0
def Ri(b:Nat->Nat->Bool)(p:Array Nat)(k:Nat):Prop:=∀i j,i<j->j<k->b (at' p i) (at' p j)=true
def Fa(b:Nat->Nat->Bool)(p:Array Nat)(k:Nat):Prop:=∀i j,i<j->j<k->b (at' p j) (at' p i)=true
structure PN (n:Nat) (p:Array Nat):Prop where
 sz:p.size=n
 lt:∀i,i<n->at' p i<n
 inj:∀i j,i<n->j<n->at' p i=at' p j->i=j
section
variable{n:Nat}{b:Nat->Nat->Bool}(L:Lt n b)
include L
theorem Ri.more{p:Array Nat}{k:Nat}(h:Ri b p k)(h1:1<=k)(e:b (at' p (k - 1)) (at' p k)=true):Ri b p (k+1):=λi j Cg hj=>by
 by_cases hk:j<k
 ·exact h i j Cg hk
 ·have:j=k:=by omega
  subst this;by_cases hi:i=j - 1
  ·subst hi;exact e
  ·exact L.tr _ _ _ (h i (j - 1) (by omega) (by omega)) e
theorem Fa.more{p:Array Nat}{k:Nat}(h:Fa b p k)(h1:1<=k)(e:b (at' p k) (at' p (k - 1))=true):Fa b p (k+1):=λi j Cg hj=>by
 by_cases hk:j<k
 ·exact h i j Cg hk
 ·have:j=k:=by omega
  subst this;by_cases hi:i=j - 1
  ·subst hi;exact e
  ·exact L.tr _ _ _ e (h i (j - 1) (by omega) (by omega))
theorem vP{p:Array Nat}(P:PN n p):∀(f k:Nat),1<=k->k+f<=n->Ri b p k->k<=eP b (kas_asc p f k)/\eP b (kas_asc p f k)<=k+f/\Ri b p (eP b (kas_asc p f k))/\(eP b (kas_asc p f k)<k+f->b (at' p (eP b (kas_asc p f k))) (at' p (eP b (kas_asc p f k) - 1))=true)
 |0,k,h1,hn,h=>⟨Wr _,Wr _,h,λz=>acE z (Xr _)⟩
 |f+1,k,h1,hn,h=>by
  have e:eP b (kas_asc p (f+1) k)=eP b (if b (at' p k) (at' p (k - 1))=true then KasT.ret k else kas_asc p f (k+1)):=rfl;rw[e];by_cases hb:b (at' p k) (at' p (k - 1))=true
  ·rw[acy hb];exact⟨Wr _,by show k<=_;omega,h,λ_=>hb⟩
  ·rw[acz hb];have hr:b (at' p (k - 1)) (at' p k)=true:=by
    rcases L.tot (at' p (k - 1)) (at' p k) (P.lt _ (by omega)) (P.lt _ (by omega)) (λz=>by have:=P.inj _ _ (by omega) (by omega) z;omega) with q | q
    ·exact q
    ·exact acE q hb
   obtain⟨a1,a2,a3,a4⟩:=vP P f (k+1) (by omega) (by omega) (Ri.more L h h1 hr);exact⟨by omega,by omega,a3,λz=>a4 (by omega)⟩
theorem yJ{p:Array Nat}(P:PN n p):∀(f k:Nat),1<=k->k+f<=n->Fa b p k->∃m,eP b (kas_desc f p k 0)=(p,m,0)/\k<=m/\m<=k+f/\Fa b p m
 |0,k,h1,hn,h=>⟨k,rfl,Wr _,Wr _,h⟩
 |f+1,k,h1,hn,h=>by
  have e:eP b (kas_desc (f+1) p k 0)=eP b (if b (at' p k) (at' p (k - 1))=true then(if 0>0 then kas_desc f (kas_rev p (k - (0+1)) k) (k+1) 0 else kas_desc f p (k+1) 0)
   else .ask (p.getD (k - 1) 0) (p.getD k 0) λd=>if d=true then .ret (p,k,0) else kas_desc f p (k+1) (0+1)):=rfl
  rw[e];by_cases hb:b (at' p k) (at' p (k - 1))=true
  ·rw[acy hb,acz (by omega)];obtain⟨m,e1,e2,e3,e4⟩:=yJ P f (k+1) (by omega) (by omega) (Fa.more L h h1 hb);exact⟨m,e1,by omega,by omega,e4⟩
  ·rw[acz hb];have hr:b (at' p (k - 1)) (at' p k)=true:=by
    rcases L.tot (at' p (k - 1)) (at' p k) (P.lt _ (by omega)) (P.lt _ (by omega)) (λz=>by have:=P.inj _ _ (by omega) (by omega) z;omega) with q | q
    ·exact q
    ·exact acE q hb
   refine⟨k,?_,Wr _,by omega,h⟩;show eP b (if b (at' p (k - 1)) (at' p k)=true then KasT.ret (p,k,0) else kas_desc f p (k+1) (0+1))=_;rw[acy hr];rfl
end
theorem fM(p:Array Nat)(k:Nat):at' p k=(p[k]?).getD 0:=by
 unfold at';rw[Array.getD_eq_getD_getElem?]
theorem Hi{p:Array Nat}{m:Nat}(hm:m<=p.size)(k:Nat):at' (kas_rev p 0 m) k=if k<m then at' p (m - 1 - k) else at' p k:=by
 have e:=getElem?_mirror_all (xs:=p) (i:=0) hm k;rw[fM];show (((mirror p 0 m ((m - 0) / 2))[k]?).getD 0)=_;rw[e];by_cases h:k<m
 ·rw[acy ⟨Xe _,h⟩,acy h,fM,abY]
 ·rw[acz (λz=>h z.2),acz h,fM]
theorem E6{p:Array Nat}{k l:Nat}(hk:k<p.size)(hl:l<=k)(j:Nat):at' (bubble p k (k - l)) j=if j=l then at' p k else if l<j/\j<=k then at' p (j - 1) else at' p j:=by
 have e:=getElem?_bubble hk (k - l) (by omega) j;have e2:k - (k - l)=l:=by omega
 rw[e2] at e;rw[fM (bubble p k (k - l)),e,fM p k,fM p (j - 1),fM p j];by_cases c1:j=l
 ·rw[acy c1,acy c1]
 ·rw[acz c1,acz c1];by_cases c2:l<j/\j<=k
  ·rw[acy c2,acy c2]
  ·rw[acz c2,acz c2]
section
variable{n:Nat}{b:Nat->Nat->Bool}
theorem PN.rev{p:Array Nat}(P:PN n p){m:Nat}(hm:m<=n):PN n (kas_rev p 0 m):=by
 have ha:=Hi (p:=p) (m:=m) (by rw[P.sz];exact hm);refine⟨(mirror_size ..).trans P.sz,λi hi=>?_,λi j hi hj e=>?_⟩
 ·rw[ha];split
  ·exact P.lt _ (by omega)
  ·exact P.lt _ hi
 ·rw[ha,ha] at e;split at e<;>split at e
  ·have:=P.inj _ _ (by omega) (by omega) e;omega
  ·have:=P.inj _ _ (by omega) hj e;omega
  ·have:=P.inj _ _ hi (by omega) e;omega
  ·exact P.inj _ _ hi hj e
theorem PN.bub{p:Array Nat}(P:PN n p){k l:Nat}(hk:k<n)(hl:l<=k):PN n (bubble p k (k - l)):=by
 have ha:=E6 (p:=p) (k:=k) (l:=l) (by rw[P.sz];exact hk) hl;refine⟨(bubble_size ..).trans P.sz,λi hi=>?_,λi j hi hj e=>?_⟩
 ·rw[ha];split
  ·exact P.lt _ hk
  ·split
   ·exact P.lt _ (by omega)
   ·exact P.lt _ hi
 ·rw[ha,ha] at e;split at e
  ·split at e
   ·omega
   ·split at e
    ·have:=P.inj _ _ hk (by omega) e;omega
    ·have:=P.inj _ _ hk hj e;omega
  ·split at e
   ·split at e
    ·have:=P.inj _ _ (by omega) hk e;omega
    ·split at e
     ·have:=P.inj _ _ (by omega) (by omega) e;omega
     ·have:=P.inj _ _ (by omega) hj e;omega
   ·split at e
    ·have:=P.inj _ _ hi hk e;omega
    ·split at e
     ·have:=P.inj _ _ hi (by omega) e;omega
     ·exact P.inj _ _ hi hj e
theorem Fa.rev{p:Array Nat}(P:PN n p){m:Nat}(hm:m<=n)(h:Fa b p m):Ri b (kas_rev p 0 m) m:=λi j Cg hj=>by
 have ha:=Hi (p:=p) (m:=m) (by rw[P.sz];exact hm);rw[ha,ha,acy (by omega),acy hj];exact h _ _ (by omega) (by omega)
variable(L:Lt n b)
include L
theorem HA{p:Array Nat}(P:PN n p){m:Nat}(h1:1<=m)(hm:m<=n)(h:Fa b p m):∃k q,eP b (kas_tail3 m n p)=(k,q)/\PN n q/\1<=k/\k<=n/\Ri b q k:=by
 unfold kas_tail3;rw[gJ];obtain⟨a1,a2,a3,_⟩:=vP L (P.rev hm) (n - m) m h1 (by omega) (Fa.rev P hm h);exact⟨_,_,rfl,P.rev hm,by omega,by omega,a3⟩
theorem DD{p:Array Nat}(P:PN n p)(h2:2<=n):∃k q,eP b (kas_count n p)=(k,q)/\PN n q/\1<=k/\k<=n/\Ri b q k:=by
 unfold kas_count;rw[gJ];obtain⟨a1,a2,a3,a4⟩:=vP L P (n - 1) 1 (Wr _) (by omega) (λi j Cg hj=>by omega);generalize eP b (kas_asc p (n - 1) 1)=m at a1 a2 a3 a4;by_cases he:m=n
 ·subst he;rw[acy (by simp)];exact⟨m,p,rfl,P,by omega,Wr _,a3⟩
 ·rw[acz (by simpa using he)];by_cases hg:m>1
  ·rw[acy hg];have hb:b (p.getD 0 0) (p.getD (m - 1) 0)=true:=a3 0 (m - 1) (by omega) (by omega);show∃k q,eP b (if b (p.getD 0 0) (p.getD (m - 1) 0)=true then KasT.ret (m,p) else kas_descPart m n (kas_rev p 0 m))=(k,q)/\_;rw[acy hb];exact⟨m,p,rfl,P,by omega,by omega,a3⟩
  ·rw[acz hg];have hm:m=1:=by omega
   subst hm;have hb:=a4 (by omega);unfold kas_descPart;rw[gJ];obtain⟨m,e1,e2,e3,e4⟩:=yJ L P (n - (1+1)) (1+1) (by omega) (by omega) (λi j Cg hj=>by
    have hi:i=0:=by omega
    have hj:j=1:=by omega
    subst hi hj;exact hb)
   rw[e1]
   dsimp only
   rw[acz (by omega)];exact HA L P (by omega) (by omega) e4
theorem oP{p:Array Nat}(P:PN n p){k:Nat}(hk:k<n)(h:Ri b p k):∀(f l r:Nat),l<=r->r<=k->r - l<=f->(∀i,i<l->b (at' p i) (at' p k)=true)->(∀i,r<=i->i<k->b (at' p k) (at' p i)=true)->
 eP b (kas_place p k f l r)<=k/\(∀i,i<eP b (kas_place p k f l r)->b (at' p i) (at' p k)=true)/\∀i,eP b (kas_place p k f l r)<=i->i<k->b (at' p k) (at' p i)=true
 |0,l,r,h1,h2,h3,h4,h5=>by
  have:r=l:=by omega
  subst this;exact⟨h2,h4,h5⟩
 |f+1,l,r,h1,h2,h3,h4,h5=>by
  unfold kas_place;by_cases SV:l>=r
  ·rw[acy SV];have:r=l:=by omega
   subst this;exact⟨h2,h4,h5⟩
  ·rw[acz SV];have hm:(l+r) / 2<r:=by omega
   have NO:l<=(l+r) / 2:=by omega
   show eP b (if b (at' p k) (at' p ((l+r) / 2))=true then kas_place p k f l ((l+r) / 2) else kas_place p k f ((l+r) / 2+1) r)<=k/\(∀i,i<eP b (if b (at' p k) (at' p ((l+r) / 2))=true then kas_place p k f l ((l+r) / 2) else kas_place p k f ((l+r) / 2+1) r)->_)/\∀i,eP b (if b (at' p k) (at' p ((l+r) / 2))=true then kas_place p k f l ((l+r) / 2) else kas_place p k f ((l+r) / 2+1) r)<=i->_;by_cases hb:b (at' p k) (at' p ((l+r) / 2))=true
   ·rw[acy hb];refine oP P hk h f l ((l+r) / 2) NO (by omega) (by omega) h4 λi hi UH=>?_;by_cases e:i=(l+r) / 2
    ·rw[e];exact hb
    ·exact L.tr _ _ _ hb (h _ _ (by omega) UH)
   ·rw[acz hb];have hr:b (at' p ((l+r) / 2)) (at' p k)=true:=by
     rcases L.tot (at' p ((l+r) / 2)) (at' p k) (P.lt _ (by omega)) (P.lt _ hk) (λz=>by have:=P.inj _ _ (by omega) hk z;omega) with q | q
     ·exact q
     ·exact acE q hb
    refine oP P hk h f ((l+r) / 2+1) r (by omega) h2 (by omega) (λi hi=>?_) h5;by_cases e:i=(l+r) / 2
    ·rw[e];exact hr
    ·exact L.tr _ _ _ (h i ((l+r) / 2) (by omega) (by omega)) hr
theorem B5:∀(f:Nat) {p:Array Nat}{k:Nat},PN n p->k+f<=n->Ri b p k->PN n (eP b (kas_bin f p k))/\Ri b (eP b (kas_bin f p k)) (k+f)
 |0,p,k,P,_,h=>⟨P,h⟩
 |f+1,p,k,P,hn,h=>by
  have hk:k<n:=by omega
  unfold kas_bin;rw[gJ];obtain⟨a1,a2,a3⟩:=oP L P hk h k 0 k (Xe _) (Wr _) (by omega) (λi hi=>by omega) (λi h1 h2=>by omega);generalize eP b (kas_place p k k 0 k)=l at a1 a2 a3;have ha:=E6 (p:=p) (k:=k) (l:=l) (by rw[P.sz];exact hk) a1;have hR:Ri b (bubble p k (k - l)) (k+1):=λi j Cg hj=>by
   rw[ha,ha];by_cases c1:i=l
   ·rw[acy c1,acz (by omega),acy ⟨by omega,by omega⟩];exact a3 _ (by omega) (by omega)
   ·rw[acz c1];by_cases c2:j=l
    ·rw[acy c2,acz (by omega)];exact a2 _ (by omega)
    ·rw[acz c2];by_cases c3:l<i/\i<=k
     ·rw[acy c3,acy ⟨by omega,by omega⟩];exact h _ _ (by omega) (by omega)
     ·rw[acz c3];by_cases c4:l<j/\j<=k
      ·rw[acy c4];exact h _ _ (by omega) (by omega)
      ·rw[acz c4];exact h _ _ Cg (by omega)
  have:=B5 f (P.bub hk a1) (by omega) hR;rw[show k+(f+1)=k+1+f by omega];exact this
theorem Hr(h2:2<=n):PN n (eP b (kas_sort n))/\Ri b (eP b (kas_sort n)) n:=by
 have P0:PN n (XU (WD n)):=by
  have e:∀i,i<n->at' (XU (WD n)) i=i:=λi hi=>by rw[fM];simp[hi]
  exact⟨by simp,λi hi=>by rw[e i hi];exact hi,λi j hi hj z=>by rw[e i hi,e j hj] at z;exact z⟩
 unfold kas_sort;rw[gJ];obtain⟨k,q,e,P,k1,kn,hR⟩:=DD L P0 h2;rw[e]
 dsimp only
 by_cases jl:k<n
 ·rw[acy jl];have:=B5 L (n - max k 1) (k:=max k 1) P (by omega) (by rw[show max k 1=k by omega];exact hR);rw[show max k 1+(n - max k 1)=n by omega] at this;exact this
 ·rw[acz jl];have:k=n:=by omega
  subst this;exact⟨P,hR⟩
end
def Asks{α:Type}(n:Nat)(P:α->Prop):KasT α->Prop
 | .ret a=>P a
 | .ask i j k=>i<n/\j<n/\∀c,Asks n P (k c)
theorem Asks.bind{α β:Type}{n:Nat}{P:α->Prop}{Q:β->Prop}{f:α->KasT β}:∀{t:KasT α},Asks n P t->(∀a,P a->Asks n Q (f a))->Asks n Q (t.bind f)
 | .ret a,h,hf=>hf a h
 | .ask i j k,h,hf=>⟨h.1,h.2.1,λc=>Asks.bind (h.2.2 c) hf⟩
theorem wp_run{α:Type}{n:Nat}{P:α->Prop}{b:Nat->Nat->Bool}{cmp:Nat->Nat->(Bool->We->Prop)->We->Prop}{Q:α->We->Prop}{s:We}(hc:∀i j C,i<n->j<n->C (b i j) s->cmp i j C s):∀{t:KasT α},Asks n P t->Q (eP b t) s->t.kasWp cmp Q s
 | .ret a,_,h=>h
 | .ask i j k,ha,h=>hc i j _ ha.1 ha.2.1 (wp_run hc (ha.2.2 _) h)
def Below(n:Nat)(p:Array Nat):Prop:=∀x∈p,x<n
section
variable{n:Nat}(hn:0<n)
include hn
theorem Below.at{p:Array Nat}(h:Below n p)(i:Nat):at' p i<n:=by
 rw[fM];cases e:p[i]? with
 |none=>exact hn
 |some x=>exact h x (Array.mem_of_getElem? e)
theorem Below.rev{p:Array Nat}(h:Below n p)(i j:Nat):Below n (kas_rev p i j):=λx hx=>h x ((mirror_perm p i j ((j - i) / 2)).mem_iff.mp hx)
theorem Below.bub{p:Array Nat}(h:Below n p)(k d:Nat):Below n (bubble p k d):=λx hx=>h x ((bubble_perm p k d).mem_iff.mp hx)
theorem qP{p:Array Nat}(h:Below n p):∀f k,Asks n (λ_=>True) (kas_asc p f k)
 |0,k=>trivial
 |f+1,k=>⟨Below.at hn h _,Below.at hn h _,λc=>by
  show Asks n _ (if c=true then KasT.ret k else kas_asc p f (k+1));cases c
  ·exact qP h f (k+1)
  ·exact trivial⟩
theorem kG:∀f {p:Array Nat} k q,Below n p->Asks n (λr=>Below n r.1) (kas_desc f p k q)
 |0,p,k,q,h=>h
 |f+1,p,k,q,h=>⟨Below.at hn h _,Below.at hn h _,λc=>by
  cases c
  ·refine⟨Below.at hn h _,Below.at hn h _,λd=>?_⟩;cases d
   ·exact kG f _ _ h
   ·exact h
  ·show Asks n _ (if q>0 then kas_desc f (kas_rev p (k - (q+1)) k) (k+1) 0 else kas_desc f p (k+1) 0);split
   ·exact kG f _ _ (Below.rev hn h _ _)
   ·exact kG f _ _ h⟩
theorem uH{p:Array Nat}(h:Below n p)(m r:Nat):Asks n (λx=>Below n x.2) (kas_tail3 m r p):=Asks.bind (qP hn (Below.rev hn h 0 m) _ _) λ_ _=>Below.rev hn h 0 m
theorem qQ{p:Array Nat}(h:Below n p)(m r:Nat):Asks n (λx=>Below n x.2) (kas_descPart m r p):=Asks.bind (kG hn _ _ _ h) λx hx=>by
 split
 ·exact uH hn (Below.rev hn hx _ _) _ _
 ·exact uH hn hx _ _
theorem AA{p:Array Nat}(h:Below n p)(r:Nat):Asks n (λx=>Below n x.2) (kas_count r p):=Asks.bind (qP hn h _ _) λm _=>by
 split
 ·exact h
 ·split
  ·refine⟨Below.at hn h _,Below.at hn h _,λc=>?_⟩;cases c
   ·exact qQ hn (Below.rev hn h _ _) _ _
   ·exact h
  ·exact qQ hn h _ _
theorem lL{p:Array Nat}(h:Below n p)(k:Nat):∀f l r,Asks n (λ_=>True) (kas_place p k f l r)
 |0,l,r=>trivial
 |f+1,l,r=>by
  unfold kas_place;split
  ·exact trivial
  ·refine⟨Below.at hn h _,Below.at hn h _,λc=>?_⟩;cases c
   ·exact lL h k f _ _
   ·exact lL h k f _ _
theorem yq:∀f {p:Array Nat} k,Below n p->Asks n (λ_=>True) (kas_bin f p k)
 |0,p,k,h=>trivial
 |f+1,p,k,h=>Asks.bind (lL hn h k _ _ _) λl _=>yq f _ (Below.bub hn h _ _)
theorem Dk:Asks n (λ_=>True) (kas_sort n):=by
 have h0:Below n (XU (WD n)):=λx hx=>by simpa using hx
 refine Asks.bind (AA hn h0 n) λx hx=>?_;split
 ·exact yq hn _ _ hx
 ·exact trivial
end
def fI:List Int->List Int->Bool
 |[],[]=>false
 |[],_::_=>true
 |_::_,[]=>false
 |x::xs,y::ys=>if x=y then fI xs ys else decide (x<y)
theorem wL:∀a b c:List Int,fI a b=true->fI b c=true->fI a c=true
 |[],[],_,h,_=>by cases h
 |[],_::_,[],_,h=>by cases h
 |[],_::_,_::_,_,_=>rfl
 |_::_,[],_,h,_=>by cases h
 |_::_,_::_,[],_,h=>by cases h
 |x::a,y::b,z::c,h1,h2=>by
  unfold fI at h1 h2⊢;by_cases e1:x=y
  ·subst e1;rw[acy rfl] at h1;by_cases e2:x=z
   ·subst e2;rw[acy rfl] at h2⊢;exact wL a b c h1 h2
   ·rw[acz e2] at h2⊢;exact h2
  ·rw[acz e1] at h1;have h1:=acD h1;by_cases e2:y=z
   ·subst e2;rw[acz e1];exact acB h1
   ·rw[acz e2] at h2;have h2:=acD h2;rw[acz (by omega)];exact acB (by omega)
theorem mM:∀a b:List Int,fI a b=true->fI b a=false
 |[],[],h=>by cases h
 |[],_::_,_=>rfl
 |_::_,[],h=>by cases h
 |x::a,y::b,h=>by
  unfold fI at h⊢;by_cases e:x=y
  ·subst e;rw[acy rfl] at h⊢;exact mM a b h
  ·rw[acz e] at h;have h:=acD h;rw[acz (λz=>e z.symm)];exact acC (by omega)
theorem rK:∀a b:List Int,a≠b->fI a b=true\/fI b a=true
 |[],[],h=>acE rfl h
 |[],_::_,_=> .inl rfl
 |_::_,[],_=> .inr rfl
 |x::a,y::b,h=>by
  unfold fI;by_cases e:x=y
  ·subst e;rw[acy rfl,acy rfl];exact rK a b λz=>h (by rw[z])
  ·rw[acz e,acz (λz=>e z.symm)];by_cases q:x<y
   ·exact .inl (acB q)
   ·exact .inr (acB (by omega))
section
variable{prog:WQ}{w:World}{A:WX}{E:Value->We->Prop}{s:We}
theorem ze{Q:Bool->We->Prop}:∀{us vs:List Value}{xs ys:List Int}(i:Nat) {fin:Bool},Yl us xs->Yl vs ys->fin=decide (xs.length<ys.length)->Q (fI xs ys) s->KatLex prog w A true fin Q (us.zip vs) i s
 |_,_,_,_,i,_, .nil, .nil,e,h=>by subst e;exact kat_nil h
 |_,_,_,_,i,_, .nil, .cons y t r,e,h=>by subst e;exact kat_nil h
 |_,_,_,_,i,_, .cons x t r, .nil,e,h=>by subst e;exact kat_nil h
 |_,_,_,_,i,_, .cons (vs:=us) (ns:=xs) x t r, .cons (vs:=vs) (ns:=ys) y u r',e,h=>by
  refine kat_cons (wpAny_eqBool_int ?_);by_cases q:x=y
  ·subst q;rw[show (x==x)=true by simp];refine kat_yes (ze (i+1) r r' (by rw[e];simp) ?_);unfold fI at h;rw[acy rfl] at h;exact h
  ·rw[show (x==y)=false by simpa using q];unfold fI at h;rw[acz q] at h;refine kat_no ?_;by_cases hi:(i==0)=true
   ·rw[hi];exact oneLt_int h
   ·rw[show (i==0)=false by simpa using hi];exact kat_one _ _ (aaZ h)
def TupsAt(h:Heap):List Value->List (List Int)->Prop
 |[],[]=>True
 |v::vs,k::ks=>(∃a o us m,v= .ref a/\h.get? a=some o/\o.cls= .type "tuple"/\o.data= .seq (XU us) m/\Yl us k/\k≠[])/\TupsAt h vs ks
 |_,_=>False
theorem TupsAt.len{h:Heap}:∀{vs:List Value}{ks:List (List Int)},TupsAt h vs ks->vs.length=ks.length
 |[],[],_=>rfl
 |v::vs,k::ks,t=>by rw[Wl,Wl,TupsAt.len t.2]
 |[],_::_,t=>t.elim
 |_::_,[],t=>t.elim
theorem TupsAt.get{h:Heap}:∀{vs:List Value}{ks:List (List Int)}{i:Nat},TupsAt h vs ks->i<vs.length->∃a o us m,vs.getD i Xy= .ref a/\h.get? a=some o/\o.cls= .type "tuple"/\o.data= .seq (XU us) m/\Yl us (ks.getD i [])/\ks.getD i []≠[]
 |v::vs,k::ks,0,t,_=>t.1
 |v::vs,k::ks,i+1,t,hi=>TupsAt.get (i:=i) t.2 (by simpa using hi)
 |[],_,_,_,hi=>by simp at hi
 |_::_,[],_,t,_=>t.elim
theorem TupsAt.keep{h h':Heap}{a:Addr}(k:∀b o,b≠a->h.get? b=some o->h'.get? b=some o)(ha:∀o,h.get? a=some o->o.cls≠ .type "tuple"):∀{vs:List Value}{ks:List (List Int)},TupsAt h vs ks->TupsAt h' vs ks
 |[],[],_=>trivial
 |v::vs,x::ks,⟨⟨b,o,us,m,e1,e2,e3,e4⟩,t⟩=>⟨⟨b,o,us,m,e1,k b o (λz=>ha o (by rw[<-z];exact e2) e3) e2,e3,e4⟩,TupsAt.keep k ha t⟩
 |[],_::_,t=>t.elim
 |_::_,[],t=>t.elim
theorem rA:∀{us:List Value}{xs:List Int},Yl us xs->us.length=xs.length
 |_,_, .nil=>rfl
 |_,_, .cons x t r=>by rw[Wl,Wl,rA r]
theorem TupsAt.firsts{M:Model}{h:Heap}:∀{vs:List Value}{ks:List (List Int)},TupsAt h vs ks->∃fs,KatTups h vs fs/\fs.length=vs.length/\∀v∈fs,Looks M h (typeOf v) (.type "int")
 |[],[],_=>⟨[],KatTups.nil,rfl,λ_ z=>by cases z⟩
 |v::vs,k::ks,⟨⟨a,o,us,m,e1,e2,e3,e4,e5,e6⟩,t⟩=>by
  obtain⟨fs,q1,q2,q3⟩:=TupsAt.firsts (M:=M) t;subst e1;cases e5 with
  |nil=>exact acE rfl e6
  |cons x t r=>
   refine⟨.int x t::fs,KatTups.cons e2 e3 e4 (by simp) q1,by simp[q2],λv hv=>?_⟩;rcases Wu.mp hv with rfl | hv
   ·exact show Looks M h (pure (aaC "int")) (aaC "int") from .now
   ·exact q3 v hv
 |[],_::_,t=>t.elim
 |_::_,[],t=>t.elim
theorem asked{vs:List Value}{ks:List (List Int)}(t:TupsAt s.heap vs ks)(i j:Nat)(C:Bool->We->Prop)(hi:i<vs.length)(hj:j<vs.length)(h:C (fI (ks.getD i []) (ks.getD j [])) s):kas_ask prog w A (tuples' true) vs i j C s:=by
 obtain⟨a,o,us,m,e1,e2,_,e4,e5,_⟩:=t.get hi;obtain⟨a',o',Wa,m',EO,NL,_,TY,Sv,_⟩:=t.get hj;unfold kas_ask;rw[e1,EO];refine kat_lt e2 e4 NL TY (ze 0 e5 Sv ?_ h);rw[Wo,Wo,rA e5,rA Sv]
theorem Gp{α:Type}{l:List α}(h:l.Nodup){i j:Nat}(hi:i<l.length)(hj:j<l.length)(e:l[i]=l[j]):i=j:=by
 rcases Nat.lt_trichotomy i j with q | q | q
 ·exact acE e (YL.mp h i j hi hj q)
 ·exact q
 ·exact acE e.symm (YL.mp h j i hj hi q)
theorem vF{a:Addr}{c:Nat}{vs:List Value}{ks:List (List Int)}{P:PySem.Fin->We->Prop}(ho:s.heap.get? a=some (Yc "list" vs.toArray c))(ht:TupsAt s.heap vs ks)(hd:ks.Nodup)(yY:vs.length<64)
 (h:∀(p:Array Nat) (h':Heap) (c':Nat),PN vs.length p->Ri (λi j=>fI (ks.getD i []) (ks.getD j [])) p vs.length->h'.get? a=some (Yc "list" (XU (p.toList.map λi=>vs.getD i Xy)) c')->
  (∀b o,b≠a->s.heap.get? b=some o->h'.get? b=some o)->P (.done (.ret .none)) {s with heap:=h'}):wpAny (model prog w) A (Z8.«list.sort» ⟨[.ref a],[]⟩) P E s:=by
 have Ck:WB=16777216:=Yq;have s1:=Xd s.heap a (XJ λ_=>(#[]:Array Value));obtain⟨e1,SX⟩:∃e1,(s.heap.update a (XJ λ_=>(#[]:Array Value))).get? a=some (Yc "list" #[] e1):=⟨_,get?_update_seq ho λ_=> #[]⟩
 have k1:∀b o,b≠a->s.heap.get? b=some o->(((s.heap.update a (XJ λ_=>(#[]:Array Value))).push (Yc "tuple" vs.toArray 0)).push (Yc "list" #[] 0)).get? b=some o:=λb o hb e=>
  Wg _ (Wg _ ((s1.2 b hb).trans e))
 have Rk:=Wg (Yc "list" #[] 0) (Wg (Yc "tuple" vs.toArray 0) SX);have t3:=ht.keep k1 (λo e z=>by rw[ho] at e;cases e;exact acE (Value.type.inj z) (by decide));have fin:∀(st:SortSt) (p:Array Nat),PN vs.length p->Ri (λi j=>fI (ks.getD i []) (ks.getD j [])) p vs.length->(arrOf st).map (·.2)=XU (p.toList.map λi=>vs.getD i Xy)->failedOf st=none->
  wpAny (model prog w) A (do
   let touched:=(<-seqEpoch a) !=e1
   Builtin.List.listUpdate (.ref a) λ_=>(arrOf st).map (·.2)
   if let some e:=failedOf st then rule "list.sort.comparison-raised";throw e
   if touched then rule "list.sort.modified";raiseError "ValueError" "list modified during sort"
   ret .none) P E {s with heap:=((s.heap.update a (XJ λ_=>(#[]:Array Value))).push (Yc "tuple" vs.toArray 0)).push (Yc "list" #[] 0)}:=λst p hp hr he hf=>by
  have hz:(XU (p.toList.map λi=>vs.getD i Xy)).size=vs.length:=by rw[Wo,Wc,WL,hp.sz]
  rw[he,hf];refine Wb (seqEpoch_at Rk rfl (Wb (listUpdate_at Rk rfl ?_ (Xe _) (by rw[hz,Ck];omega))));simp only[bne_self_eq_false,Xf,if_false];have s2:=Xd (((s.heap.update a (XJ λ_=>(#[]:Array Value))).push (Yc "tuple" vs.toArray 0)).push (Yc "list" #[] 0)) a (XJ λ_=>XU (p.toList.map λi=>vs.getD i Xy));exact Wk (h p _ _ hp hr (get?_update_seq Rk λ_=>XU (p.toList.map λi=>vs.getD i Xy)) λb o hb e=>(s2.2 b hb).trans (k1 b o hb e))
 rw[list_sort_plain];refine Wb (listItems_at ho rfl (Wb (listUpdate_at ho rfl (Wb (seqEpoch_at SX rfl ?_)) (by rw[Wo,Ck];omega) (Xe _))));refine Wb (wpAny_newTuple (Wb (ab_ (XR ?_) (Xe _))) (by show vs.length<=_;rw[Ck];omega));show wpAny (model prog w) A _ P E {s with heap:=((s.heap.update a (XJ λ_=>(#[]:Array Value))).push (Yc "tuple" vs.toArray 0)).push (Yc "list" #[] 0)}
 dsimp only
 by_cases hs:vs.toArray.size<2
 ·rw[acy hs,acy hs];have HY:vs.length<2:=by simpa using hs
  refine Wb (Wk (Wb (Wk ?_)));refine fin (SortSt.mk' general' (vs.toArray.zip vs.toArray) #[] 7 none) (XU (WD vs.length)) ⟨by simp,λi hi=>?_,λi j hi hj _=>by omega⟩ (λi j Cg hj=>by omega) ?_ rfl
  ·rw[fM];simp[hi]
  ·show (vs.toArray.zip vs.toArray).map (·.2)=_;apply Array.toList_inj.mp;refine aaT (by simp) λi a1 a2=>?_;simp at a1;simp[a1]
 ·rw[acz hs,acz hs];have HY:2<=vs.length:=by
   have:¬vs.length<2:=by simpa using hs
   omega
  obtain⟨fs,q1,q2,q3⟩:=t3.firsts (M:=model prog w);refine Wb (kat_kind q1 (by omega) q3 rfl ?_);have hb:Lt vs.length (λi j=>fI (ks.getD i []) (ks.getD j [])):=⟨λi j k=>wL _ _ _,λi j=>mM _ _,λi j hi hj Cg=>rK _ _ λz=>Cg (by
   rw[ht.len] at hi hj;rw[WK,WK,Wi hi,Wi hj] at z;exact Gp hd hi hj (by simpa using z))⟩
  obtain⟨r1,r2⟩:=Hr hb HY;have run:=kat_run (prog:=prog) (w:=w) (A:=A) (E:=E) (ks:=vs) (vs:=vs) (κ:=tuples' true) (Q:=λst s'=>s'={s with heap:=((s.heap.update a (XJ λ_=>(#[]:Array Value))).push (Yc "tuple" vs.toArray 0)).push (Yc "list" #[] 0)}/\∃p,PN vs.length p/\Ri (λi j=>fI (ks.getD i []) (ks.getD j [])) p vs.length/\(arrOf st).map (·.2)=XU (p.toList.map λi=>vs.getD i Xy)/\failedOf st=none)
   (G:=λp s'=>s'={s with heap:=((s.heap.update a (XJ λ_=>(#[]:Array Value))).push (Yc "tuple" vs.toArray 0)).push (Yc "list" #[] 0)}/\PN vs.length p/\Ri (λi j=>fI (ks.getD i []) (ks.getD j [])) p vs.length) rfl HY yY
   (λp s_ s' a1 a2 a3 a4=>⟨a4.1,p,a4.2.1,a4.2.2,kat_snds rfl a2,a3⟩)
   (wp_run (s:={s with heap:=((s.heap.update a (XJ λ_=>(#[]:Array Value))).push (Yc "tuple" vs.toArray 0)).push (Yc "list" #[] 0)}) (λi j C hi hj hC=>asked t3 i j C hi hj hC) (Dk (by omega)) ⟨rfl,r1,r2⟩)
  refine Wb (Xp run ?_ λ_ _ e=>e);rintro⟨⟨⟩,s_⟩ s' ⟨rfl,p,a1,a2,a3,a4⟩;exact fin s_ p a1 a2 a3 a4
end
section
variable{prog:WQ}{w:World}{A:WX}{E:Value->We->Prop}{s:We}
theorem va{d:Addr}{od:Obj}{es:Array Ym}{ep:Nat}{Q:Value->We->Prop}(lo:(d==XQ)=false)(ho:s.heap.get? d=some od)(hx:od.ExactDict)(hd:od.data= .dict es ep)
 (hQ:Q (.ref s.heap.objs.size) {s with heap:=s.heap.push {cls:= .type "dict_keyiterator",data:= .fields #[.ref d, .int 0 0, .int es.size 0, .int ep 0]} }):wpAny (model prog w) A (pyIter (.ref d)) Q E s:=by
 have hT:s.TypeIs (.ref d) "dict":=⟨od,ho,hx.1⟩
 refine wpAny_pyIter_slot hT F.slot_dict_iter (Yd F.slot_dict_iter hT F.entry_dict_iter ?_ (F.args_dict_iter_1 _));unfold Z8.«dict.__iter__» Builtin.Dict.dictSlotNone;refine Wb (Wb (aah hT ?_));show wpAny _ _ (pure (WT d)) _ _ s;refine Wk ?_;show wpAny _ _ (Zy d>>=_) _ _ s;unfold Zy;rw[acz (by rw[lo];exact WO)];refine Wb (Wk (Wb (X3 ho hd (Wb (ZA ho hd ?_)))));refine Wb (Xz (Wk ⟨_,rfl,"dict_keyiterator",_,⟨_,WA _ rfl,rfl⟩,F.slot_dict_keyiterator_next.lookup,?_⟩));simpa[aaK] using hQ
theorem zq{it d:Addr}{od:Obj}{es:Array Ym}{i ep:Nat}{e:Ym}{Q:Option Value->We->Prop}(hit:s.heap.IsKeyIter it d i es.size ep)(DX:s.heap.get? d=some od)(qj:od.data= .dict es ep)(hx:es[i]? =some e)
 (hQ:∀h',h'.IsKeyIter it d (i+1) es.size ep->Yj it s.heap h'->Q (some e.key) {s with heap:=h'}):wpAny (model prog w) A (aai (.ref it)) Q E s:=by
 obtain⟨o,ho,hc,hd⟩:=id hit;have jl:i<es.size:=(Array.getElem?_eq_some_iff.mp hx).1;have L5:ZS "dict_keyiterator"=false:=by decide
 unfold aai;refine Wb (wpAny_attempt (Zb (name:=W4 "__next__") hit.typeIs Yw
  (Yd Yw hit.typeIs abi ?_ (aa4 _))))
 refine Wb (Wk (Wb (Wb ?_)))
 first | refine Wb (Yu hit.typeIs (Wk ?_)) | refine Wb (Y6 hit.typeIs (Wk ?_))
 refine Wb (wpAny_fieldsOf ho hd ?_);simp only[L5,Xf,if_false];show wpAny _ _ (if (WT d==Xy)=true then _ else _) _ _ s;rw[acz (show¬((WT d==Xy)=true) from WO)];refine Wb (Wk (Wb (X3 DX qj ?_)));rw[acz (by simp)];refine Wb (Wk (Wb (ZA DX qj ?_)));rw[acz (by simp)];refine Wk ?_;simp only[show¬((i:Int)<0) from by omega,if_false,Zf,hx];refine Wb ?_
 first | refine Wb (Yu hit.typeIs (Wk ?_)) | refine Wb (Y6 hit.typeIs (Wk ?_))
 refine Wb (wpAny_isOneOf_keyiter hit.typeIs ?_);show wpAny _ _ (setField (.ref it) 1 (aaK ((i:Int)+1))>>=_) _ _ s;refine Wb (wpAny_setField ho hd (by simp) ?_);have IL:(s.heap.update it (Obj.mapFields (·.setIfInBounds 1 (aaK ((i:Int)+1))))).IsKeyIter it d (i+1) es.size ep:=
  ⟨_,XN _ ho (Obj.isFreed_of_fields (acq hd _)),(Obj.cls_mapFields ..).trans hc,by rw[acq hd];simp[aaK]⟩
 refine Wb (XR (Wb (wpAny_isOneOf_keyiter (s:={s with heap:=s.heap.update it (Obj.mapFields (·.setIfInBounds 1 (aaK ((i:Int)+1))))}) IL.typeIs ?_)));show wpAny _ _ (pure e.key) _ _ _;exact Wk (Wk ⟨_,rfl,Wk (hQ _ IL (Xd ..))⟩)
theorem uS{it d:Addr}{od:Obj}{es:Array Ym}{ep i:Nat}{Q:Option Value->We->Prop}(hh:A.handled=none)(hit:s.heap.IsKeyIter it d i es.size ep)(hi:es.size<=i)(DX:s.heap.get? d=some od)(qj:od.data= .dict es ep)
 (hQ:∀h',Heap.ExtBut it s.heap h'->Q none {s with heap:=h'}):wpAny (model prog w) A (aai (.ref it)) Q E s:=by
 obtain⟨o,ho,hc,hd⟩:=id hit;have L5:ZS "dict_keyiterator"=false:=by decide
 unfold aai;refine Wb (wpAny_attempt (Zb (name:=W4 "__next__") hit.typeIs Yw
  (Yd Yw hit.typeIs abi ?_ (aa4 _))))
 refine Wb (Wk (Wb (Wb ?_)))
 first | refine Wb (Yu hit.typeIs (Wk ?_)) | refine Wb (Y6 hit.typeIs (Wk ?_))
 refine Wb (wpAny_fieldsOf ho hd ?_);simp only[L5,Xf,if_false];show wpAny _ _ (if (WT d==Xy)=true then _ else _) _ _ s;rw[acz (show¬((WT d==Xy)=true) from WO)];refine Wb (Wk (Wb (X3 DX qj ?_)));rw[acz (by simp)];refine Wb (Wk (Wb (ZA DX qj ?_)));rw[acz (by simp)];refine Wk ?_;simp only[show¬((i:Int)<0) from by omega,if_false,Zf,Array.getElem?_eq_none hi];refine Wb ?_
 first | refine Wb (Yu hit.typeIs (Wk ?_)) | refine Wb (Y6 hit.typeIs (Wk ?_))
 show wpAny _ _ (setField (.ref it) 0 .none>>=_) _ _ s;refine Wb (wpAny_setField ho hd (by simp) ?_);show wpAny _ _ (newExc (.type "StopIteration") []>>=_) _ _ _;refine Wb ?_;simp only[newExc,newTuple];refine Wb (Xz ?_ (by size_fits));refine Wb (m:=firstArgMember _ _) (wpAny_of_eq (a:=Xy) (by first | rfl | (simp only[firstArgMember];rfl)) ?_);refine Xz ?_ (by size_fits);simp only[raiseNew];refine Wb (wpAny_handled ?_);rw[show A.in1.handled=none from hh];refine Wb (Wk (wpAny_throw ?_));refine Wb (wpAny_isInstance (T:="StopIteration") (b:=true) ⟨_,WA _ rfl,rfl⟩ isSubtype_stop ?_);exact Wk (hQ _ (((Xd ..).extBut.push _).push _))
theorem Fu{it d:Addr}{od:Obj}{es:Array Ym}{ep:Nat}{Q:Option Value->We->Prop}(hh:A.handled=none)(hit:s.heap.IsKeyIter it d es.size es.size ep)(DX:s.heap.get? d=some od)(qj:od.data= .dict es ep)
 (hQ:∀h',Heap.ExtBut it s.heap h'->Q none {s with heap:=h'}):wpAny (model prog w) A (aai (.ref it)) Q E s:=uS hh hit (Wr _) DX qj hQ
def Ks(es:Array Ym):Nat->Value->Prop:=λi v=>∃e,es[i]? =some e/\v=e.key
theorem BO(hh:A.handled=none)(I d:Addr)(jU:d≠I){od:Obj}{es:Array Ym}{ep:Nat}(qj:od.data= .dict es ep):
 Walks prog w A I [I,d] [I] es.size (Ks es) (λi h=>h.IsKeyIter I d i es.size ep/\h.get? d=some od) where
 sub:=λb hb=>by simp at hb;simp[hb]
 frame:=λ_ _ _ st hk=>⟨st.1.at λo e=>hk I (by simp) o e,hk d (by simp) _ st.2⟩
 item:=λi s Q E hi st hQ=>by
  have hx:es[i]? =some es[i]:=YK hi;exact zq st.1 st.2 qj hx λh' IL IS=>hQ _ h' s.toks ⟨_,hx,rfl⟩ ⟨IL,(IS.2 d jU).trans st.2⟩ λb o hb e=>IS.extBut b o (λh=>hb (by simp[h])) e
 done:=λs Q E st hQ=>Fu hh st.1 st.2 qj λh' Ut=>hQ h' s.toks λb o hb e=>Ut b o (λh=>hb (by simp[h])) e
 self:=λ_ _ _ _ st hQ=>wpAny_pyIter_keyiter st.1 hQ
theorem z9{d:Addr}{od:Obj}{es:Array Ym}{ep:Nat}(lo:(d==XQ)=false)(hx:od.ExactDict)(qj:od.data= .dict es ep):KdlSrc prog w "dict" d d es.size (Ks es) (λh=>h.get? d=some od) where
 type:=λ_ hm=>⟨od,hm,hx.1⟩
 there:=λ_ hm=>⟨Ww hm,Ww hm⟩
 keep:=λ_ _ hm hk=>hk d (.inl rfl) od hm
 notList:=by decide
 notTuple:=by decide
 hint:=λ_ _ s _ hm hq=>kdl_hint_dict ⟨od,hm,hx.1⟩ hq
 iter:=λ_ _ hh hm=>⟨_,_,(λ_ _ hq=>va lo hm hx qj hq),BO hh _ d (WS (Ww hm)) qj,⟨⟨_,WA _ rfl,rfl,rfl⟩,Wg _ hm⟩⟩
end
end L3
namespace L3
open PySem
def insI(k:List Int):List (List Int)->List (List Int)
 |[]=>[k]
 |x::r=>if fI k x then k::x::r else x::insI k r
def sortI:List (List Int)->List (List Int)
 |[]=>[]
 |k::r=>insI k (sortI r)
def Ay(l:List (List Int)):Prop:=l.Pairwise λa b=>fI a b=true
theorem rq{k x:List Int}:∀{l:List (List Int)},x∈insI k l↔x=k\/x∈l
 |[]=>by simp[insI]
 |y::r=>by
  unfold insI;split
  ·simp
  ·rw[Wu,rq,Wu];constructor
   ·rintro(h | h | h)<;>simp[h]
   ·rintro(h | h | h)<;>simp[h]
theorem u3{k:List Int}:∀{l:List (List Int)},Ay l->k∉l->Ay (insI k l)
 |[],_,_=>YX _ _
 |x::r,h,hk=>by
  have h:=XB.mp h;unfold insI;split
  ·rename_i q;refine XB.mpr ⟨λy hy=>?_,XB.mpr h⟩;rcases Wu.mp hy with rfl | hy
   ·exact q
   ·exact wL _ _ _ q (h.1 y hy)
  ·rename_i q;have hx:fI x k=true:=by
    rcases rK k x (λz=>hk (by rw[z];exact Wh ..)) with z | z
    ·exact acE z q
    ·exact z
   refine XB.mpr ⟨λy hy=>?_,u3 h.2 λz=>hk (Wf _ z)⟩;rcases rq.mp hy with rfl | hy
   ·exact hx
   ·exact h.1 y hy
theorem gK{x:List Int}:∀{l:List (List Int)},x∈sortI l↔x∈l
 |[]=>Iff.rfl
 |k::r=>by unfold sortI;rw[rq,gK,Wu]
theorem mh:∀{l:List (List Int)},l.Nodup->Ay (sortI l)
 |[],_=>abf
 |k::r,h=>by
  have h:=X0.mp h;exact u3 (mh h.2) λz=>h.1 (gK.mp z)
theorem sT:∀{a b:List (List Int)},Ay a->Ay b->(∀x,x∈a↔x∈b)->a=b
 |[],[],_,_,_=>rfl
 |[],y::b,_,_,h=>by have:=(h y).mpr (Wh ..);cases this
 |x::a,[],_,_,h=>by have:=(h x).mp (Wh ..);cases this
 |x::a,y::b,ha,hb,h=>by
  have ha:=XB.mp ha;have hb:=XB.mp hb;have e:x=y:=by
   rcases Wu.mp ((h x).mp (Wh ..)) with q | q
   ·exact q
   ·rcases Wu.mp ((h y).mpr (Wh ..)) with p | p
    ·exact p.symm
    ·have z1:=hb.1 x q;have z2:=ha.1 y p;rw[mM _ _ z1] at z2;cases z2
  subst e;have Te:∀k,fI k k≠true:=λk z=>by have:=mM _ _ z;rw[z] at this;cases this
  rw[sT ha.2 hb.2 λz=>?_];constructor
  ·intro hz;rcases Wu.mp ((h z).mp (Wf _ hz)) with q | q
   ·subst q;exact acE (ha.1 z hz) (Te z)
   ·exact q
  ·intro hz;rcases Wu.mp ((h z).mpr (Wf _ hz)) with q | q
   ·subst q;exact acE (hb.1 z hz) (Te z)
   ·exact q
theorem BC:∀(n:Nat) (l:List Nat),l.Nodup->(∀x∈l,x<n)->l.length=n->∀k,k<n->k∈l
 |0,_,_,_,_,k,hk=>by omega
 |n+1,l,hd,hl,hn,k,hk=>by
  by_cases h:n∈l
  ·by_cases e:k=n
   ·subst e;exact h
   ·refine List.mem_of_mem_erase (BC n (l.erase n) (hd.erase n) (λx hx=>?_) (by rw[aby h,hn];rfl) k (by omega));have hx:=hd.mem_erase_iff.mp hx;have:=hl x hx.2;have:=hx.1;omega
  ·cases l with
   |nil=>simp at hn
   |cons x r=>
    have hd:=X0.mp hd;have lt:∀y∈x::r,y<n:=λy hy=>by
     have:=hl y hy;have:y≠n:=λz=>h (by rw[<-z];exact hy);omega
    exact acE (BC n r hd.2 (λy hy=>lt y (Wf _ hy)) (by simpa using hn) x (lt x (Wh ..))) hd.1
theorem vG{ks:List (List Int)}{p:Array Nat}(hd:ks.Nodup)(P:PN ks.length p)(R:Ri (λi j=>fI (ks.getD i []) (ks.getD j [])) p ks.length):(p.toList.map λi=>ks.getD i [])=sortI ks:=by
 have hsz:p.toList.length=ks.length:=by rw[WL];exact P.sz
 have HS:∀i (h:i<p.toList.length),p.toList[i]=at' p i:=λi h=>by
  have h':i<p.size:=by rw[WL] at h;exact h
  rw[fM,YK h'];simp
 refine sT ?_ (mh hd) λx=>?_
 ·refine YL.mpr λi j hi hj Cg=>?_;rw[Wc] at hi hj;rw[List.getElem_map,List.getElem_map,HS i hi,HS j hj];exact R i j Cg (by omega)
 ·rw[gK];constructor
  ·intro hx;obtain⟨i,hi,rfl⟩:=WC.mp hx;obtain⟨j,hj,rfl⟩:=YF.mp hi;have:=P.lt j (by omega);rw[HS j hj,WK,Wi this];exact Yp this
  ·intro hx;obtain⟨k,hk,rfl⟩:=YF.mp hx;have OP:k∈p.toList:=by
    have hn:p.toList.Nodup:=YL.mpr λi j hi hj Cg z=>by
     rw[HS i hi,HS j hj] at z;have:=P.inj i j (by omega) (by omega) z;omega
    exact BC ks.length p.toList hn (λx hx=>by
     obtain⟨j,hj,rfl⟩:=YF.mp hx;rw[HS j hj];exact P.lt j (by omega)) hsz k hk
   refine WC.mpr ⟨k,OP,?_⟩;rw[WK,Wi hk];rfl
end L3
namespace L3
open PySem PySem.Spec L2 SeqAt HT
open PyProof.Rows hiding St
def tupI(k:List Int):D:= .tup (k.map D.int)
def KW:D->Option (List Int)
 | .tup ds=>nums ds
 |_=>none
def jm:List D->Option (List (List Int))
 |[]=>some []
 |d::ds=>match KW d,jm ds with
  |some k,some ks=>some (k::ks)
  |_,_=>none
def gp(ks:List (List Int)):Bool:=decide ks.Nodup&&decide (ks.length<64)&&ks.all λk=>!k.isEmpty
def Ki:List D->M D
 |[.lst ds]=>match jm ds with
  |some ks=>if gp ks then ae (.lst ((sortI ks).map tupI)) else ah
  |none=>ah
 |_=>ah
def eJ(H:Hp):List V->List (List Int)->Prop:=aaL λv k=>∃a,v= .ref a/\H a=some (.tup (k.map V.int))
theorem u5{K:Wn}{F H:Hp}(hs:Same F H):∀{ds:List D}{vs:List V}{ks:List (List Int)},jm ds=some ks->DenL K F ds vs->eJ H vs ks/\eJ F vs ks
 |[],_,_,e,h=>by cases e;cases (show _=_ from h);exact⟨.nil, .nil⟩
 |d::ds,_,_,e,⟨v,r,h1,h2,h3⟩=>by
  subst h1;unfold jm at e;split at e
  ·rename_i k ks e1 e2;cases e;obtain⟨RC,RD⟩:=u5 hs e2 h3;cases d with
   |tup es=>
    obtain⟨a,ws,rfl,k2,k3,_⟩:=h2;have:=iW e1 k3;subst this;exact⟨.cons ⟨a,rfl,hs _ _ k2⟩ RC, .cons ⟨a,rfl,k2⟩ RD⟩
   |_=>cases e1
  ·cases e
theorem nH{K:Wn}{F:Hp}:∀{ws:List V}{ks:List (List Int)},eJ F ws ks->(∀k∈ks,k.length<=lim)->DenL K F (ks.map tupI) ws
 |_,_, .nil,_=>rfl
 |_,_, .cons (b:=k) h t,hl=>by
  obtain⟨a,rfl,h⟩:=h;exact .cons ⟨a,_,rfl,h,DenL.ints k,by rw[Wc];exact hl k (Wh ..)⟩ (nH t λk hk=>hl k (Wf _ hk))
theorem oV{X:Cx}{f8:List (Addr×Obj)}{σ:St}{H:Hp}{s:We}(I:Inv X f8 σ H s):∀{vs:List V}{aS:List Value}{ks:List (List Int)},eJ H vs ks->Vals vs aS->(∀k∈ks,k≠[])->TupsAt s.heap aS ks
 |_,_,_, .nil,r,_=>by cases r;exact trivial
 |_,_,_, .cons (b:=k) h t,r,hn=>by
  obtain⟨a,rfl,h⟩:=h;cases r with
  |cons r1 r2=>
   cases (show _=_ from r1);obtain⟨us,ru,pt,_⟩:=I.tuple (SqT.of (K:=X.K) h);obtain⟨o,q1,q2,m,q3⟩:=pt;exact⟨⟨a,o,us,m,rfl,q1,q2,q3,intsAre_of ru,hn k (Wh ..)⟩,oV I t r2 λk hk=>hn k (Wf _ hk)⟩
theorem zW{H:Hp}:∀{vs:List V}{ks:List (List Int)}{i:Nat},eJ H vs ks->i<vs.length->∃a,vs.getD i .non= .ref a/\H a=some (.tup ((ks.getD i []).map V.int))
 |_,_,i, .nil,hi=>by simp at hi
 |_,_,0, .cons h t,_=>h
 |_,_,i+1, .cons h t,hi=>zW (i:=i) t (by simpa using hi)
theorem kf{H:Hp}:∀{vs:List V}{ks:List (List Int)},eJ H vs ks->vs.length=ks.length
 |_,_, .nil=>rfl
 |_,_, .cons h t=>by rw[Wl,Wl,kf t]
theorem oU{H:Hp}{vs:List V}{ks:List (List Int)}(h:eJ H vs ks):∀{is:List Nat},(∀i∈is,i<vs.length)->eJ H (is.map λi=>vs.getD i .non) (is.map λi=>ks.getD i [])
 |[],_=> .nil
 |i::is,hi=> .cons (zW h (hi i (Wh ..))) (oU h λj hj=>hi j (Wf _ hj))
theorem vI:∀{vs:List V}{us:List Value}(i:Nat),Vals vs us->i<vs.length->RelV (vs.getD i .non) (us.getD i Xy)
 |_,_,i, .nil,hi=>by simp at hi
 |_,_,0, .cons h t,_=>h
 |_,_,i+1, .cons h t,hi=>vI i t (by simpa using hi)
theorem o7{vs:List V}{us:List Value}(h:Vals vs us):∀{is:List Nat},(∀i∈is,i<vs.length)->Vals (is.map λi=>vs.getD i .non) (is.map λi=>us.getD i Xy)
 |[],_=> .nil
 |i::is,hi=> .cons (vI i h (hi i (Wh ..))) (o7 h λj hj=>hi j (Wf _ hj))
def R1(K:Wn):List V->Hp->VK->Prop:=λxs H Q=>∃p vs ks,xs=[.ref p]/\SqL K H p vs/\eJ H vs ks/\gp ks=true/\∀(q:Addr) (is:List Nat),H q=none->(∀i∈is,i<vs.length)->is.length=vs.length->(is.map λi=>ks.getD i [])=sortI ks->Q (.ref q) (upd H q (.lst (is.map λi=>vs.getD i .non)))
section
variable{X:Cx}{Xw:Nat->Hp->Prop}{e:Expr}{δs:DA}{pos p:Pos}
theorem Fe:CallR X (.builtin "sorted") (R1 X.K):=by
 intro f8 s σ H xs us Q I r h;obtain⟨a,vs,ks,rfl,hq,hr,hk,q⟩:=h;obtain⟨u,rfl,r1⟩:=r.one;cases (show u=_ from r1);obtain⟨aS,rv,pl,hz⟩:=I.list hq;unfold gp at hk;rw[Wv,Wv] at hk;have hd:ks.Nodup:=acD hk.1.1;have yY:ks.length<64:=acD hk.1.2;have jU:∀k∈ks,k≠[]:=λk FO z=>by have:=W3.mp hk.2 k FO;rw[z] at this;cases this
 have Av:=kf hr;have HY:=rv.length;have Ck:WB=16777216:=Yq;have ht:=oV I hr rv jU;refine abj kind_sorted plain_sorted entry_sorted (args_sorted1 _) ?_;unfold Z8.«sorted»;refine Wb (m:=checkCount "sorted" 1 1 _) (Wk (Wb (collect_list pl.isList (Wb (ab_ ?_ (by rw[Ck];omega))) (by rw[Ck];omega))));have hsz:((s.heap.push (Yc "list" #[] 0)).update s.heap.objs.size (XJ (· ++aS.toArray))).objs.size=s.heap.objs.size+1:=by rw[Heap.size_update,size_push']
 have keep:∀b o,s.heap.get? b=some o->(((s.heap.push (Yc "list" #[] 0)).update s.heap.objs.size (XJ (· ++aS.toArray))).push (Yc "list" aS.toArray 0)).get? b=some o:=λb o e=>by
  have jl:=Ww e;exact Wg _ ((Heap.get?_update_ne _ _ _ _ (WS jl)).trans (Wg _ e))
 have LZ:(((s.heap.push (Yc "list" #[] 0)).update s.heap.objs.size (XJ (· ++aS.toArray))).push (Yc "list" aS.toArray 0)).get? (s.heap.objs.size+1)=some (Yc "list" aS.toArray 0):=by
  rw[<-hsz];exact WA _ rfl
 show wpAny _ _ _ _ _ {s with heap:=((s.heap.push (Yc "list" #[] 0)).update s.heap.objs.size (XJ (· ++aS.toArray))).push (Yc "list" aS.toArray 0)};rw[hsz];refine Wb (XR (Yd slot_list_sort ⟨_,LZ,rfl⟩ entry_list_sort (vF (s:={s with heap:=((s.heap.push (Yc "list" #[] 0)).update s.heap.objs.size (XJ (· ++aS.toArray))).push (Yc "list" aS.toArray 0)}) LZ
  (ht.keep (a:=s.heap.objs.size) (λb o _ e=>keep b o e) (λo e=>acE (Ww e) (Xr _))) hd (by omega) λP h' c' hP hR FL FP=>?_) (args_list_sort _)))
 have LP:∀i∈P.toList,i<vs.length:=λi hi=>by
  obtain⟨j,hj,rfl⟩:=YF.mp hi;have h':j<P.size:=by rw[WL] at hj;exact hj
  have:=hP.lt j (by rw[hP.sz] at h';exact h');rw[fM,YK h'] at this;have e:P.toList[j]=P[j]:=by simp
  rw[e];have:P[j]<aS.length:=this;omega
 have QT:PN ks.length P:=by rw[<-Av,HY];exact hP
 have QU:Ri (λi j=>fI (ks.getD i []) (ks.getD j [])) P ks.length:=by rw[<-Av,HY];exact hR
 have KS:=vG hd QT QU;have LW:H (s.heap.objs.size+1)=none:=I.hok.fresh (Nat.le_succ _);refine⟨_,rfl,Wk ⟨_,rfl,⟨.ref (s.heap.objs.size+1),_,I.laid (a:=s.heap.objs.size+1) (t':=s.toks) (o:= .lst (P.toList.map λi=>vs.getD i .non)) (λb ob e=>FP b ob (WS (Ze (Ww e))) (keep b ob e)) (Nat.le_succ _) ?_,rfl,q _ P.toList LW LP (by rw[WL,hP.sz];omega) KS⟩⟩⟩;exact⟨by rw[Wc,WL,hP.sz,Ck];omega,_,c',o7 rv LP,FL⟩
theorem u6{K:Wn}{F:Hp}:∀{ds:List D}{vs:List V}{ks:List (List Int)},jm ds=some ks->DenL K F ds vs->∀k∈ks,k.length<=lim
 |[],_,_,e,_=>by cases e;exact λk hk=>by cases hk
 |d::ds,_,_,e,⟨v,r,h1,h2,h3⟩=>by
  unfold jm at e;split at e
  ·rename_i k ks e1 e2;cases e;intro k' FO;rcases Wu.mp FO with rfl | FO
   ·cases d with
    |tup es=>
     obtain⟨a,ws,rfl,k2,k3,k4⟩:=h2;have:=iW e1 k3;have hl:=k3.len;rw[this,Wc] at hl;omega
    |_=>cases e1
   ·exact u6 e2 h3 k' FO
  ·cases e
theorem o5:∀l:List (List Int),(sortI l).length=l.length
 |[]=>rfl
 |k::r=>by
  have ins:∀(k:List Int) (l:List (List Int)),(insI k l).length=l.length+1:=by
   intro k l;induction l with
   |nil=>rfl
   |cons x l ih=>
    unfold insI;split
    ·rfl
    ·rw[Wl,ih,Wl]
  unfold sortI;rw[ins,o5 r,Wl]
theorem MW(hg:Gl X "sorted")(hm:X.mg "sorted"=none)(hb:W8 "sorted"=some (.builtin "sorted"))(ha:kY X Xw [e] δs)(he:Wt [e] X.env=[(false,eval e X.env)]:=by rfl):PD X Xw (.Call (.Name "sorted" p) [e] [] pos) (dA Ki δs):=
 eO Fe (λXw F H vs ds Q s h w=>by
  unfold Ki at w;split at w
  ·rename_i ds;obtain⟨v,rfl,h1⟩:=h.one;obtain⟨a,ws,rfl,h2,h3,h4⟩:=h1;split at w
   ·rename_i ks KP;split at w
    ·rename_i hok;obtain⟨r1,r2⟩:=u5 s KP h3;have UP:=u6 KP h3;refine⟨a,ws,ks,rfl,SqL.of (s _ _ h2),r1,hok,λq is hq hi hl hs=>WP.fin w (Ext.lay s hq) ⟨q,_,rfl,aQ,DenL.mono (Ext.lay s hq).ff ?_,?_⟩⟩
     ·have:=oU r2 hi;rw[hs] at this;exact nH this λk hk=>UP k (gK.mp hk)
     ·rw[Wc,o5,<-kf r1,<-h3.len];exact h4
    ·exact w.elim
   ·exact w.elim
  ·exact w.elim) hg hm hb ha (by decide) (by decide) he rfl
end
def qk(k:List Int):List Key:=k.map aaO
def PQ:List V->Hp->VK->Prop:=λxs H Q=>∃p aI ks,xs=[.ref p]/\Rd H p (.dT aI)/\aI.map (·.1)=ks.map qk/\gp ks=true/\∀(q:Addr) (ws:List V),H q=none->eJ H ws (sortI ks)->Q (.ref q) (upd H q (.lst ws))
theorem oz{H:Hp}:∀{aI:List (List Key×V)}{xs:List (List Key×Addr×Value)}{ks:List (List Int)},aaL (λ(p:List Key×V) (q:List Key×Addr×Value)=>p.1=q.1/\H q.2.1=some (.tup (p.1.map kV))/\RelV p.2 q.2.2) aI xs->
 aI.map (·.1)=ks.map qk->eJ H (xs.map λx=>V.ref x.2.1) ks
 |_,_,[], .nil,_=> .nil
 |_,_,_::_, .nil,e=>by simp at e
 |_,_,[], .cons h t,e=>by simp at e
 |_,_,k::ks, .cons h t,e=>by
  rw[Wq,Wq] at e;injection e with e1 e2
  refine .cons ⟨_,rfl,?_⟩ (oz t e2);have hk:(qk k).map kV=k.map V.int:=by unfold qk;rw[W7];rfl
  rw[h.2.1,e1,hk]
section
variable{X:Cx}{Xw:Nat->Hp->Prop}{e:Expr}{δs:DA}{pos p:Pos}
theorem DB(hc:X.calm=true):CallR X (.builtin "sorted") PQ:=by
 intro f8 s σ H xs us Q I r h;obtain⟨a,aI,ks,rfl,hH,Ci,hk,q⟩:=h;obtain⟨u,rfl,r1⟩:=r.one;cases (show u=_ from r1);obtain⟨z,lo,xs,rel,o,es,ep,g1,g2,g3,g4,g5⟩:=(show ObjOk X.prog X.w H s.heap a (.dT aI) from hH.ok I.hok)
 unfold gp at hk;rw[Wv,Wv] at hk;have hd:ks.Nodup:=acD hk.1.1;have yY:ks.length<64:=acD hk.1.2;have jU:∀k∈ks,k≠[]:=λk FO z=>by have:=W3.mp hk.2 k FO;rw[z] at this;cases this
 have hr:=oz rel Ci;have Av:=kf hr;rw[Wc] at Av;have OD:es.size=xs.length:=by rw[<-WL,g4,Wc]
 have Ck:WB=16777216:=Yq;refine abj kind_sorted plain_sorted entry_sorted (args_sorted1 _) ?_;unfold Z8.«sorted»;refine Wb (m:=checkCount "sorted" 1 1 _) (Wk (Wb (PySem.W.kdu_collect (A:=X.A.in1) (z9 lo g2 g3) (I.ok.hd hc) g1 (by rw[OD,Ck];omega) λh1 tk u8 F8 y0=>?_)));have KI:u8.toList.length=xs.length:=by rw[WL,<-OD];exact y0.1
 have I1:Inv X f8 σ H {s with heap:=h1,toks:=tk}:=I.kept (t':=tk) λb ob e=>F8 b ob e;have rv:Vals (xs.map λx=>V.ref x.2.1) u8.toList:=by
  have ext:∀{vs:List V}{us:List Value},vs.length=us.length->(∀(i:Nat) (v:V) (u:Value),vs[i]? =some v->us[i]? =some u->RelV v u)->Vals vs us:=by
   intro vs;induction vs with
   |nil=>intro us h _;cases us with | nil=>exact .nil | cons _ _=>simp at h
   |cons v vs ih=>
    intro us h hh;cases us with
    |nil=>simp at h
    |cons u us=>exact .cons (hh 0 v u rfl rfl) (ih (by simpa using h) λi v u h1 h2=>hh (i+1) v u h1 h2)
  refine ext (by rw[Wc,KI]) λi v u e1 e2=>?_;rw[X8] at e2;obtain⟨en,q1,q2⟩:=y0.2 i u e2;rw[<-X8,g4,Wz] at q1;rw[Wz] at e1;cases w:xs[i]? with
  |none=>rw[w] at e1;cases e1
  |some x=>
   rw[w] at e1 q1;cases e1;cases q1;exact q2
 have ht:=oV I1 hr rv jU;refine Wb (ab_ ?_ (by rw[Ck];omega));have LZ:(h1.push (Yc "list" u8.toList.toArray 0)).get? h1.objs.size=some (Yc "list" u8.toList.toArray 0):=WA _ rfl;refine Wb (XR (Yd slot_list_sort ⟨_,LZ,rfl⟩ entry_list_sort (vF (s:={s with heap:=h1.push (Yc "list" u8.toList.toArray 0),toks:=tk}) LZ
  (ht.keep (a:=h1.objs.size) (λb o _ e=>Wg _ e) (λo e=>acE (Ww e) (Xr _))) hd (by omega) λP h' c' hP hR FL FP=>?_) (args_list_sort _)))
 have LP:∀i∈P.toList,i<(xs.map λx=>V.ref x.2.1).length:=λi hi=>by
  obtain⟨j,hj,rfl⟩:=YF.mp hi;have h':j<P.size:=by rw[WL] at hj;exact hj
  have:=hP.lt j (by rw[hP.sz] at h';exact h');rw[fM,YK h'] at this;have e:P.toList[j]=P[j]:=by simp
  rw[e,Wc];have:P[j]<u8.toList.length:=this;omega
 have QT:PN ks.length P:=by rw[<-Av,<-KI];exact hP
 have QU:Ri (λi j=>fI (ks.getD i []) (ks.getD j [])) P ks.length:=by rw[<-Av,<-KI];exact hR
 have KS:=vG hd QT QU;have S_:=oU hr LP;rw[KS] at S_;refine⟨_,rfl,Wk ⟨_,rfl,⟨.ref h1.objs.size,_,I1.laid (a:=h1.objs.size) (t':=tk) (o:= .lst (P.toList.map λi=>(xs.map λx=>V.ref x.2.1).getD i .non)) (λb ob e=>FP b ob (WS (Ww e)) (Wg _ e)) (Wr _) ?_,rfl,q _ _ (I1.hok.fresh (Wr _)) S_⟩⟩⟩;exact⟨by rw[Wc,WL,hP.sz,Ck];omega,_,c',o7 rv LP,FL⟩
theorem vz{F F':Hp}(e:Same F F'):∀{ws:List V}{ks:List (List Int)},eJ F ws ks->eJ F' ws ks
 |_,_, .nil=> .nil
 |_,_, .cons ⟨b,q1,q2⟩ t=> .cons ⟨b,q1,e _ _ q2⟩ (vz e t)
theorem sS{F H:Hp}(hs:Same F H):∀{ws:List V}{ks:List (List Int)},eJ H ws ks->∃F',Ext F H F' H/\eJ F' ws ks
 |_,_, .nil=>⟨F,Ext.refl hs, .nil⟩
 |_,_, .cons h t=>by
  obtain⟨a,rfl,h⟩:=h;obtain⟨F1,e1,r1⟩:=sS hs t;have e2:=Ext.tup (F:=F1) e1.fh h;refine⟨_,e1.trans e2, .cons ⟨a,rfl,aQ⟩ ?_⟩;exact vz e2.ff r1
def u4:List Key->Option (List Int)
 |[]=>some []
 | .inl i::r=>(u4 r).map (i:: ·)
 |_=>none
def fN:List (List Key)->Option (List (List Int))
 |[]=>some []
 |k::r=>match u4 k,fN r with
  |some x,some xs=>some (x::xs)
  |_,_=>none
theorem y6:∀{k:List Key}{x:List Int},u4 k=some x->k=qk x
 |[],_,e=>by cases e;rfl
 | .inl i::r,_,e=>by
   unfold u4 at e;cases q:u4 r with
   |none=>rw[q] at e;cases e
   |some y=>rw[q] at e;cases e;rw[y6 q];rfl
 | .inr _::r,_,e=>by cases e
theorem kN:∀{kk:List (List Key)}{ks:List (List Int)},fN kk=some ks->kk=ks.map qk
 |[],_,e=>by cases e;rfl
 |k::r,_,e=>by
  unfold fN at e;split at e
  ·rename_i x xs e1 e2;cases e;rw[Wq,<-y6 e1,<-kN e2]
  ·cases e
def pY:List D->M D
 |[.dct kk ds]=>match fN kk with
  |some ks=>if gp ks&&ks.all (λk=>decide (k.length<=lim)) then ae (.lst ((sortI ks).map tupI)) else ah
  |none=>ah
 |_=>ah
theorem jG{α β:Type}:∀{a:List α}{b:List β},a.length=b.length->(a.zip b).map (·.1)=a
 |[],[],_=>rfl
 |x::a,y::b,h=>by rw[X9,Wq,jG (by simpa using h)]
 |[],_::_,h=>by simp at h
 |_::_,[],h=>by simp at h
theorem CT(hc:X.calm=true)(hg:Gl X "sorted")(hm:X.mg "sorted"=none)(hb:W8 "sorted"=some (.builtin "sorted"))(ha:kY X Xw [e] δs)(he:Wt [e] X.env=[(false,eval e X.env)]:=by rfl):PD X Xw (.Call (.Name "sorted" p) [e] [] pos) (dA pY δs):=
 eO (DB hc) (λXw F H vs ds Q s h w=>by
  unfold pY at w;split at w
  ·rename_i kk ds;obtain⟨v,rfl,h1⟩:=h.one;obtain⟨a,ob,ws,rfl,h2,h3,h4,h5⟩:=h1;split at w
   ·rename_i ks KP;split at w
    ·rename_i hok;rw[Wv] at hok;have hl:∀k∈ks,k.length<=lim:=λk hk=>acD (W3.mp hok.2 k hk);have yY:ks.length<64:=by
      have:=hok.1;unfold gp at this;rw[Wv,Wv] at this;exact acD this.1.2
     refine⟨a,_,ks,rfl, .inr ⟨ob,s _ _ h2⟩,by rw[jG (by rw[h4];exact h3.len),kN KP],hok.1,λq us hq hr=>?_⟩;obtain⟨F1,e1,r1⟩:=sS s hr;have e2:=Ext.lay (o:= .lst us) e1.fh hq;exact WP.fin w (e1.trans e2) ⟨q,_,rfl,aQ,DenL.mono e2.ff (nH r1 λk hk=>hl k (gK.mp hk)),by rw[Wc,o5];unfold lim;omega⟩
    ·exact w.elim
   ·exact w.elim
  ·exact w.elim) hg hm hb ha (by decide) (by decide) he rfl
end
end L3
namespace L3
open PySem PySem.Spec L2
open PyProof.Rows hiding St
def orM{α:Type}(a b:M α):M α:=match a with
 |none=>b
 |some r=>some r
def FU(a b:DA):DA:=λZ=>orM (a Z) (b Z)
section
variable{X:Cx}{Xw:Nat->Hp->Prop}{e tg:Expr}{δi δi':DA}
theorem CU(h:Dh X Xw tg e δi)(h':Dh X Xw tg e δi'):Dh X Xw tg e (FU δi δi'):=λf8 s σ H Q I ⟨F,Z,S,w⟩=>by
 unfold FU orM at w;cases q:δi Z with
 |none=>rw[q] at w;exact h' f8 s σ H Q I ⟨F,Z,S,w⟩
 |some r=>rw[q] at w;exact h f8 s σ H Q I ⟨F,Z,S,by rw[q];exact w⟩
end
def fgt:List Nat->bo->bo
 |[],Z=>Z
 |i::is,Z=>fgt is (Z.set i none)
def Pf(f:bo->bo):Out->M Out
 | .nx Z=>ae (.nx (f Z))
 | .rt d=>ae (.rt d)
def bH(is:List Nat)(τ:DS):DS:=λZ=>τ Z>>=Pf (fgt is)
theorem StOk.fgt1{K:Wn}{s0 acI F H:Hp}{σ:St}{Z:bo}(s:StOk K s0 acI F H σ Z)(i:Nat):StOk K s0 acI F H σ (Z.set i none):=by
 have get:∀(j:Nat) (sl:Sl),(Z.set i none)[j]? =some (some sl)->Z[j]? =some (some sl):=λj sl e=>by
  by_cases hj:j=i
  ·subst hj;by_cases hl:j<Z.length
   ·rw[WG hl] at e;cases e
   ·rw[Z0 (by simpa using hl)] at e;cases e
  ·rw[Wx (Xq hj)] at e;exact e
 exact⟨s.ext,⟨s.st.fh,λj sl e=>s.st.den j sl (get j sl e)⟩,by simp[s.len],λj c a e e'=>s.own j c a (get j _ e) e',λj k c c' a e1 e2 e3 e4=>s.sep j k c c' a (get j _ e1) (get k _ e2) e3 e4⟩
theorem StOk.fgt{K:Wn}{s0 acI F H:Hp}{σ:St}:∀(is:List Nat) {Z:bo},StOk K s0 acI F H σ Z->StOk K s0 acI F H σ (L3.fgt is Z)
 |[],_,s=>s
 |i::is,_,s=>StOk.fgt is (s.fgt1 i)
theorem WPS.fgt{K:Wn}{Xw:Nat->Hp->Prop}{s0 acI:Hp}{is:List Nat}{m:M Out}{Dn:Ends}(w:WPS K Xw s0 acI (m>>=Pf (L3.fgt is)) Dn):WPS K Xw s0 acI m Dn:=by
 match m,w with
 |none,w=>exact w
 |some (.ok (.nx Z)),w=>exact λσ F H s=>w σ F H (s.fgt is)
 |some (.ok (.rt d)),w=>exact w
 |some (.ex n),w=>exact w
section
variable{X:Cx}{Xw:Nat->Hp->Prop}{TB:List Stmt}{τ:DS}{is:List Nat}
theorem a9(h:PSDs X Xw TB τ):PSDs X Xw TB (bH is τ):=λs0 acI=>PSs.weak (h s0 acI) λD σ H ⟨F,Z,s,w⟩=>⟨F,Z,s,WPS.fgt w⟩
end
def T8:Option Sl->Option Sl
 |some (.ow c)=>some (.fz c.d)
 |x=>x
def tT(Z:bo):bo:=Z.map T8
def refA(h:Heap)(P:Addr->Prop)[DecidablePred P](H:Hp):Hp:=λb=>if P b then(H b).map (qi ((h.get? b).getD {cls:= .none,data:= .fields #[]})) else H b
theorem AW(ob:Obj)(o:HO):qi ob o=o\/((∃k,o= .dT k)\/∃k,o= .dK k)/\qi ob o= .frz ob o:=by
 cases o<;>first | exact .inl rfl | exact .inr ⟨.inl ⟨_,rfl⟩,rfl⟩ | exact .inr ⟨.inr ⟨_,rfl⟩,rfl⟩
section
variable{X:Cx}{f8:List (Addr×Obj)}{σ:St}{H:Hp}{s:We}{P:Addr->Prop}[DecidablePred P]
theorem ja{h:Heap}{b:Addr}(e:H b=none):refA h P H b=none:=by
 unfold refA;split
 ·rw[e];rfl
 ·exact e
theorem vy{h:Heap}{b:Addr}{o:HO}(e:H b=some o):refA h P H b=some o\/((∃k,o= .dT k)\/∃k,o= .dK k)/\P b/\refA h P H b=some (.frz ((h.get? b).getD {cls:= .none,data:= .fields #[]}) o):=by
 unfold refA;split
 ·rename_i hp;rw[e];rcases AW ((h.get? b).getD {cls:= .none,data:= .fields #[]}) o with q | ⟨q1,q2⟩
  ·exact .inl (by show some _=_;rw[q])
  ·exact .inr ⟨q1,hp,by show some _=_;rw[q2]⟩
 ·exact .inl e
theorem i_{h:Heap}{b:Addr}{o:HO}(e:H b=some o)(n1:∀k,o≠ .dT k)(n2:∀k,o≠ .dK k):refA h P H b=some o:=by
 rcases vy (P:=P) (h:=h) e with q | ⟨⟨k,q⟩ | ⟨k,q⟩,_⟩
 ·exact q
 ·exact acE q (n1 k)
 ·exact acE q (n2 k)
theorem Inv.refA(I:Inv X f8 σ H s):Inv X f8 σ (L3.refA s.heap P H) s:=by
 have obj:∀b o,H b=some o->((∃k,o=HO.dT k)\/∃k,o= .dK k)->∃ob,s.heap.get? b=some ob:=λb o e hu=>by
  have hk:=I.hok b o e;rcases hu with⟨k,h1⟩ | ⟨k,h1⟩
  ·subst h1;obtain⟨_,_,_,_,ob,_,_,q,_⟩:=hk;exact⟨ob,q⟩
  ·subst h1;obtain⟨_,_,_,_,ob,_,_,q,_⟩:=hk;exact⟨ob,q⟩
 refine⟨I.ok,I.os,I.bare,⟨I.base.keep,I.base.slot,λb q h1 h2 h3=>ja (I.base.free b q h1 h2 h3),I.base.there,λb xs q=>i_ (I.base.tups b xs q) (λ_ z=>nomatch z) (λ_ z=>nomatch z),
  λb q1 v q=>i_ (I.base.frzs b q1 v q) (λ_ z=>nomatch z) (λ_ z=>nomatch z),λb ps q=>?_⟩,I.loc,I.cell,ja I.free,λx c q=>ja (I.freeC x c q),λp hp=>?_,λb v q=>?_,I.len⟩
 ·obtain⟨m,this⟩:=I.base.tbls b ps q;exact⟨m,i_ this (λ_ z=>nomatch z) (λ_ z=>nomatch z)⟩
 ·obtain⟨h1,h2,h3⟩:=I.pin p hp;exact⟨h1,ja h2,h3⟩
 ·have st:∀{c:Addr}{v:HO},ObjOk X.prog X.w H s.heap c v->ObjOk X.prog X.w (L3.refA s.heap P H) s.heap c v:=λ{c v} k=>k.stay (λ_ _ _ q=>q)
   (λc' q=>i_ q (λ_ z=>nomatch z) (λ_ z=>nomatch z)) λc' xs q=>i_ q (λ_ z=>nomatch z) (λ_ z=>nomatch z)
  cases e:H b with
  |none=>rw[ja e] at q;cases q
  |some o=>
   rcases vy (P:=P) (h:=s.heap) e with z | ⟨hu,hp,z⟩
   ·rw[z] at q;cases q;exact st (I.hok b _ e)
   ·rw[z] at q;cases q;obtain⟨ob,OL⟩:=obj b o e hu;rw[OL];exact⟨OL,st (I.hok b o e)⟩
def unA(P:Addr->Prop)[DecidablePred P](H:Hp):Hp:=λb=>if P b then(match H b with | some (.frz _ u)=>some u | x=>x) else H b
theorem Inv.unA(I:Inv X f8 σ H s)(hP:∀b,P b->∀o u,X.acI b≠some (.frz o u))(hQ:∀b,P b->∀o u,H b=some (.frz o u)->(∃k,u= .dT k)\/∃k,u= .dK k):Inv X f8 σ (L3.unA P H) s:=by
 have non:∀b,H b=none->L3.unA P H b=none:=λb e=>by unfold L3.unA;rw[e];split<;>rfl
 have keep:∀b o,H b=some o->(∀q u,o≠ .frz q u)->L3.unA P H b=some o:=λb o e n=>by
  unfold L3.unA;split
  ·rw[e];cases o<;>first | rfl | exact acE rfl (n _ _)
  ·exact e
 refine⟨I.ok,I.os,I.bare,⟨I.base.keep,I.base.slot,λb q h1 h2 h3=>non b (I.base.free b q h1 h2 h3),I.base.there,λb xs q=>keep b _ (I.base.tups b xs q) (λ_ _ z=>nomatch z),
  λb q1 v q=>?_,λb ps q=>?_⟩,I.loc,I.cell,non _ I.free,λx c q=>non _ (I.freeC x c q),λp hp=>?_,λb v q=>?_,I.len⟩
 ·have:=I.base.frzs b q1 v q;unfold L3.unA;rw[acz (λhp=>hP b hp q1 v q)];exact this
 ·obtain⟨m,this⟩:=I.base.tbls b ps q;exact⟨m,keep b _ this (λ_ _ z=>nomatch z)⟩
 ·obtain⟨h1,h2,h3⟩:=I.pin p hp;exact⟨h1,non _ h2,h3⟩
 ·have st:∀{c:Addr}{v:HO},ObjOk X.prog X.w H s.heap c v->ObjOk X.prog X.w (L3.unA P H) s.heap c v:=λ{c v} k=>k.stay (λ_ _ _ q=>q)
   (λc' q=>keep c' _ q (λ_ _ z=>nomatch z)) λc' xs q=>keep c' _ q (λ_ _ z=>nomatch z)
  cases e:H b with
  |none=>rw[non b e] at q;cases q
  |some o=>
   have ko:=I.hok b o e;by_cases hf:∃ob u,o= .frz ob u
   ·obtain⟨ob,u,rfl⟩:=hf;unfold L3.unA at q;split at q
    ·rw[e] at q;cases q;obtain⟨_,k2⟩:=ko;exact st k2
    ·rw[e] at q;cases q;exact st ko
   ·rw[keep b o e (λq u z=>hf ⟨q,u,z⟩)] at q;cases q;exact st ko
end
mutual
def yR:D->Bool
 | .non=>true
 | .bl _=>true
 | .int _=>true
 | .str _=>true
 | .tup ds=>Cc ds
 | .raw _=>false
 | .exc _=>false
 | .scr _=>false
 | .lst _=>false
 | .dct _ _=>false
 | .dci _ _=>false
def Cc:List D->Bool
 |[]=>true
 |d::ds=>yR d&&Cc ds
end
def rh(d:D):M D:=if yR d then ae d else ah
def OwnAt(σ:St)(Z:bo)(b:Addr):Prop:=∃(i:Nat) (c:C),Z[i]? =some (some (Sl.ow c))/\σ[i]? =some (some (V.ref b))
section
variable{K:Wn}{F H F' H':Hp}{σ:St}{Z:bo}{h:Heap}{b:Addr}
theorem OwnAt.obj(S:StE K F H σ Z)(p:OwnAt σ Z b):F b=none/\∃o,H b=some o/\((∃x,o= .lst x)\/(∃x,o= .dT x)\/∃x,o= .dK x):=by
 obtain⟨i,c,h1,h2⟩:=p;obtain⟨v,h3,a,o,rfl,h4,h5,h6⟩:=S.den i _ h1;rw[h3] at h2;cases h2;refine⟨h5,o,h4,?_⟩;cases c with
 |lst ds=>obtain⟨vs,rfl,_⟩:=h6;exact .inl ⟨_,rfl⟩
 |dct ks ds=>obtain⟨vs,rfl,_⟩:=h6;exact .inr (.inl ⟨_,rfl⟩)
 |dci ks ds=>obtain⟨vs,rfl,_⟩:=h6;exact .inr (.inr ⟨_,rfl⟩)
open Classical in
noncomputable def fA(σ:St)(Z:bo)(H1 F:Hp):Hp:=λb=>if OwnAt σ Z b then H1 b else F b
open Classical in
theorem Cb(S:StE K F H σ Z){H1:Hp}:Same F (fA σ Z H1 F):=λb u e=>by
 unfold fA;rw[acz (λp=>by rw[(OwnAt.obj S p).1] at e;cases e)];exact e
open Classical in
theorem AV(S:StE K F H σ Z):StE K (fA σ Z (refA h (OwnAt σ Z) H) F) (refA h (OwnAt σ Z) H) σ (tT Z):=by
 refine⟨λb u e=>?_,λj sl e=>?_⟩
 ·unfold fA at e;split at e
  ·exact e
  ·rename_i hp;unfold refA;rw[acz hp];exact S.fh b u e
 ·unfold tT at e;rw[Wz] at e;cases q:Z[j]? with
  |none=>rw[q] at e;cases e
  |some x=>
   rw[q] at e;cases x with
   |none=>cases e
   |some y=>
    cases y with
    |fz d=>
     cases e;obtain⟨v,h1,h2⟩:=S.den j _ q;exact⟨v,h1,Den.mono (Cb S) h2⟩
    |ow c=>
     cases e;obtain⟨v,h1,a,o,rfl,h4,h5,h6⟩:=S.den j _ q;refine⟨_,h1,DenC.den (ob:=(h.get? a).getD {cls:= .none,data:= .fields #[]}) h6 (Cb S) ?_⟩;have hp:OwnAt σ Z a:=⟨j,c,q,h1⟩
     unfold fA refA;rw[acy hp,acy hp,h4];rfl
open Classical in
theorem rj(S:StE K F H σ Z)(E:Ext (fA σ Z (refA h (OwnAt σ Z) H) F) (refA h (OwnAt σ Z) H) F' H'):
 Ext F H (λb=>if OwnAt σ Z b then none else F' b) (unA (OwnAt σ Z) H')/\∀b,OwnAt σ Z b->∀o u,H' b=some (.frz o u)->(∃k,u= .dT k)\/∃k,u= .dK k:=by
 have Su:∀b,OwnAt σ Z b->∃o,H b=some o/\H' b=some (qi ((h.get? b).getD {cls:= .none,data:= .fields #[]}) o)/\((∃x,o= .lst x)\/(∃x,o= .dT x)\/∃x,o= .dK x):=λb hp=>by
  obtain⟨_,o,h1,h2⟩:=OwnAt.obj S hp;refine⟨o,h1,E.hh b _ ?_,h2⟩;unfold refA;rw[acy hp,h1];rfl
 refine⟨⟨λb o e=>?_,λb u e=>?_,λb u e=>?_,λb hb=>?_⟩,λb hp o u e=>?_⟩
 ·unfold unA;by_cases hp:OwnAt σ Z b
  ·obtain⟨o',h1,h2,h3⟩:=Su b hp;rw[e] at h1;cases h1;rw[acy hp,h2];rcases h3 with⟨x,rfl⟩ | ⟨x,rfl⟩ | ⟨x,rfl⟩<;>rfl
  ·rw[acz hp];refine E.hh b o ?_;unfold refA;rw[acz hp];exact e
 ·have hp:¬OwnAt σ Z b:=λp=>by rw[(OwnAt.obj S p).1] at e;cases e
  show (if OwnAt σ Z b then none else F' b)=_;rw[acz hp];refine E.ff b u ?_;unfold fA;rw[acz hp];exact e
 ·have e:(if OwnAt σ Z b then none else F' b)=some u:=e;split at e
  ·cases e
  ·rename_i hp;unfold unA;rw[acz hp];exact E.fh b u e
 ·show (if OwnAt σ Z b then none else F' b)=F b\/_;by_cases hp:OwnAt σ Z b
  ·rw[acy hp];exact .inl (OwnAt.obj S hp).1.symm
  ·rw[acz hp];have e1:refA h (OwnAt σ Z) H b=H b:=by unfold refA;rw[acz hp]
   have e2:fA σ Z (refA h (OwnAt σ Z) H) F b=F b:=by unfold fA;rw[acz hp]
   rcases E.new b (by rw[e1];exact hb) with q | q
   ·exact .inl (q.trans e2)
   ·rw[e1] at q;exact .inr q
 ·obtain⟨o',h1,h2,h3⟩:=Su b hp;rw[e] at h2;rcases h3 with⟨x,rfl⟩ | ⟨x,rfl⟩ | ⟨x,rfl⟩
  ·cases h2
  ·cases h2;exact .inl ⟨_,rfl⟩
  ·cases h2;exact .inr ⟨_,rfl⟩
open Classical in
mutual
theorem yT(S:StE K F H σ Z)(E:Ext (fA σ Z (refA h (OwnAt σ Z) H) F) (refA h (OwnAt σ Z) H) F' H'):∀{d:D}{v:V},yR d=true->Den K F' d v->Den K (λb=>if OwnAt σ Z b then none else F' b) d v
 | .non,_,_,q=>q
 | .bl _,_,_,q=>q
 | .int _,_,_,q=>q
 | .str _,_,_,q=>q
 | .tup ds,_,f,⟨a,vs,h1,h2,h3,h4⟩=>by
   refine⟨a,vs,h1,?_,uT S E ?_ h3,h4⟩
   ·show (if OwnAt σ Z a then none else F' a)=_;rw[acz,h2];intro hp;obtain⟨_,o,k1,k2⟩:=OwnAt.obj S hp;have k3:fA σ Z (refA h (OwnAt σ Z) H) F a=some (qi ((h.get? a).getD {cls:= .none,data:= .fields #[]}) o):=by
     unfold fA refA;rw[acy hp,acy hp,k1];rfl
    have k4:=E.ff a _ k3;rw[h2] at k4;rcases k2 with⟨x,rfl⟩ | ⟨x,rfl⟩ | ⟨x,rfl⟩<;>cases k4
   ·exact f
 | .raw _,_,f,_=>by cases f
 | .exc _,_,f,_=>by cases f
 | .scr _,_,f,_=>by cases f
 | .lst _,_,f,_=>by cases f
 | .dct _ _,_,f,_=>by cases f
 | .dci _ _,_,f,_=>by cases f
theorem uT(S:StE K F H σ Z)(E:Ext (fA σ Z (refA h (OwnAt σ Z) H) F) (refA h (OwnAt σ Z) H) F' H'):∀{ds:List D}{vs:List V},Cc ds=true->DenL K F' ds vs->DenL K (λb=>if OwnAt σ Z b then none else F' b) ds vs
 |[],_,_,q=>q
 |d::ds,_,f,⟨v,r,h1,h2,h3⟩=>by
  unfold Cc at f;rw[Wv] at f;exact⟨v,r,h1,yT S E f.1 h2,uT S E f.2 h3⟩
end
end
section
variable{X:Cx}{Xw:Nat->Hp->Prop}{e:Expr}{δ:DE}{τ:DT}
theorem oH{f8:List (Addr×Obj)}{s:We}{F H:Hp}{σ:St}{Z:bo}(I:Inv X f8 σ H s)(S:StE X.K F H σ Z)(b:Addr)(p:OwnAt σ Z b)(o:Obj)(u:HO):X.acI b≠some (.frz o u):=λz=>by
 obtain⟨_,o',k1,k2⟩:=OwnAt.obj S p;have:=I.base.frzs b o u z;rw[k1] at this;rcases k2 with⟨x,rfl⟩ | ⟨x,rfl⟩ | ⟨x,rfl⟩<;>cases this
theorem lW{α:Type}(m:M α):noex m=ah\/∃a,m=ae a/\noex m=ae a:=by
 rcases m.cs with h | ⟨n,h⟩ | ⟨a,h⟩
 ·subst h;exact .inl rfl
 ·subst h;exact .inl rfl
 ·subst h;exact .inr ⟨a,rfl,rfl⟩
theorem sI(h:qe X Xw e τ):qe X Xw e (λZ=>noex (τ (tT Z))):=λf8 s σ H Q I ⟨F,Z,S,w⟩=>by
 classical
 rcases lW (τ (tT Z)) with q | ⟨b,q,q2⟩
 ·have w:WPB Xw F H (noex (τ (tT Z))) Q:=w;rw[q] at w;exact w.elim
 ·have w:WPB Xw F H (noex (τ (tT Z))) Q:=w;rw[q2] at w;refine cV (h f8 s σ _ (λb' H'=>Q b' (unA (OwnAt σ Z) H')/\∀c,OwnAt σ Z c->∀o u,H' c=some (.frz o u)->(∃k,u= .dT k)\/∃k,u= .dK k) (Inv.refA (P:=OwnAt σ Z) I) ⟨_,_,AV (h:=s.heap) S,?_⟩) λb' s' ⟨H',I',q1,q3⟩=>⟨_,Inv.unA I' (oH I S) q3,q1⟩
  rw[q];intro H' F' E;obtain⟨E1,q3⟩:=rj S E;exact⟨w _ _ E1,q3⟩
theorem K8(h:PD X Xw e δ):PD X Xw e (λZ=>noex (δ (tT Z))>>=rh):=λf8 s σ H Q I ⟨F,Z,S,w⟩=>by
 classical
 rcases lW (δ (tT Z)) with q | ⟨d,q,q2⟩
 ·have w:WP X.K Xw F H (noex (δ (tT Z))>>=rh) Q:=w;rw[q] at w;exact w.elim
 ·have w:WP X.K Xw F H (noex (δ (tT Z))>>=rh) Q:=w;rw[q2,ay] at w;unfold rh at w;split at w
  ·rename_i hf;refine cV (h f8 s σ _ (λv H'=>Q v (unA (OwnAt σ Z) H')/\∀c,OwnAt σ Z c->∀o u,H' c=some (.frz o u)->(∃k,u= .dT k)\/∃k,u= .dK k) (Inv.refA (P:=OwnAt σ Z) I) ⟨_,_,AV (h:=s.heap) S,?_⟩) λb' s' ⟨v,H',I',rv,q1,q3⟩=>⟨v,_,Inv.unA I' (oH I S) q3,rv,q1⟩
   rw[q];intro v H' F' E dn;obtain⟨E1,q3⟩:=rj S E;exact⟨w _ _ _ E1 (yT S E hf dn),q3⟩
  ·exact w.elim
end
abbrev DF:=bo->M C
def WPF(K:Wn)(Xw:Nat->Hp->Prop)(F H:Hp)(m:M C)(Q:VK):Prop:=
 match m with
 |none=>False
 |some (.ok c)=>∀a o H' F',Ext F H F' H'->H' a=some o->F' a=none->H a=none->DenC K F' c o->Q (.ref a) H'
 |some (.ex n)=>∀F' H',Ext F H F' H'->Xw n H'
def VF(K:Wn)(Xw:Nat->Hp->Prop)(δ:DF):TE:=λσ H Q=>∃F Z,StE K F H σ Z/\WPF K Xw F H (δ Z) Q
def Li(X:Cx)(Xw:Nat->Hp->Prop)(e:Expr)(δ:DF):Prop:=PE X e (VF X.K Xw δ)
def pX(i:Nat)(δ:DF):DS:=λZ=>δ Z>>=λc=>ae (.nx (Z.set i (some (.ow c))))
theorem StOk.setFresh{K:Wn}{s0 acI F H F' H':Hp}{σ:St}{Z:bo}(s:StOk K s0 acI F H σ Z){i:Nat}{a:Addr}{o:HO}{c₀:C}(E:Ext F H F' H')(ho:H' a=some o)(nF:F' a=none)(n:H a=none)(h:DenC K F' c₀ o):
 StOk K s0 acI F' H' (σ.set i (some (.ref a))) (Z.set i (some (.ow c₀))):=by
 have hle:=s.len;have get:∀(j:Nat) (sl:Sl),(Z.set i (some (.ow c₀)))[j]? =some (some sl)->(j=i/\i<Z.length/\sl= .ow c₀)\/(j≠i/\Z[j]? =some (some sl)):=λj sl e=>by
  by_cases hj:j=i
  ·subst hj;have hi:j<Z.length:=by
    have:=(Wy.mp e).1;simpa using this
   rw[WG hi] at e;cases e;exact .inl ⟨rfl,hi,rfl⟩
  ·rw[Wx (Xq hj)] at e;exact .inr ⟨hj,e⟩
 have old:∀(j:Nat) (c:C) (b:Addr),Z[j]? =some (some (.ow c))->σ[j]? =some (some (.ref b))->b≠a:=λj c b e e' z=>by
  obtain⟨u,h1,b',o,h2,h3,_⟩:=s.st.den j _ e;rw[h1] at e';cases e';cases h2;rw[z,n] at h3;cases h3
 refine⟨s.ext.trans E,⟨E.fh,λj sl e=>?_⟩,by simp[hle],λj c b e e'=>?_,λj k c c' b e1 e2 e3 e4=>?_⟩
 ·rcases get j sl e with⟨rfl,hi,rfl⟩ | ⟨hj,e⟩
  ·exact⟨.ref a,by rw[WG (by omega)],a,_,rfl,ho,nF,h⟩
  ·obtain⟨u,h1,h2⟩:=s.st.den j sl e;exact⟨u,by rw[Wx (Xq hj)];exact h1,h2.ext E⟩
 ·rcases get j _ e with⟨rfl,hi,_⟩ | ⟨hj,e⟩
  ·rw[WG (by omega)] at e';cases e';exact Same.free s.ext.hh n
  ·rw[Wx (Xq hj)] at e';exact s.own j c b e e'
 ·rcases get j _ e1 with⟨rfl,hi,_⟩ | ⟨hj,e1⟩
  ·rw[WG (by omega)] at e3;cases e3;rcases get k _ e2 with⟨rfl,_,_⟩ | ⟨hk,e2⟩
   ·rfl
   ·rw[Wx (Xq hk)] at e4;exact acE rfl (old k c' a e2 e4)
  ·rcases get k _ e2 with⟨Rc,hi,_⟩ | ⟨hk,e2⟩
   ·rw[Rc,WG (by omega)] at e4;cases e4;rw[Wx (Xq hj)] at e3;exact acE rfl (old j c a (by assumption) e3)
   ·rw[Wx (Xq hj)] at e3;rw[Wx (Xq hk)] at e4;exact s.sep j k c c' b e1 e2 e3 e4
theorem WPF.mono{K:Wn}{Xw:Nat->Hp->Prop}{F H:Hp}{m:M C}{Q Q':VK}(h:WPF K Xw F H m Q)(k:∀v H',Q v H'->Q' v H'):WPF K Xw F H m Q':=by
 match m,h with
 |none,h=>exact h
 |some (.ok d),h=>exact λa o H' F' e h1 h2 h3 h4=>k _ _ (h a o H' F' e h1 h2 h3 h4)
 |some (.ex n),h=>exact h
theorem WPF.ext{K:Wn}{Xw:Nat->Hp->Prop}{F H F1 H1:Hp}{m:M C}{Q:VK}(e:Ext F H F1 H1)(h:WPF K Xw F H m Q):WPF K Xw F1 H1 m Q:=by
 match m,h with
 |none,h=>exact h
 |some (.ok d),h=>exact λa o H' F' e' h1 h2 h3 h4=>h a o H' F' (e.trans e') h1 h2 (Same.free e.hh h3) h4
 |some (.ex n),h=>exact λF2 H2 e2=>h F2 H2 (e.trans e2)
theorem WPF.bind{K:Wn}{Xw:Nat->Hp->Prop}{F H:Hp}{m:M D}{k:D->M C}{Q:VK}(h:WPF K Xw F H (m>>=k) Q):WP K Xw F H m λv H1=>∃F1 d,Ext F H F1 H1/\Den K F1 d v/\WPF K Xw F1 H1 (k d) Q:=by
 match m,h with
 |none,h=>exact h
 |some (.ok d),h=>exact λv H2 F2 e2 q=>⟨F2,d,e2,q,WPF.ext e2 (show WPF K Xw F H (k d) Q from h)⟩
 |some (.ex n),h=>exact h
theorem WPF.bindL{K:Wn}{Xw:Nat->Hp->Prop}{F H:Hp}{m:M (List D)}{k:List D->M C}{Q:VK}(h:WPF K Xw F H (m>>=k) Q):WPL K Xw F H m λv H1=>∃F1 d,Ext F H F1 H1/\DenL K F1 d v/\WPF K Xw F1 H1 (k d) Q:=by
 match m,h with
 |none,h=>exact h
 |some (.ok d),h=>exact λv H2 F2 e2 q=>⟨F2,d,e2,q,WPF.ext e2 (show WPF K Xw F H (k d) Q from h)⟩
 |some (.ex n),h=>exact h
def LF(a b:DF):DF:=λZ=>orM (a Z) (b Z)
section
variable{X:Cx}{Xw:Nat->Hp->Prop}{e k v a b:Expr}{es:List Expr}{δ δ':DF}{pos pos' p:Pos}{x:Str}{i:Nat}
theorem JH(h:Li X Xw e δ)(h':Li X Xw e δ'):Li X Xw e (LF δ δ'):=λf8 s σ H Q I ⟨F,Z,S,w⟩=>by
 unfold LF orM at w;cases q:δ Z with
 |none=>rw[q] at w;exact h' f8 s σ H Q I ⟨F,Z,S,w⟩
 |some r=>rw[q] at w;exact h f8 s σ H Q I ⟨F,Z,S,by rw[q];exact w⟩
theorem sN(hN:X.N.Nodup)(hi:X.N[i]? =some x)(hx:Loc X.env.scope x)(he:Li X Xw e δ)(hf:X.fn x=true\/X.env.scope.names.lookup x=some .local:=by first | exact .inl rfl | exact .inr rfl)
 (hs:aaU [.Name x pos'] e pos.line X.env=pure false:=by rfl):
 gM X Xw (.Assign [.Name x pos'] e pos) (pX i δ):=λs0 acI=>PS.weak (sM he (bb hN hi hx hf) hs) λD σ H ⟨F,Z,s,w⟩=>by
 refine⟨F,Z,s.st,?_⟩;unfold pX at w
 match δ Z,w with
 |none,w=>exact w
 |some (.ok c),w=>exact λa o H' F' E h1 h2 h3 h4=>w _ F' H' (s.setFresh E h1 h2 h3 h4)
 |some (.ex n),w=>exact λF' H' e'=>w F' H' (s.ext.trans e')
theorem Ext.fresh{F H:Hp}{p:Addr}{o:HO}(s:Same F H)(hp:H p=none):Ext F H F (upd H p o)/\F p=none:=⟨Ext.free s hp,Same.free s hp⟩
theorem Oc{f8:List (Addr×Obj)}{σ:St}{H H':Hp}{s:We}{a:Addr}{y v:V}{u r:Value}{A:WX}{E:Value->We->Prop}{Q:Unit->We->Prop}(hu:A.units+1<cLine)(I:Inv X f8 σ H s)(g:DPut H a y v H')(ry:RelV y u)(rv:RelV v r)(h:∀s',Inv X f8 σ H' s'->Q () s'):
 wpAny (model X.prog X.w) A (dictSet a u r) Q E s:=by
 rcases g with⟨aI,k,e,ey,l,eH⟩ | ⟨aI,k,b,e,ey,eb,l,eH⟩
 ·subst ey eH;obtain⟨z,hd,vs,rel,dd⟩:=KA I.hok e;have hz:vs.length<=WB:=by rw[<-rel.length];exact z
  have hl:(putK aI k v).length<=WB:=by have:=gf aI k v;omega
  refine wpAny_dictSet_pairs (hsz:=hz) (pz ry) dd λh' DJ hs=>h _ ?_;have he:∃q,h'.get? a=some q:=let ⟨q,_,_,hq,_⟩:=DJ;⟨q,hq⟩
  exact mn I (by rw[e];exact XH) hs he (Fq hl hd (rel.put k rv) DJ)
 ·subst ey eH;cases (show u=WT b from ry);obtain⟨z,hd,xs,rel,dd⟩:=Fs I.hok e;have hz:xs.length<=WB:=by rw[<-Yi rel];exact z
  have hl:(putK aI k v).length<=WB:=by have:=gf aI k v;omega
  refine wpAny_dictSet_heap (knd:=Ye (bp X.prog X.w)) (hsz:=hz) (by exact(show A.units<cLine by omega)) (jq I.hok eb) dd λh' DJ hs=>h _ ?_;obtain⟨q,es,ep,hq,h2,h3,h4,_,h5⟩:=DJ;refine mn I (by rw[e];exact XH) hs ⟨q,hq⟩ ⟨hl,hd,_,(rel.put k eb rv).keeps λc ys ec=>?_,q,es,ep,hq,h2,h3,h4,h5⟩;rw[aE (Gj ec e (λz=>nomatch z))];exact ec
end
section
variable{X:Cx}{Xw:Nat->Hp->Prop}{e k v a b:Expr}{es:List Expr}{δk δv δa δb:DE}{pos p:Pos}{x:Str}{i:Nat}
theorem yN{o0:HO}{put:Hp->Addr->V->V->Hp->Prop}(hu:X.A.units+1<cLine)(h0:∀(H:Hp) (h:Heap),XQ<h.objs.size->ObjOk X.prog X.w H (h.push {cls:= .type "dict",data:= .dict #[]}) h.objs.size o0){tk tv:TE}(hk:PE X k tk)(hv:PE X v tv):
 PE X (.Dict [some k] [v] pos) (λσ H Q=>∀p,H p=none->tk σ (upd H p o0) λy H1=>tv σ H1 λz H2=>∃H3,DPut H2 p y z H3/\Q (.ref p) H3):=by
 intro f8 s σ H Q I q;have hn:=I.hok.fresh (Wr s.heap.objs.size);have I1:=I.laid (a:=s.heap.objs.size) (o:=o0) (h':=s.heap.push {cls:= .type "dict",data:= .dict #[]}) (t':=s.toks) (λ_ _ q=>Wg _ q) (Wr _) (h0 _ s.heap I.big);refine wpAny_Dict_any rfl rfl (by simp) (by simp) (cV (G5 hk hv JQ f8 _ σ _ (λps H2=>∃y z H3,ps=[(y,z)]/\DPut H2 s.heap.objs.size y z H3/\Q (.ref s.heap.objs.size) H3) I1 ?_) λws s2 ⟨ps,H2,I2,rel,y,z,H3,ep,g,q2⟩=>?_)
 ·refine ?_;have:=q _ hn;show tk σ _ λy H1=>tv σ H1 λz H2=>∃y' z' H3,[(y,z)]=[(y',z')]/\DPut H2 s.heap.objs.size y' z' H3/\Q (.ref s.heap.objs.size) H3;have e:(λ(y:V) (H1:Hp)=>tv σ H1 λz H2=>∃y' z' H3,[(y,z)]=[(y',z')]/\DPut H2 s.heap.objs.size y' z' H3/\Q (.ref s.heap.objs.size) H3)=(λy H1=>tv σ H1 λz H2=>∃H3,DPut H2 s.heap.objs.size y z H3/\Q (.ref s.heap.objs.size) H3):=by
   funext y H1;congr 1;funext z H2;refine propext ⟨λ⟨y',z',H3,ee,r⟩=>?_,λ⟨H3,r⟩=>⟨y,z,H3,rfl,r⟩⟩;cases ee;exact⟨H3,r⟩
  rw[e];exact this
 ·subst ep;cases rel with
  | @cons a b as bs h t=>
    cases t;obtain⟨r1,r2⟩:=h;unfold storeAll;rw[aa1];refine Wb (Wb (Oc hu I2 g r1 r2 λs3 I3=>?_));refine Wk ?_;show wpAny _ _ (forIn ([]:List (Value×Value)) Y8 _) _ _ _;rw[List.forIn_nil];exact Wk ⟨V.ref s.heap.objs.size,_,I3,rfl,q2⟩
def rf(k v:D):M C:=match eV k with
 |some kk=>ae (.dct [kk] [v])
 |none=>ah
def uR(k v:D):M C:=match wG k with
 |some kk=>ae (.dci [kk] [v])
 |none=>ah
theorem vv(hu:X.A.units+64<cLine)(hk:PD X Xw k δk)(hv:PD X Xw v δv):Li X Xw (.Dict [some k] [v] pos) (λZ=>δk Z>>=λx=>δv Z>>=λy=>rf x y):=
 PE.weak (yN (o0:= .dT []) (put:=DPut) (by omega) (λH h hb=>yP h hb) hk hv) λσ H Q ⟨F,Z,s,w⟩ q hq=>by
  have e0:=Ext.free (o:= .dT []) s.fh hq;refine⟨F,Z,s.ext e0,?_⟩;have w:WPF X.K Xw F H (δk Z>>=λx=>δv Z>>=λy=>rf x y) Q:=w
  match FO:δk Z,w with
  |none,w=>exact w
  |some (.ex n),w=>exact λF' H' e'=>w F' H' (e0.trans e')
  |some (.ok kd),w=>
   intro y H1 F1 e1 q1;refine⟨F1,Z,(s.ext e0).ext e1,?_⟩;have w:WPF X.K Xw F H (δv Z>>=λy=>rf kd y) Q:=w
   match Qr:δv Z,w with
   |none,w=>exact w
   |some (.ex n),w=>exact λF' H' e'=>w F' H' (e0.trans (e1.trans e'))
   |some (.ok vd),w=>
    intro z H2 F2 e2 q2;have w3:WPF X.K Xw F H (rf kd vd) Q:=w;clear w;unfold rf at w3;cases Ci:eV kd with
    |none=>rw[Ci] at w3;exact w3.elim
    |some kk=>
     rw[Ci] at w3;have E:=e1.trans e2;have OO:H2 q=some (.dT []):=E.hh _ _ aQ;have Ot:F2 q=none:=by
      have:=E.old (a:=q) (o:= .dT []) aQ (λ_ z=>nomatch z);rw[this];exact Same.free s.fh hq
     unfold eV at Ci;split at Ci
     ·rename_i es;obtain⟨b,ws,rfl,k2,k3,_⟩:=Den.mono e2.ff q1;have e5:=iX Ci k3;subst e5;refine⟨_,DPut.t (k:=kk) OO (e2.fh _ _ k2) (by rw[Yq];decide),?_⟩;refine w3 q (.dT (putK [] kk z)) _ F2 ⟨λc u hc=>?_,(e0.trans E).ff,λc u hc=>?_,(e0.trans E).new⟩ aQ Ot hq ⟨[z],rfl, .cons q2 .nil,rfl,show 1<=lim by decide⟩
      ·rw[aE (λzz=>by rw[zz,hq] at hc;cases hc)];exact(e0.trans E).hh c u hc
      ·rw[aE (λzz=>by rw[zz,Ot] at hc;cases hc)];exact e2.fh c u hc
     ·cases Ci
theorem Ez(hu:X.A.units+64<cLine)(hk:PD X Xw k δk)(hv:PD X Xw v δv):Li X Xw (.Dict [some k] [v] pos) (λZ=>δk Z>>=λx=>δv Z>>=λy=>uR x y):=
 PE.weak (yN (o0:= .dK []) (put:=DPut) (by omega) (λH h hb=>Fp h hb) hk hv) λσ H Q ⟨F,Z,s,w⟩ q hq=>by
  have e0:=Ext.free (o:= .dK []) s.fh hq;refine⟨F,Z,s.ext e0,?_⟩;have w:WPF X.K Xw F H (δk Z>>=λx=>δv Z>>=λy=>uR x y) Q:=w
  match FO:δk Z,w with
  |none,w=>exact w
  |some (.ex n),w=>exact λF' H' e'=>w F' H' (e0.trans e')
  |some (.ok kd),w=>
   intro y H1 F1 e1 q1;refine⟨F1,Z,(s.ext e0).ext e1,?_⟩;have w:WPF X.K Xw F H (δv Z>>=λy=>uR kd y) Q:=w
   match Qr:δv Z,w with
   |none,w=>exact w
   |some (.ex n),w=>exact λF' H' e'=>w F' H' (e0.trans (e1.trans e'))
   |some (.ok vd),w=>
    intro z H2 F2 e2 q2;have w3:WPF X.K Xw F H (uR kd vd) Q:=w;clear w;unfold uR at w3;cases Ci:wG kd with
    |none=>rw[Ci] at w3;exact w3.elim
    |some kk=>
     rw[Ci] at w3;have E:=e1.trans e2;have OO:H2 q=some (.dK []):=E.hh _ _ aQ;have Ot:F2 q=none:=by
      have:=E.old (a:=q) (o:= .dK []) aQ (λ_ z=>nomatch z);rw[this];exact Same.free s.fh hq
     have e5:=mJ Ci (Den.mono e2.ff q1);subst e5;refine⟨_,DPut.k (k:=kk) OO (by rw[Yq];decide),?_⟩;refine w3 q (.dK (putK [] kk z)) _ F2 ⟨λc u hc=>?_,(e0.trans E).ff,λc u hc=>?_,(e0.trans E).new⟩ aQ Ot hq ⟨[z],rfl, .cons q2 .nil,rfl,show 1<=lim by decide⟩
     ·rw[aE (λzz=>by rw[zz,hq] at hc;cases hc)];exact(e0.trans E).hh c u hc
     ·rw[aE (λzz=>by rw[zz,Ot] at hc;cases hc)];exact e2.fh c u hc
theorem vR{K:Wn}{F H:Hp}{d k:D}{x y:V}{o:Option D}(s:Same F H)(hd:Den K F d x)(hk:Den K F k y)(e:EL d k=some o):
 ∃a ov,x= .ref a/\lK H a y ov/\ov.isSome=o.isSome/\∀d',o=some d'->∃v,ov=some v/\Den K F d' v:=by
 obtain⟨a,ov,h1,h2,h3,h4⟩:=B2 (σ:=[some x]) (Z:=[some (.fz d)]) (i:=0) (H:=H) ⟨s,λi sl q=>by
  match i,q with
  |0,q=>cases q;exact⟨x,rfl,hd⟩
  |i+1,q=>simp at q⟩ rfl hk e
 cases h1;exact⟨a,ov,rfl,h2,h3,h4⟩
def gm(neg:Bool)(k d:D):M D:=match EL d k with
 |some o=>ae (.bl (if neg then !o.isSome else o.isSome))
 |none=>ah
def Nm(neg:Bool):R2:=λy x H Q=>∃a o,x= .ref a/\lK H a y o/\Q (.bl (if neg then !o.isSome else o.isSome)) H
theorem MH(hu:X.A.units+64<cLine):OpR X (Xh .In) (Nm false):=λf8 s σ H y x v u Q I ry rx ⟨a,o,ex,g,q⟩=>by
 subst ex;obtain rfl:u=WT a:=rx;exact Ob (by omega) I g ry λs' I'=>⟨.bl o.isSome,_,I',rfl,q⟩
theorem Et(hu:X.A.units+64<cLine):OpR X (Xh .NotIn) (Nm true):=λf8 s σ H y x v u Q I ry rx ⟨a,o,ex,g,q⟩=>by
 subst ex;obtain rfl:u=WT a:=rx;exact Iq (by omega) I g ry λs' I'=>⟨.bl (!o.isSome),_,I',rfl,q⟩
theorem CM{K:Wn}{neg:Bool}:yn K (Nm neg) (gm neg):=λXw F H y x dk dd Q s hk hd w=>by
 unfold gm at w;cases he:EL dd dk with
 |none=>rw[he] at w;exact w.elim
 |some o=>
  rw[he] at w;obtain⟨a,ov,h1,h2,h3,_⟩:=vR s hd hk he;refine⟨a,ov,h1,h2,?_⟩;rw[h3];exact WP.now w s rfl
theorem G_(hu:X.A.units+64<cLine)(ha:PD X Xw a δa)(hb:PD X Xw b δb)(hm:Xv .In b=false:=by rfl):qe X Xw (.Compare a [.In] [b] pos) (cE (d2 (gm false) δa δb)):=gz (MH hu) CM ha hb hm
theorem kW(hu:X.A.units+64<cLine)(ha:PD X Xw a δa)(hb:PD X Xw b δb)(hm:Xv .NotIn b=false:=by rfl):qe X Xw (.Compare a [.NotIn] [b] pos) (cE (d2 (gm true) δa δb)):=gz (Et hu) CM ha hb hm
def c8(d k:D):M D:=match EL d k with
 |some (some v)=>ae v
 |_=>ah
theorem iG(hu:X.A.units+64<cLine)(ha:PD X Xw a δa)(hb:PD X Xw b δb)(hs:Lg b:=by intro _ _;rfl):PD X Xw (.Subscript a b pos) (d2 c8 δa δb):=
 PE.weak (JM (by omega) ha hb hs) λσ H Q ⟨F,Z,s,w⟩=>by
  refine⟨F,Z,s,WP.mono (WP.bind w) λx H1 ⟨F1,d,e1,q1,w1⟩=>?_⟩;refine⟨F1,Z,s.ext e1,WP.mono (WP.bind w1) λy H2 ⟨F2,k,e2,q2,w2⟩=>?_⟩;unfold c8 at w2;cases he:EL d k with
  |none=>rw[he] at w2;exact w2.elim
  |some o=>
   cases o with
   |none=>rw[he] at w2;exact w2.elim
   |some d'=>
    rw[he] at w2;obtain⟨a,ov,h1,h2,h3,h4⟩:=vR e2.fh (Den.mono e2.ff q1) q2 he;obtain⟨v,rfl,hd⟩:=h4 d' rfl;exact⟨a,v,h1,h2,WP.now w2 e2.fh hd⟩
end
def Jc:Key->D
 | .inl i=> .int i
 | .inr x=> .str x
def Kr(H:Hp)(d:Addr)(od:Obj)(i:Nat)(x:V):Prop:=
 (∃aI k b,H d=some (.frz od (.dT aI))/\(aI.map (·.1))[i]? =some k/\x= .ref b/\H b=some (.tup (k.map kV)))\/
 ∃aI k,H d=some (.frz od (.dK aI))/\(aI.map (·.1))[i]? =some k/\x=kV k
def Sm(d:Addr)(od:Obj):It:=
 ⟨λi H=>(∃aI,H d=some (.frz od (.dT aI))/\i<aI.length)\/∃aI,H d=some (.frz od (.dK aI))/\i<aI.length,λi H x H'=>H'=H/\Kr H d od i x,
  λi H=>(∃aI,H d=some (.frz od (.dT aI))/\aI.length<=i)\/∃aI,H d=some (.frz od (.dK aI))/\aI.length<=i⟩
theorem pV{α β γ:Type}{R:α->β->Prop}{f:α->γ}{g:β->γ}(h:∀a b,R a b->f a=g b):∀{l:List α}{m:List β},aaL R l m->l.map f=m.map g
 |_,_, .nil=>rfl
 |_,_, .cons r t=>by rw[Wq,Wq,h _ _ r,pV h t]
theorem lX{α β:Type}{R:α->β->Prop}:∀{l:List α}{m:List β}{i:Nat}{a:α},aaL R l m->l[i]? =some a->∃b,m[i]? =some b/\R a b
 |_,_,i,_, .nil,e=>by simp at e
 |_,_,0,_, .cons r t,e=>by simp at e;subst e;exact⟨_,rfl,r⟩
 |_,_,i+1,_, .cons r t,e=>by
  obtain⟨b,e1,e2⟩:=lX (i:=i) t (by simpa using e);exact⟨b,by simpa using e1,e2⟩
theorem Ew{prog:WQ}{w:World}{κ:Type}[DecidableEq κ]{knd:KeyKind prog w κ}:∀{es:List Ym}{aI:List (κ×Value)}{i:Nat}{kv:κ×Value},Pairs knd es aI->aI[i]? =some kv->∃e,es[i]? =some e/\knd.is kv.1 e.key=true:=by
 intro es aI i kv h e;induction h generalizing i with
 |nil=>simp at e
 | @cons en V9 NM Vr h1 h2 h3 ih=>
   cases i with
   |zero=>simp at e;subst e;exact⟨en,rfl,h1⟩
   |succ i=>
    obtain⟨q,e1,e2⟩:=ih (i:=i) (by simpa using e);exact⟨q,by simpa using e1,e2⟩
theorem Mn{k:Key}{u:Value}(h:rF k u=true):RelV (kV k) u:=by
 rcases cQ h with⟨i,t,rfl,rfl⟩ | ⟨x,t,rfl,rfl⟩
 ·exact⟨t,rfl⟩
 ·exact⟨t,rfl⟩
theorem rb{X:Cx}{f8:List (Addr×Obj)}{σ:St}{H:Hp}{s:We}{d:Addr}{od:Obj}{n:Nat}(I:Inv X f8 σ H s)
 (h:(∃aI,H d=some (.frz od (.dT aI))/\n=aI.length)\/∃aI,H d=some (.frz od (.dK aI))/\n=aI.length):
 ∃es ep,(d==XQ)=false/\s.heap.get? d=some od/\od.ExactDict/\od.data= .dict es ep/\es.size=n/\∀i,i<n->∃e x,es[i]? =some e/\RelV x e.key/\Kr H d od i x:=by
 rcases h with⟨aI,e,rfl⟩ | ⟨aI,e,rfl⟩
 ·obtain⟨ho,z,lo,xs,rel,o,es,ep,h1,h2,h3,h4,h5⟩:=(show ObjOk X.prog X.w H s.heap d (.frz od (.dT aI)) from I.hok d _ e)
  rw[ho] at h1;cases h1;have hl:es.size=aI.length:=by
   rw[<-WL,h4,Wc];exact(Yi rel).symm
  refine⟨es,ep,lo,ho,h2,h3,hl,λi hi=>?_⟩;obtain⟨q,e1,e2,e3,e4⟩:=lX rel (Wi hi);refine⟨ab5 (Ye (bp X.prog X.w)) q, .ref q.2.1,?_,rfl, .inl ⟨aI,aI[i].1,q.2.1,e,?_,rfl,e3⟩⟩
  ·rw[<-X8,h4,Wz,e1];rfl
  ·rw[Wz,Wi hi];rfl
 ·obtain⟨ho,z,lo,vs,rel,o,es,ep,h1,h2,h3,h4,h5,h6⟩:=(show ObjOk X.prog X.w H s.heap d (.frz od (.dK aI)) from I.hok d _ e)
  rw[ho] at h1;cases h1;have hl:es.size=aI.length:=by
   rw[<-WL,h5.length];exact(Yi rel).symm
  refine⟨es,ep,lo,ho,h2,h3,hl,λi hi=>?_⟩;obtain⟨q,e1,e2,e3⟩:=lX rel (Wi hi);obtain⟨en,e4,e5⟩:=Ew h5 e1;refine⟨en,kV aI[i].1,by rw[<-X8];exact e4,?_, .inr ⟨aI,aI[i].1,e,by rw[Wz,Wi hi];rfl,rfl⟩⟩;rw[e2];exact Mn e5
theorem EG{P:WQ}{w:World}{K:Wn}{tg:Expr}(d it:Addr)(od:Obj)(es:Array Ym)(ep:Nat)(qj:od.data= .dict es ep):
 Turn P w K tg (Sm d od) [it] it (λi h=>h.IsKeyIter it d i es.size ep) where
 mem:=by simp
 obj:=λi h st b hb=>by
  have e:b=it:=by simpa using hb
  subst e;obtain⟨o,e,c,dd⟩:=st;exact⟨o,e,λv z=>by rw[dd] at z;cases z⟩
 keep:=λi h h' st k=>st.at λo e=>k it (by simp) o e
 item:=by
  intro X hP hw hK hc i f8 s σ H E I hf st hg;subst hP hw hK;obtain⟨n,hn,hi⟩:∃n,((∃aI,H d=some (.frz od (.dT aI))/\n=aI.length)\/∃aI,H d=some (.frz od (.dK aI))/\n=aI.length)/\i<n:=by
   rcases hg with⟨aI,e,hi⟩ | ⟨aI,e,hi⟩
   ·exact⟨_, .inl ⟨aI,e,rfl⟩,hi⟩
   ·exact⟨_, .inr ⟨aI,e,rfl⟩,hi⟩
  obtain⟨NM,IC,lo,ho,hx,u0,hsz,hk⟩:=rb I hn;rw[qj] at u0;cases u0;obtain⟨en,x,e1,rx,ka⟩:=hk i hi;obtain⟨f0,f1,f2,f3,f4,f5⟩:=hf it (by simp);refine zq st ho qj e1 λh' s_ sb=>?_;have I1:Inv X f8 σ H {s with heap:=h'}:=I.turned (t':=s.toks) (λb o hb e=>(sb.2 b hb).trans e) f0 f1 f3 f4 f5;obtain⟨o,e2,c,dd⟩:=id s_;exact⟨_,rfl,uY (s:={s with heap:=h'}) e2 c dd (by decide) ⟨x,H,I1,rx,⟨rfl,ka⟩,s_,λb hb=>(hf b hb).1⟩⟩
 done:=by
  intro X hP hw hK hc i f8 s σ H E I hf st hg;subst hP hw hK;obtain⟨n,hn,hi⟩:∃n,((∃aI,H d=some (.frz od (.dT aI))/\n=aI.length)\/∃aI,H d=some (.frz od (.dK aI))/\n=aI.length)/\n<=i:=by
   rcases hg with⟨aI,e,hi⟩ | ⟨aI,e,hi⟩
   ·exact⟨_, .inl ⟨aI,e,rfl⟩,hi⟩
   ·exact⟨_, .inr ⟨aI,e,rfl⟩,hi⟩
  obtain⟨NM,IC,lo,ho,hx,u0,hsz,hk⟩:=rb I hn;rw[qj] at u0;cases u0;obtain⟨f0,f1,f2,f3,f4,f5⟩:=hf it (by simp);exact uS (I.ok.hd hc) st (by omega) ho qj λh' eb=>⟨rfl,I.turned (t':=s.toks) (λb o hb e=>eb b o hb e) f0 f1 f3 f4 f5⟩
 self:=λ_ _ _ _ _ st h=>wpAny_pyIter_keyiter st h
def tupK(k:List Key):D:= .tup (k.map Jc)
def vj:Key->Bool
 | .inl _=>true
 | .inr x=>decide (x.length<=lim)
def jJ:D->M (List D)
 | .dct ks _=>if ks.all (λk=>decide (k.length<=lim)&&k.all vj) then ae (ks.map tupK) else ah
 | .dci ks _=>if ks.all vj then ae (ks.map Jc) else ah
 |_=>ah
theorem y9{K:Wn}{F:Hp}{k:Key}(h:vj k=true):Den K F (Jc k) (kV k):=by
 cases k with
 |inl i=>exact rfl
 |inr x=>exact⟨rfl,acD h⟩
theorem vb{K:Wn}{F:Hp}:∀{k:List Key},k.all vj=true->DenL K F (k.map Jc) (k.map kV)
 |[],_=>rfl
 |x::k,h=>by
  rw[Y3,Wv] at h;exact .cons (y9 h.1) (vb h.2)
theorem F4{K:Wn}{F:Hp}{a:Addr}{ob:Obj}{d:D}{ds:List D}(hd:Den K F d (.ref a))(hF:∃u,F a=some (.frz ob u))(e:jJ d=ae ds):ItD K F (Sm a ob) ds:=λF' H' i s1 s2=>by
 unfold jJ at e;split at e
 ·rename_i ks es;split at e
  ·rename_i hok;obtain rfl:=iw e;obtain⟨a',Vw,vs,z,h2,h3,h4,h5⟩:=hd;cases z;obtain⟨u,hu⟩:=hF;rw[h2] at hu;cases hu;have hh:=s2 _ _ (s1 _ _ h2);have hz:=jG (a:=ks) (b:=vs) (by rw[h4];exact h3.len);have hl:(ks.zip vs).length=ks.length:=by rw[<-Wc (f:=(·.1)),hz]
   refine⟨λd e=>?_,λhle=> .inl ⟨_,hh,by rw[hl];simpa using hle⟩⟩;rw[Wz] at e;cases q:ks[i]? with
   |none=>rw[q] at e;cases e
   |some k=>
    rw[q] at e;cases e;have hi:=(Wy.mp q).1;refine⟨.inl ⟨_,hh,by rw[hl];exact hi⟩,λx H'' ⟨y1,y2⟩=>?_⟩;subst y1;have hk:=W3.mp hok k (Xu q);rw[Wv] at hk;rcases y2 with⟨aI,k',b,q1,q2,rfl,q3⟩ | ⟨aI,k',q1,q2,rfl⟩
    ·rw[hh] at q1;cases q1;rw[hz,q] at q2;cases q2;have E:=Ext.tup (F:=F') s2 q3;exact⟨_,E,b,_,rfl,aQ,vb hk.2,by rw[Wc];exact acD hk.1⟩
    ·rw[hh] at q1;cases q1
  ·exact(kD e).elim
 ·rename_i ks es;split at e
  ·rename_i hok;obtain rfl:=iw e;obtain⟨a',Vw,vs,z,h2,h3,h4,h5⟩:=hd;cases z;obtain⟨u,hu⟩:=hF;rw[h2] at hu;cases hu;have hh:=s2 _ _ (s1 _ _ h2);have hz:=jG (a:=ks) (b:=vs) (by rw[h4];exact h3.len);have hl:(ks.zip vs).length=ks.length:=by rw[<-Wc (f:=(·.1)),hz]
   refine⟨λd e=>?_,λhle=> .inr ⟨_,hh,by rw[hl];simpa using hle⟩⟩;rw[Wz] at e;cases q:ks[i]? with
   |none=>rw[q] at e;cases e
   |some k=>
    rw[q] at e;cases e;have hi:=(Wy.mp q).1;refine⟨.inr ⟨_,hh,by rw[hl];exact hi⟩,λx H'' ⟨y1,y2⟩=>?_⟩;subst y1;have hk:=W3.mp hok k (Xu q);rcases y2 with⟨aI,k',b,q1,q2,rfl,q3⟩ | ⟨aI,k',q1,q2,rfl⟩
    ·rw[hh] at q1;cases q1
    ·rw[hh] at q1;cases q1;rw[hz,q] at q2;cases q2;exact⟨F',Ext.refl s2,y9 hk⟩
  ·exact(kD e).elim
 ·exact(kD e).elim
section
variable{X:Cx}{Xw:Nat->Hp->Prop}{tg l:Expr}{δ:DE}
theorem zO(h:PD X Xw l δ):Dh X Xw tg l (λZ=>δ Z>>=jJ):=by
 intro f8 s σ H R I ⟨F,Z,S,w⟩;refine cV (h f8 s σ H (λv H1=>∃F1 d,Ext F H F1 H1/\Den X.K F1 d v/\WPI X.K Xw F1 H1 (jJ d) R) I ⟨F,Z,S,WPI.bind w⟩) λu s1 ⟨v,H1,I1,r1,F1,d,e1,q1,w1⟩=>?_;rcases(jJ d).cs with z | ⟨n,z⟩ | ⟨ds,z⟩
 ·rw[z] at w1;exact w1.elim
 ·exfalso
  unfold jJ at z;split at z
  ·split at z<;>cases z
  ·split at z<;>cases z
  ·cases z
 ·rw[z] at w1;obtain⟨a,ob,u',rfl,hF,hn⟩:∃a ob u',v= .ref a/\F1 a=some (.frz ob u')/\∃n,((∃aI,H1 a=some (.frz ob (.dT aI))/\n=aI.length)\/∃aI,H1 a=some (.frz ob (.dK aI))/\n=aI.length):=by
   unfold jJ at z;split at z
   ·obtain⟨a,ob,vs,e,h2,_⟩:=q1;exact⟨a,ob,_,e,h2,_, .inl ⟨_,e1.fh _ _ h2,rfl⟩⟩
   ·obtain⟨a,ob,vs,e,h2,_⟩:=q1;exact⟨a,ob,_,e,h2,_, .inr ⟨_,e1.fh _ _ h2,rfl⟩⟩
   ·exact(kD z).elim
  obtain⟨n,hn⟩:=hn;cases (show u=_ from r1);obtain⟨es,ep,lo,ho,hx,hd,hsz,hk⟩:=rb I1 hn;refine va lo ho hx hd ?_;refine⟨s1.heap.objs.size,[s1.heap.objs.size],_,_,H1,rfl,I1.kept (t':=s1.toks) λb o e=>Wg _ e,EG a _ ob es ep hd,⟨_,WA _ rfl,rfl,rfl⟩,λb hb=>?_,w1 _ _ _ (Ext.refl e1.fh) (F4 q1 ⟨_,hF⟩ z)⟩;have e:b=s1.heap.objs.size:=by simpa using hb
  subst e;exact I1.fpOk (Wr _) (I1.hok.fresh (Wr _))
end
end L3
namespace L3
open PySem
section
variable{prog:WQ}{w:World}{K:Type}[DecidableEq K]{knd:HeapKind prog w K}{A:WX}{E:Value->We->Prop}{s:We}
theorem sZ{d a:Addr}{xs:List (K×Addr×Value)}{k:K}{v:Value}{Q:Unit->We->Prop}(hu:knd.room A)(IM:knd.is s.heap k a)(hm:s.heap.DictOfH knd d xs)(hsz:xs.length<=WB)
 (hQ:∀h',h'.DictOfH knd d (Zs xs k a v)->Yj d s.heap h'->Q () {s with heap:=h'}):wpAny (model prog w) A (aaV d (.ref a) (knd.hash k) v) Q E s:=by
 obtain⟨o,es,ep,ho,hc,hd,he,Q_,hn⟩:=hm;unfold aaV;refine XR (Wb (wpAny_dictFind_heap hu IM ho hd he Q_ hn (λDW=>?_) λj p hj=>?_))
 ·have e0:=atKey_none_of_get DW;have hz:es.size<=WB:=by rw[abF he];exact hsz
  refine Wb (ab3 (wpAny_updateDictKeys (hz:=hz) ho hd (hQ _ ?_ (Xd ..))));rw[storedH_new e0];refine⟨_,_,ep+1,XN _ ho (aao (Zo hd _)),hc.mapDictKeys _,Zo hd _,by simp[he,ab5],λx hx=>?_,?_⟩
  ·rcases W6.mp hx with hx | hx
   ·exact knd.keeps (Q_ x hx) ho hd (Xd ..)
   ·obtain rfl:x=(k,a,v):=by simpa using hx
    exact knd.keeps IM ho hd (Xd ..)
  ·rw[Xo];refine XI.mpr ⟨hn,by simp,λx hx y hy z=>?_⟩;have hy:y=k:=by simpa using hy
   exact not_mem_keys_of_get DW (by rw[<-hy,<-z];exact hx)
 ·have e0:=atKey_of_get hn hj;refine Wb (ab3 (Wb (wpAny_updateDict ho hd (wpAny_point (hQ _ ?_ (Xd ..))))));rw[storedH_old e0];refine⟨_,_,ep,XN _ ho (aao (Obj.data_mapDict hd _)),hc.mapDict _,Obj.data_mapDict hd _,?_,λx hx=>?_,by rw[keys_map_putAt];exact hn⟩
  ·have:=modify_map_putAt (ab5 knd) (λe:Ym=>{e with val:=v}) k v (λ_ _=>rfl) hn hj;rw[<-he] at this;obtain⟨l⟩:=es;simpa using this
  ·obtain⟨y,hy,rfl⟩:=WC.mp hx;unfold putAt;split<;>exact knd.keeps (Q_ y hy) ho hd (Xd ..)
def cf(xs ys:List (K×Addr×Value)):List (K×Addr×Value):=ys.foldl (λu8 y=>Zs u8 y.1 y.2.1 y.2.2) xs
theorem Ab(xs:List (K×Addr×Value))(k:K)(a:Addr)(v:Value):(Zs xs k a v).length<=xs.length+1:=by
 unfold Zs;split<;>simp
theorem jX:∀(ys xs:List (K×Addr×Value)),(cf xs ys).length<=xs.length+ys.length
 |[],xs=>Wr _
 |y::ys,xs=>by
  have h1:=jX ys (Zs xs y.1 y.2.1 y.2.2);have h2:=Ab xs y.1 y.2.1 y.2.2;show (cf (Zs xs y.1 y.2.1 y.2.2) ys).length<=_;rw[Wl];omega
theorem mQ{xs ys:List (K×Addr×Value)}{i:Nat}{y:K×Addr×Value}(h:ys[i]? =some y):cf xs (ys.take (i+1))=Zs (cf xs (ys.take i)) y.1 y.2.1 y.2.2:=by
 rw[List.take_add_one,h];unfold cf;rw[acw];rfl
theorem jY:∀(ys u8:List (K×Addr×Value)),((u8++ys).map (·.1)).Nodup->cf u8 ys=u8++ys
 |[],u8,_=>by simp[cf]
 |y::ys,u8,hn=>by
  show cf (Zs u8 y.1 y.2.1 y.2.2) ys=_;have Rj:y.1∉u8.map (·.1):=λh=>by
   rw[Xo] at hn;exact(XI.mp hn).2.2 _ h _ (by simp) rfl
  have e0:atKey u8 y.1=none:=atKey_none_of_get λj p hj=>Rj (WC.mpr ⟨_,Xu hj,rfl⟩);rw[storedH_new e0,jY ys (u8++[(y.1,y.2.1,y.2.2)]) (by simpa using hn)];simp
theorem v_{id:String}{o:Addr}{ob:Obj}{es:Array Ym}{ep:Nat}{Q:Array Ym->We->Prop}(ho:s.heap.get? o=some ob)(hd:ob.data= .dict es ep)
 (hq:∀e∈es.toList,∃a,e.key= .ref a/\s.TypeIs (.ref a) "tuple")(hh:∀e∈es.toList,(es.filter (·.hash==e.hash)).size<=1)(h:Q es s):wpAny (model prog w) A (aaa id o) Q E s:=by
 unfold aaa;refine Wb (X3 ho hd ?_);rw[<-Array.forIn_toList];refine Wb (abr _ (λrest _ s'=>s'=s/\∀e∈rest,e∈es.toList) _ ?_ ?_ _ _ ⟨rfl,λ_ h=>h⟩)
 ·rintro e rest b s' ⟨rfl,hr⟩;obtain⟨a,ea,ta⟩:=hq e (hr e (Wh ..));have hf:=hh e (hr e (Wh ..));have jl:¬((es.filter (·.hash==e.hash)).size>1):=by omega
  rw[ea];unfold Builtin.Dict.quietEq;refine Wb (Wb (abC ta F.slot_tuple_eq.lookup (Wk ?_)));simp only[jl,if_false];have:(some (YU "tuple.__eq__")==some (YU "object.__eq__"))=false:=by decide
  simp only[this,aab,if_true];exact Wk ⟨rfl,λx hx=>hr x (Wf _ hx)⟩
 ·rintro b s' ⟨rfl,_⟩;exact Wk h
theorem rQ{nm:String}{d o:Addr}{xs ys:List (K×Addr×Value)}{Q:Unit->We->Prop}(hu:knd.room A)(SO:d≠o)(U2:(o==XQ)=false)(hd:s.heap.DictOfH knd d xs)(ho:s.heap.DictOfH knd o ys)
 (UM:∀{h:Heap}{k:K}{a:Addr},knd.is h k a->∃ob,h.get? a=some ob/\ob.cls= .type "tuple")(hh:xs=[]->(ys.map λy=>knd.hash y.1).Nodup)(hsz:xs.length+ys.length<=WB)
 (hQ:∀h',h'.DictOfH knd d (cf xs ys)->Yj d s.heap h'->Q () {s with heap:=h'}):wpAny (model prog w) A (aaR nm d o) Q E s:=by
 obtain⟨od,T2,TZ,DX,uZ,qj,Uv,V3,EU⟩:=id hd;obtain⟨oo,AS,T1,OM,V2,DQ,ER,Q9,DW⟩:=id ho;have T0:=abF ER;unfold aaR;rw[acz (by simpa using SO)];unfold Zy;rw[acz (by rw[U2];exact WO)];refine Wb (Wk (Wb (X3 OM DQ ?_)));have loop:∀(body:Nat->PUnit->Sem (ForInStep PUnit)),body=(λi (_:PUnit)=>(do
       let l'<-dictEntries o
       match l'[i]? with
        |some e=>do
         holding [e.key,e.val] (aaV d e.key e.hash e.val)
         let IC<-dictEpoch o
         if (IC !=T1)=true then do (unsupported (aav nm++aav ":source-changed-during-callback"):Sem PUnit);pure (Xs Y8) else pure (Xs Y8)
        |_=>do
         (unsupported "internal:dict-merge":Sem PUnit)
         pure (Xs Y8):Sem (ForInStep PUnit)))->wpAny (model prog w) A (forIn [:AS.size] Y8 body) (λ_ s'=>Q () s') E s:=by
  rintro _ rfl;rw[Std.Legacy.Range.forIn_eq_forIn_range'];simp only[Std.Legacy.Range.size,Nat.sub_zero,Nat.add_sub_cancel,Nat.div_one];refine abr _ (λrest _ s'=>∃h' i,s'={s with heap:=h'}/\rest=W9 i (AS.size - i)/\i<=AS.size/\h'.DictOfH knd d (cf xs (ys.take i))/\h'.get? o=some oo/\Yj d s.heap h') _ ?_ ?_ _ _
   ⟨s.heap,0,rfl,by simp,Xe _,by simpa[cf] using hd,OM,abo _ _⟩
  ·rintro x rest b s' ⟨h',i,rfl,hr,hi,u0,L4,IS⟩;have jl:i<AS.size:=by
    by_cases h:i<AS.size
    ·exact h
    ·rw[show AS.size - i=0 by omega] at hr;simp at hr
   rw[show AS.size - i=(AS.size - (i+1))+1 by omega,Zj] at hr;injection hr with h1 h2
   subst h1;refine Wb (X3 L4 DQ ?_);obtain⟨y,hy⟩:∃y,ys[x]? =some y:=⟨_,Wi (by omega)⟩
   rw[entry_at ER x,hy];have UY:(cf xs (ys.take x)).length<=WB:=by
    have e1:=jX (ys.take x) xs;rw[XS] at e1;omega
   have UN:knd.is h' y.1 y.2.1:=knd.keeps (Q9 y (Xu hy)) DX qj IS;refine Wb (XR (sZ hu UN u0 UY λSD Q1 OT=>?_));have KR:SD.get? o=some oo:=(OT.2 o (Xq SO)).trans L4;refine Wb (ZA KR DQ ?_);rw[acz (by simp)];exact Wk ⟨SD,x+1,rfl,h2,jl,by rw[mQ hy];exact Q1,KR,IS.trans OT⟩
  ·rintro b s' ⟨h',i,rfl,hr,hi,u0,L4,IS⟩;have DV:i=AS.size:=by
    by_cases h:i<AS.size
    ·rw[show AS.size - i=(AS.size - (i+1))+1 by omega,Zj] at hr;exact nomatch hr
    ·omega
   refine hQ h' ?_ IS;rw[DV,T0,ZR] at u0;exact u0
 have go:wpAny (model prog w) A (do
  let Of<-dictEpoch o
  let l<-dictEntries o
  forIn [:l.size] Y8 λi (_:PUnit)=>(do
   let l'<-dictEntries o
   match l'[i]? with
    |some e=>do
     holding [e.key,e.val] (aaV d e.key e.hash e.val)
     let IC<-dictEpoch o
     if (IC !=Of)=true then do (unsupported (aav nm++aav ":source-changed-during-callback"):Sem PUnit);pure (Xs Y8) else pure (Xs Y8)
    |_=>do
     (unsupported "internal:dict-merge":Sem PUnit)
     pure (Xs Y8):Sem (ForInStep PUnit))
  pure ()) Q E s:=by
  refine Wb (ZA OM DQ (Wb (X3 OM DQ (Wb ?_))));exact Xp (loop _ rfl) (λ_ _ h=>Wk h) λ_ _ h=>h
 dsimp only
 split
 ·refine Wb (X3 DX qj ?_);split
  ·rename_i Q3;have OV:xs=[]:=by
    have h0:T2= #[]:=aco.mp Q3;have:=abF Uv;rw[h0] at this;exact ZP.mp (by simpa using this.symm)
   subst OV;have UZ:=hh rfl;refine Wb (v_ OM DQ (λe he=>?_) (λe he=>?_) ?_)
   ·rw[ER] at he;obtain⟨y,hy,rfl⟩:=WC.mp he;obtain⟨ob,h1,h2⟩:=UM (Q9 y hy);exact⟨y.2.1,rfl,ob,h1,h2⟩
   ·have:(AS.filter (·.hash==e.hash)).size=((ys.map λy=>knd.hash y.1).filter (· ==e.hash)).length:=by
     rw[<-WL,Array.toList_filter,ER,aa2,aa2,Wc,Wc];rfl
    rw[this];have hc:=List.nodup_iff_count.mp UZ e.hash;rw[List.count_eq_countP,List.countP_eq_length_filter] at hc;exact hc
   ·have hm:cf ([]:List (K×Addr×Value)) ys=ys:=by
     rw[jY ys [] (by simpa using DW)];rfl
    rw[hm] at hQ;split
    ·have Vb:AS.size<=WB+1:=by simp at hsz;omega
     refine Wb (wpAny_updateDictKeysTo DX qj (Wk (hQ _ ⟨_,_,TZ+1,XN _ DX (aao (Zo qj _)),uZ.mapDictKeys _,Zo qj _,ER,λx hx=>?_,DW⟩ (Xd ..))) Vb);exact knd.keeps (Q9 x hx) DX qj (Xd ..)
    ·rename_i jU;have h0:AS= #[]:=aco.mp (by simpa using jU);have UU:ys=[]:=ZP.mp (by rw[<-T0,h0];rfl);subst UU;exact Wk (hQ _ hd (abo _ _))
  ·exact go
 ·exact go
end
end L3
namespace L3
open PySem PySem.Spec L2
open PyProof.Rows hiding St
theorem Kp{P:WQ}{w:World}{h:Heap}{k:List Key}{a:Addr}(h1:(Ye (bp P w)).is h k a):∃ob,h.get? a=some ob/\ob.cls= .type "tuple":=by
 obtain⟨ob,aS,n,q1,q2,_⟩:=h1;exact⟨ob,q1,q2⟩
def jW(aI more:List (List Key×V)):List (List Key×V):=more.foldl (λu8 kv=>putK u8 kv.1 kv.2) aI
theorem CD{H:Hp}:∀{more:List (List Key×V)}{ys:List (List Key×Addr×Value)},KT H more ys->∀{aI:List (List Key×V)}{xs:List (List Key×Addr×Value)},KT H aI xs->KT H (jW aI more) (cf xs ys)
 |_,_, .nil,_,_,q=>q
 |_,_, .cons h t,aI,xs,r=>by
  refine CD t ?_;have:=KT.put r _ h.2.1 h.2.2;rw[h.1] at this;show KT H (putK aI _ _) (Zs xs _ _ _);rw[h.1];exact this
theorem rJ:∀(more aI:List (List Key×V)),(jW aI more).length<=aI.length+more.length
 |[],aI=>Wr _
 |p::r,aI=>by
  have h1:=rJ r (putK aI p.1 p.2);have h2:=gf aI p.1 p.2;show (jW (putK aI p.1 p.2) r).length<=_;rw[Wl];omega
def ib(k:List Int):Int:=reduceHash (aaq (k.map hashInt))
theorem FI{P:WQ}{w:World}(k:List Int):(Ye (bp P w)).hash (qk k)=ib k:=by
 show reduceHash (aaq ((qk k).map (O4 w)))=_;unfold ib qk;rw[W7];rfl
section
variable{X:Cx}{f8:List (Addr×Obj)}{σ:St}{H:Hp}{s:We}{a b:Addr}{A:WX}{E:Value->We->Prop}
theorem Fm{aI more:List (List Key×V)}{ks:List (List Int)}{Q:Value->We->Prop}(hu:A.units+2<cLine)(I:Inv X f8 σ H s)(ha:H a=some (.dT aI))(hb:Rd H b (.dT more))(QW:a≠b)(hk:more.map (·.1)=ks.map qk)
 (hh:aI=[]->(ks.map ib).Nodup)(hz:aI.length+more.length<=WB)(h:∀s',Inv X f8 σ (upd H a (.dT (jW aI more))) s'->Q .none s'):
 wpAny (model X.prog X.w) A (call (.builtin "dict.update") [.ref a, .ref b]) Q E s:=by
 obtain⟨z1,lo1,xs,PR,Qg⟩:=Fs I.hok ha;obtain⟨z2,Vt,ys,J8,Au⟩:=mq I.hok hb;have l1:=Yi PR;have l2:=Yi J8;have hT:=Qg.typeIs;refine Yd aaY hT PySem.F.entry_dict_update ?_ (PySem.F.args_dict_update_2 _ _);unfold Z8.«dict.update»;refine Wb ?_;unfold aaG;refine Wb (aah hT ?_);show wpAny _ _ (pure (a,[WT b])) _ _ s;refine Wk ?_;show wpAny _ _ (YG "dict.update" a (.ref b) [] .none) _ _ s;unfold YG;refine Wb (ZL Au.typeIs ?_);rw[acz (by decide)];refine Wb ?_;unfold Builtin.Dict.merge;refine Wb ?_;unfold Builtin.Dict.readDirectly;refine Wb (wpAny_isInstance Au.typeIs isSubtype_dict_dict ?_);simp only[Bool.not_true,Xf,if_false];refine Wb (abC Au.typeIs PySem.F.slot_dict_iter.lookup (Wk ?_));simp only[beq_self_eq_true,if_true];refine Wb (Wk ?_);refine rQ (knd:=Ye (bp X.prog X.w)) (show A.in1.units<cLine by show A.units+1<cLine;omega) QW Vt Qg Au Kp (λe0=>?_) (by omega) λh' DJ IS=>?_
 ·have e1:aI=[]:=ZP.mp (by rw[l1,e0];rfl);have:=hh e1;have e2:(ys.map λy=>(Ye (bp X.prog X.w)).hash y.1)=ks.map ib:=by
   have e3:more.map (·.1)=ys.map (·.1):=pV (λ_ _ r=>r.1) J8;rw[show (λy:List Key×Addr×Value=>(Ye (bp X.prog X.w)).hash y.1)=(Ye (bp X.prog X.w)).hash∘(·.1) from rfl,<-W7,<-e3,hk,W7];exact aad λk _=>FI k
  rw[e2];exact this
 ·show wpAny _ _ (aaH a []>>=_) _ _ _;refine Wb (Wk (Wk ⟨.none,rfl,h _ ?_⟩));obtain⟨q,es,ep,hq,h2,h3,h4,_,h5⟩:=DJ;have hl:(jW aI more).length<=WB:=by have:=rJ more aI;omega
  refine mn I (t':=s.toks) (by rw[ha];exact XH) IS ⟨q,hq⟩ ⟨hl,lo1,_,(CD J8 PR).keeps λc ys ec=>?_,q,es,ep,hq,h2,h3,h4,h5⟩;rw[aE (Gj ec ha (λz=>nomatch z))];exact ec
end
def dh(ks:List (List Key))(ds:List D):List (List Key)->List D->List (List Key)×List D
 |k::ks',d::ds'=>dh (eG ks ds k) (dH ks ds k d) ks' ds'
 |_,_=>(ks,ds)
def HK(ks:List (List Key))(ds:List D):D->Option C
 | .dct ks' ds'=>match fN ks' with
   |some ns=>if ds.length+ds'.length<=lim/\(ks.isEmpty=true->(ns.map ib).Nodup) then some (.dct (dh ks ds ks' ds').1 (dh ks ds ks' ds').2) else none
   |none=>none
 |_=>none
theorem rO{K:Wn}{F:Hp}:∀{ks':List (List Key)}{ds':List D}{vs':List V}{ks:List (List Key)}{ds:List D}{vs:List V},DenL K F ds' vs'->ks'.length=ds'.length->DenL K F ds vs->ks.length=ds.length->
 ∃ws,jW (ks.zip vs) (ks'.zip vs')=(dh ks ds ks' ds').1.zip ws/\DenL K F (dh ks ds ks' ds').2 ws/\(dh ks ds ks' ds').1.length=(dh ks ds ks' ds').2.length
 |[],[],vs',ks,ds,vs,h',_,h,hl=>⟨vs,rfl,h,hl⟩
 |k::ks',d::ds',vs',ks,ds,vs,⟨v,r,e,h1,h2⟩,ET,h,hl=>by
  subst e;obtain⟨ws,e1,e2,e3⟩:=xr (K:=K) (F:=F) h1 k h hl;obtain⟨us,q1,q2,q3⟩:=rO (ks':=ks') (ds':=ds') (vs':=r) h2 (by simpa using ET) e2 e3;refine⟨us,?_,q2,q3⟩;show jW (putK (ks.zip vs) k v) (ks'.zip r)=_;rw[e1];exact q1
 |[],_::_,_,_,_,_,_,ET,_,_=>by simp at ET
 |_::_,[],_,_,_,_,_,ET,_,_=>by simp at ET
theorem Hd{κ:Type}[DecidableEq κ]{ks:List κ}{ds:List D}{k:κ}{d:D}(hl:ks.length=ds.length):(dH ks ds k d).length<=ds.length+1:=by
 unfold dH;split
 ·rw[kg ks ds k d hl];omega
 ·simp
theorem He{κ:Type}[DecidableEq κ]{ks:List κ}{ds:List D}{k:κ}{d:D}(hl:ks.length=ds.length):(eG ks ds k).length=(dH ks ds k d).length:=by
 unfold dH eG;split
 ·rw[kg ks ds k d hl];exact hl
 ·simp[hl]
theorem rP:∀{ks':List (List Key)}{ds':List D}{ks:List (List Key)}{ds:List D},ks.length=ds.length->(dh ks ds ks' ds').2.length<=ds.length+ds'.length
 |[],ds',ks,ds,_=>by show ds.length<=_;omega
 |_::_,[],ks,ds,_=>by show ds.length<=_;simp
 |k::ks',d::ds',ks,ds,hl=>by
  have h1:=rP (ks':=ks') (ds':=ds') (ks:=eG ks ds k) (ds:=dH ks ds k d) (He hl);have h2:=Hd (k:=k) (d:=d) hl;show (dh (eG ks ds k) (dH ks ds k d) ks' ds').2.length<=_;rw[Wl];omega
section
variable{X:Cx}{Xw:Nat->Hp->Prop}{o e:Expr}{δ:DE}{pos p W1 bz:Pos}{x:Str}{i:Nat}
def z0(i:Nat)(δ:DE):DS:=λZ=>match zI Z i with
 |some (.dct ks ds)=>δ Z>>=λd=>match HK ks ds d with
  |some c'=>ae (.nx (Z.set i (some (.ow c'))))
  |none=>ah
 |_=>ah
theorem M9{td ty:TE}(hu:X.A.units+2<cLine)(ho:PE X o td)(he:PE X e ty)(m:M1 X o "update" W1 e bz):
 PE X (.Call (.Attribute o "update" W1) [e] [] bz) (λσ H Q=>td σ H λx H1=>∃a,x= .ref a/\NZ H1 a/\ty σ H1 λy H2=>∃(b:Addr) (aI more:List (List Key×V)) (ks:List (List Int)),y= .ref b/\H2 a=some (.dT aI)/\Rd H2 b (.dT more)/\a≠b/\more.map (·.1)=ks.map qk/\(aI=[]->(ks.map ib).Nodup)/\aI.length+more.length<=WB/\Q .non (upd H2 a (.dT (jW aI more)))):=by
 intro f8 s σ H Q I h;refine aa9 m.base m.few m.line ZE aaY (by rfl) (cV (ho f8 s σ H _ I h) λu s1 ⟨x,H1,I1,rx,a,ex,d,q1⟩=>?_);subst ex;obtain rfl:u=WT a:=rx;obtain⟨t1,t2,_⟩:=A4 I1 d;refine⟨t1,t2,?_⟩;rw[m.trees];refine Y7 rfl (YE (YV (cV (he f8 s1 σ H1 _ I1 q1) λiv s2 ⟨y,H2,I2,ry,b,aI,more,ks,ey,k1,k2,k3,k4,k5,k6,q2⟩=>ZG ?_)));subst ey;obtain rfl:iv=WT b:=ry;exact Fm hu I2 k1 k2 k3 k4 k5 k6 λs3 I3=>⟨.non,_,I3,rfl,q2⟩
theorem CW(hu:X.A.units+64<cLine)(hv:PE X (.Name x p) (tm i))(he:PD X Xw e δ)(m:M1 X (.Name x p) "update" W1 e bz)(hs:ZU (.Call (.Attribute (.Name x p) "update" W1) [e] [] bz) none pos.line X.env=pure false:=by rfl):
 gM X Xw (.Expr (.Call (.Attribute (.Name x p) "update" W1) [e] [] bz) pos) (z0 i δ):=λs0 acI=>PS.weak (qJ (M9 (by omega) hv he m) hs) λD σ H ⟨F,Z,s,w⟩=>by
 unfold z0 at w;split at w
 ·rename_i ks ds Qp;have hi:=vm Qp;obtain⟨v,Qr,a,oh,rfl,hH,hF,vs,rfl,hd,hl,hz⟩:=s.st.den i _ hi;refine⟨.ref a,Qr,a,rfl, .inr ⟨_, .inl hH⟩,F,Z,s.st,?_⟩;rcases(δ Z).cs with q | ⟨n,q⟩ | ⟨d,q⟩
  ·rw[q] at w;exact w.elim
  ·rw[q] at w⊢;exact λF' H' e'=>w F' H' (s.ext.trans e')
  ·rw[q] at w⊢;intro u H1 F1 e1 hq;have w:WPS X.K Xw s0 acI (match HK ks ds d with | some c'=>ae (.nx (Z.set i (some (.ow c')))) | none=>ah) D:=w;cases d with
   |dct ks' ds'=>
    obtain⟨b,ob,vs',rfl,k2,k3,k4,k5⟩:=hq;cases hc:HK ks ds (.dct ks' ds') with
    |none=>rw[hc] at w;exact w.elim
    |some c'=>
     rw[hc] at w;have hc:(match fN ks' with | some ns=>if ds.length+ds'.length<=lim/\(ks.isEmpty=true->(ns.map ib).Nodup) then some (C.dct (dh ks ds ks' ds').1 (dh ks ds ks' ds').2) else none | none=>none)=some c':=hc;cases hn:fN ks' with
     |none=>rw[hn] at hc;cases hc
     |some ns=>
      rw[hn] at hc;have hc:(if ds.length+ds'.length<=lim/\(ks.isEmpty=true->(ns.map ib).Nodup) then some (C.dct (dh ks ds ks' ds').1 (dh ks ds ks' ds').2) else none)=some c':=hc;split at hc
      ·rename_i Ox;cases hc;have Qm:=DenL.mono e1.ff hd;have l1:=Qm.len;have l2:=k3.len;have QW:a≠b:=λz=>by
        have:=e1.old hH (λ_ z=>nomatch z);rw[hF,z,k2] at this;cases this
       obtain⟨ws,m1,m2,m3⟩:=rO k3 k4 Qm hl;refine⟨b,ks.zip vs,ks'.zip vs',ns,rfl,e1.hh _ _ hH, .inr ⟨ob,e1.fh _ _ k2⟩,QW,by rw[jG (by rw[k4];exact l2),kN hn],λz=>Ox.2 ?_,?_,?_⟩
       ·have:=jG (a:=ks) (b:=vs) (by rw[hl];exact l1);rw[z] at this;rw[<-this];rfl
       ·rw[aa0,aa0];have:=er;omega
       ·rw[m1];exact w σ F1 _ ((s.ext' e1).chg (c₀:= .dct (dh ks ds ks' ds').1 (dh ks ds ks' ds').2) hi Qr ⟨ws,rfl,m2,m3,by have:=rP (ks':=ks') (ds':=ds') hl;omega⟩)
      ·cases hc
   |_=>exact w.elim
 ·exact w.elim
end
section
variable{X:Cx}{Xw:Nat->Hp->Prop}{o e f:Expr}{δo δe δf:DE}{W1 bz:Pos}{x:Str}
def FY:D->Bool
 | .dct _ _=>true
 | .dci _ _=>true
 |_=>false
theorem Cr{K:Wn}{F H:Hp}{d:D}{x:V}(s:Same F H)(hd:Den K F d x)(e:FY d=true):∃a,x= .ref a/\NZ H a:=by
 cases d with
 |dct ks ds=>obtain⟨a,ob,vs,rfl,h2,_⟩:=hd;exact⟨a,rfl, .inr ⟨_, .inr ⟨ob,s _ _ h2⟩⟩⟩
 |dci ks ds=>obtain⟨a,ob,vs,rfl,h2,_⟩:=hd;exact⟨a,rfl, .inl ⟨_, .inr ⟨ob,s _ _ h2⟩⟩⟩
 |_=>cases e
def getM(d k v:D):M D:=match EL d k with
 |some (some x)=>ae x
 |some none=>ae v
 |none=>ah
def N_(δo δe:DE):DE:=λZ=>δo Z>>=λd=>if FY d then δe Z>>=λk=>getM d k .non else ah
def pf(δo δe δf:DE):DE:=λZ=>δo Z>>=λd=>if FY d then δe Z>>=λk=>δf Z>>=λv=>getM d k v else ah
theorem yX{F H:Hp}{d k v:D}{a:Addr}{y z:V}{Q:VK}(s:Same F H)(q1:Den X.K F d (.ref a))(q2:Den X.K F k y)(q3:Den X.K F v z)(w:WP X.K Xw F H (getM d k v) Q):∃ov,lK H a y ov/\Q (ov.getD z) H:=by
 unfold getM at w;cases HS:EL d k with
 |none=>rw[HS] at w;exact w.elim
 |some o'=>
  rw[HS] at w;obtain⟨a',ov,zz,h2,h3,h4⟩:=vR s q1 q2 HS;cases zz;refine⟨ov,h2,?_⟩;cases o' with
  |none=>
   cases ov with
   |none=>exact WP.now w s q3
   |some _=>cases h3
  |some d'=>
   obtain⟨v,rfl,hv⟩:=h4 d' rfl;exact WP.now w s hv
theorem Qy(hu:X.A.units+64<cLine)(ho:PD X Xw o δo)(he:PD X Xw e δe)(m:M1 X o "get" W1 e bz):PD X Xw (.Call (.Attribute o "get" W1) [e] [] bz) (N_ δo δe):=
 PE.weak (GY (by omega) ho he m) λσ H Q ⟨F,Z,s,w⟩=>by
  refine⟨F,Z,s,WP.mono (WP.bind w) λx H1 ⟨F1,d,e1,q1,w1⟩=>?_⟩;split at w1
  ·rename_i hd;obtain⟨a,rfl,RE⟩:=Cr e1.fh q1 hd;refine⟨a,rfl,RE,F1,Z,s.ext e1,WP.mono (WP.bind w1) λy H2 ⟨F2,k,e2,q2,w2⟩=>?_⟩;exact yX (v:= .non) (z:= .non) e2.fh (Den.mono e2.ff q1) q2 (show V.non=V.non from rfl) w2
  ·exact w1.elim
theorem JD(hu:X.A.units+64<cLine)(ho:PD X Xw o δo)(he:PD X Xw e δe)(hf:PD X Xw f δf)(m:M2 X o "get" W1 e f bz):PD X Xw (.Call (.Attribute o "get" W1) [e,f] [] bz) (pf δo δe δf):=
 PE.weak (GZ (by omega) ho he hf m) λσ H Q ⟨F,Z,s,w⟩=>by
  refine⟨F,Z,s,WP.mono (WP.bind w) λx H1 ⟨F1,d,e1,q1,w1⟩=>?_⟩;split at w1
  ·rename_i hd;obtain⟨a,rfl,RE⟩:=Cr e1.fh q1 hd;refine⟨a,rfl,RE,F1,Z,s.ext e1,WP.mono (WP.bind w1) λy H2 ⟨F2,k,e2,q2,w2⟩=>?_⟩;refine⟨F2,Z,(s.ext e1).ext e2,WP.mono (WP.bind w2) λz H3 ⟨F3,v,e3,q3,w3⟩=>?_⟩;exact yX e3.fh (Den.mono e3.ff (Den.mono e2.ff q1)) (Den.mono e3.ff q2) q3 w3
  ·exact w1.elim
end
section
variable{a:Expr}
end
def AX:List Nat->Kt
 |[]=>Oo
 |i::is=>KH (FE i) (AX is)
def BH:List Nat->List D->bo->bo
 |i::is,d::ds,Z=>BH is ds (Z.set i (some (.fz d)))
 |_,_,Z=>Z
def nE(is:List Nat):D->bo->Option bo
 | .tup ds,Z=>if ds.length=is.length then some (BH is ds Z) else none
 |_,_=>none
theorem vE{K:Wn}{s0 acI F H:Hp}{Q:St->Hp->Prop}:∀(is:List Nat) (ds:List D) (vs:List V) (σ:St) (Z:bo),ds.length=is.length->StOk K s0 acI F H σ Z->DenL K F ds vs->(∀σ',StOk K s0 acI F H σ' (BH is ds Z)->Q σ' H)->AX is vs σ H Q
 |[],[],vs,σ,Z,_,s,h,k=>⟨h,k σ s⟩
 |i::is,d::ds,vs,σ,Z,hl,s,⟨v,r,e,h1,h2⟩,k=>by
  subst e;exact⟨v,r,rfl,vE is ds r _ _ (by simpa using hl) (s.set h1) h2 k⟩
 |[],_::_,_,_,_,hl,_,_,_=>by simp at hl
 |_::_,[],_,_,_,hl,_,_,_=>by simp at hl
theorem xt{K:Wn}{is:List Nat}:BW K (Oq K is.length (AX is)) (nE is):=λs0 acI F H σ Z Z' d v Q s q e k=>by
 unfold nE at e;split at e
 ·rename_i ds;split at e
  ·rename_i hl;cases e;obtain⟨a,vs,rfl,hs,hd,_⟩:=q;exact⟨a,vs,rfl,SqT.of (s.st.fh _ _ hs),by rw[<-hd.len];exact hl,vE is ds vs σ Z hl s hd k⟩
  ·cases e
 ·cases e
section
variable{prog:WQ}{w:World}{A:WX}{E:Value->We->Prop}{s:We}
theorem Eh{a b:Value}{r:Bool}{I T S:Addr}{good:Heap->Prop}{R:Result->We->Prop}(hh:A.handled=none)(jU:T≠I)(Qk:S≠I)(Uk:S≠T)
 (hg:∀h h',(∀c o,c≠I->c≠S->h.get? c=some o->h'.get? c=some o)->good h->good h')
 (LU:∀(h':Heap) (tk:Nat) (Q':Value->We->Prop) (E':Value->We->Prop),good h'->Q' (.bool r) {s with heap:=h',toks:=tk}->wpAny (model prog w) A.in1 (abG .Lt b a) Q' E' {s with heap:=h',toks:=tk})
 (hR:∀h' tk,good h'->R (.ok (.ret (if r then b else a))) {s with heap:=h',toks:=tk}){h0:Heap}{t0 c:Nat}(g0:good h0)(A1:h0.IsTupleIter I T 0/\h0.IsTuple T #[a,b])
 (hS:h0.get? S=some {cls:= .type "list",dict:=none,data:= .seq #[] c,slots:= #[]}):
 ZD (model prog w) A (.builtin "min.loop" ⟨[.ref I, .none, .ref S],[]⟩) R {s with heap:=h0,toks:=t0}:=by
 have y4:(aav "min"++aav ".loop":String)="min.loop":=by decide
 have W:=Walks.tuple (prog:=prog) (w:=w) (A:=A.in1) hh I T jU #[a,b];have nI:∀{c:Addr},c≠I->c∉[I]:=λq z=>q (W2.mp z);have fr:∀{i:Nat}{h:Heap}{f:Obj->Obj},(h.IsTupleIter I T i/\h.IsTuple T #[a,b])->((h.update S f).IsTupleIter I T i/\(h.update S f).IsTuple T #[a,b]):=λ{i h f} q=>W.frame _ _ _ q λc hc o e=>(ZT _ _ (λz:S=c=>by
  subst z;rcases Wu.mp hc with z | z
  ·exact Qk z
  ·exact Uk (W2.mp z))).trans e
 have up:∀{h:Heap}{f:Obj->Obj},good h->good (h.update S f):=λq=>hg _ _ (λc o _ hc e=>(ZT _ _ (Xq hc)).trans e) q;refine Zc abh ?_;rw[YC Ys _];show wpAny _ A.in1 (seqItems? (.ref S)>>=_) _ _ _;refine Wb (aaI hS rfl ?_);show wpAny _ A.in1 (aca (aai (.ref I)) _>>=_) _ _ _;refine Wb (ZQ (W.item 0 _ _ _ (by simp) A1 λv h1 t1 hP R4 k1=>?_));have hv:v=a:=(WY hP).symm;subst hv;have S1:=k1 S _ (nI Qk) hS;have g1:good h1:=hg _ _ (λc o hc _ e=>k1 c o (nI hc) e) g0;show wpAny _ A.in1 (updateSeq S (λ_=> #[v,v])>>=_) _ _ _;refine Wb ?_;refine abB S1 rfl ?_;rw[y4];refine Wk ⟨Zu Ys _,?_⟩;refine Zc abh ?_;rw[YC Ys _];show wpAny _ A.in1 (seqItems? (.ref S)>>=_) _ _ _;refine Wb (aaI (XN _ S1 rfl) rfl ?_);show wpAny _ A.in1 (aca (aai (.ref I)) _>>=_) _ _ _;refine Wb (ZQ (W.item 1 _ _ _ (by simp) (fr R4) λu h2 t2 Uh Lc k2=>?_));have hu:u=b:=(WY Uh).symm;subst hu;have S2:=k2 S _ (nI Qk) (XN _ S1 rfl);have g2:good h2:=hg _ _ (λc o hc _ e=>k2 c o (nI hc) e) (up g1);show wpAny _ A.in1 (aca (holding [u,u] (abG .Lt u v>>=_)) _>>=_) _ _ _;refine Wb (ZQ (XR (Wb (LU _ _ _ _ g2 ?_))));refine Wb (XR (XO ?_));refine Wb (abD (Wk ?_));have last:∀{h3:Heap}{t3 c3:Nat}{x y:Value},x=(if r then u else v)->good h3->(h3.IsTupleIter I T 2/\h3.IsTuple T #[v,u])->h3.get? S=some {cls:= .type "list",dict:=none,data:= .seq #[x,y] c3,slots:= #[]}->
  ZD (model prog w) A (.builtin "min.loop" ⟨[.ref I, .none, .ref S],[]⟩) R {s with heap:=h3,toks:=t3}:=λ{h3 t3 c3 x y} ex g3 Ld S3=>by
  refine Zc abh ?_;rw[YC Ys _];show wpAny _ A.in1 (seqItems? (.ref S)>>=_) _ _ _;refine Wb (aaI S3 rfl ?_);show wpAny _ A.in1 (aca (aai (.ref I)) _>>=_) _ _ _;refine Wb (ZQ (W.done _ _ _ Ld λh4 t4 k4=>?_));have S4:=k4 S _ (nI Qk) S3;show wpAny _ A.in1 (updateSeq S (λ_=> #[])>>=_) _ _ _;refine Wb ?_;refine abB S4 rfl (Wb (abD (Wk ?_)));rw[ex];exact hR _ _ (up (hg _ _ (λc o hc _ e=>k4 c o (nI hc) e) g3))
 cases hr:r with
 |true=>
  simp only[if_true];refine Wb ?_;refine abB S2 rfl (Wb (abD ?_));rw[y4];exact Wk ⟨Zu Ys _,last (by rw[hr];rfl) (up g2) (fr Lc) (XN _ S2 rfl)⟩
 |false=>
  simp only[Xf,if_false];refine Wb (abD ?_);rw[y4];exact Wk ⟨Zu Ys _,last (by rw[hr];rfl) g2 Lc S2⟩
theorem zl{a b:Value}{r:Bool}{Q:Value->We->Prop}(hh:A.handled=none)
 (LU:∀(h':Heap) (tk:Nat) (Q':Value->We->Prop) (E':Value->We->Prop),(∀c o,s.heap.get? c=some o->h'.get? c=some o)->Q' (.bool r) {s with heap:=h',toks:=tk}->wpAny (model prog w) A.in1 (abG .Lt b a) Q' E' {s with heap:=h',toks:=tk})
 (h:∀h' tk,(∀c o,s.heap.get? c=some o->h'.get? c=some o)->Q (if r then b else a) {s with heap:=h',toks:=tk}):
 wpAny (model prog w) A (call (.builtin "min") [a,b]) Q E s:=by
 have y4:(aav "min"++aav ".loop":String)="min.loop":=by decide
 have hT:(s.heap.push {cls:= .type "tuple",data:= .seq #[a,b]}).IsTuple s.heap.objs.size #[a,b]:=⟨_,WA _ rfl,rfl,0,rfl⟩
 have hsz:(s.heap.push {cls:= .type "tuple",data:= .seq #[a,b]}).objs.size=s.heap.objs.size+1:=Zx ..;refine call_function_tree F.kind_min F.plain_min F.entry_min (F.args_min2 _ _) ?_;show wpAny _ A.in1 (Z4 "min" ["key","default"] 0 ⟨[],[]⟩>>=_) _ _ s;refine Wb (wpAny_of_eq (show Z4 "min" ["key","default"] 0 ⟨[],[]⟩=pure [none,none] from rfl) ?_);show wpAny _ A.in1 (newTuple [a,b]>>=_) _ _ s;refine Wb (Xz ?_);refine Wb (wpAny_pyIter_tuple hT ?_);refine Wb (Xz ?_);rw[y4];refine Wk ⟨Zu Ys _,?_⟩;have Tq:∀{c:Addr}{o:Obj},s.heap.get? c=some o->c<s.heap.objs.size:=λe=>Ww e;refine Eh (s:=s) (r:=r) (good:=λh'=>∀c o,s.heap.get? c=some o->h'.get? c=some o) hh (T:=s.heap.objs.size) ?_ ?_ ?_ (λh1 h2 k g c o e=>k c o ?_ ?_ (g c o e)) LU (λh' tk g=>h h' tk g) (λc o e=>Wg _ (Wg _ (Wg _ e))) ⟨?_,?_⟩ (WA _ rfl)
 ·rw[hsz];exact WS (Zm _)
 ·rw[Zx];exact Zw (Zm _)
 ·rw[Zx,hsz];exact Zw (Ze (Zm _))
 ·have:=Tq e;rw[hsz];exact WS (Ze this)
 ·have:=Tq e;rw[Zx,hsz];exact WS (Ze (Ze this))
 ·exact⟨_,Wg _ (WA _ rfl),rfl,rfl⟩
 ·exact(hT.push _).push _
end
theorem wM:aat (.type "list") "keys"=pure none:=by rw[typeLookup_type,builtinLookup_eq_fast];kernel_rfl
theorem fc:entryFor table "dict.update.loop"=some Z8.«dict.update.loop» :=entryFor_of_tree (by kernel_rfl)
theorem cM:plainId "dict.update.loop"=true:=by decide+kernel
theorem tX:(aaC "list" !=aaC "dict")=true:=by decide
section
variable{prog:WQ}{w:World}{A:WX}{E:Value->We->Prop}{s:We}
theorem wI{a:Addr}{o:Obj}{xs:Array Value}{k:Nat}{Q:Option Value->We->Prop}(hx:s.heap.get? a=some o)(hc:o.cls= .type "list")(DP:o.data= .seq xs k)(hd:o.dict=none)(hA:A.handled=none)
 (h:∀h' tk,(∀b ob,s.heap.get? b=some ob->h'.get? b=some ob)->Q none {s with heap:=h',toks:=tk}):wpAny (model prog w) A (getAttr? (.ref a) "keys") Q E s:=by
 obtain⟨c,dct,dat,sl⟩:=o;simp only at hc DP hd;subst hc DP hd;obtain⟨hp,g,d,tk,os⟩:=s;have hT:∀TJ,(⟨hp,g,d,TJ,os⟩:We).TypeIs (.ref a) "list":=λ_=>⟨_,hx,rfl⟩
 have f1:=sub_AttributeError;have f3:=F.slot_list_getattribute.lookup;have f4:=F.slot_list_getattribute.bind (.ref a);have f5:=am_list_getattr_none;unfold getAttr? getAttrBy? getAttrBy
 repeat (any_goals (first | assumption | exact hT _ | ((with_reducible show wpAny _ _ (call (YU "list.__getattribute__") _ _) _ _ _);refine ZW F.slot_list_getattribute (hT _) am_entry_list_getattribute (F.args_list_getattribute_2 _ _) (meets_getattribute_miss_list a xs k sl "keys" _ wM (by decide) (by size_fits)) ⟨hx,hA,λh' TJ e IV=>?_⟩) | wp_step))
 obtain⟨t',u',he⟩:=IV.there;show wpAny _ _ (getattributeRaised _ _ _ _ _ _ _) _ _ _;unfold getattributeRaised
 repeat (any_goals (first | assumption | wp_step))
 exact h _ _ λb ob e=>IV.keeps b ob e
abbrev Jd(prog:WQ)(w:World):HeapKind prog w (List Key):=Ye (bp prog w)
theorem DictOfH.at'{h h':Heap}{d:Addr}{xs:List (List Key×Addr×Value)}(x:h.DictOfH (Jd prog w) d xs)(k:∀c o,h.get? c=some o->(c=d\/∃y∈xs,y.2.1=c)->h'.get? c=some o):h'.DictOfH (Jd prog w) d xs:=by
 obtain⟨o,es,ep,h1,h2,h3,h4,h5,h6⟩:=x;refine⟨o,es,ep,k _ _ h1 (.inl rfl),h2,h3,h4,λy hy=>?_,h6⟩;obtain⟨oa,items,n,a1,a2⟩:=h5 y hy;exact⟨oa,items,n,k _ _ a1 (.inr ⟨y,hy,rfl⟩),a2⟩
theorem xX{xs:List (List Key×Addr×Value)}{k:List Key}{a:Addr}{v:Value}{x:List Key×Addr×Value}(h:x∈Zs xs k a v):(∃z∈xs,z.2.1=x.2.1)\/x.2.1=a:=by
 unfold Zs at h;split at h
 ·obtain⟨z,hz,rfl⟩:=WC.mp h;refine .inl ⟨z,hz,?_⟩;unfold putAt;split<;>rfl
 ·rcases W6.mp h with h | h
  ·exact .inl ⟨x,h,rfl⟩
  ·rw[W2.mp h];exact .inr rfl
theorem mP:∀(ys u8:List (List Key×Addr×Value)) {x:List Key×Addr×Value},x∈cf u8 ys->(∃z∈u8,z.2.1=x.2.1)\/∃z∈ys,z.2.1=x.2.1
 |[],u8,x,h=> .inl ⟨x,h,rfl⟩
 |y::ys,u8,x,h=>by
  rcases mP ys (Zs u8 y.1 y.2.1 y.2.2) h with⟨z,hz,e⟩ | ⟨z,hz,e⟩
  ·rcases xX hz with⟨q,hq,e2⟩ | e2
   ·exact .inl ⟨q,hq,e2.trans e⟩
   ·exact .inr ⟨y,Wh ..,e2.symm.trans e⟩
  ·exact .inr ⟨z,Wf _ hz,e⟩
theorem zM{D I L:Addr}{vs:List Value}{ys:List (List Key×Addr×Value)}{old:Heap}{R:Result->We->Prop}(hh:A.handled=none)(hu:A.units+1<cLine)(Ug:L≠I)(QR:D≠I)(Ud:old.get? I=none)(Ua:old.get? D=none)(hL:old.IsList L vs.toArray)
 (pairs:∀i,i<vs.length->∃p y,vs[i]? =some (.ref p)/\ys[i]? =some y/\old.IsTuple p #[.ref y.2.1,y.2.2]/\ab9 (bp prog w) old y.1 y.2.1)(hsz:ys.length<=WB)(hl:ys.length=vs.length)
 (hR:∀h' tk,(∀c o,old.get? c=some o->h'.get? c=some o)->h'.DictOfH (Jd prog w) D (cf [] ys)->R (.ok (.ret .none)) {s with heap:=h',toks:=tk}):
 ∀(r i:Nat) (h:Heap) (tk:Nat) (j:Int) (tj:Tok),vs.length - i=r->i<=vs.length->(∀c o,old.get? c=some o->h.get? c=some o)->h.IsListIter I L i->h.DictOfH (Jd prog w) D (cf [] (ys.take i))->
  ZD (model prog w) A (.builtin "dict.update.loop" ⟨[.ref D, .ref I, .int j tj, .none],[]⟩) R {s with heap:=h,toks:=tk}:=by
 have W:=Walks.list (prog:=prog) (w:=w) (A:=A.in1) hh I L Ug vs.toArray;have OU:vs.toArray.size=vs.length:=Wo ..;have nI:∀{c:Addr},c≠I->c∉[I]:=λq z=>q (W2.mp z);have Jt:∀{c:Addr}{o:Obj},old.get? c=some o->c≠I:=λe z=>by rw[z,Ud] at e;cases e
 have RM:∀{c:Addr}{o:Obj},old.get? c=some o->c≠D:=λe z=>by rw[z,Ua] at e;cases e
 have listAt:∀{h:Heap},(∀c o,old.get? c=some o->h.get? c=some o)->h.IsList L vs.toArray:=λ{h} k=>by
  obtain⟨o,e,q⟩:=hL;exact⟨o,k _ _ e,q⟩
 have RN:∀y∈ys,∃o,old.get? y.2.1=some o:=λy hy=>by
  obtain⟨i,hi,rfl⟩:=List.getElem_of_mem hy;obtain⟨p,y,_,ey,_,⟨o,_,_,e,_⟩⟩:=pairs i (by omega);rw[Wi hi] at ey;cases ey;exact⟨o,e⟩
 have Pd:∀{i:Nat}(x:List Key×Addr×Value),x∈cf [] (ys.take i)->∃o,old.get? x.2.1=some o:=λ{i} x hx=>by
  rcases mP _ _ hx with⟨z,hz,_⟩ | ⟨z,hz,e⟩
  ·cases hz
  ·rw[<-e];exact RN z (List.mem_of_mem_take hz)
 intro r;induction r with
 |zero=>
  intro i h tk j tj hr hi k it dd;have DV:i=vs.length:=by omega
  refine Zc fc ?_;rw[YC cM _];show wpAny _ A.in1 (aai (.ref I)>>=_) _ _ _;refine Wb (W.done _ _ _ ⟨by rw[OU,<-DV];exact it,listAt k⟩ λh1 t1 k1=>?_);show wpAny _ A.in1 (aaH D []>>=_) _ _ _;refine Wb (Wk (Wk ?_));have DJ:h.DictOfH (Jd prog w) D (cf [] ys):=by
   rw[DV,<-hl,ZR] at dd;exact dd
  refine hR _ _ (λc o e=>k1 c o (nI (Jt e)) (k c o e)) (DictOfH.at' DJ λc o e hc=>k1 c o (nI ?_) e);rcases hc with rfl | ⟨x,hx,rfl⟩
  ·exact QR
  ·exact Pd (i:=ys.length) x (by rw[ZR];exact hx) |>.elim λo e=>Jt e
 |succ r ih=>
  intro i h tk j tj hr hi k it dd;have jl:i<vs.length:=by omega
  obtain⟨p,y,ep,ey,tp,ky⟩:=pairs i jl;refine Zc fc ?_;rw[YC cM _];show wpAny _ A.in1 (aai (.ref I)>>=_) _ _ _;refine Wb (W.item i _ _ _ (by rw[OU];exact jl) ⟨it,listAt k⟩ λv h1 t1 hP R4 k1=>?_);have hv:v= .ref p:=by
   have:vs[i]? =some v:=by simpa using hP
   rw[ep] at this;exact(WY this).symm
  subst hv;have O5:∀c o,old.get? c=some o->h1.get? c=some o:=λc o e=>k1 c o (nI (Jt e)) (k c o e);show wpAny _ A.in1 (holding [WT p] (aca (aaQ (.ref p)) _>>=_)>>=_) _ _ _;have Qg:h1.DictOfH (Jd prog w) D (cf [] (ys.take i)):=DictOfH.at' dd λc o e hc=>k1 c o (nI (by
   rcases hc with rfl | ⟨x,hx,rfl⟩
   ·exact QR
   ·obtain⟨o',e'⟩:=Pd x hx;exact Jt e')) e
  obtain⟨op,eo,Uq,np,Us⟩:=tp;have Tu:=O5 _ _ eo;refine Wb (XR (Wb (ZQ ?_)));unfold aaQ;refine Wb (ZL ⟨op,Tu,Uq⟩ ?_);rw[acy (by decide)];refine Wb (aaI Tu Us (Wk ?_));show wpAny _ A.in1 (holding [WT y.2.1,y.2.2] (dictSet D (.ref y.2.1) y.2.2)) _ _ _;have Vs:ab9 (bp prog w) h1 y.1 y.2.1:=by
   obtain⟨oa,items,n,a1,a2⟩:=ky;exact⟨oa,items,n,O5 _ _ a1,a2⟩
  have hz:(cf [] (ys.take i)).length<=WB:=by
   have:=jX (ys.take i) ([]:List (List Key×Addr×Value));rw[XS] at this;have h3:min i ys.length<=ys.length:=Nat.min_le_right ..;simp only[Xb] at this;omega
  refine XR (wpAny_dictSet_heap (knd:=Jd prog w) (hsz:=hz) (show A.in1.units<cLine from hu) Vs Qg λh2 Au L8=>?_);show wpAny _ A.in1 (pure (Fin.again (.builtin "dict.update.loop" ⟨[.ref D, .ref I,aaK (j+1), .none],[]⟩))) _ _ _;refine Wk ⟨Zu cM _,?_⟩;rw[<-mQ ey] at Au;refine ih (i+1) h2 _ _ _ (by omega) (by omega) (λc o e=>?_) ?_ Au
  ·rw[L8.2 c (RM e)];exact O5 c o e
  ·obtain⟨oI,eI,q⟩:=R4.1;exact⟨oI,by rw[L8.2 I (Xq QR)];exact eI,q⟩
theorem qg{L:Addr}{o:Obj}{n:Nat}{vs:List Value}{ys:List (List Key×Addr×Value)}{Q:Value->We->Prop}(hA:A.handled=none)(hu:A.units+8<cLine)(hx:s.heap.get? L=some o)(hc:o.cls= .type "list")(DP:o.data= .seq vs.toArray n)(hd:o.dict=none)
 (pairs:∀i,i<vs.length->∃p y,vs[i]? =some (.ref p)/\ys[i]? =some y/\s.heap.IsTuple p #[.ref y.2.1,y.2.2]/\ab9 (bp prog w) s.heap y.1 y.2.1)(hsz:ys.length<=WB)(hl:ys.length=vs.length)
 (h:∀h' tk,(∀c o,s.heap.get? c=some o->h'.get? c=some o)->h'.DictOfH (Jd prog w) s.heap.objs.size (cf [] ys)->Q (.ref s.heap.objs.size) {s with heap:=h',toks:=tk}):
 wpAny (model prog w) A (call (.type "dict") [.ref L]) Q E s:=by
 refine callType_codes (Q₁:=λobj P3=>obj= .ref s.heap.objs.size/\P3={s with heap:=s.heap.push {cls:= .type "dict",data:= .dict #[]} }) F.kt_called_dict (F.kt_typeCall_dict_1 _) F.entry_dict_init (kt_code_dict_new _ ⟨rfl,rfl⟩) ?_;rintro obj P3 ⟨rfl,rfl⟩;have wx:(s.heap.push {cls:= .type "dict",data:= .dict #[]}).DictOfH (Jd prog w) s.heap.objs.size []:=⟨_,#[],0,WA _ rfl,⟨rfl,rfl,rfl⟩,rfl,rfl,λx hx=>(by cases hx),YM⟩
 have hT:({s with heap:=s.heap.push {cls:= .type "dict",data:= .dict #[]} }:We).TypeIs (.ref s.heap.objs.size) "dict":=⟨_,WA _ rfl,rfl⟩
 refine⟨hT,F.args_dict_init_2 _ _,?_⟩;have IV:(s.heap.push {cls:= .type "dict",data:= .dict #[]}).get? L=some o:=Wg _ hx;unfold Z8.«dict.__init__»;refine Wb ?_;unfold aaG;refine Wb (aah hT ?_);show wpAny _ _ (pure (s.heap.objs.size,[WT L])) _ _ _;refine Wk ?_;show wpAny _ _ (YG "dict.__init__" s.heap.objs.size (.ref L) [] .none) _ _ _;unfold YG;refine Wb (ZL ⟨o,IV,hc⟩ ?_);rw[acy tX];refine Wb (wI IV hc DP hd (by exact hA) λh1 t1 k1=>?_);show wpAny _ _ (rule _>>=_) _ _ _;refine Wb (ab3 ?_);have Ue:h1.IsList L vs.toArray:=⟨o,k1 _ _ IV,hc,n,DP⟩
 refine Wb (aa6 Ue ?_);refine Wk ⟨Zu cM _,?_⟩;have O5:∀c ob,s.heap.get? c=some ob->h1.get? c=some ob:=λc ob e=>k1 c ob (Wg _ e);have CI:∀{c:Addr},s.heap.objs.size<=c->s.heap.get? c=none:=λ{c} hc=>by
  cases e:s.heap.get? c with
  |none=>rfl
  |some ob=>exact acE (Ww e) (Nat.not_lt.mpr hc)
 have nD:s.heap.get? s.heap.objs.size=none:=CI (Wr _);have Av:L<h1.objs.size:=Ww (k1 _ _ IV);have RI:s.heap.objs.size<h1.objs.size:=Ww (k1 _ _ (WA _ rfl));refine zM (A:=A.in1) (s:=s) (old:=s.heap) (vs:=vs) (ys:=ys) (R:=wants (λr v4=>r=Xy/\Q (WT s.heap.objs.size) v4) E) (by exact hA) (by show A.units+1+1<cLine;omega) (WS Av) (WS RI) (CI (XX RI)) nD ⟨o,hx,hc,n,DP⟩ pairs hsz hl (λh' tk k dd=>⟨rfl,h h' tk k dd⟩) vs.length 0 _ _ _ _ rfl (Xe _) (λc ob e=>Wg _ (O5 c ob e)) ⟨_,WA _ rfl,rfl,rfl⟩ ?_;refine DictOfH.at' wx λc ob e hc=>Wg _ (k1 c ob e)
end
def NQ:D->D->Option Bool
 | .tup xs, .tup ys=>match nums xs,nums ys with
   |some a,some b=>some (HT.lexLt a b)
   |_,_=>none
 |_,_=>none
def wk(x y:D):M D:=match NQ x y with | some b=>ae (.bl b) | none=>ah
def rS:List D->M D
 |[x,y]=>match NQ y x with | some b=>ae (if b then y else x) | none=>ah
 |_=>ah
section
variable{X:Cx}{Xw:Nat->Hp->Prop}{a b e e2:Expr}{δa δb:DE}{δs:DA}{p pos:Pos}
theorem CB{K:Wn}{F:Hp}{x y:D}{v u:V}{r:Bool}(e:NQ x y=some r)(hx:Den K F x v)(hy:Den K F y u):∃a b ns ms,v= .ref a/\u= .ref b/\F a=some (.tup (ns.map V.int))/\F b=some (.tup (ms.map V.int))/\r=HT.lexLt ns ms:=by
 unfold NQ at e;split at e
 ·rename_i xs ys;obtain⟨a,vs,rfl,h2,h3,h4⟩:=hx;obtain⟨b,us,rfl,k2,k3,k4⟩:=hy;split at e
  ·rename_i ns ms e1 e2;cases iW e1 h3;cases iW e2 k3;cases e;exact⟨a,b,ns,ms,rfl,rfl,h2,k2,rfl⟩
  ·cases e
 ·cases e
theorem JA{K:Wn}:yn K (PK K) wk:=λXw F H x y dx dy Q s hx hy w=>by
 unfold wk at w;split at w
 ·rename_i r e;obtain⟨a,b,ns,ms,rfl,rfl,h1,h2,rfl⟩:=CB e hx hy;exact⟨a,b,ns,ms,rfl,rfl,SqT.of (s _ _ h1),SqT.of (s _ _ h2),WP.now w s rfl⟩
 ·exact w.elim
theorem Ng(hu:X.A.units+64<cLine)(ha:PD X Xw a δa)(hb:PD X Xw b δb):qe X Xw (.Compare a [.Lt] [b] pos) (cE (d2 wk δa δb)):=gz (MJ (by omega)) JA ha hb
def PL(K:Wn):List V->Hp->VK->Prop:=λxs H Q=>∃a b ns ms,xs=[.ref a, .ref b]/\SqT K H a (ns.map V.int)/\SqT K H b (ms.map V.int)/\Q (if HT.lexLt ms ns then .ref b else .ref a) H
theorem Dz(hc:X.calm=true)(hu:X.A.units+64<cLine):CallR X (.builtin "min") (PL X.K):=by
 intro f8 s σ H xs us Q I r h;obtain⟨a,b,ns,ms,rfl,ha,hb,q⟩:=h;obtain⟨u,w',rfl,rx,ry⟩:=vals2 r;cases rx;cases ry;obtain⟨aS,r1,p1,_⟩:=I.tuple ha;obtain⟨fO,r2,p2,_⟩:=I.tuple hb;have i1:Yl aS.toArray.toList ns:=intsAre_of r1;have i2:Yl fO.toArray.toList ms:=intsAre_of r2;refine zl (r:=HT.lexLt ms ns) (I.ok.hd hc) (λh' tk Q' E' k hq=>?_) λh' tk k=>⟨_,H,I.kept k,?_,q⟩
 ·obtain⟨o1,e1,q1⟩:=p1;obtain⟨o2,e2,q2⟩:=p2;exact HT.lt_tupInts (s:={s with heap:=h',toks:=tk}) ⟨o2,k _ _ e2,q2⟩ ⟨o1,k _ _ e1,q1⟩ i2 i1 (by show X.A.units+1<cLine;omega) hq
 ·cases HT.lexLt ms ns<;>rfl
theorem JF(hu:X.A.units+64<cLine)(hc:X.calm=true)(hg:Gl X "min")(hm:X.mg "min"=none)(hb:W8 "min"=some (.builtin "min"))(ha:kY X Xw [e,e2] δs)(he:Wt [e,e2] X.env=(false,eval e X.env)::Wt [e2] X.env:=by rfl)
 (lb:(X2 pos (Wt [e2] X.env)).any (·.1)=false:=by rfl):PD X Xw (.Call (.Name "min" p) [e,e2] [] pos) (dA rS δs):=
 eO (Dz hc hu) (λXw F H vs ds Q s h w=>by
  unfold rS at w;split at w
  ·rename_i x y;obtain⟨v,v',rfl,h1,h2⟩:=h.two;split at w
   ·rename_i r e;obtain⟨b,a,ms,ns,rfl,rfl,k1,k2,rfl⟩:=CB e h2 h1;refine⟨a,b,ns,ms,rfl,SqT.of (s _ _ k2),SqT.of (s _ _ k1),?_⟩;cases hl:HT.lexLt ms ns with
    |true=>rw[hl] at w;exact WP.now w s h2
    |false=>rw[hl] at w;exact WP.now w s h1
   ·exact w.elim
  ·exact w.elim) hg hm hb ha (by decide) (by decide) he lb
def lY:List D->Option (List (List Key)×List D)
 |[]=>some ([],[])
 | .tup [k,v]::r=>match eV k,lY r with
   |some kk,some q=>some (kk::q.1,v::q.2)
   |_,_=>none
 |_=>none
def yL:List D->M C
 |[.lst ds]=>match lY ds with
  |some q=>if q.1.Nodup/\q.2.length<=lim then ae (.dct q.1 q.2) else ah
  |none=>ah
 |_=>ah
def Nl:List V->Hp->VK->Prop:=λxs H Q=>∃(a:Addr) (ps:List (Addr×List Key×Addr×V)),xs=[.ref a]/\H a=some (.lst (ps.map λp=>V.ref p.1))/\(∀p∈ps,H p.1=some (.tup [.ref p.2.2.1,p.2.2.2])/\H p.2.2.1=some (.tup (p.2.1.map kV)))/\
 (ps.map (·.2.1)).Nodup/\ps.length<=WB/\∀q,H q=none->Q (.ref q) (upd H q (.dT (ps.map λp=>(p.2.1,p.2.2.2))))
theorem pairs_at{P:WQ}{w:World}{H:Hp}{h:Heap}(ok:HOk P w H h):∀(ps:List (Addr×List Key×Addr×V)) (us:List Value),Vals (ps.map λp=>V.ref p.1) us->(∀p∈ps,H p.1=some (.tup [.ref p.2.2.1,p.2.2.2])/\H p.2.2.1=some (.tup (p.2.1.map kV)))->
 ∃ys:List (List Key×Addr×Value),ys.length=us.length/\ys.map (·.1)=ps.map (·.2.1)/\(∀i,i<us.length->∃p y,us[i]? =some (.ref p)/\ys[i]? =some y/\h.IsTuple p #[.ref y.2.1,y.2.2]/\ab9 (bp P w) h y.1 y.2.1)/\
  aaL (λ(p:List Key×V) (q:List Key×Addr×Value)=>p.1=q.1/\H q.2.1=some (.tup (p.1.map kV))/\RelV p.2 q.2.2) (ps.map λp=>(p.2.1,p.2.2.2)) ys
 |[],_, .nil,_=>⟨[],rfl,rfl,λi hi=>acE hi (Nat.not_lt_zero _), .nil⟩
 |p::ps,u::us, .cons r rs,hp=>by
  obtain⟨ys,l1,l2,l3,l4⟩:=pairs_at ok ps us rs λq hq=>hp q (Wf _ hq);obtain⟨e1,e2⟩:=hp p (Wh ..);have hr:u= .ref p.1:=r;obtain⟨_,aS,rv,o,h1,h2,n,h3⟩:=(show ObjOk P w H h p.1 (.tup [.ref p.2.2.1,p.2.2.2]) from ok _ _ e1)
  obtain⟨x,y,rfl,rx,ry⟩:=vals2 rv;have hx:x= .ref p.2.2.1:=rx;subst hx;refine⟨(p.2.1,p.2.2.1,y)::ys,by simp[l1],by simp[l2],λi hi=>?_, .cons ⟨rfl,e2,ry⟩ l4⟩;cases i with
  |zero=>exact⟨p.1,_,by rw[hr];rfl,rfl,⟨o,h1,h2,n,h3⟩,jq ok e2⟩
  |succ i=>
   obtain⟨q,y',a1,a2,a3⟩:=l3 i (by simpa using hi);exact⟨q,y',by simpa using a1,by simpa using a2,a3⟩
theorem AJ(hc:X.calm=true)(hu:X.A.units+64<cLine):CallR X (.type "dict") Nl:=by
 intro f8 s σ H xs us Q I r h;obtain⟨a,ps,rfl,ha,hp,hn,hz,q⟩:=h;obtain⟨u,rfl,rx⟩:=vals1 r;cases rx;obtain⟨_,aS,n,rv,e⟩:=(show ObjOk X.prog X.w H s.heap a (.lst _) from I.hok _ _ ha)
 obtain⟨ys,l1,l2,l3,l4⟩:=pairs_at I.hok ps aS rv hp;have V6:ys.length=ps.length:=by
  have:=acH ab8 l2;simpa using this
 have EU:(ys.map (·.1)).Nodup:=by rw[l2];exact hn
 refine qg (vs:=aS) (ys:=ys) (I.ok.hd hc) (by omega) e rfl rfl rfl l3 (by omega) l1 λh' tk k dd=>?_;rw[jY ys [] (by simpa using EU),WJ] at dd;obtain⟨o,es,ep,d1,d2,d3,d4,_,d5⟩:=dd;refine⟨.ref s.heap.objs.size,_,I.laid (t':=tk) k (Wr _) (o:= .dT (ps.map λp=>(p.2.1,p.2.2.2))) ⟨by rw[Wc];exact hz,?_,ys,?_,o,es,ep,d1,d2,d3,d4,d5⟩,rfl,q _ (I.hok.fresh (Wr _))⟩
 ·have:=I.big;exact beq_false_of_ne (Zw this)
 ·refine Paired.mapP l4 λx y z=>⟨z.1,?_,z.2.2⟩
  rw[aE (λzz=>?_)]
  ·exact z.2.1
  ·have:=I.hok.fresh (a:=s.heap.objs.size) (Wr _);rw[<-zz,z.2.1] at this;cases this
theorem vq{K:Wn}{F:Hp}:∀{ds:List D}{vs:List V}{q:List (List Key)×List D},lY ds=some q->DenL K F ds vs->∃ps:List (Addr×List Key×Addr×V),vs=ps.map (λp=>V.ref p.1)/\(∀p∈ps,F p.1=some (.tup [.ref p.2.2.1,p.2.2.2])/\F p.2.2.1=some (.tup (p.2.1.map kV)))/\
 ps.map (·.2.1)=q.1/\DenL K F q.2 (ps.map (·.2.2.2))/\q.1.length=q.2.length
 |[],_,_,e,h=>by
  cases e;cases (show _=_ from h);exact⟨[],rfl,(λp hp=>(by cases hp)),rfl,rfl,rfl⟩
 |d::ds,_,q,e,⟨v,r,h1,h2,h3⟩=>by
  unfold lY at e;split at e
  ·cases ‹_::_=[]›
  ·rename_i k x r' heq;cases heq;split at e
   ·rename_i kk q' e1 e2;cases e;obtain⟨ps,i1,i2,i3,i4,i5⟩:=vq e2 h3;obtain⟨b,ws,rfl,b2,b3,b4⟩:=h2;obtain⟨kv,r1,rfl,k1,r2⟩:=b3;obtain⟨xv,r3,rfl,x1,r4⟩:=r2;cases (show _=_ from r4);unfold eV at e1;split at e1
    ·obtain⟨c,ws,rfl,c2,c3,c4⟩:=k1;have e5:=iX e1 c3;subst e5;refine⟨(b,kk,c,xv)::ps,by rw[h1,i1];rfl,λp hp=>?_,by simp[i3],⟨xv,_,rfl,x1,i4⟩,by simp[i5]⟩;rcases Wu.mp hp with rfl | hp
     ·exact⟨b2,c2⟩
     ·exact i2 p hp
    ·cases e1
   ·cases e
  ·cases e
theorem Aj{α β γ:Type}(f:α->β)(g:α->γ):∀l:List α,(l.map f).zip (l.map g)=l.map λx=>(f x,g x)
 |[]=>rfl
 |a::l=>by rw[Wq,Wq,X9,Aj f g l];rfl
theorem GU(hu:X.A.units+64<cLine)(hc:X.calm=true)(hg:Gl X "dict")(hm:X.mg "dict"=none)(hb:W8 "dict"=some (.type "dict"))(ha:kY X Xw [e] δs)(he:Wt [e] X.env=[(false,eval e X.env)]:=by rfl):
 Li X Xw (.Call (.Name "dict" p) [e] [] pos) (λZ=>δs Z>>=yL):=
 PE.weak (vw (AJ hc hu) hg hm hb ha (by decide) (by decide) he rfl) λσ H Q ⟨F,Z,s,w⟩=>by
  refine⟨F,Z,s,WPL.mono (WPF.bindL w) λvs H1 ⟨F1,ds,e1,q1,w1⟩=>?_⟩;unfold yL at w1;split at w1
  ·rename_i ds;obtain⟨v,rfl,h1⟩:=q1.one;obtain⟨a,ws,rfl,h2,h3,h4⟩:=h1;split at w1
   ·rename_i q eq;split at w1
    ·rename_i hq;obtain⟨ps,rfl,i2,i3,i4,i5⟩:=vq eq h3;have T0:ps.length=q.2.length:=by rw[<-i5,<-i3,Wc]
     refine⟨a,ps,rfl,e1.fh _ _ h2,λp hp=>⟨e1.fh _ _ (i2 p hp).1,e1.fh _ _ (i2 p hp).2⟩,by rw[i3];exact hq.1,?_,λr hr=>?_⟩
     ·have:=er;have:=hq.2;omega
     obtain⟨E,nF⟩:=Ext.fresh (o:= .dT (ps.map λp=>(p.2.1,p.2.2.2))) e1.fh hr;refine w1 r _ _ F1 E aQ nF hr ⟨ps.map (·.2.2.2),?_,i4,i5,hq.2⟩;rw[<-i3,Aj]
    ·exact w1.elim
   ·exact w1.elim
  ·exact w1.elim
end
mutual
def uQ:D->Bool
 | .non=>true
 | .bl _=>true
 | .int _=>true
 | .str _=>true
 | .tup ds=>ra ds
 | .lst ds=>ra ds
 | .raw _=>false
 | .exc _=>false
 | .scr _=>false
 | .dct _ _=>false
 | .dci _ _=>false
def ra:List D->Bool
 |[]=>true
 |d::ds=>uQ d&&ra ds
end
def Fo(d:D):M D:=if uQ d then ae d else ah
def m_(Z:bo):Bool:=Z.all λx=>match x with
 |some (.ow (.lst _))=>false
 |_=>true
theorem GH{Z:bo}{i:Nat}{ds:List D}(h:m_ Z=true)(e:Z[i]? =some (some (.ow (.lst ds)))):False:=by
 have:=W3.mp h _ (Xu e);cases this
def Lu(δ:DE):DE:=λZ=>if m_ Z then noex (δ (tT Z))>>=Fo else ah
section
variable{K:Wn}{F H F' H':Hp}{σ:St}{Z:bo}{h:Heap}{b:Addr}
theorem OwnAt.dict(S:StE K F H σ Z)(hd:m_ Z=true)(p:OwnAt σ Z b):∃o,H b=some o/\((∃x,o= .dT x)\/∃x,o= .dK x):=by
 obtain⟨i,c,h1,h2⟩:=p;obtain⟨v,h3,a,o,rfl,h4,h5,h6⟩:=S.den i _ h1;rw[h3] at h2;cases h2;refine⟨o,h4,?_⟩;cases c with
 |lst ds=>exact(GH hd h1).elim
 |dct ks ds=>obtain⟨vs,rfl,_⟩:=h6;exact .inl ⟨_,rfl⟩
 |dci ks ds=>obtain⟨vs,rfl,_⟩:=h6;exact .inr ⟨_,rfl⟩
open Classical in
theorem CJ(S:StE K F H σ Z)(hd:m_ Z=true)(E:Ext (fA σ Z (refA h (OwnAt σ Z) H) F) (refA h (OwnAt σ Z) H) F' H'){a:Addr}{o:HO}(e:F' a=some o)(jU:∀q u,o≠ .frz q u):(if OwnAt σ Z a then none else F' a)=some o:=by
 rw[acz,e];intro hp;obtain⟨o',k1,k2⟩:=OwnAt.dict S hd hp;have k3:fA σ Z (refA h (OwnAt σ Z) H) F a=some (qi ((h.get? a).getD {cls:= .none,data:= .fields #[]}) o'):=by
  unfold fA refA;rw[acy hp,acy hp,k1];rfl
 have k4:=E.ff a _ k3;rw[e] at k4;rcases k2 with⟨x,rfl⟩ | ⟨x,rfl⟩<;>cases k4<;>exact jU _ _ rfl
open Classical in
mutual
theorem yI(S:StE K F H σ Z)(hd:m_ Z=true)(E:Ext (fA σ Z (refA h (OwnAt σ Z) H) F) (refA h (OwnAt σ Z) H) F' H'):∀{d:D}{v:V},uQ d=true->Den K F' d v->Den K (λb=>if OwnAt σ Z b then none else F' b) d v
 | .non,_,_,q=>q
 | .bl _,_,_,q=>q
 | .int _,_,_,q=>q
 | .str _,_,_,q=>q
 | .tup ds,_,f,⟨a,vs,h1,h2,h3,h4⟩=>⟨a,vs,h1,CJ S hd E h2 (λ_ _ z=>nomatch z),oq S hd E f h3,h4⟩
 | .lst ds,_,f,⟨a,vs,h1,h2,h3,h4⟩=>⟨a,vs,h1,CJ S hd E h2 (λ_ _ z=>nomatch z),oq S hd E f h3,h4⟩
 | .raw _,_,f,_=>by cases f
 | .exc _,_,f,_=>by cases f
 | .scr _,_,f,_=>by cases f
 | .dct _ _,_,f,_=>by cases f
 | .dci _ _,_,f,_=>by cases f
theorem oq(S:StE K F H σ Z)(hd:m_ Z=true)(E:Ext (fA σ Z (refA h (OwnAt σ Z) H) F) (refA h (OwnAt σ Z) H) F' H'):∀{ds:List D}{vs:List V},ra ds=true->DenL K F' ds vs->DenL K (λb=>if OwnAt σ Z b then none else F' b) ds vs
 |[],_,_,q=>q
 |d::ds,_,f,⟨v,r,h1,h2,h3⟩=>by
  unfold ra at f;rw[Wv] at f;exact⟨v,r,h1,yI S hd E f.1 h2,oq S hd E f.2 h3⟩
end
end
section
variable{X:Cx}{Xw:Nat->Hp->Prop}{e:Expr}{δ:DE}
theorem Pj(h:PD X Xw e δ):PD X Xw e (Lu δ):=λf8 s σ H Q I ⟨F,Z,S,w⟩=>by
 classical
 have w:WP X.K Xw F H (if m_ Z then noex (δ (tT Z))>>=Fo else ah) Q:=w;by_cases hd:m_ Z=true
 ·rw[acy hd] at w;rcases lW (δ (tT Z)) with q | ⟨d,q,q2⟩
  ·rw[q] at w;exact w.elim
  ·rw[q2,ay] at w;unfold Fo at w;split at w
   ·rename_i hf;refine cV (h f8 s σ _ (λv H'=>Q v (unA (OwnAt σ Z) H')/\∀c,OwnAt σ Z c->∀o u,H' c=some (.frz o u)->(∃k,u= .dT k)\/∃k,u= .dK k) (Inv.refA (P:=OwnAt σ Z) I) ⟨_,_,AV (h:=s.heap) S,?_⟩) λu s' ⟨v,H',I',r,q1,q3⟩=>⟨v,_,Inv.unA I' (oH I S) q3,r,q1⟩
    rw[q];intro v H' F' E k;obtain⟨E1,q3⟩:=rj S E;exact⟨w _ _ _ E1 (yI S hd E hf k),q3⟩
   ·exact w.elim
 ·rw[acz hd] at w;exact w.elim
end
def Ky(δ:DE):DE:=λZ=>noex (δ (tT Z))>>=rh
def yk(τ:DT):DT:=λZ=>noex (τ (tT Z))
section
variable{a b:Expr}
theorem xY{x y:Str}(h:x.cps.toList=y.cps.toList):x=y:=by
 obtain⟨⟨a⟩⟩:=x;obtain⟨⟨b⟩⟩:=y;cases (show a=b from h);rfl
end
section
variable{a:Expr}
end
section
theorem tB:∀{xs:List V}{us:List Value},xs.length=us.length->(∀(i:Nat) x u,xs[i]? =some x->us[i]? =some u->RelV x u)->Vals xs us
 |[],[],_,_=> .nil
 |x::xs,u::us,hl,h=> .cons (h 0 x u rfl rfl) (tB (by simpa using hl) λi y v e1 e2=>h (i+1) y v (by simpa using e1) (by simpa using e2))
end
end L3
namespace L3
open PySem PySem.SetTable
def iK(m b:Nat):Nat->Nat×Nat
 |0=>(b % (m+1),b)
 |k+1=>leap m (iK m b k).1 (iK m b k).2
def NV(m i:Nat):Nat:=(i*5+1) % (m+1)
def it(m:Nat):Nat->Nat->Nat
 |0,x=>x
 |n+1,x=>NV m (it m n x)
theorem rC(m:Nat):∀a b x,it m (a+b) x=it m a (it m b x)
 |0,b,x=>by rw[abY];rfl
 |a+1,b,x=>by rw[acr];show NV m _=NV m _;rw[rC m a b x]
theorem OY(m b:Nat):∀k,(iK m b k).2=b / 32 ^ k
 |0=>by simp[iK]
 |k+1=>by
  show (iK m b k).2 / 32=_;rw[OY m b k,abU,Nat.pow_succ]
theorem Co{m b:Nat}(hb:b<2 ^ 64):∀k,(iK m b (k+13)).1=it m k (iK m b 13).1
 |0=>by rw[abY];rfl
 |k+1=>by
  rw[acr];have hq:(iK m b (k+13)).2 / 32=0:=by
   rw[OY];refine Nat.div_eq_of_lt ?_;refine aaE (m:=b / 32 ^ 13) ?_ ?_
   ·rw[Nat.pow_add,abZ,<-abU];exact Nat.div_le_self ..
   ·have:b / 32 ^ 13<1:=Nat.div_lt_of_lt_mul (by omega);omega
  show ((iK m b (k+13)).1*5+1+(iK m b (k+13)).2 / 32) % (m+1)=NV m _;rw[hq,Co hb k];rfl
def QF(m:Nat):Prop:=m=7\/m=31\/m=127
def RP(m:Nat):Nat->Nat->List Nat
 |0,_=>[]
 |n+1,x=>x::RP m n (NV m x)
theorem Bu(m:Nat):∀(n x j:Nat),j∈RP m n x->∃a,a<n/\it m a x=j
 |0,x,j,h=>by cases h
 |n+1,x,j,h=>by
  rcases Wu.mp h with rfl | h
  ·exact⟨0,by omega,rfl⟩
  ·obtain⟨a,ha,e⟩:=Bu m n (NV m x) j h;exact⟨a+1,by omega,by rw[rC m a 1 x];exact e⟩
theorem JB{m:Nat}(hm:QF m):(∀j,j<m+1->j∈RP m (m+1) 0)/\it m (m+1) 0=0:=by
 rcases hm with rfl | rfl | rfl
 ·exact⟨by decide+kernel,by decide+kernel⟩
 ·exact⟨by decide+kernel,by decide+kernel⟩
 ·exact⟨by decide+kernel,by decide+kernel⟩
theorem TV{m:Nat}(hm:QF m){i j:Nat}(hi:i<m+1)(hj:j<m+1):∃n,n<=m/\it m n i=j:=by
 obtain⟨h1,h2⟩:=JB hm;obtain⟨a,ha,rfl⟩:=Bu m _ 0 i (h1 i hi);obtain⟨b,hb,rfl⟩:=Bu m _ 0 j (h1 j hj);by_cases h:a<=b
 ·exact⟨b - a,by omega,by rw[<-rC,Nat.sub_add_cancel h]⟩
 ·refine⟨m+1 - a+b,by omega,?_⟩;rw[<-rC,show m+1 - a+b+a=b+(m+1) by omega,rC,h2]
theorem OX(m b k:Nat):(iK m b k).1<m+1:=by
 cases k with
 |zero=>exact Nat.mod_lt _ (by omega)
 |succ k=>exact Nat.mod_lt _ (by omega)
theorem reach{m b:Nat}(hm:QF m)(hb:b<2 ^ 64){j:Nat}(hj:j<m+1):∃k,k<=m+13/\(iK m b k).1=j:=by
 obtain⟨n,hn,e⟩:=TV hm (OX m b 13) hj;exact⟨n+13,by omega,by rw[Co hb,e]⟩
def vals(o:Array (Option Nat))(n:Nat):List Nat:=(WD n).filterMap λj=>o.getD j none
end L3
namespace L3
open PySem PySem.Spec L2 HT
open PyProof.Rows hiding St
theorem items_int{P:WQ}{w:World}:∀{us:List Value}{ns:List Int},Yl us ns->ItemsAre (intKind P w) ns us
 |_,_, .nil=> .nil
 |_,_, .cons n t h=> .cons (intKind_is _ _ _ _) (items_int h)
end L3
namespace L3
open PySem PySem.SetTable PySem.W PyProof.Rows
def IsSI(h:Heap)(it a:Addr)(sl k n ep:Nat):Prop:=∃o,h.get? it=some o/\o.cls= .type "set_iterator"/\o.data= .fields #[aaK sl,aaK k, .ref a,aaK n,aaK ep]
theorem IsSI.typeIs{s:We}{it a:Addr}{sl k n ep:Nat}(x:IsSI s.heap it a sl k n ep):s.TypeIs (.ref it) "set_iterator":=let ⟨o,ho,hc,_⟩:=x;⟨o,ho,hc⟩
end L3
namespace L3
open PySem PySem.Spec L2 HT
open PyProof.Rows hiding St
end L3
namespace L3
open PySem PySem.Spec L2 SeqAt HT
open PyProof.Rows hiding St
def PJ:List V->Hp->VK->Prop:=λxs H Q=>∃p aI ks,xs=[.ref p]/\Rd H p (.dT aI)/\aI.map (·.1)=ks.map qk/\ks.length<=lim/\∀(q:Addr) (ws:List V),H q=none->eJ H ws ks->Q (.ref q) (upd H q (.lst ws))
section
variable{X:Cx}{Xw:Nat->Hp->Prop}{e:Expr}{δs:DA}{pos p:Pos}
theorem AK(hc:X.calm=true):CallR X (.type "list") PJ:=by
 intro f8 s σ H xs us Q I r h;obtain⟨a,aI,ks,rfl,hH,Ci,hk,q⟩:=h;obtain⟨u,rfl,r1⟩:=r.one;cases (show u=_ from r1);obtain⟨z,lo,xs,rel,o,es,ep,g1,g2,g3,g4,g5⟩:=(show ObjOk X.prog X.w H s.heap a (.dT aI) from hH.ok I.hok)
 have hr:=oz rel Ci;have Av:=kf hr;rw[Wc] at Av;have OD:es.size=xs.length:=by rw[<-WL,g4,Wc]
 have Ck:WB=16777216:=Yq;have SU:lim=4096:=rfl;refine PySem.W.kdl_call (z9 lo g2 g3) (I.ok.hd hc) g1 (by rw[OD,Ck];omega) λh1 tk u8 c F8 FL y0=>?_;have KI:u8.toList.length=xs.length:=by rw[WL,<-OD];exact y0.1
 have rv:Vals (xs.map λx=>V.ref x.2.1) u8.toList:=by
  refine tB (by rw[Wc,KI]) λi v u e1 e2=>?_;rw[X8] at e2;obtain⟨en,q1,q2⟩:=y0.2 i u e2;rw[<-X8,g4,Wz] at q1;rw[Wz] at e1;cases w:xs[i]? with
  |none=>rw[w] at e1;cases e1
  |some x=>
   rw[w] at e1 q1;cases e1;cases q1;exact q2
 refine⟨.ref s.heap.objs.size,_,I.laid (t':=tk) F8 (Wr _) (show ObjOk X.prog X.w _ h1 _ (.lst (xs.map λx=>V.ref x.2.1)) from⟨by rw[Wc];omega,u8.toList,c,rv,by simpa using FL⟩),rfl,q _ _ (I.hok.fresh (Wr _)) hr⟩
def zf:List D->M D
 |[.dct kk ds]=>match fN kk with
  |some ks=>if ks.length<=lim/\ks.all (λk=>decide (k.length<=lim)) then ae (.lst (ks.map tupI)) else ah
  |none=>ah
 |_=>ah
theorem GP(hc:X.calm=true)(hg:Gl X "list")(hm:X.mg "list"=none)(hb:W8 "list"=some (.type "list"))(ha:kY X Xw [e] δs)(he:Wt [e] X.env=[(false,eval e X.env)]:=by rfl):PD X Xw (.Call (.Name "list" p) [e] [] pos) (dA zf δs):=
 oK (AK hc) (λXw F H vs ds Q s h w=>by
  unfold zf at w;split at w
  ·rename_i kk ds;obtain⟨v,rfl,h1⟩:=h.one;obtain⟨a,ob,ws,rfl,h2,h3,h4,h5⟩:=h1;split at w
   ·rename_i ks KP;split at w
    ·rename_i hok;have hl:∀k∈ks,k.length<=lim:=λk hk=>acD (W3.mp hok.2 k hk);refine⟨a,_,ks,rfl, .inr ⟨ob,s _ _ h2⟩,by rw[jG (by rw[h4];exact h3.len),kN KP],hok.1,λq us hq hr=>?_⟩;obtain⟨F1,e1,r1⟩:=sS s hr;have e2:=Ext.lay (o:= .lst us) e1.fh hq;exact WP.fin w (e1.trans e2) ⟨q,_,rfl,aQ,DenL.mono e2.ff (nH r1 hl),by rw[Wc];exact hok.1⟩
    ·exact w.elim
   ·exact w.elim
  ·exact w.elim) hg hm hb ha (by decide) (by decide) he rfl
end
end L3
namespace L3
open PySem PySem.Spec L2
open PyProof.Rows hiding St
section
end
end L3
namespace L3
open PySem PySem.Spec L2 SeqAt HT
open PyProof.Rows hiding St
section
end
section
variable{a:Expr}
end
section
variable{X:Cx}{Xw:Nat->Hp->Prop}{e:Expr}{es:List Expr}{δi:DE}{δs:DA}{pos:Pos}
theorem GR{cv:Nat->Value}{k0 k1 m:Nat}{x0 x1:Str}{g0 g1:List D->M D}{ie:Expr}{p0 p1 pl ps:Pos}
 (F0:ar X.prog X.w X.K X.mg X.base cv k0 x0 m g0)(F1:ar X.prog X.w X.K X.mg X.base cv k1 x1 m g1)
 (r0:Room k0 X.A)(r1:Room k1 X.A)(Uy:Gl X x0)(Uz:Gl X x1)(hx:Passes (df X.prog X.w cv) X (EX cv Xw))(hi:PD X Xw ie δi)
 (ha:kY X Xw (e::es) δs)(hl:(e::es).length=m)(Ur:(x0==("__debug__":Str))=false:=by decide)(Qm:(x1==("__debug__":Str))=false:=by decide)
 (he:Wt (e::es) X.env=(false,eval e X.env)::Wt es X.env:=by rfl)(lb:(X2 pos (Wt es X.env)).any (·.1)=false:=by rfl)(hs:jc ie:=by intro _ _;rfl)
 (U6:eval (.Call (.Subscript (.List [.Name x0 p0, .Name x1 p1] pl) ie ps) (e::es) [] pos) X.env=(do callWith pos (<-eval (.Subscript (.List [.Name x0 p0, .Name x1 p1] pl) ie ps) X.env) [] (X2 pos (Wt (e::es) X.env)) (ZN pos (YI [] X.env))):=by rfl):
 PD X Xw (.Call (.Subscript (.List [.Name x0 p0, .Name x1 p1] pl) ie ps) (e::es) [] pos) (Kx [g0,g1] m δi δs):=by
 obtain⟨f0,T5,Vy,a0,b0,c0,d0⟩:=F0;obtain⟨f1,T6,Vz,a1,b1,c1,d1⟩:=F1;have hf:=K9 (X:=X) (pos:=ps) wF (BA (pos:=pl) (nv (xp (pos:=p0) Uy a0 (v:= .ref f0) rfl Ur) (nv (xp (pos:=p1) Uz a1 (v:= .ref f1) rfl Qm) sC))) hi hs;intro f8 s σ H Q I ⟨F,Z,S,w⟩;refine Call_ (cV (hf f8 s σ H (λv H1=>∃F1 kk gg f fd ps,Ext F H F1 H1/\v= .ref f/\XF X.K (.ref f)=true/\Binds X.K fd ps []/\FnOk X.prog X.w X.K X.mg X.base (df X.prog X.w cv) kk f fd ps (EW X.K cv m gg)/\Room kk X.A/\
  WP X.K Xw F1 H1 (δs Z>>=λds=>if ds.length=m then gg ds else ah) Q) I ?_) λv s1 ⟨x,H1,I1,r,F1,kk,gg,f,fd,ps,e1,hv,hk,hb,hF,hr,w1⟩=>?_) U6
 ·refine⟨by show 2<=WB;rw[Yq];decide,λq hq=>?_⟩;have E0:Ext F H F (upd H q (.lst [.ref f0, .ref f1])):=Ext.free S.fh hq;refine⟨F,Z,S.ext E0,WP.mono (WP.bind (WP.ext E0 w)) λv H1 ⟨F1,d,e1,q1,w1⟩=>?_⟩;split at w1
  ·rename_i hok;unfold Gy at hok;split at hok
   ·rename_i k;cases (show v=_ from q1);have S5:H1 q=some (.lst [.ref f0, .ref f1]):=e1.hh _ _ aQ;have w1:WP X.K Xw F1 H1 (δs Z>>=λds=>match L2.atI [g0,g1] k with | some g=>if ds.length=m then g ds else ah | none=>ah) Q:=w1;obtain⟨g,hg⟩:=Xc.mp hok;rw[hg] at w1;unfold L2.atI at hg;cases hj:Ct 2 k with
    |none=>
     have hg:(Ct 2 k).bind (λj=>[g0,g1][j]?)=some g:=hg;rw[hj] at hg;cases hg
    |some j=>
     have hg:(Ct 2 k).bind (λj=>[g0,g1][j]?)=some g:=hg;rw[hj] at hg;have Ss:∀v,[V.ref f0, .ref f1][j]? =some v->L2.atI [V.ref f0, .ref f1] k=some v:=λv hv=>by
      show (Ct 2 k).bind (λj=>[V.ref f0, .ref f1][j]?)=some v;rw[hj];exact hv
     have hg:[g0,g1][j]? =some g:=hg
     match j,hg with
     |0,hg=>cases hg;exact⟨q,_,k, .ref f0,rfl,rfl,SqL.of S5,Ss _ rfl,F1,k0,g0,f0,T5,Vy,E0.trans e1,rfl,b0,c0,d0,r0,w1⟩
     |1,hg=>cases hg;exact⟨q,_,k, .ref f1,rfl,rfl,SqL.of S5,Ss _ rfl,F1,k1,g1,f1,T6,Vz,E0.trans e1,rfl,b1,c1,d1,r1,w1⟩
     |n+2,hg=>cases hg
   ·cases hok
  ·exact w1.elim
 ·subst hv;cases (show v=_ from r);refine Z_ (h₀:=X.base) I1.ok.mod.kin hk (cV (ha pos f8 s1 σ H1 (λvs H2=>EW X.K cv m gg (vs++[]) H2 Q (EX cv Xw)) I1 ⟨F1,Z,S.ext e1,WPL.mono (WP.bindL w1) λvs H2 ⟨F2,ds,e2,q2,w2⟩=>?_⟩) λus s2 ⟨vs,H2,I2,rr,q⟩=>⟨I2.kIn,?_⟩) he lb
  ·split at w2
   ·rename_i Av;exact⟨F2,ds,e2.fh,by simpa using q2,by rw[WU,<-q2.len];exact Av,WP.xw w2 λn H h=>⟨n,rfl,h⟩⟩
   ·exact w2.elim
  ·exact Hk hF hr hb .nil hx I2 rr q
end
end L3
namespace L3
open PySem PySem.Spec L2 HT
open PyProof.Rows hiding St
section
end
end L3
namespace L3
open PySem PySem.Spec L2 SeqAt HT
open PyProof.Rows hiding St
abbrev VY:=List (Key×List Key)
def Sq(Z:bo):Bool:=Z.all λx=>match x with | some (.ow _)=>false | _=>true
end L3
namespace L3
def PX(n:Nat)(δs:DA):DS:=λZ=>δs Z>>=λds=>if ds.length<=lim then a8 n else ah
end L3
namespace K1
open PySem PySem.Spec L2 L3
open PyProof.Rows hiding St
def NU:Nat->Nat
 |1=>1
 |2=>2
 |3=>3
 |_=>0
def cB(cA:Nat->Addr)(n:Nat):Addr:=cA (NU n)
def vT(cA:Nat->Addr):List Addr:=[cA 0,cA 1,cA 2,cA 3]
def LV(k:Nat):M D:=ae (.tup [.str "refused", .int ((NU k:Nat):Int)])
def BQ:DS:=(bI (eX (dA jo (aC (dV 0) (aC (dC (.raw (.ty "int"))) aN))) (Kw (dA jo (aC (dV 0) (aC (dC (.raw (.ty "bool"))) aN))))))
def cg:List D->M D:=bQ 1 (BQ)
def Am:DS:=(bI (eX (dA jo (aC (dV 0) (aC (dC (.raw (.ty "str"))) aN))) (eX (d2 kK (dA bu (aC (dV 0) aN)) (dC (.int 1))) (d2 (FA false) (dV 0) (dC (.str "abcdef"))))))
def b_:List D->M D:=bQ 1 (Am)
def tG:DS:=(bI (bc 0 (λZ=>(aC (dA bu (aC (d2 aU (dV 0) (dC (.int 0))) aN)) aN) Z>>=d7) bX (dA aZ (aC (dV 2) (aC (dV 0) aN)))))
def bY:List D->M D:=bQ 2 (tG)
def Aq:DS:=(bI (d2 gn (d2 aU (dV 0) (d2 aU (dV 1) (dC (.int 0)))) (d2 aU (dV 1) (dC (.int 1)))))
def cb:List D->M D:=bQ 2 (Aq)
def BP:DS:=(az (aW 3 (dA E2 (aC (d2 wm (d2 aU (dV 0) (dC (.int 0))) (d2 aU (dV 1) (dC (.int 0)))) aN))) (az (aW 4 (dA E2 (aC (d2 wm (d2 aU (dV 0) (dC (.int 1))) (d2 aU (dV 1) (dC (.int 1)))) aN))) (az (fU (cE (d2 kK (dV 2) (dC (.int 4)))) (bI (d2 kK (d2 dw (dV 3) (dV 4)) (dC (.int 1)))) cG) (bI (d2 kK (dA Bd (aC (dV 3) (aC (dV 4) aN))) (dC (.int 1)))))))
def eU:List D->M D:=bQ 5 (BP)
def Kq:DS:=(az (sU 1) (az (λZ=>noex ((da (putN 2) (FU (cj (dV 0)) (λZ=>(dV 0) Z>>=jJ)) (bH [2] (d8 1 (dV 2) (dC (.bl true))))) Z)) (qw 1 (bI (dV 1)))))
def d6:List D->M D:=bQ 3 (Kq)
def tI:DS:=(az (fU (cE (d2 kK (dV 0) (dA bP aN))) (bI (d2 iD (dC (.int 7)) (dV 1))) cG) (bI (d2 dw (d2 FC (dV 0) (d2 mB (dV 1) (dA bu (aC (dV 0) aN)))) (d2 iD (dC (.int 6553)) (d2 tU (dV 1) (dA bu (aC (dV 0) aN)))))))
def gT:List D->M D:=bQ 2 (tI)
def An:DS:=(az (fU (lR (du (bW (dA jo (aC (dV 0) (aC (dC (.raw (.ty "str"))) aN))))) (du (cE (tP (λi j=>decide (i<=j)) (λi j=>decide (i<=j)) (dC (.int 1)) (dA bu (aC (dV 0) aN)) (dC (.int 8)))))) (bI (dC (.bl false))) cG) (bI (dA allM (aC (bc 0 (λZ=>(dV 0) Z>>=Nw) bX (aw 1 b_ (aC (dV 0) aN))) aN))))
def gS:List D->M D:=bQ 1 (An)
def vL:DS:=(az (fU (lR (du (bW (dA jo (aC (dV 1) (aC (dC (.raw (.ty "tuple"))) aN))))) (cE (d2 mi (dA bu (aC (dV 1) aN)) (dC (.int 2))))) (bI (dC (.bl false))) cG) (az (fU (lR (du (bW (aw 1 cg (aC (d2 aU (dV 1) (dC (.int 0))) aN)))) (du (bW (aw 1 cg (aC (d2 aU (dV 1) (dC (.int 1))) aN))))) (bI (dC (.bl false))) cG) (bI (eX (tP (λi j=>decide (i<=j)) (λi j=>decide (i<j)) (dC (.int 0)) (d2 aU (dV 1) (dC (.int 0))) (dA bu (aC (dV 0) aN))) (tP (λi j=>decide (i<=j)) (λi j=>decide (i<j)) (dC (.int 0)) (d2 aU (dV 1) (dC (.int 1))) (dA bu (aC (d2 aU (dV 0) (dC (.int 0))) aN)))))))
def kI:List D->M D:=bQ 2 (vL)
def As:DS:=(fU (lR (du (bW (aw 1 cg (aC (dV 0) aN)))) (cE (d2 (II true) (dV 0) (dA aZ (aC (dC (.int 4)) (aC (dC (.int 8)) aN)))))) (PX 1 (aC (dC (.str "ways are 4 or 8")) aN)) cG)
def c7:List D->M D:=bQ 1 (As)
def Ak:DS:=(az (l8 1) (az (λZ=>noex ((da (putN 2) (λZ=>(aC (dA bu (aC (dV 0) aN)) aN) Z>>=d7) (bH [2] (BE 1 (aw 2 bY (aC (dV 0) (aC (dV 2) aN)))))) Z)) (qw 1 (bI (dV 1)))))
def h9:List D->M D:=bQ 3 (Ak)
def yg:DS:=(az (l8 3) (az (λZ=>noex ((da (putN 4) (λZ=>(aC (dA Bd (aC (d2 wm (d2 aU (dV 1) (dC (.int 0))) (dC (.int 1))) (aC (dC (.int 0)) aN))) (aC (dA Eg (aC (d2 dw (d2 aU (dV 1) (dC (.int 0))) (dC (.int 2))) (aC (dA bu (aC (dV 0) aN)) aN))) aN)) Z>>=vC) (bH [4,5] (da (putN 5) (λZ=>(aC (dA Bd (aC (d2 wm (d2 aU (dV 1) (dC (.int 1))) (dC (.int 1))) (aC (dC (.int 0)) aN))) (aC (dA Eg (aC (d2 dw (d2 aU (dV 1) (dC (.int 1))) (dC (.int 2))) (aC (dA bu (aC (d2 aU (dV 0) (dC (.int 0))) aN)) aN))) aN)) Z>>=vC) (bH [5] (fU (bW (aw 3 eU (aC (dV 1) (aC (dA aZ (aC (dV 4) (aC (dV 5) aN))) (aC (dV 2) aN))))) (gA 3 (dA aZ (aC (dV 4) (aC (dV 5) aN)))) cG))))) Z)) (qw 3 (bI (dV 3)))))
def cI:List D->M D:=bQ 6 (yg)
def p4:DS:=(az (aW 3 (d2 mB (d2 dw (d2 iD (d2 mB (aw 2 gT (aC (dV 0) (aC (dV 1) aN))) (dC (.int 2147483563))) (dC (.int 69069))) (d2 iD (dC (.int 104723)) (d2 dw (dV 1) (dC (.int 1))))) (dC (.int 2147483563)))) (az (aW 3 (d2 mB (d2 dw (d2 iD (dV 3) (dV 3)) (d2 tU (dV 3) (dC (.int 3)))) (dC (.int 2147483399)))) (bI (d2 mB (d2 tU (d2 mB (d2 dw (d2 iD (dV 3) (dV 3)) (d2 tU (dV 3) (dC (.int 7)))) (dC (.int 2147483647))) (dC (.int 11))) (dV 2)))))
def aD:List D->M D:=bQ 4 (p4)
def tH:DS:=(az (fU (lR (du (bW (dA jo (aC (dV 0) (aC (dC (.raw (.ty "tuple"))) aN))))) (du (cE (tP (λi j=>decide (i<=j)) (λi j=>decide (i<=j)) (dC (.int 1)) (dA bu (aC (dV 0) aN)) (dC (.int 8)))))) (bI (dC (.bl false))) cG) (az (fU (du (bW (dA allM (aC (bc 0 (tQ (dV 0)) bX (aw 1 gS (aC (dV 0) aN))) aN)))) (bI (dC (.bl false))) cG) (bI (dA allM (aC (bc 0 (tQ (dV 0)) bX (d2 kK (dA bu (aC (dV 0) aN)) (dA bu (aC (d2 aU (dV 1) (dC (.int 0))) aN)))) aN)))))
def jj:List D->M D:=bQ 1 (tH)
def Ar:DS:=(fU (du (bW (aw 2 kI (aC (dV 0) (aC (dV 1) aN))))) (PX 2 (aC (dC (.str "a tuple (row, column) on the board is asked for")) aN)) cG)
def gc:List D->M D:=bQ 2 (Ar)
def yc:DS:=(az (aW 3 (aw 2 cb (aC (dV 0) (aC (dV 1) aN)))) (bI (bc 0 (cj (aw 3 cI (aC (dV 0) (aC (dV 1) (aC (dV 2) aN))))) (cE (d2 kK (aw 2 cb (aC (dV 1) (aC (dV 0) aN))) (dV 4))) (dV 0))))
def dP:List D->M D:=bQ 4 (yc)
def Ao:DS:=(az (aW 3 (d2 dw (dC (.int 1)) (aw 3 aD (aC (dV 0) (aC (dV 1) (aC (dV 2) aN)))))) (az (aW 4 (d2 dw (dC (.int 1)) (aw 3 aD (aC (dV 0) (aC (d2 dw (dV 1) (dC (.int 1))) (aC (dV 2) aN)))))) (az (aW 5 (d2 jT (dA bP (aC (dC (.str "ab")) (aC (dC (.str "abc")) (aC (dC (.str "aab")) (aC (dC (.str "fa")) aN))))) (aw 3 aD (aC (dV 0) (aC (d2 dw (dV 1) (dC (.int 2))) (aC (dC (.int 4)) aN)))))) (az (aW 6 (dA aZ aN)) (az (λZ=>noex ((da (putN 7) (λZ=>(aC (dV 3) aN) Z>>=d7) (bH [7,8] (az (aW 8 (bc 0 (λZ=>(aC (dV 4) aN) Z>>=d7) bX (d2 gn (dV 6) (aw 3 aD (aC (dV 1) (aC (d2 dw (d2 dw (d2 dw (dV 2) (dC (.int 3))) (d2 iD (dC (.int 7)) (dV 8))) (dV 0)) (aC (dA bu (aC (dV 6) aN)) aN))))))) (aW 6 (d2 jS (dV 6) (dA aZ (aC (dM Cs joinM (dC (.str "")) (aC (dV 8) aN)) aN))))))) Z)) (bI (dV 6)))))))
def ej:List D->M D:=bQ 9 (Ao)
def ye:DS:=(fU (du (bW (aw 1 jj (aC (dV 0) aN)))) (PX 0 (aC (dC (.str "a tuple of 1 to 8 texts of 1 to 8 letters, all as long, is asked for")) aN)) cG)
def cp:List D->M D:=bQ 1 (ye)
def yh:DS:=(az (pX 3 (λZ=>(dV 1) Z>>=λx=>(dC .non) Z>>=λy=>rf x y)) (az (aW 4 (dA bP (aC (dV 1) aN))) (az (λZ=>noex ((sV (bW (dV 4)) (bH [5,6,7] (az (l8 5) (az (da (putN 6) (cj (dV 4)) (bH [6,7] (da (putN 7) (cj (aw 3 dP (aC (dV 0) (aC (dV 6) (aC (dV 2) aN))))) (bH [7] (fU (yk (cE (d2 (gm true) (dV 7) (dV 3)))) (az (d8 3 (dV 7) (dV 6)) (gA 5 (dV 7))) cG))))) (qw 5 (aW 4 (dV 5))))))) Z)) (qw 3 (bI (dV 3))))))
def bF:List D->M D:=bQ 8 (yh)
def Al:DS:=(az (pX 2 (LF (λZ=>(dV 1) Z>>=λx=>(dC (.int 0)) Z>>=λy=>rf x y) (λZ=>(dV 1) Z>>=λx=>(dC (.int 0)) Z>>=λy=>uR x y))) (az (aW 3 (dA bP (aC (dV 1) aN))) (az (λZ=>noex ((sV (bW (dV 3)) (bH [4,5,6] (az (l8 4) (az (da (putN 5) (cj (dV 3)) (bH [5,6] (da (putN 6) (FU (cj (d2 c8 (dV 0) (dV 5))) (λZ=>(d2 c8 (dV 0) (dV 5)) Z>>=jJ)) (bH [6] (fU (yk (cE (d2 (gm true) (dV 6) (dV 2)))) (az (d8 2 (dV 6) (Ky (d2 dw (d2 c8 (dV 2) (dV 5)) (dC (.int 1))))) (gA 4 (dV 6))) cG))))) (qw 4 (aW 3 (dV 4))))))) Z)) (qw 2 (bI (dV 2))))))
def gb:List D->M D:=bQ 7 (Al)
def Ap:DS:=(az (aW 1 (dA bP aN)) (az (λZ=>noex ((da (putN 2) (λZ=>(aC (dA bu (aC (dV 0) aN)) aN) Z>>=d7) (bH [2] (aW 1 (d2 gV (dV 1) (bc 0 (λZ=>(aC (dA bu (aC (d2 aU (dV 0) (dC (.int 0))) aN)) aN) Z>>=d7) bX (dA aZ (aC (dV 3) (aC (dV 0) aN)))))))) Z)) (bI (dV 1))))
def bh:List D->M D:=bQ 3 (Ap)
def ya:DS:=(az (l8 3) (az (λZ=>noex ((da (putN 4) (tQ (dA aZ (aC (d1 Ej (dC (.int 1))) (aC (dC (.int 0)) (aC (dC (.int 1)) aN))))) (bH [4,5,6,7,8] (da (putN 5) (tQ (dA aZ (aC (d1 Ej (dC (.int 1))) (aC (dC (.int 0)) (aC (dC (.int 1)) aN))))) (bH [5,6,7,8] (az (aW 6 (d2 dw (d2 aU (dV 1) (dC (.int 0))) (dV 4))) (az (aW 7 (d2 dw (d2 aU (dV 1) (dC (.int 1))) (dV 5))) (az (aW 8 (eX (tP (λi j=>decide (i<=j)) (λi j=>decide (i<j)) (dC (.int 0)) (dV 6) (dA bu (aC (dV 0) aN))) (tP (λi j=>decide (i<=j)) (λi j=>decide (i<j)) (dC (.int 0)) (dV 7) (dA bu (aC (d2 aU (dV 0) (dC (.int 0))) aN))))) (fU (lQ (bW (dV 8)) (lQ (cE (d2 mi (dA aZ (aC (dV 4) (aC (dV 5) aN))) (dA aZ (aC (dC (.int 0)) (aC (dC (.int 0)) aN))))) (lR (cE (d2 kK (dV 2) (dC (.int 8)))) (cE (d2 kK (d2 iD (dV 4) (dV 5)) (dC (.int 0))))))) (gA 3 (dA aZ (aC (dV 6) (aC (dV 7) aN)))) cG)))))))) Z)) (qw 3 (bI (dV 3)))))
def dO:List D->M D:=bQ 9 (ya)
def eR(K:Wn)(cA:Nat->Addr):DS:=(az (aW 1 (dA bP (aC (dA (ou K (vT cA)) (aC (dV 0) (aC (dC (.raw (.ref (cA 0)))) aN))) (aC (dA (ou K (vT cA)) (aC (dV 0) (aC (dC (.raw (.ref (cA 1)))) aN))) (aC (dA (ou K (vT cA)) (aC (dV 0) (aC (dC (.raw (.ref (cA 2)))) aN))) aN))))) (az (aW 1 (d2 gV (dV 1) (dA bP (aC (dA (ou K (vT cA)) (aC (dV 0) (aC (dC (.raw (.ref (cA 3)))) aN))) (aC (dA (ou K (vT cA)) (aC (dV 0) (aC (dC (.raw (.ref (cA 4)))) aN))) (aC (dA (ou K (vT cA)) (aC (dV 0) (aC (dC (.raw (.ref (cA 5)))) aN))) aN)))))) (az (aW 1 (d2 gV (dV 1) (dA bP (aC (dA (ou K (vT cA)) (aC (dV 0) (aC (dC (.raw (.ref (cA 6)))) aN))) aN)))) (az (fU (lR (cE (d2 mi (dM mG AN (dV 1) (aC (dC (.bl true)) aN)) (dC (.int 1)))) (du (bW (dA (ou K (vT cA)) (aC (dV 0) (aC (dC (.raw (.ty "ValueError"))) aN)))))) (bI (dA aZ (aC (dC (.str "refused")) (aC (d1 Ej (dC (.int 1))) aN)))) cG) (bI (dA aZ (aC (dC (.str "refused")) (aC (dM mG Mb (dV 1) (aC (dC (.bl true)) aN)) aN))))))))
def bV(K:Wn)(cA:Nat->Addr):List D->M D:=bQ 2 (eR K cA)
def uF:DS:=(fU (du (bW (aw 1 b_ (aC (dV 0) aN)))) (PX 3 (aC (dC (.str "one of the letters a to f is asked for")) aN)) cG)
def dY:List D->M D:=bQ 1 (uF)
def tJ:DS:=(fU (lR (du (bW (dA jo (aC (dV 0) (aC (dC (.raw (.ty "list"))) aN))))) (du (bW (dA allM (aC (bc 0 (cj (dV 0)) bX (aw 1 b_ (aC (dV 0) aN))) aN))))) (PX 3 (aC (dC (.str "a list of letters from a to f is asked for")) aN)) cG)
def dB:List D->M D:=bQ 1 (tJ)
def tK:DS:=(az (aW 3 (aw 1 d6 (aC (dV 1) aN))) (az (l8 4) (az (λZ=>noex ((da (putN 5) (λZ=>(aC (dA bu (aC (dV 0) aN)) aN) Z>>=d7) (bH [5,6] (az (aW 6 (aw 2 bY (aC (dV 0) (aC (dV 5) aN)))) (gA 4 (dM Cs joinM (dC (.str "")) (aC (bc 0 (cj (dV 6)) bX (EN (cE (d2 (gm false) (dV 0) (dV 4))) (dV 3) (aw 2 cb (aC (dV 1) (aC (dV 0) aN))))) aN)))))) Z)) (qw 4 (bI (dA HI (aC (dV 4) aN)))))))
def bA:List D->M D:=bQ 7 (tK)
def yd:DS:=(az (aW 3 (aw 1 d6 (aC (dV 1) aN))) (az (sU 4) (az (λZ=>noex ((da (putN 5) (cj (dV 1)) (bH [5] (d8 4 (dV 5) (bc 0 (cj (aw 3 cI (aC (dV 0) (aC (dV 5) (aC (dV 2) aN))))) (cE (d2 (gm false) (dV 0) (dV 4))) (dV 0))))) Z)) (qw 4 (bI (dV 4))))))
def gr:List D->M D:=bQ 6 (yd)
def BS:DS:=(az (aW 3 (aw 3 gr (aC (dV 0) (aC (dV 1) (aC (dV 2) aN))))) (az (l8 4) (az (sU 5) (az (λZ=>noex ((da (putN 6) (cj (dV 1)) (bH [6,7] (fU (yk (cE (d2 (gm true) (dV 6) (dV 5)))) (az (aW 7 (dA zf (aC (aw 2 gb (aC (dV 3) (aC (dV 6) aN))) aN))) (az (gA 4 (dV 7)) (z0 5 (aw 1 d6 (aC (dV 7) aN))))) cG))) Z)) (qw 4 (bI (dV 4)))))))
def jk:List D->M D:=bQ 8 (BS)
def uA:DS:=(az (l8 2) (az (sU 3) (az (λZ=>noex ((da (putN 4) (cj (aw 1 h9 (aC (dV 0) aN))) (bH [4,5] (fU (yk (cE (d2 (gm true) (dV 4) (dV 3)))) (az (aW 5 (dA pY (aC (aw 3 bF (aC (dV 0) (aC (dV 4) (aC (dV 1) aN)))) aN))) (az (gA 2 (dV 5)) (z0 3 (aw 1 d6 (aC (dV 5) aN))))) cG))) Z)) (qw 2 (bI (dV 2))))))
def bU:List D->M D:=bQ 6 (uA)
def yf:DS:=(az (ki (aw 1 cp (aC (dV 0) aN))) (az (ki (aw 2 gc (aC (dV 0) (aC (dV 1) aN)))) (az (ki (aw 1 c7 (aC (dV 2) aN))) (ki (aw 1 dY (aC (dV 3) aN))))))
def bZ:List D->M D:=bQ 4 (yf)
def o9:DS:=(az (aW 4 (bc 0 (cj (dV 2)) (cE (d2 mi (dV 0) (dV 4))) (dV 0))) (bI (d2 LO (dA bu (aC (aw 3 jk (aC (dV 0) (aC (dV 4) (aC (dV 1) aN)))) aN)) (dC (.int 1)))))
def bO:List D->M D:=bQ 5 (o9)
def EK:DS:=(az (ki (aw 4 bZ (aC (dV 0) (aC (dV 1) (aC (dV 2) (aC (dV 3) aN)))))) (bI (aw 3 bA (aC (dV 0) (aC (aw 3 bF (aC (dV 0) (aC (dV 1) (aC (dV 2) aN)))) (aC (dV 3) aN))))))
def fL:List D->M D:=bQ 4 (EK)
def HN:DS:=(az (ki (aw 4 bZ (aC (dV 0) (aC (dV 1) (aC (dV 2) (aC (dV 3) aN)))))) (az (aW 4 (aw 3 bA (aC (dV 0) (aC (dA bP (aC (dV 1) aN)) (aC (dV 3) aN))))) (bI (d2 wm (dA bu (aC (aw 2 bU (aC (dV 4) (aC (dV 2) aN))) aN)) (dA bu (aC (aw 2 bU (aC (dV 0) (aC (dV 2) aN))) aN))))))
def gR:List D->M D:=bQ 5 (HN)
def NJ:DS:=(az (ki (aw 1 cp (aC (dV 0) aN))) (az (ki (aw 1 c7 (aC (dV 1) aN))) (az (l8 2) (az (λZ=>noex ((da (putN 3) (cj (aw 2 bU (aC (dV 0) (aC (dV 1) aN)))) (bH [3] (BE 2 (bc 0 (cj (dV 3)) (bW (aw 4 bO (aC (dV 1) (aC (dV 2) (aC (dV 4) (aC (dV 0) aN)))))) (dV 0))))) Z)) (qw 2 (bI (dA Ki (aC (dV 2) aN))))))))
def jQ:List D->M D:=bQ 4 (NJ)
def yb:DS:=(az (pX 2 (λZ=>(aC (bc 0 (cj (aw 1 bh (aC (dV 0) aN))) bX (dA aZ (aC (dV 0) (aC (dV 0) aN)))) aN) Z>>=yL)) (az (l8 3) (az (λZ=>noex ((da (putN 4) (cj (aw 1 bh (aC (dV 0) aN))) (bH [4,5,6] (da (putN 5) (cj (aw 3 dO (aC (dV 0) (aC (dV 4) (aC (dV 1) aN))))) (bH [5,6] (az (aW 6 (d2 gn (d2 aU (dV 0) (d2 aU (dV 4) (dC (.int 0)))) (d2 aU (dV 4) (dC (.int 1))))) (fU (lQ (cE (d2 wk (dV 4) (dV 5))) (cE (d2 kK (dV 6) (d2 gn (d2 aU (dV 0) (d2 aU (dV 5) (dC (.int 0)))) (d2 aU (dV 5) (dC (.int 1))))))) (gA 3 (dA aZ (aC (dV 4) (aC (dV 5) aN)))) cG)))))) Z)) (az (aW 7 (dC (.bl true))) (az (λZ=>noex ((sV (bW (dV 7)) (bH [8,9,10] (az (aW 7 (dC (.bl false))) (qw 3 (da (nE [8,9]) (cj (dV 3)) (bH [8,9,10] (fU (yk (cE (d2 mi (d2 c8 (dV 2) (dV 8)) (d2 c8 (dV 2) (dV 9))))) (az (aW 10 (Ky (dA rS (aC (d2 c8 (dV 2) (dV 8)) (aC (d2 c8 (dV 2) (dV 9)) aN))))) (az (d8 2 (dV 8) (dV 10)) (az (d8 2 (dV 9) (dV 10)) (aW 7 (dC (.bl true)))))) cG))))))) Z)) (qw 2 (bI (dV 2))))))))
def mx:List D->M D:=bQ 11 (yb)
def uD:DS:=(az (aW 2 (aw 2 mx (aC (dV 0) (aC (dV 1) aN)))) (az (sU 3) (az (λZ=>noex ((da (putN 4) (cj (aw 1 bh (aC (dV 0) aN))) (bH [4] (d8 3 (d2 c8 (dV 2) (dV 4)) (Lu (d2 gV (pf (dV 3) (d2 c8 (dV 2) (dV 4)) (dA bP aN)) (dA bP (aC (dV 4) aN))))))) Z)) (qw 3 (bI (bc 0 (cj (dA pY (aC (dV 3) aN))) bX (d2 c8 (dV 4) (dV 0))))))))
def k_:List D->M D:=bQ 5 (uD)
def uB:DS:=(az (aW 4 (d2 uW (d2 uW (Io (d2 aU (dV 0) (dV 1)) oN (oS (dV 2))) (dV 3)) (Io (d2 aU (dV 0) (dV 1)) (oS (d2 dw (dV 2) (dC (.int 1)))) oN))) (bI (d2 jS (d2 jS (Io (dV 0) oN (oS (dV 1))) (dA aZ (aC (dV 4) aN))) (Io (dV 0) (oS (d2 dw (dV 1) (dC (.int 1)))) oN))))
def ck:List D->M D:=bQ 5 (uB)
def qA:DS:=(az (pX 2 (λZ=>(aC (bc 0 (cj (aw 1 bh (aC (dV 0) aN))) bX (dA aZ (aC (dV 0) (aC (dV 0) aN)))) aN) Z>>=yL)) (az (l8 3) (az (λZ=>noex ((da (putN 4) (cj (aw 1 bh (aC (dV 0) aN))) (bH [4,5,6] (da (putN 5) (cj (aw 3 dO (aC (dV 0) (aC (dV 4) (aC (dV 1) aN))))) (bH [5,6] (az (aW 6 (d2 gn (d2 aU (dV 0) (d2 aU (dV 4) (dC (.int 0)))) (d2 aU (dV 4) (dC (.int 1))))) (fU (lQ (cE (d2 wk (dV 4) (dV 5))) (cE (d2 kK (dV 6) (d2 gn (d2 aU (dV 0) (d2 aU (dV 5) (dC (.int 0)))) (d2 aU (dV 5) (dC (.int 1))))))) (gA 3 (dA aZ (aC (dV 4) (aC (dV 5) aN)))) cG)))))) Z)) (az (aW 7 (dC (.bl true))) (az (λZ=>noex ((sV (bW (dV 7)) (bH [8,9,10] (az (aW 7 (dC (.bl false))) (qw 3 (da (nE [8,9]) (cj (dV 3)) (bH [8,9,10] (fU (yk (cE (d2 mi (d2 c8 (dV 2) (dV 8)) (d2 c8 (dV 2) (dV 9))))) (az (aW 10 (Ky (dA rS (aC (d2 c8 (dV 2) (dV 8)) (aC (d2 c8 (dV 2) (dV 9)) aN))))) (az (d8 2 (dV 8) (dV 10)) (az (d8 2 (dV 9) (dV 10)) (aW 7 (dC (.bl true)))))) cG))))))) Z)) (qw 2 (bI (dV 2))))))))
def gk:List D->M D:=bQ 11 (qA)
def pb:DS:=(az (aW 2 (aw 2 gk (aC (dV 0) (aC (dV 1) aN)))) (az (sU 3) (az (λZ=>noex ((da (putN 4) (cj (aw 1 bh (aC (dV 0) aN))) (bH [4] (d8 3 (d2 c8 (dV 2) (dV 4)) (Lu (d2 gV (pf (dV 3) (d2 c8 (dV 2) (dV 4)) (dA bP aN)) (dA bP (aC (dV 4) aN))))))) Z)) (qw 3 (bI (bc 0 (cj (dA pY (aC (dV 3) aN))) bX (d2 c8 (dV 4) (dV 0))))))))
def aK:List D->M D:=bQ 5 (pb)
def uC:DS:=(az (aW 4 (d2 jT (bc 0 (cj (aw 2 aK (aC (dV 0) (aC (dV 2) aN)))) (cE (d2 (rk false) (dV 2) (dV 0))) (dV 0)) (dC (.int 0)))) (az (aW 5 (dA aZ aN)) (az (λZ=>noex ((da (putN 6) (λZ=>(aC (dA bu (aC (dV 0) aN)) aN) Z>>=d7) (bH [6,7] (az (aW 7 (bc 0 (λZ=>(aC (dA bu (aC (d2 aU (dV 0) (dC (.int 0))) aN)) aN) Z>>=d7) bX (EN (cE (d2 (rk false) (dA aZ (aC (dV 7) (aC (dV 0) aN))) (dV 5))) (dV 4) (d2 gn (d2 aU (dV 1) (dV 7)) (dV 0))))) (aW 5 (d2 jS (dV 5) (dA aZ (aC (dM Cs joinM (dC (.str "")) (aC (dV 7) aN)) aN))))))) Z)) (bI (dV 5)))))
def cP:List D->M D:=bQ 8 (uC)
def BR:DS:=(az (l8 2) (az (aW 3 (dA bu (aC (aw 2 aK (aC (dV 0) (aC (dV 1) aN))) aN))) (az (λZ=>noex ((da (nE [4,5]) (cj (aw 1 bh (aC (dV 0) aN))) (bH [4,5,6] (az (aW 6 (aw 4 ck (aC (dV 0) (aC (dV 4) (aC (dV 5) (aC (dC (.str "!")) aN)))))) (fU (cE (d2 LO (dA bu (aC (aw 2 aK (aC (dV 6) (aC (dV 1) aN))) aN)) (d2 dw (dV 3) (dC (.int 1))))) (gA 2 (dA aZ (aC (dV 4) (aC (dV 5) aN)))) cG)))) Z)) (qw 2 (bI (dV 2))))))
def gU:List D->M D:=bQ 7 (BR)
def uG:DS:=(az (ki (aw 1 cp (aC (dV 0) aN))) (az (ki (aw 1 c7 (aC (dV 1) aN))) (az (ki (aw 1 dB (aC (dV 2) aN))) (az (aW 3 (dV 0)) (az (λZ=>noex ((da (putN 4) (cj (dV 2)) (bH [4] (aW 3 (aw 3 bA (aC (dV 3) (aC (aw 3 bF (aC (dV 3) (aC (dA aZ (aC (dC (.int 0)) (aC (dC (.int 0)) aN))) (aC (dV 1) aN)))) (aC (dV 4) aN))))))) Z)) (bI (dV 3)))))))
def bD:List D->M D:=bQ 5 (uG)
def uE:DS:=(Hm (az (fU (cE (d2 SA (dV 0) (dC (.int 2)))) (bI (Kx [fL,gR] 4 (dV 0) (aC (dV 1) (aC (dV 2) (aC (dV 3) (aC (dV 4) aN)))))) cG) (bI (EN (cE (d2 kK (dV 0) (dC (.int 2)))) (aw 3 bD (aC (dV 1) (aC (dV 3) (aC (dA bP (aC (dV 4) aN)) aN)))) (aw 2 jQ (aC (dV 1) (aC (dV 3) aN)))))) λk=>noex (LV k))
def aA:List D->M D:=bQ 6 (uE)
def p5:DS:=(aW 1 (aw 3 ej (aC (dV 0) (aC (dC (.int 0)) (aC (dC (.int 4)) aN)))))
def p6:DS:=(aW 2 (aw 1 bh (aC (dV 1) aN)))
def p7:DS:=(aW 3 (d2 jT (dV 2) (aw 3 aD (aC (dV 0) (aC (dC (.int 50)) (aC (dA bu (aC (dV 2) aN)) aN))))))
def p8:DS:=(aW 4 (d2 jT (dA bP (aC (dC (.int 4)) (aC (dC (.int 8)) aN))) (aw 3 aD (aC (dV 0) (aC (dC (.int 51)) (aC (dC (.int 2)) aN))))))
def p9:DS:=(aW 5 (d2 gn (dC (.str "abcf")) (aw 3 aD (aC (dV 0) (aC (dC (.int 52)) (aC (dC (.int 4)) aN))))))
def p_:DS:=(fU (cE (d2 mi (aw 5 aA (aC (dC (.int 0)) (aC (dV 1) (aC (dV 3) (aC (dV 4) (aC (dV 5) aN)))))) (aw 4 cP (aC (dV 1) (aC (dV 3) (aC (dV 4) (aC (dV 5) aN))))))) (bI (dC (.bl false))) cG)
def qa:DS:=(Nr (nE [6,7]) (dV 3))
def qb:DS:=(aW 8 (aw 4 ck (aC (dV 1) (aC (dV 6) (aC (dV 7) (aC (dV 5) aN))))))
def qc:DS:=(aW 9 (d2 wm (dA bu (aC (aw 2 aK (aC (dV 8) (aC (dV 4) aN))) aN)) (dA bu (aC (aw 2 aK (aC (dV 1) (aC (dV 4) aN))) aN))))
def qd:DS:=(fU (cE (d2 mi (aw 5 aA (aC (dC (.int 1)) (aC (dV 1) (aC (dV 3) (aC (dV 4) (aC (dV 5) aN)))))) (dV 9))) (bI (dC (.bl false))) cG)
def nS:DS:=(fU (cE (d2 mi (aw 5 aA (aC (dC (.int 3)) (aC (dV 1) (aC (dV 3) (aC (dV 4) (aC (dC .non) aN)))))) (aw 2 gU (aC (dV 1) (aC (dV 4) aN))))) (bI (dC (.bl false))) cG)
def nT:DS:=(aW 10 (bc 0 (λZ=>(aC (aw 3 aD (aC (dV 0) (aC (dC (.int 53)) (aC (dC (.int 5)) aN)))) aN) Z>>=d7) bX (d2 gn (dC (.str "abcf")) (aw 3 aD (aC (dV 1) (aC (d2 dw (dC (.int 60)) (dV 0)) (aC (dC (.int 4)) aN)))))))
def nU:DS:=(aW 11 (dV 1))
def nV:DS:=(λZ=>noex ((da (putN 12) (cj (dV 10)) (bH [12] (aW 11 (aw 4 cP (aC (dV 11) (aC (dA aZ (aC (dC (.int 0)) (aC (dC (.int 0)) aN))) (aC (dV 4) (aC (dV 12) aN)))))))) Z))
def nW:DS:=(fU (cE (d2 mi (aw 3 bD (aC (dV 1) (aC (dV 4) (aC (dV 10) aN)))) (dV 11))) (bI (dC (.bl false))) cG)
def nX:DS:=(aW 13 (d2 jT (dA bP (aC (dC (.str "")) (aC (dC (.str "g")) (aC (dC .non) (aC (dC (.str "ab")) (aC (dC (.int 1)) aN)))))) (aw 3 aD (aC (dV 0) (aC (dC (.int 54)) (aC (dC (.int 5)) aN))))))
def nY:DS:=(fU (cE (d2 mi (bc 0 (λZ=>(aC (dC (.int 3)) aN) Z>>=d7) bX (aw 5 aA (aC (dV 0) (aC (dV 2) (aC (dV 4) (aC (dV 5) (aC (dV 14) aN))))))) (d2 DM (dA bP (aC (dA aZ (aC (dC (.str "refused")) (aC (dC (.int 3)) aN))) aN)) (dC (.int 3))))) (bI (dC (.bl false))) cG)
def nZ:DS:=(aW 14 (d2 jT (dA bP (aC (dC (.int 0)) (aC (dC (.int 5)) (aC (dC .non) (aC (dC (.bl true)) aN))))) (aw 3 aD (aC (dV 0) (aC (dC (.int 55)) (aC (dC (.int 4)) aN))))))
def n4:DS:=(fU (cE (d2 mi (bc 0 (λZ=>(aC (dC (.int 4)) aN) Z>>=d7) bX (aw 5 aA (aC (dV 0) (aC (dV 2) (aC (dV 4) (aC (dV 15) (aC (dV 14) aN))))))) (d2 DM (dA bP (aC (dA aZ (aC (dC (.str "refused")) (aC (dC (.int 1)) aN))) aN)) (dC (.int 4))))) (bI (dC (.bl false))) cG)
def n8:DS:=(aW 15 (d2 jT (dA bP (aC (dA aZ (aC (dA bu (aC (dV 1) aN)) (aC (dC (.int 0)) aN))) (aC (dA aZ (aC (dC (.int 0)) (aC (d1 Ej (dC (.int 1))) aN))) (aC (dC .non) (aC (dA bP (aC (dC (.int 0)) (aC (dC (.int 0)) aN))) aN))))) (aw 3 aD (aC (dV 0) (aC (dC (.int 56)) (aC (dC (.int 4)) aN))))))
def n9:DS:=(fU (cE (d2 mi (bc 0 (λZ=>(aC (dC (.int 2)) aN) Z>>=d7) bX (aw 5 aA (aC (dV 0) (aC (dV 2) (aC (dV 16) (aC (dV 15) (aC (dV 14) aN))))))) (d2 DM (dA bP (aC (dA aZ (aC (dC (.str "refused")) (aC (dC (.int 2)) aN))) aN)) (dC (.int 2))))) (bI (dC (.bl false))) cG)
def n_:DS:=(bI (d2 kK (bc 0 (λZ=>(aC (dC (.int 4)) aN) Z>>=d7) bX (aw 5 aA (aC (dV 0) (aC (dA Ge (aC (dV 2) aN)) (aC (dV 16) (aC (dV 15) (aC (dV 14) aN))))))) (d2 DM (dA bP (aC (dA aZ (aC (dC (.str "refused")) (aC (dC (.int 0)) aN))) aN)) (dC (.int 4)))))
def o_:DS:=(az p5 (az p6 (az p7 (az p8 (az p9 (az p_ (az qa (az qb (az qc (az qd (az nS (az nT (az nU (az nV (az nW (az nX (az nY (az nZ (az n4 (az n8 (az n9 n_)))))))))))))))))))))
def kJ:List D->M D:=bQ 16 o_
def QM:List Str:=["NoBoard","NoWays","NoCell","NoLetter","NoNumber","NoFit","Nothing"]
structure Bl (K:Wn) (mg:Str->Option Value) (base:Heap) (cv:Nat->Value) (cA:Nat->Addr) (Cp:Addr):Prop where
 len:mg "len"=none
 isinstance:mg "isinstance"=none
 all:mg "all"=none
 abs:mg "abs"=none
 max:mg "max"=none
 min:mg "min"=none
 range:mg "range"=none
 str:mg "str"=none
 int:mg "int"=none
 bool:mg "bool"=none
 tuple:mg "tuple"=none
 list:mg "list"=none
 dict:mg "dict"=none
 sorted:mg "sorted"=none
 ValueError:mg "ValueError"=none
 LETTERS:∃t,mg "LETTERS"=some (.str "abcdef" t)
 MOST_ROWS:∃t,mg "MOST_ROWS"=some (.int 8 t)
 MOST_COLUMNS:∃t,mg "MOST_COLUMNS"=some (.int 8 t)
 cls:∀n x,QM[n]? =some x->mg x=some (.ref (cA n))
 own0:OwnCls "NoBoard" (cA 0) [.type "ValueError", .type "Exception", .type "BaseException", .type "object"] "ValueError.__new__" mg base
 own1:OwnCls "NoWays" (cA 1) [.type "ValueError", .type "Exception", .type "BaseException", .type "object"] "ValueError.__new__" mg base
 own2:OwnCls "NoCell" (cA 2) [.type "ValueError", .type "Exception", .type "BaseException", .type "object"] "ValueError.__new__" mg base
 own3:OwnCls "NoLetter" (cA 3) [.type "ValueError", .type "Exception", .type "BaseException", .type "object"] "ValueError.__new__" mg base
 cvE:∀n,cv n= .ref (cB cA n)
 top:mg "PatchError"=some (.ref Cp)
 exm:∀n,Zt K (cv n) (.ref Cp)=some true
 exs:∀C∈vT cA,ExcC K C
 kit:∀n m,n∈[0,1,2,3]->m<7->Ws K (.ref (cA n)) (.ref (cA m))=some (decide (n=m))
 kitV:∀n,n∈[0,1,2,3]->Ws K (.ref (cA n)) (.type "ValueError")=some true
section
variable{P:WQ}{w:World}{K:Wn}{mg:Str->Option Value}{base:Heap}{cv:Nat->Value}{cA:Nat->Addr}{Cp:Addr}{f:Addr}
abbrev l_:Stmt:=top 13
def rV:List Str:=["thing"]
def sv:List Str:=["thing"]
theorem mR{j k:Nat}{A:WX}(r:Room k A)(h:j<=k:=by decide):Room j A:=r.mono h
theorem dz{N Q:List Str}{sc:Scope}(k:sc.kind= .function:=by rfl)(c:sc.isCoroutine=false:=by rfl)(g:sc.isGenerator=false:=by rfl)(p:N.take Q.length=Q:=by rfl)(h:N.Nodup/\(∀x∈Q,sc.names.lookup x=some .local\/sc.names.lookup x=some .cell)/\∀y∈sc.names,y.2≠ .free:=by decide+kernel):FnScope N Q sc:=⟨k,c,g,h.1,p,h.2.1,h.2.2⟩
theorem z6:FnScope rV sv (ai l_):=dz
theorem zD(B:Bl K mg base cv cA Cp)(T:bJ K mg "is_whole" l_ f):ar P w K mg base cv 1 "is_whole" 1 (cg):=
 aF (N:=rV) (ps:=sv) T z6 (λ_ _ _ _ _ _ us hl=>match us,hl with | [_],_=>rfl) λ_ _ _ _ _ _ hr=>
  (av (aJ (sF (lZ rfl B.isinstance rfl (aa (af (pv 0)) (aa (pW rfl B.int rfl) ag))) (xm (MV (lZ rfl B.isinstance rfl (aa (af (pv 0)) (aa (pW rfl B.bool rfl) ag))))))))
abbrev km:Stmt:=top 14
def pC:List Str:=["thing"]
def pN:List Str:=["thing"]
theorem xG:FnScope pC pN (ai km):=dz
theorem wZ(B:Bl K mg base cv cA Cp)(T:bJ K mg "is_letter" km f):ar P w K mg base cv 1 "is_letter" 1 (b_):=
 aF (N:=pC) (ps:=pN) T xG (λ_ _ _ _ _ _ us hl=>match us,hl with | [_],_=>rfl) λ_ _ _ _ _ _ hr=>
  (av (aJ (sF (lZ rfl B.isinstance rfl (aa (af (pv 0)) (aa (pW rfl B.str rfl) ag))) (sF (zN hr.units (bN rfl B.len (aa (af (pv 0)) ag)) au) (xm (MT (af (pv 0)) (JG rfl B.LETTERS (by decide))))))))
abbrev fB:Stmt:=top 23
def fg:List Str:=["board","row"]
def j4:List Str:=["board","row"]
theorem qx:FnScope fg j4 (ai fB):=dz
theorem qm(B:Bl K mg base cv cA Cp)(T:bJ K mg "cells_of_row" fB f):ar P w K mg base cv 1 "cells_of_row" 2 (bY):=
 aF (N:=fg) (ps:=j4) T qx (λ_ _ _ _ _ _ us hl=>match us,hl with | [_,_],_=>rfl) λ_ _ _ _ _ _ hr=>
  (av (aJ (c9 (tn:=["column"]) (n:=0) (bt (N:=fg) (osc:=(ai fB)) rfl rfl (by decide+kernel)) rfl rfl (b7 rfl B.range (aa (bN rfl B.len (aa (bG (af (pv 0)) au) ag)) ag)) (λ_ _ _ _ _ _ _=>cu (show Xl (((["column"]:List Str))++cW ["column"] fg) by decide+kernel) rfl rfl) (λ_ _ _ _ _ _=>cH) (λ_ _ _ _ _ _=>(b6 (aa (af (pv 2)) (aa (af (pv 0)) ag)))))))
abbrev kr:Stmt:=top 25
def pF:List Str:=["board","cell"]
def pS:List Str:=["board","cell"]
theorem xH:FnScope pF pS (ai kr):=dz
theorem w_(B:Bl K mg base cv cA Cp)(T:bJ K mg "letter_of" kr f):ar P w K mg base cv 1 "letter_of" 2 (cb):=
 aF (N:=pF) (ps:=pS) T xH (λ_ _ _ _ _ _ us hl=>match us,hl with | [_,_],_=>rfl) λ_ _ _ _ _ _ hr=>
  (av (aJ (l7 (bG (af (pv 0)) (bG (af (pv 1)) au)) (bG (af (pv 1)) au))))
abbrev l9:Stmt:=top 26
def rT:List Str:=["one","other","ways","down","along"]
def sr:List Str:=["one","other","ways"]
theorem kz:FnScope rT sr (ai l9):=dz
theorem zB(B:Bl K mg base cv cA Cp)(T:bJ K mg "are_next" l9 f):ar P w K mg base cv 1 "are_next" 3 (eU):=
 aF (N:=rT) (ps:=sr) T kz (λ_ _ _ _ _ _ us hl=>match us,hl with | [_,_,_],_=>rfl) λ_ _ _ _ _ _ hr=>
  (ao (aH kz.nd rfl (.inl rfl) (GK rfl B.abs (aa (oO (bG (af (pv 0)) au) (bG (af (pv 1)) au)) ag) rfl)) (ao (aH kz.nd rfl (.inl rfl) (GK rfl B.abs (aa (oO (bG (af (pv 0)) au) (bG (af (pv 1)) au)) ag) rfl)) (ao (bS (sO hr.units (af (pv 2)) au) (av (aJ (zN hr.units (cX (af (pv 3)) (af (pv 4))) au))) br) (av (aJ (zN hr.units (Bz rfl rfl B.max rfl (aa (af (pv 3)) (aa (af (pv 4)) ag))) au))))))
abbrev xE:Stmt:=top 28
def CG:List Str:=["things","found","thing"]
def CN:List Str:=["things"]
theorem sX:FnScope CG CN (ai xE):=dz
theorem GA(B:Bl K mg base cv cA Cp)(T:bJ K mg "keyed" xE f):ar P w K mg base cv 1 "keyed" 1 (d6):=
 aF (N:=CG) (ps:=CN) T sX (λ_ _ _ _ _ _ us hl=>match us,hl with | [_],_=>rfl) λ_ _ _ _ _ _ hr=>
  (ao (kc sX.nd rfl (.inl rfl)) (ao (cx (bM WI rfl (CU (bq (af (pv 0))) (zO (af (pv 0)))) (bb sX.nd rfl (.inl rfl)) bB (a9 (av (g6 hr.units (pv 1) (af (pv 2)) fm))))) (av (c_ (i:=1) (aJ (af (pv 1)))))))
abbrev kl:Stmt:=top 35
def pB:List Str:=["near","start","far","ring","further","thing","other"]
def pM:List Str:=["near","start"]
theorem dU:FnScope pB pM (ai kl):=dz
theorem wY(B:Bl K mg base cv cA Cp)(T:bJ K mg "distances" kl f):ar P w K mg base cv 1 "distances" 2 (gb):=
 aF (N:=pB) (ps:=pM) T dU (λ_ _ _ _ _ _ us hl=>match us,hl with | [_,_],_=>rfl) λ_ _ _ _ _ _ hr=>
  (ao (sN dU.nd rfl (.inl rfl) (JH (vv hr.units (af (pv 1)) au) (Ez hr.units (af (pv 1)) au))) (ao (aH dU.nd rfl (.inl rfl) (di (aa (af (pv 1)) ag))) (ao (cx (oQ WI (cK (af (pv 3))) (a9 (ao (fq dU.nd rfl (.inl rfl)) (ao (bM WI rfl (bq (af (pv 3))) (bb dU.nd rfl (.inl rfl)) bB (a9 (av (bM WI rfl (CU (bq (iG hr.units (af (pv 0)) (af (pv 5)))) (zO (iG hr.units (af (pv 0)) (af (pv 5))))) (bb dU.nd rfl (.inl rfl)) bB (a9 (av (bS (sI (kW hr.units (af (pv 6)) (af (pv 2)))) (ao (g6 hr.units (pv 2) (af (pv 6)) (K8 (cX (iG hr.units (af (pv 2)) (af (pv 5))) au))) (av (gy (pv 4) (af (pv 6))))) br))))))) (av (c_ (i:=4) (aH dU.nd rfl (.inl rfl) (af (pv 4)))))))))) (av (c_ (i:=2) (aJ (af (pv 2))))))))
abbrev ma:Stmt:=top 45
def rW:List Str:=["_law_script","_law_k"]
def sx:List Str:=["_law_script","_law_k"]
theorem z7:FnScope rW sx (ai ma):=dz
theorem zE(B:Bl K mg base cv cA Cp)(T:bJ K mg "_law_cell" ma f):ar P w K mg base cv 1 "_law_cell" 2 (gT):=
 aF (N:=rW) (ps:=sx) T z7 (λ_ _ _ _ _ _ us hl=>match us,hl with | [_,_],_=>rfl) λ_ _ _ _ _ _ hr=>
  (ao (bS (sO hr.units (af (pv 0)) (di ag)) (av (aJ (j9 au (af (pv 1))))) br) (av (aJ (cX (MU (af (pv 0)) (oM (af (pv 1)) (bN rfl B.len (aa (af (pv 0)) ag)))) (j9 au (xi (af (pv 1)) (bN rfl B.len (aa (af (pv 0)) ag))))))))
abbrev iy:Stmt:=top 48
def ip:List Str:=["_law_board_here","_law_found","_law_row"]
def pP:List Str:=["_law_board_here"]
theorem gE:FnScope ip pP (ai iy):=dz
theorem w6(B:Bl K mg base cv cA Cp)(T:bJ K mg "_law_cells" iy f):ar P w K mg base cv 1 "_law_cells" 1 (bh):=
 aF (N:=ip) (ps:=pP) T gE (λ_ _ _ _ _ _ us hl=>match us,hl with | [_],_=>rfl) λ_ _ _ _ _ _ hr=>
  (ao (aH gE.nd rfl (.inl rfl) (di ag)) (ao (cx (bM WI rfl (b7 rfl B.range (aa (bN rfl B.len (aa (af (pv 0)) ag)) ag)) (bb gE.nd rfl (.inr rfl)) bB (a9 (av (aH gE.nd rfl (.inl rfl) (qG (af (pv 1)) (c9 (tn:=["_law_column"]) (n:=0) (bt (N:=ip) (osc:=(ai iy)) rfl rfl (by decide+kernel)) rfl rfl (b7 rfl B.range (aa (bN rfl B.len (aa (bG (af (pv 0)) au) ag)) ag)) (λ_ _ _ _ _ _ _=>cu (show Xl (((["_law_column"]:List Str))++cW ["_law_column"] ip) by decide+kernel) rfl rfl) (λ_ _ _ _ _ _=>cH) (λ_ _ _ _ _ _=>(b6 (aa (af (pv 3)) (aa (af (pv 0)) ag))))))))))) (av (aJ (af (pv 1))))))
abbrev jy:Stmt:=top 49
def mT:List Str:=["_law_board_here","_law_cell_here","_law_ways","_law_found","_law_down","_law_right","_law_row","_law_column","_law_inside"]
def ng:List Str:=["_law_board_here","_law_cell_here","_law_ways"]
theorem dm:FnScope mT ng (ai jy):=dz
theorem t8(B:Bl K mg base cv cA Cp)(T:bJ K mg "_law_beside" jy f):ar P w K mg base cv 1 "_law_beside" 3 (dO):=
 aF (N:=mT) (ps:=ng) T dm (λ_ _ _ _ _ _ us hl=>match us,hl with | [_,_,_],_=>rfl) λ_ _ _ _ _ _ hr=>
  (ao (fq dm.nd rfl (.inl rfl)) (ao (cx (bM WI rfl (qI (b6 (aa (xl au) (aa au (aa au ag))))) (bb dm.nd rfl (.inl rfl)) bB (a9 (av (bM WI rfl (qI (b6 (aa (xl au) (aa au (aa au ag))))) (bb dm.nd rfl (.inl rfl)) bB (a9 (ao (aH dm.nd rfl (.inl rfl) (cX (bG (af (pv 1)) au) (af (pv 4)))) (ao (aH dm.nd rfl (.inl rfl) (cX (bG (af (pv 1)) au) (af (pv 5)))) (ao (aH dm.nd rfl (.inl rfl) (sF (xh pK zH au (af (pv 6)) (bN rfl B.len (aa (af (pv 0)) ag))) (xm (xh pK zH au (af (pv 7)) (bN rfl B.len (aa (bG (af (pv 0)) au) ag)))))) (av (bS (PDW.t (xo (cK (af (pv 8))) (xo (jN hr.units (b6 (aa (af (pv 4)) (aa (af (pv 5)) ag))) (b6 (aa au (aa au ag)))) (zP (PDW.t (j_ (sO hr.units (af (pv 2)) au) (ir (sO hr.units (j9 (af (pv 4)) (af (pv 5))) au)))))))) (av (gy (pv 3) (b6 (aa (af (pv 6)) (aa (af (pv 7)) ag))))) br))))))))))) (av (c_ (i:=3) (aJ (af (pv 3)))))))
abbrev iL:Stmt:=top 52
def ll:List Str:=["_law_e","_law_flags"]
def lD:List Str:=["_law_e"]
theorem fF:FnScope ll lD (ai iL):=dz
theorem sj(B:Bl K mg base cv cA Cp)(T:bJ K mg "_law_refused" iL f):qB P w K mg base cv 1 "_law_refused" 1 (bV K cA):=
 AI (N:=ll) (ps:=lD) T fF (λ_ _ _ _ _ _ us hl=>match us,hl with | [_],_=>rfl) λbT A outer s H hr=>
  (ao (aH fF.nd rfl (.inl rfl) (di (aa (j8 B.exs rfl B.isinstance rfl (aa (af (pv 0)) (aa (jx rfl (B.cls 0 "NoBoard" rfl)) ag))) (aa (j8 B.exs rfl B.isinstance rfl (aa (af (pv 0)) (aa (jx rfl (B.cls 1 "NoWays" rfl)) ag))) (aa (j8 B.exs rfl B.isinstance rfl (aa (af (pv 0)) (aa (jx rfl (B.cls 2 "NoCell" rfl)) ag))) ag))))) (ao (aH fF.nd rfl (.inl rfl) (qG (af (pv 1)) (di (aa (j8 B.exs rfl B.isinstance rfl (aa (af (pv 0)) (aa (jx rfl (B.cls 3 "NoLetter" rfl)) ag))) (aa (j8 B.exs rfl B.isinstance rfl (aa (af (pv 0)) (aa (jx rfl (B.cls 4 "NoNumber" rfl)) ag))) (aa (j8 B.exs rfl B.isinstance rfl (aa (af (pv 0)) (aa (jx rfl (B.cls 5 "NoFit" rfl)) ag))) ag)))))) (ao (aH fF.nd rfl (.inl rfl) (qG (af (pv 1)) (di (aa (j8 B.exs rfl B.isinstance rfl (aa (af (pv 0)) (aa (jx rfl (B.cls 6 "Nothing" rfl)) ag))) ag)))) (ao (bS (PDW.t (j_ (jN hr.units (MR (af (pv 1)) (aa fm ag)) au) (ir (dQ (cK (j8 B.exs rfl B.isinstance rfl (aa (af (pv 0)) (aa (pW rfl B.ValueError rfl) ag)))))))) (av (aJ (b6 (aa cJ (aa (xl au) ag))))) br) (av (aJ (b6 (aa cJ (aa (MS (af (pv 1)) (aa fm ag)) ag)))))))))
abbrev iJ:Stmt:=top 55
def lj:List Str:=["_law_board_here","_law_row","_law_column","_law_letter","_law_line"]
def lB:List Str:=["_law_board_here","_law_row","_law_column","_law_letter"]
theorem kA:FnScope lj lB (ai iJ):=dz
theorem sf(B:Bl K mg base cv cA Cp)(T:bJ K mg "_law_changed" iJ f):ar P w K mg base cv 1 "_law_changed" 4 (ck):=
 aF (N:=lj) (ps:=lB) T kA (λ_ _ _ _ _ _ us hl=>match us,hl with | [_,_,_,_],_=>rfl) λ_ _ _ _ _ _ hr=>
  (ao (aH kA.nd rfl (.inl rfl) (CO (CO (CS (bG (af (pv 0)) (af (pv 1))) nA (nB (af (pv 2)))) (af (pv 3))) (CS (bG (af (pv 0)) (af (pv 1))) (nB (cX (af (pv 2)) au)) nA))) (av (aJ (qH (qH (CS (af (pv 0)) nA (nB (af (pv 1)))) (b6 (aa (af (pv 4)) ag))) (CS (af (pv 0)) (nB (cX (af (pv 1)) au)) nA)))))
abbrev nK:Stmt:=top 15
def mS:List Str:=["thing"]
def zK:List Str:=["thing"]
theorem ED:FnScope mS zK (ai nK):=dz
theorem Ep(B:Bl K mg base cv cA Cp)(f9:ar P w K mg base cv 1 "is_letter" 1 b_)(T:bJ K mg "is_row" nK f):ar P w K mg base cv 2 "is_row" 1 (gS):=
 aF (N:=mS) (ps:=zK) T ED (λ_ _ _ _ _ _ us hl=>match us,hl with | [_],_=>rfl) λ_ _ _ _ _ _ hr=>
  (ao (bS (PDW.t (j_ (dQ (cK (lZ rfl B.isinstance rfl (aa (af (pv 0)) (aa (pW rfl B.str rfl) ag))))) (ir (dQ (G8 pK pK au (bN rfl B.len (aa (af (pv 0)) ag)) (CP rfl B.MOST_COLUMNS)))))) (av (aJ fm)) br) (av (aJ (xg rfl rfl B.all rfl (aa (c9 (tn:=["sign"]) (n:=0) (bt (N:=mS) (osc:=(ai nK)) rfl rfl (by decide+kernel)) rfl rfl (JI (af (pv 0))) (λ_ _ _ _ _ _ _=>cu (show Xl (((["sign"]:List Str))++cW ["sign"] mS) by decide+kernel) rfl rfl) (λ_ _ _ _ _ _=>cH) (λ_ _ _ _ _ _=>(a6 f9 (mR hr) rfl cS (aa (af (pv 0)) ag) rfl))) ag)))))
abbrev o3:Stmt:=top 17
def vg:List Str:=["board","thing"]
def vo:List Str:=["board","thing"]
theorem BF:FnScope vg vo (ai o3):=dz
theorem Bp(B:Bl K mg base cv cA Cp)(jf:ar P w K mg base cv 1 "is_whole" 1 cg)(T:bJ K mg "is_cell" o3 f):ar P w K mg base cv 2 "is_cell" 2 (kI):=
 aF (N:=vg) (ps:=vo) T BF (λ_ _ _ _ _ _ us hl=>match us,hl with | [_,_],_=>rfl) λ_ _ _ _ _ _ hr=>
  (ao (bS (PDW.t (j_ (dQ (cK (lZ rfl B.isinstance rfl (aa (af (pv 1)) (aa (pW rfl B.tuple rfl) ag))))) (ir (jN hr.units (bN rfl B.len (aa (af (pv 1)) ag)) au)))) (av (aJ fm)) br) (ao (bS (PDW.t (j_ (dQ (cK (a6 jf (mR hr) rfl bf (aa (bG (af (pv 1)) au) ag) rfl))) (ir (dQ (cK (a6 jf (mR hr) rfl bf (aa (bG (af (pv 1)) au) ag) rfl)))))) (av (aJ fm)) br) (av (aJ (sF (xh pK zH au (bG (af (pv 1)) au) (bN rfl B.len (aa (af (pv 0)) ag))) (xm (xh pK zH au (bG (af (pv 1)) au) (bN rfl B.len (aa (bG (af (pv 0)) au) ag)))))))))
abbrev iN:Stmt:=top 20
def lr:List Str:=["thing"]
def lG:List Str:=["thing"]
theorem sY:FnScope lr lG (ai iN):=dz
theorem sm(B:Bl K mg base cv cA Cp)(f9:ar P w K mg base cv 1 "is_letter" 1 b_)(T:bJ K mg "need_letter" iN f):ar P w K mg base cv 2 "need_letter" 1 (dY):=
 aF (N:=lr) (ps:=lG) T sY (λ_ _ _ _ _ _ us hl=>match us,hl with | [_],_=>rfl) λ_ _ _ _ _ _ hr=>
  (av (bS (dQ (cK (a6 f9 (mR hr) rfl bf (aa (af (pv 0)) ag) rfl))) (av (i9 B.own3 X1 rfl rfl (B.cvE 3) zh (aa cJ ag))) br))
abbrev fC:Stmt:=top 21
def fi:List Str:=["thing"]
def j5:List Str:=["thing"]
theorem qy:FnScope fi j5 (ai fC):=dz
theorem qo(B:Bl K mg base cv cA Cp)(f9:ar P w K mg base cv 1 "is_letter" 1 b_)(T:bJ K mg "need_letters" fC f):ar P w K mg base cv 2 "need_letters" 1 (dB):=
 aF (N:=fi) (ps:=j5) T qy (λ_ _ _ _ _ _ us hl=>match us,hl with | [_],_=>rfl) λ_ _ _ _ _ _ hr=>
  (av (bS (PDW.t (j_ (dQ (cK (lZ rfl B.isinstance rfl (aa (af (pv 0)) (aa (pW rfl B.list rfl) ag))))) (ir (dQ (cK (xg rfl rfl B.all rfl (aa (c9 (tn:=["part"]) (n:=0) (bt (N:=fi) (osc:=(ai fC)) rfl rfl (by decide+kernel)) rfl rfl (bq (af (pv 0))) (λ_ _ _ _ _ _ _=>cu (show Xl (((["part"]:List Str))++cW ["part"] fi) by decide+kernel) rfl rfl) (λ_ _ _ _ _ _=>cH) (λ_ _ _ _ _ _=>(a6 f9 (mR hr) rfl cS (aa (af (pv 0)) ag) rfl))) ag))))))) (av (i9 B.own3 X1 rfl rfl (B.cvE 3) zh (aa cJ ag))) br))
abbrev kx:Stmt:=top 22
def pH:List Str:=["thing"]
def pU:List Str:=["thing"]
theorem xJ:FnScope pH pU (ai kx):=dz
theorem xb(B:Bl K mg base cv cA Cp)(jf:ar P w K mg base cv 1 "is_whole" 1 cg)(T:bJ K mg "need_ways" kx f):ar P w K mg base cv 2 "need_ways" 1 (c7):=
 aF (N:=pH) (ps:=pU) T xJ (λ_ _ _ _ _ _ us hl=>match us,hl with | [_],_=>rfl) λ_ _ _ _ _ _ hr=>
  (av (bS (PDW.t (j_ (dQ (cK (a6 jf (mR hr) rfl bf (aa (af (pv 0)) ag) rfl))) (ir (EC (af (pv 0)) (b6 (aa au (aa au ag))))))) (av (i9 B.own1 X1 rfl rfl (B.cvE 1) zh (aa cJ ag))) br))
abbrev kj:Stmt:=top 24
def pA:List Str:=["board","found","row"]
def pL:List Str:=["board"]
theorem jD:FnScope pA pL (ai kj):=dz
theorem wX(B:Bl K mg base cv cA Cp)(gP:ar P w K mg base cv 1 "cells_of_row" 2 bY)(T:bJ K mg "all_cells" kj f):ar P w K mg base cv 2 "all_cells" 1 (h9):=
 aF (N:=pA) (ps:=pL) T jD (λ_ _ _ _ _ _ us hl=>match us,hl with | [_],_=>rfl) λ_ _ _ _ _ _ hr=>
  (ao (fq jD.nd rfl (.inl rfl)) (ao (cx (bM WI rfl (b7 rfl B.range (aa (bN rfl B.len (aa (af (pv 0)) ag)) ag)) (bb jD.nd rfl (.inl rfl)) bB (a9 (av (CV (pv 1) (a6 gP (mR hr) rfl cS (aa (af (pv 0)) (aa (af (pv 2)) ag)) rfl)))))) (av (c_ (i:=1) (aJ (af (pv 1)))))))
abbrev jB:Stmt:=top 27
def mW:List Str:=["board","cell","ways","found","row","column"]
def nq:List Str:=["board","cell","ways"]
theorem fZ:FnScope mW nq (ai jB):=dz
theorem uc(B:Bl K mg base cv cA Cp)(AE:ar P w K mg base cv 1 "are_next" 3 eU)(T:bJ K mg "next_cells" jB f):ar P w K mg base cv 2 "next_cells" 3 (cI):=
 aF (N:=mW) (ps:=nq) T fZ (λ_ _ _ _ _ _ us hl=>match us,hl with | [_,_,_],_=>rfl) λ_ _ _ _ _ _ hr=>
  (ao (fq fZ.nd rfl (.inl rfl)) (ao (cx (bM WI rfl (sH rfl B.range (aa (Bz rfl rfl B.max rfl (aa (oO (bG (af (pv 1)) au) au) (aa au ag))) (aa (GQ rfl rfl B.min rfl (aa (cX (bG (af (pv 1)) au) au) (aa (bN rfl B.len (aa (af (pv 0)) ag)) ag))) ag))) (bb fZ.nd rfl (.inl rfl)) bB (a9 (av (bM WI rfl (sH rfl B.range (aa (Bz rfl rfl B.max rfl (aa (oO (bG (af (pv 1)) au) au) (aa au ag))) (aa (GQ rfl rfl B.min rfl (aa (cX (bG (af (pv 1)) au) au) (aa (bN rfl B.len (aa (bG (af (pv 0)) au) ag)) ag))) ag))) (bb fZ.nd rfl (.inl rfl)) bB (a9 (av (bS (cK (a6 AE (mR hr) rfl cS (aa (af (pv 1)) (aa (b6 (aa (af (pv 4)) (aa (af (pv 5)) ag))) (aa (af (pv 2)) ag))) rfl)) (av (gy (pv 3) (b6 (aa (af (pv 4)) (aa (af (pv 5)) ag))))) br)))))))) (av (c_ (i:=3) (aJ (af (pv 3)))))))
abbrev fE:Stmt:=top 29
def fj:List Str:=["board","some","letter","marked","told","row","places"]
def j6:List Str:=["board","some","letter"]
theorem dW:FnScope fj j6 (ai fE):=dz
theorem qp(B:Bl K mg base cv cA Cp)(jg:ar P w K mg base cv 1 "keyed" 1 d6)(gP:ar P w K mg base cv 1 "cells_of_row" 2 bY)(h7:ar P w K mg base cv 1 "letter_of" 2 cb)(T:bJ K mg "with_letters" fE f):ar P w K mg base cv 2 "with_letters" 3 (bA):=
 aF (N:=fj) (ps:=j6) T dW (λ_ _ _ _ _ _ us hl=>match us,hl with | [_,_,_],_=>rfl) λ_ _ _ _ _ _ hr=>
  (ao (aH dW.nd rfl (.inr rfl) (a6 jg (mR hr) rfl bf (aa (af (pv 1)) ag) rfl)) (ao (fq dW.nd rfl (.inl rfl)) (ao (cx (bM WI rfl (b7 rfl B.range (aa (bN rfl B.len (aa (af (pv 0)) ag)) ag)) (bb dW.nd rfl (.inl rfl)) bB (a9 (ao (aH dW.nd rfl (.inl rfl) (a6 gP (mR hr) rfl cS (aa (af (pv 0)) (aa (af (pv 5)) ag)) rfl)) (av (gy (pv 4) (xk cJ (aa (c9 (tn:=["cell"]) (n:=0) (bt (N:=fj) (osc:=(ai fE)) rfl rfl (by decide+kernel)) rfl rfl (bq (af (pv 6))) (λ_ _ _ _ _ _ _=>cu (show Xl (((["cell"]:List Str))++cW ["cell"] fj) by decide+kernel) rfl rfl) (λ_ _ _ _ _ _=>cH) (λ_ _ _ _ _ _=>(GO (G_ hr.units (af (pv 0)) (af (pv 4))) (af (pv 3)) (a6 h7 (mR hr) rfl cS (aa (af (pv 1)) (aa (af (pv 0)) ag)) rfl)))) ag)))))))) (av (c_ (i:=4) (aJ (GS rfl B.tuple rfl (aa (af (pv 4)) ag))))))))
abbrev kq:Stmt:=top 46
def pE:List Str:=["_law_script","_law_k","_law_many","_law_cell_here"]
def pQ:List Str:=["_law_script","_law_k","_law_many"]
theorem jE:FnScope pE pQ (ai kq):=dz
theorem w9(B:Bl K mg base cv cA Cp)(AG:ar P w K mg base cv 1 "_law_cell" 2 gT)(T:bJ K mg "_law_drawn" kq f):ar P w K mg base cv 2 "_law_drawn" 3 (aD):=
 aF (N:=pE) (ps:=pQ) T jE (λ_ _ _ _ _ _ us hl=>match us,hl with | [_,_,_],_=>rfl) λ_ _ _ _ _ _ hr=>
  (ao (aH jE.nd rfl (.inl rfl) (oM (cX (j9 (oM (a6 AG (mR hr) rfl bf (aa (af (pv 0)) (aa (af (pv 1)) ag)) rfl) au) au) (j9 au (cX (af (pv 1)) au))) au)) (ao (aH jE.nd rfl (.inl rfl) (oM (cX (j9 (af (pv 3)) (af (pv 3))) (xi (af (pv 3)) au)) au)) (av (aJ (oM (xi (oM (cX (j9 (af (pv 3)) (af (pv 3))) (xi (af (pv 3)) au)) au) au) (af (pv 2)))))))
abbrev eT:Stmt:=top 50
def eS:List Str:=["_law_board_here","_law_ways","_law_found","_law_pairs","_law_cell_here","_law_there","_law_mine","_law_changed_here","_law_one","_law_other","_law_least"]
def jM:List Str:=["_law_board_here","_law_ways"]
theorem aY:FnScope eS jM (ai eT):=dz
theorem oG(B:Bl K mg base cv cA Cp)(cN:ar P w K mg base cv 1 "_law_cells" 1 bh)(vU:ar P w K mg base cv 1 "_law_beside" 3 dO)(T:bJ K mg "_law_labels" eT f):ar P w K mg base cv 2 "_law_labels" 2 (gk):=
 aF (N:=eS) (ps:=jM) T aY (λ_ _ _ _ _ _ us hl=>match us,hl with | [_,_],_=>rfl) λ_ _ _ _ _ _ hr=>
  (ao (sN aY.nd rfl (.inl rfl) (GU hr.units rfl rfl B.dict rfl (aa (c9 (tn:=["_law_cell_here"]) (n:=0) (bt (N:=eS) (osc:=(ai eT)) rfl rfl (by decide+kernel)) rfl rfl (bq (a6 cN (mR hr) rfl bf (aa (af (pv 0)) ag) rfl)) (λ_ _ _ _ _ _ _=>cu (show Xl (((["_law_cell_here"]:List Str))++cW ["_law_cell_here"] eS) by decide+kernel) rfl rfl) (λ_ _ _ _ _ _=>cH) (λ_ _ _ _ _ _=>(b6 (aa (af (pv 0)) (aa (af (pv 0)) ag))))) ag))) (ao (fq aY.nd rfl (.inl rfl)) (ao (cx (bM WI rfl (bq (a6 cN (mR hr) rfl cS (aa (af (pv 0)) ag) rfl)) (bb aY.nd rfl (.inl rfl)) bB (a9 (av (bM WI rfl (bq (a6 vU (mR hr) rfl cS (aa (af (pv 0)) (aa (af (pv 4)) (aa (af (pv 1)) ag))) rfl)) (bb aY.nd rfl (.inl rfl)) bB (a9 (ao (aH aY.nd rfl (.inl rfl) (l7 (bG (af (pv 0)) (bG (af (pv 4)) au)) (bG (af (pv 4)) au))) (av (bS (PDW.t (xo (Ng hr.units (af (pv 4)) (af (pv 5))) (zP (sO hr.units (af (pv 6)) (l7 (bG (af (pv 0)) (bG (af (pv 5)) au)) (bG (af (pv 5)) au)))))) (av (gy (pv 3) (b6 (aa (af (pv 4)) (aa (af (pv 5)) ag))))) br))))))))) (ao (aH aY.nd rfl (.inl rfl) fm) (ao (cx (oQ WI (cK (af (pv 7))) (a9 (ao (aH aY.nd rfl (.inl rfl) fm) (av (c_ (i:=3) (bM WI rfl (bq (af (pv 3))) (BB rfl (i8 (bb aY.nd rfl (.inl rfl)) (i8 (bb aY.nd rfl (.inl rfl)) xq))) (xt (is:=[8,9])) (a9 (av (bS (sI (jN hr.units (iG hr.units (af (pv 2)) (af (pv 8))) (iG hr.units (af (pv 2)) (af (pv 9))))) (ao (aH aY.nd rfl (.inl rfl) (K8 (JF hr.units rfl rfl B.min rfl (aa (iG hr.units (af (pv 2)) (af (pv 8))) (aa (iG hr.units (af (pv 2)) (af (pv 9))) ag))))) (ao (g6 hr.units (pv 2) (af (pv 8)) (af (pv 10))) (ao (g6 hr.units (pv 2) (af (pv 9)) (af (pv 10))) (av (aH aY.nd rfl (.inl rfl) fm))))) br)))))))))) (av (c_ (i:=2) (aJ (af (pv 2))))))))))
abbrev g8:Stmt:=top 16
def fR:List Str:=["thing"]
def su:List Str:=["thing"]
theorem z5:FnScope fR su (ai g8):=dz
theorem zC(B:Bl K mg base cv cA Cp)(E9:ar P w K mg base cv 2 "is_row" 1 gS)(T:bJ K mg "is_board" g8 f):ar P w K mg base cv 3 "is_board" 1 (jj):=
 aF (N:=fR) (ps:=su) T z5 (λ_ _ _ _ _ _ us hl=>match us,hl with | [_],_=>rfl) λ_ _ _ _ _ _ hr=>
  (ao (bS (PDW.t (j_ (dQ (cK (lZ rfl B.isinstance rfl (aa (af (pv 0)) (aa (pW rfl B.tuple rfl) ag))))) (ir (dQ (G8 pK pK au (bN rfl B.len (aa (af (pv 0)) ag)) (CP rfl B.MOST_ROWS)))))) (av (aJ fm)) br) (ao (bS (dQ (cK (xg rfl rfl B.all rfl (aa (c9 (tn:=["row"]) (n:=0) (bt (N:=fR) (osc:=(ai g8)) rfl rfl (by decide+kernel)) rfl rfl (qI (af (pv 0))) (λ_ _ _ _ _ _ _=>cu (show Xl (((["row"]:List Str))++cW ["row"] fR) by decide+kernel) rfl rfl) (λ_ _ _ _ _ _=>cH) (λ_ _ _ _ _ _=>(a6 E9 (mR hr) rfl cS (aa (af (pv 0)) ag) rfl))) ag)))) (av (aJ fm)) br) (av (aJ (xg rfl rfl B.all rfl (aa (c9 (tn:=["row"]) (n:=0) (bt (N:=fR) (osc:=(ai g8)) rfl rfl (by decide+kernel)) rfl rfl (qI (af (pv 0))) (λ_ _ _ _ _ _ _=>cu (show Xl (((["row"]:List Str))++cW ["row"] fR) by decide+kernel) rfl rfl) (λ_ _ _ _ _ _=>cH) (λ_ _ _ _ _ _=>(zN hr.units (bN rfl B.len (aa (af (pv 0)) ag)) (bN rfl B.len (aa (bG (af (pv 1)) au) ag))))) ag))))))
abbrev ku:Stmt:=top 19
def pG:List Str:=["board","thing"]
def pT:List Str:=["board","thing"]
theorem xI:FnScope pG pT (ai ku):=dz
theorem xa(B:Bl K mg base cv cA Cp)(Dt:ar P w K mg base cv 2 "is_cell" 2 kI)(T:bJ K mg "need_cell" ku f):ar P w K mg base cv 3 "need_cell" 2 (gc):=
 aF (N:=pG) (ps:=pT) T xI (λ_ _ _ _ _ _ us hl=>match us,hl with | [_,_],_=>rfl) λ_ _ _ _ _ _ hr=>
  (av (bS (dQ (cK (a6 Dt (mR hr) rfl bf (aa (af (pv 0)) (aa (af (pv 1)) ag)) rfl))) (av (i9 B.own2 X1 rfl rfl (B.cvE 2) zh (aa cJ ag))) br))
abbrev gB:Stmt:=top 31
def gw:List Str:=["board","cell","ways","letter"]
def nh:List Str:=["board","cell","ways"]
theorem lI:FnScope gw nh (ai gB):=dz
theorem t9(B:Bl K mg base cv cA Cp)(h7:ar P w K mg base cv 1 "letter_of" 2 cb)(ji:ar P w K mg base cv 2 "next_cells" 3 cI)(T:bJ K mg "like_cells" gB f):ar P w K mg base cv 3 "like_cells" 3 (dP):=
 aF (N:=gw) (ps:=nh) T lI (λ_ _ _ _ _ _ us hl=>match us,hl with | [_,_,_],_=>rfl) λ_ _ _ _ _ _ hr=>
  (ao (aH lI.nd rfl (.inr rfl) (a6 h7 (mR hr) rfl bf (aa (af (pv 0)) (aa (af (pv 1)) ag)) rfl)) (av (aJ (c9 (tn:=["near"]) (n:=0) (bt (N:=gw) (osc:=(ai gB)) rfl rfl (by decide+kernel)) rfl rfl (bq (a6 ji (mR hr) rfl bf (aa (af (pv 0)) (aa (af (pv 1)) (aa (af (pv 2)) ag))) rfl)) (λ_ _ _ _ _ _ _=>cu (show Xl (((["near"]:List Str))++cW ["near"] gw) by decide+kernel) rfl rfl) (λ_ _ _ _ _ _=>(kE (sO hr.units (a6 h7 (mR hr) rfl cS (aa (af (pv 1)) (aa (af (pv 0)) ag)) rfl) (af (pv 4))))) (λ_ _ _ _ _ _=>(af (pv 0)))))))
abbrev gD:Stmt:=top 34
def gx:List Str:=["board","some","ways","among","near","cell"]
def ni:List Str:=["board","some","ways"]
theorem fY:FnScope gx ni (ai gD):=dz
theorem t_(B:Bl K mg base cv cA Cp)(jg:ar P w K mg base cv 1 "keyed" 1 d6)(ji:ar P w K mg base cv 2 "next_cells" 3 cI)(T:bJ K mg "near_among" gD f):ar P w K mg base cv 3 "near_among" 3 (gr):=
 aF (N:=gx) (ps:=ni) T fY (λ_ _ _ _ _ _ us hl=>match us,hl with | [_,_,_],_=>rfl) λ_ _ _ _ _ _ hr=>
  (ao (aH fY.nd rfl (.inr rfl) (a6 jg (mR hr) rfl bf (aa (af (pv 1)) ag) rfl)) (ao (kc fY.nd rfl (.inl rfl)) (ao (cx (bM WI rfl (bq (af (pv 1))) (bb fY.nd rfl (.inl rfl)) bB (a9 (av (g6 hr.units (pv 4) (af (pv 5)) (c9 (tn:=["other"]) (n:=0) (bt (N:=gx) (osc:=(ai gD)) rfl rfl (by decide+kernel)) rfl rfl (bq (a6 ji (mR hr) rfl cS (aa (af (pv 0)) (aa (af (pv 5)) (aa (af (pv 2)) ag))) rfl)) (λ_ _ _ _ _ _ _=>cu (show Xl (((["other"]:List Str))++cW ["other"] gx) by decide+kernel) rfl rfl) (λ_ _ _ _ _ _=>(kE (G_ hr.units (af (pv 0)) (af (pv 4))))) (λ_ _ _ _ _ _=>(af (pv 0))))))))) (av (c_ (i:=4) (aJ (af (pv 4))))))))
abbrev ix:Stmt:=top 47
def il:List Str:=["_law_script","_law_at","_law_most","_law_rows","_law_wide","_law_alphabet","_law_found","_law_row","_law_signs"]
def pO:List Str:=["_law_script","_law_at","_law_most"]
theorem de:FnScope il pO (ai ix):=dz
theorem w4(B:Bl K mg base cv cA Cp)(aM:ar P w K mg base cv 2 "_law_drawn" 3 aD)(T:bJ K mg "_law_board" ix f):ar P w K mg base cv 3 "_law_board" 3 (ej):=
 aF (N:=il) (ps:=pO) T de (λ_ _ _ _ _ _ us hl=>match us,hl with | [_,_,_],_=>rfl) λ_ _ _ _ _ _ hr=>
  (ao (aH de.nd rfl (.inl rfl) (cX au (a6 aM (mR hr) rfl bf (aa (af (pv 0)) (aa (af (pv 1)) (aa (af (pv 2)) ag))) rfl))) (ao (aH de.nd rfl (.inl rfl) (cX au (a6 aM (mR hr) rfl bf (aa (af (pv 0)) (aa (cX (af (pv 1)) au) (aa (af (pv 2)) ag))) rfl))) (ao (aH de.nd rfl (.inr rfl) (l6 (di (aa cJ (aa cJ (aa cJ (aa cJ ag))))) (a6 aM (mR hr) rfl bf (aa (af (pv 0)) (aa (cX (af (pv 1)) au) (aa au ag))) rfl))) (ao (aH de.nd rfl (.inl rfl) (b6 ag)) (ao (cx (bM WI rfl (b7 rfl B.range (aa (af (pv 3)) ag)) (bb de.nd rfl (.inr rfl)) bB (a9 (ao (iu (tn:=["_law_k"]) (n:=0) de.nd rfl (.inl rfl) (bt (N:=il) (osc:=(ai ix)) rfl rfl (by decide+kernel)) rfl rfl (b7 rfl B.range (aa (af (pv 4)) ag)) (λ_ _ _ _ _ _ _=>cu (show Xl (((["_law_k"]:List Str))++cW ["_law_k"] il) by decide+kernel) rfl rfl) (λ_ _ _ _ _ _=>cH) (λ_ _ _ _ _ _=>(l7 (af (pv 6)) (a6 aM (mR hr) rfl cS (aa (af (pv 1)) (aa (cX (cX (cX (af (pv 2)) au) (j9 au (af (pv 8)))) (af (pv 0))) (aa (bN rfl B.len (aa (af (pv 6)) ag)) ag))) rfl)))) (av (aH de.nd rfl (.inl rfl) (qH (af (pv 6)) (b6 (aa (xk cJ (aa (af (pv 8)) ag)) ag))))))))) (av (aJ (af (pv 6)))))))))
abbrev eE:Stmt:=top 51
def eC:List Str:=["_law_board_here","_law_ways","_law_labels_here","_law_rows","_law_cell_here"]
def i6:List Str:=["_law_board_here","_law_ways"]
theorem d9:FnScope eC i6 (ai eE):=dz
theorem m9(B:Bl K mg base cv cA Cp)(qf:ar P w K mg base cv 2 "_law_labels" 2 gk)(cN:ar P w K mg base cv 1 "_law_cells" 1 bh)(T:bJ K mg "_law_patches" eE f):ar P w K mg base cv 3 "_law_patches" 2 (aK):=
 aF (N:=eC) (ps:=i6) T d9 (λ_ _ _ _ _ _ us hl=>match us,hl with | [_,_],_=>rfl) λ_ _ _ _ _ _ hr=>
  (ao (aH d9.nd rfl (.inl rfl) (a6 qf (mR hr) rfl bf (aa (af (pv 0)) (aa (af (pv 1)) ag)) rfl)) (ao (kc d9.nd rfl (.inr rfl)) (ao (cx (bM WI rfl (bq (a6 cN (mR hr) rfl cS (aa (af (pv 0)) ag) rfl)) (bb d9.nd rfl (.inl rfl)) bB (a9 (av (g6 hr.units (pv 3) (iG hr.units (af (pv 2)) (af (pv 4))) (Pj (qG (JD hr.units (af (pv 3)) (iG hr.units (af (pv 2)) (af (pv 4))) (di ag) ⟨rfl,rfl,rfl,rfl⟩) (di (aa (af (pv 4)) ag))))))))) (av (c_ (i:=3) (aJ (c9 (tn:=["_law_first"]) (n:=0) (bt (N:=eC) (osc:=(ai eE)) rfl rfl (by decide+kernel)) rfl rfl (bq (CT rfl rfl B.sorted rfl (aa (af (pv 3)) ag))) (λ_ _ _ _ _ _ _=>cu (show Xl (((["_law_first"]:List Str))++cW ["_law_first"] eC) by decide+kernel) rfl rfl) (λ_ _ _ _ _ _=>cH) (λ_ _ _ _ _ _=>(iG hr.units (af (pv 4)) (af (pv 0)))))))))))
abbrev jz:Stmt:=top 18
def mU:List Str:=["thing"]
def nj:List Str:=["thing"]
theorem ue:FnScope mU nj (ai jz):=dz
theorem ua(B:Bl K mg base cv cA Cp)(AF:ar P w K mg base cv 3 "is_board" 1 jj)(T:bJ K mg "need_board" jz f):ar P w K mg base cv 4 "need_board" 1 (cp):=
 aF (N:=mU) (ps:=nj) T ue (λ_ _ _ _ _ _ us hl=>match us,hl with | [_],_=>rfl) λ_ _ _ _ _ _ hr=>
  (av (bS (dQ (cK (a6 AF (mR hr) rfl bf (aa (af (pv 0)) ag) rfl))) (av (i9 B.own0 X1 rfl rfl (B.cvE 0) zh (aa cJ ag))) br))
abbrev jC:Stmt:=top 32
def mX:List Str:=["board","start","ways","back","ring","further","cell","near"]
def nu:List Str:=["board","start","ways"]
theorem dq:FnScope mX nu (ai jC):=dz
theorem ud(B:Bl K mg base cv cA Cp)(vV:ar P w K mg base cv 3 "like_cells" 3 dP)(T:bJ K mg "steps_back" jC f):ar P w K mg base cv 4 "steps_back" 3 (bF):=
 aF (N:=mX) (ps:=nu) T dq (λ_ _ _ _ _ _ us hl=>match us,hl with | [_,_,_],_=>rfl) λ_ _ _ _ _ _ hr=>
  (ao (sN dq.nd rfl (.inl rfl) (vv hr.units (af (pv 1)) sG)) (ao (aH dq.nd rfl (.inl rfl) (di (aa (af (pv 1)) ag))) (ao (cx (oQ WI (cK (af (pv 4))) (a9 (ao (fq dq.nd rfl (.inl rfl)) (ao (bM WI rfl (bq (af (pv 4))) (bb dq.nd rfl (.inl rfl)) bB (a9 (av (bM WI rfl (bq (a6 vV (mR hr) rfl cS (aa (af (pv 0)) (aa (af (pv 6)) (aa (af (pv 2)) ag))) rfl)) (bb dq.nd rfl (.inl rfl)) bB (a9 (av (bS (sI (kW hr.units (af (pv 7)) (af (pv 3)))) (ao (g6 hr.units (pv 3) (af (pv 7)) (af (pv 6))) (av (gy (pv 5) (af (pv 7))))) br))))))) (av (c_ (i:=5) (aH dq.nd rfl (.inl rfl) (af (pv 5)))))))))) (av (c_ (i:=3) (aJ (af (pv 3))))))))
abbrev me:Stmt:=top 36
def rY:List Str:=["board","some","ways","near","parts","seen","cell","part"]
def sA:List Str:=["board","some","ways"]
theorem eZ:FnScope rY sA (ai me):=dz
theorem zG(B:Bl K mg base cv cA Cp)(vW:ar P w K mg base cv 3 "near_among" 3 gr)(yB:ar P w K mg base cv 1 "distances" 2 gb)(jg:ar P w K mg base cv 1 "keyed" 1 d6)(T:bJ K mg "parts_of" me f):ar P w K mg base cv 4 "parts_of" 3 (jk):=
 aF (N:=rY) (ps:=sA) T eZ (λ_ _ _ _ _ _ us hl=>match us,hl with | [_,_,_],_=>rfl) λ_ _ _ _ _ _ hr=>
  (ao (aH eZ.nd rfl (.inl rfl) (a6 vW (mR hr) rfl bf (aa (af (pv 0)) (aa (af (pv 1)) (aa (af (pv 2)) ag))) rfl)) (ao (fq eZ.nd rfl (.inl rfl)) (ao (kc eZ.nd rfl (.inl rfl)) (ao (cx (bM WI rfl (bq (af (pv 1))) (bb eZ.nd rfl (.inl rfl)) bB (a9 (av (bS (sI (kW hr.units (af (pv 6)) (af (pv 5)))) (ao (aH eZ.nd rfl (.inl rfl) (GP rfl rfl B.list rfl (aa (a6 yB (mR hr) rfl cS (aa (af (pv 3)) (aa (af (pv 6)) ag)) rfl) ag))) (ao (gy (pv 4) (af (pv 7))) (av (CW hr.units (pv 5) (a6 jg (mR hr) rfl cS (aa (af (pv 7)) ag) rfl) ⟨rfl,rfl,rfl,rfl⟩)))) br))))) (av (c_ (i:=4) (aJ (af (pv 4)))))))))
abbrev eQ:Stmt:=top 54
def dZ:List Str:=["_law_board_here","_law_cell_here","_law_ways","_law_letter","_law_patch","_law_found","_law_row","_law_signs"]
def lC:List Str:=["_law_board_here","_law_cell_here","_law_ways","_law_letter"]
theorem dF:FnScope dZ lC (ai eQ):=dz
theorem si(B:Bl K mg base cv cA Cp)(bE:ar P w K mg base cv 3 "_law_patches" 2 aK)(T:bJ K mg "_law_painted" eQ f):ar P w K mg base cv 4 "_law_painted" 4 (cP):=
 aF (N:=dZ) (ps:=lC) T dF (λ_ _ _ _ _ _ us hl=>match us,hl with | [_,_,_,_],_=>rfl) λ_ _ _ _ _ _ hr=>
  (ao (aH dF.nd rfl (.inr rfl) (l6 (c9 (tn:=["_law_row"]) (n:=0) (bt (N:=dZ) (osc:=(ai eQ)) rfl rfl (by decide+kernel)) rfl rfl (bq (a6 bE (mR hr) rfl bf (aa (af (pv 0)) (aa (af (pv 2)) ag)) rfl)) (λ_ _ _ _ _ _ _=>cu (show Xl (((["_law_row"]:List Str))++cW ["_law_row"] dZ) by decide+kernel) rfl rfl) (λ_ _ _ _ _ _=>(kE (Ha hr.units (af (pv 2)) (af (pv 0))))) (λ_ _ _ _ _ _=>(af (pv 0)))) au)) (ao (aH dF.nd rfl (.inl rfl) (b6 ag)) (ao (cx (bM WI rfl (b7 rfl B.range (aa (bN rfl B.len (aa (af (pv 0)) ag)) ag)) (bb dF.nd rfl (.inr rfl)) bB (a9 (ao (iu (tn:=["_law_k"]) (n:=0) dF.nd rfl (.inl rfl) (bt (N:=dZ) (osc:=(ai eQ)) rfl rfl (by decide+kernel)) rfl rfl (b7 rfl B.range (aa (bN rfl B.len (aa (bG (af (pv 0)) au) ag)) ag)) (λ_ _ _ _ _ _ _=>cu (show Xl (((["_law_k"]:List Str))++cW ["_law_k"] dZ) by decide+kernel) rfl rfl) (λ_ _ _ _ _ _=>cH) (λ_ _ _ _ _ _=>(GO (Ha hr.units (b6 (aa (af (pv 7)) (aa (af (pv 0)) ag))) (af (pv 5))) (af (pv 4)) (l7 (bG (af (pv 1)) (af (pv 7))) (af (pv 0)))))) (av (aH dF.nd rfl (.inl rfl) (qH (af (pv 5)) (b6 (aa (xk cJ (aa (af (pv 7)) ag)) ag))))))))) (av (aJ (af (pv 5)))))))
abbrev md:Stmt:=top 56
def rX:List Str:=["_law_board_here","_law_ways","_law_found","_law_many","_law_row","_law_column","_law_fresh"]
def sy:List Str:=["_law_board_here","_law_ways"]
theorem eY:FnScope rX sy (ai md):=dz
theorem zF(B:Bl K mg base cv cA Cp)(cN:ar P w K mg base cv 1 "_law_cells" 1 bh)(bE:ar P w K mg base cv 3 "_law_patches" 2 aK)(eM:ar P w K mg base cv 1 "_law_changed" 4 ck)(T:bJ K mg "_law_cuts" md f):ar P w K mg base cv 4 "_law_cuts" 2 (gU):=
 aF (N:=rX) (ps:=sy) T eY (λ_ _ _ _ _ _ us hl=>match us,hl with | [_,_],_=>rfl) λ_ _ _ _ _ _ hr=>
  (ao (fq eY.nd rfl (.inl rfl)) (ao (aH eY.nd rfl (.inl rfl) (bN rfl B.len (aa (a6 bE (mR hr) rfl bf (aa (af (pv 0)) (aa (af (pv 1)) ag)) rfl) ag))) (ao (cx (bM WI rfl (bq (a6 cN (mR hr) rfl cS (aa (af (pv 0)) ag) rfl)) (BB rfl (i8 (bb eY.nd rfl (.inl rfl)) (i8 (bb eY.nd rfl (.inl rfl)) xq))) (xt (is:=[4,5])) (a9 (ao (aH eY.nd rfl (.inl rfl) (a6 eM (mR hr) rfl cS (aa (af (pv 0)) (aa (af (pv 4)) (aa (af (pv 5)) (aa cJ ag)))) rfl)) (av (bS (Pp (bN rfl B.len (aa (a6 bE (mR hr) rfl cS (aa (af (pv 6)) (aa (af (pv 1)) ag)) rfl) ag)) (cX (af (pv 3)) au)) (av (gy (pv 2) (b6 (aa (af (pv 4)) (aa (af (pv 5)) ag))))) br)))))) (av (c_ (i:=2) (aJ (af (pv 2))))))))
abbrev iI:Stmt:=top 33
def lh:List Str:=["board","ways","found","seen","cell","patch"]
def lA:List Str:=["board","ways"]
theorem et:FnScope lh lA (ai iI):=dz
theorem se(B:Bl K mg base cv cA Cp)(yA:ar P w K mg base cv 2 "all_cells" 1 h9)(e9:ar P w K mg base cv 4 "steps_back" 3 bF)(jg:ar P w K mg base cv 1 "keyed" 1 d6)(T:bJ K mg "all_patches" iI f):ar P w K mg base cv 5 "all_patches" 2 (bU):=
 aF (N:=lh) (ps:=lA) T et (λ_ _ _ _ _ _ us hl=>match us,hl with | [_,_],_=>rfl) λ_ _ _ _ _ _ hr=>
  (ao (fq et.nd rfl (.inl rfl)) (ao (kc et.nd rfl (.inl rfl)) (ao (cx (bM WI rfl (bq (a6 yA (mR hr) rfl cS (aa (af (pv 0)) ag) rfl)) (bb et.nd rfl (.inl rfl)) bB (a9 (av (bS (sI (kW hr.units (af (pv 4)) (af (pv 3)))) (ao (aH et.nd rfl (.inl rfl) (CT rfl rfl B.sorted rfl (aa (a6 e9 (mR hr) rfl cS (aa (af (pv 0)) (aa (af (pv 4)) (aa (af (pv 1)) ag))) rfl) ag))) (ao (gy (pv 2) (af (pv 5))) (av (CW hr.units (pv 3) (a6 jg (mR hr) rfl cS (aa (af (pv 5)) ag) rfl) ⟨rfl,rfl,rfl,rfl⟩)))) br))))) (av (c_ (i:=2) (aJ (af (pv 2))))))))
abbrev jA:Stmt:=top 38
def mV:List Str:=["board","cell","ways","letter"]
def nk:List Str:=["board","cell","ways","letter"]
theorem uf:FnScope mV nk (ai jA):=dz
theorem ub(B:Bl K mg base cv cA Cp)(e8:ar P w K mg base cv 4 "need_board" 1 cp)(yC:ar P w K mg base cv 3 "need_cell" 2 gc)(f_:ar P w K mg base cv 2 "need_ways" 1 c7)(tN:ar P w K mg base cv 2 "need_letter" 1 dY)(T:bJ K mg "need_paint" jA f):ar P w K mg base cv 5 "need_paint" 4 (bZ):=
 aF (N:=mV) (ps:=nk) T uf (λ_ _ _ _ _ _ us hl=>match us,hl with | [_,_,_,_],_=>rfl) λ_ _ _ _ _ _ hr=>
  (ao (fo (a6 e8 (mR hr) rfl bf (aa (af (pv 0)) ag) rfl)) (ao (fo (a6 yC (mR hr) rfl bf (aa (af (pv 0)) (aa (af (pv 1)) ag)) rfl)) (ao (fo (a6 f_ (mR hr) rfl bf (aa (af (pv 2)) ag) rfl)) (av (fo (a6 tN (mR hr) rfl bf (aa (af (pv 3)) ag) rfl))))))
abbrev eD:Stmt:=top 39
def eB:List Str:=["board","ways","patch","cell","rest"]
def iZ:List Str:=["board","ways","patch","cell"]
theorem iz:FnScope eB iZ (ai eD):=dz
theorem m8(B:Bl K mg base cv cA Cp)(AH:ar P w K mg base cv 4 "parts_of" 3 jk)(T:bJ K mg "holds_together" eD f):ar P w K mg base cv 5 "holds_together" 4 (bO):=
 aF (N:=eB) (ps:=iZ) T iz (λ_ _ _ _ _ _ us hl=>match us,hl with | [_,_,_,_],_=>rfl) λ_ _ _ _ _ _ hr=>
  (ao (iu (tn:=["member"]) (n:=0) iz.nd rfl (.inl rfl) (bt (N:=eB) (osc:=(ai eD)) rfl rfl (by decide+kernel)) rfl rfl (bq (af (pv 2))) (λ_ _ _ _ _ _ _=>cu (show Xl (((["member"]:List Str))++cW ["member"] eB) by decide+kernel) rfl rfl) (λ_ _ _ _ _ _=>(kE (jN hr.units (af (pv 0)) (af (pv 4))))) (λ_ _ _ _ _ _=>(af (pv 0)))) (av (aJ (Ph (bN rfl B.len (aa (a6 AH (mR hr) rfl bf (aa (af (pv 0)) (aa (af (pv 4)) (aa (af (pv 1)) ag))) rfl) ag)) au))))
abbrev iO:Stmt:=top 43
def lu:List Str:=["board","ways","letters","now","letter"]
def lH:List Str:=["board","ways","letters"]
theorem fG:FnScope lu lH (ai iO):=dz
theorem sq(B:Bl K mg base cv cA Cp)(e8:ar P w K mg base cv 4 "need_board" 1 cp)(f_:ar P w K mg base cv 2 "need_ways" 1 c7)(qS:ar P w K mg base cv 2 "need_letters" 1 dB)(d_:ar P w K mg base cv 2 "with_letters" 3 bA)(e9:ar P w K mg base cv 4 "steps_back" 3 bF)(T:bJ K mg "paints_over" iO f):ar P w K mg base cv 5 "paints_over" 3 (bD):=
 aF (N:=lu) (ps:=lH) T fG (λ_ _ _ _ _ _ us hl=>match us,hl with | [_,_,_],_=>rfl) λ_ _ _ _ _ _ hr=>
  (ao (fo (a6 e8 (mR hr) rfl bf (aa (af (pv 0)) ag) rfl)) (ao (fo (a6 f_ (mR hr) rfl bf (aa (af (pv 1)) ag) rfl)) (ao (fo (a6 qS (mR hr) rfl bf (aa (af (pv 2)) ag) rfl)) (ao (aH fG.nd rfl (.inl rfl) (af (pv 0))) (ao (cx (bM WI rfl (bq (af (pv 2))) (bb fG.nd rfl (.inl rfl)) bB (a9 (av (aH fG.nd rfl (.inl rfl) (a6 d_ (mR hr) rfl cS (aa (af (pv 3)) (aa (a6 e9 (mR hr) rfl cS (aa (af (pv 3)) (aa (b6 (aa au (aa au ag))) (aa (af (pv 1)) ag))) rfl) (aa (af (pv 4)) ag))) rfl)))))) (av (aJ (af (pv 3)))))))))
abbrev o4:Stmt:=top 40
def vh:List Str:=["board","cell","ways","letter"]
def vp:List Str:=["board","cell","ways","letter"]
theorem BG:FnScope vh vp (ai o4):=dz
theorem Bq(B:Bl K mg base cv cA Cp)(jh:ar P w K mg base cv 5 "need_paint" 4 bZ)(d_:ar P w K mg base cv 2 "with_letters" 3 bA)(e9:ar P w K mg base cv 4 "steps_back" 3 bF)(T:bJ K mg "painted" o4 f):ar P w K mg base cv 6 "painted" 4 (fL):=
 aF (N:=vh) (ps:=vp) T BG (λ_ _ _ _ _ _ us hl=>match us,hl with | [_,_,_,_],_=>rfl) λ_ _ _ _ _ _ hr=>
  (ao (fo (a6 jh (mR hr) rfl bf (aa (af (pv 0)) (aa (af (pv 1)) (aa (af (pv 2)) (aa (af (pv 3)) ag)))) rfl)) (av (aJ (a6 d_ (mR hr) rfl bf (aa (af (pv 0)) (aa (a6 e9 (mR hr) rfl bf (aa (af (pv 0)) (aa (af (pv 1)) (aa (af (pv 2)) ag))) rfl) (aa (af (pv 3)) ag))) rfl))))
abbrev sW:Stmt:=top 41
def zp:List Str:=["board","cell","ways","letter","then"]
def zJ:List Str:=["board","cell","ways","letter"]
theorem vD:FnScope zp zJ (ai sW):=dz
theorem Eo(B:Bl K mg base cv cA Cp)(jh:ar P w K mg base cv 5 "need_paint" 4 bZ)(d_:ar P w K mg base cv 2 "with_letters" 3 bA)(fV:ar P w K mg base cv 5 "all_patches" 2 bU)(T:bJ K mg "change" sW f):ar P w K mg base cv 6 "change" 4 (gR):=
 aF (N:=zp) (ps:=zJ) T vD (λ_ _ _ _ _ _ us hl=>match us,hl with | [_,_,_,_],_=>rfl) λ_ _ _ _ _ _ hr=>
  (ao (fo (a6 jh (mR hr) rfl bf (aa (af (pv 0)) (aa (af (pv 1)) (aa (af (pv 2)) (aa (af (pv 3)) ag)))) rfl)) (ao (aH vD.nd rfl (.inl rfl) (a6 d_ (mR hr) rfl bf (aa (af (pv 0)) (aa (di (aa (af (pv 1)) ag)) (aa (af (pv 3)) ag))) rfl)) (av (aJ (oO (bN rfl B.len (aa (a6 fV (mR hr) rfl bf (aa (af (pv 4)) (aa (af (pv 2)) ag)) rfl) ag)) (bN rfl B.len (aa (a6 fV (mR hr) rfl bf (aa (af (pv 0)) (aa (af (pv 2)) ag)) rfl) ag)))))))
abbrev xD:Stmt:=top 42
def wQ:List Str:=["board","ways","told","patch"]
def GI:List Str:=["board","ways"]
theorem xF:FnScope wQ GI (ai xD):=dz
theorem Js(B:Bl K mg base cv cA Cp)(e8:ar P w K mg base cv 4 "need_board" 1 cp)(f_:ar P w K mg base cv 2 "need_ways" 1 c7)(fV:ar P w K mg base cv 5 "all_patches" 2 bU)(om:ar P w K mg base cv 5 "holds_together" 4 bO)(T:bJ K mg "cuts" xD f):ar P w K mg base cv 6 "cuts" 2 (jQ):=
 aF (N:=wQ) (ps:=GI) T xF (λ_ _ _ _ _ _ us hl=>match us,hl with | [_,_],_=>rfl) λ_ _ _ _ _ _ hr=>
  (ao (fo (a6 e8 (mR hr) rfl bf (aa (af (pv 0)) ag) rfl)) (ao (fo (a6 f_ (mR hr) rfl bf (aa (af (pv 1)) ag) rfl)) (ao (fq xF.nd rfl (.inl rfl)) (ao (cx (bM WI rfl (bq (a6 fV (mR hr) rfl cS (aa (af (pv 0)) (aa (af (pv 1)) ag)) rfl)) (bb xF.nd rfl (.inr rfl)) bB (a9 (av (CV (pv 2) (c9 (tn:=["cell"]) (n:=0) (bt (N:=wQ) (osc:=(ai xD)) rfl rfl (by decide+kernel)) rfl rfl (bq (af (pv 3))) (λ_ _ _ _ _ _ _=>cu (show Xl (((["cell"]:List Str))++cW ["cell"] wQ) by decide+kernel) rfl rfl) (λ_ _ _ _ _ _=>(kE (cK (a6 om (mR hr) rfl cS (aa (af (pv 1)) (aa (af (pv 2)) (aa (af (pv 4)) (aa (af (pv 0)) ag)))) rfl)))) (λ_ _ _ _ _ _=>(af (pv 0))))))))) (av (c_ (i:=2) (aJ (MW rfl B.sorted rfl (aa (af (pv 2)) ag)))))))))
theorem IY(B:Bl K mg base cv cA Cp){n m:Nat}(hn:n∈[0,1,2,3])(hm:m<7):ou K (vT cA) [.exc (cA n), .raw (.ref (cA m))]=ae (.bl (decide (n=m))):=by
 have h:cA n∈vT cA:=by
  unfold vT;simp only[Wu,Xi,or_false] at hn;rcases hn with rfl | rfl | rfl | rfl<;>simp
 show (if cA n∈vT cA then(match Ws K (.ref (cA n)) (.ref (cA m)) with | some b=>ae (D.bl b) | none=>ah) else ah)=_;rw[acy h,B.kit n m hn hm]
theorem FZ(B:Bl K mg base cv cA Cp){n:Nat}(hn:n∈[0,1,2,3]):ou K (vT cA) [.exc (cA n), .raw (.ty "ValueError")]=ae (.bl true):=by
 have h:cA n∈vT cA:=by
  unfold vT;simp only[Wu,Xi,or_false] at hn;rcases hn with rfl | rfl | rfl | rfl<;>simp
 show (if cA n∈vT cA then(match Ws K (.ref (cA n)) (.type "ValueError") with | some b=>ae (D.bl b) | none=>ah) else ah)=_;rw[acy h,B.kitV n hn]
theorem C_(k:Nat):NU k∈[0,1,2,3]:=by
 unfold NU;split<;>simp
theorem zX(B:Bl K mg base cv cA Cp)(k:Nat):bV K cA [.exc (cB cA k)]=LV k:=by
 unfold LV cB;have hn:=C_ k;generalize NU k=n at hn;have hx:∀m (hm:m<7),ou K (vT cA) [.exc (cA n), .raw (.ref (cA m))]=ae (.bl (decide (n=m))):=λm hm=>IY B hn hm;have hv:=FZ B hn;have x0:=hx 0 (by decide);have x1:=hx 1 (by decide);have x2:=hx 2 (by decide);have x3:=hx 3 (by decide);have x4:=hx 4 (by decide);have x5:=hx 5 (by decide);have x6:=hx 6 (by decide);clear hx B;simp only[Wu,Xi,or_false] at hn;rcases hn with rfl | rfl | rfl | rfl
 ·simp only[bV,eR,hv,x0,x1,x2,x3,x4,x5,x6,bQ,az,aW,dA,aC,aN,dV,dC,d1,d2,dM,lR,du,bW,fU,bI,cG,cE,ay,Wq,XE,XT,WJ,Wm,Wl,Xb,X_,Yb,WV,WZ,bP,Nat.reduceSub,Nat.reduceAdd,lim,Nat.reduceLeDiff,if_true,gV,mG,AN,bools,decide_true,decide_false,Nat.reduceEqDiff];rfl
 ·simp only[bV,eR,hv,x0,x1,x2,x3,x4,x5,x6,bQ,az,aW,dA,aC,aN,dV,dC,d1,d2,dM,lR,du,bW,fU,bI,cG,cE,ay,Wq,XE,XT,WJ,Wm,Wl,Xb,X_,Yb,WV,WZ,bP,Nat.reduceSub,Nat.reduceAdd,lim,Nat.reduceLeDiff,if_true,gV,mG,AN,bools,decide_true,decide_false,Nat.reduceEqDiff];rfl
 ·simp only[bV,eR,hv,x0,x1,x2,x3,x4,x5,x6,bQ,az,aW,dA,aC,aN,dV,dC,d1,d2,dM,lR,du,bW,fU,bI,cG,cE,ay,Wq,XE,XT,WJ,Wm,Wl,Xb,X_,Yb,WV,WZ,bP,Nat.reduceSub,Nat.reduceAdd,lim,Nat.reduceLeDiff,if_true,gV,mG,AN,bools,decide_true,decide_false,Nat.reduceEqDiff];rfl
 ·simp only[bV,eR,hv,x0,x1,x2,x3,x4,x5,x6,bQ,az,aW,dA,aC,aN,dV,dC,d1,d2,dM,lR,du,bW,fU,bI,cG,cE,ay,Wq,XE,XT,WJ,Wm,Wl,Xb,X_,Yb,WV,WZ,bP,Nat.reduceSub,Nat.reduceAdd,lim,Nat.reduceLeDiff,if_true,gV,mG,AN,bools,decide_true,decide_false,Nat.reduceEqDiff];rfl
theorem hh(B:Bl K mg base cv cA Cp){i:Nat}(k:Nat)(Z:bo)(e:Z[i]? =some (some (.fz (.exc (cB cA k))))):bI (E_ 1 (bV K cA) (aC (dV i) aN)) Z=(LV k>>=λd=>ae (.rt d)):=by
 have h4:dV i Z=ae (.exc (cB cA k)):=by unfold dV;rw[e]
 show ((dV i Z>>=λx=>aN Z>>=λxs=>ae (x::xs))>>=λds=>if ds.length=1 then noex (noex (bV K cA ds)) else ah)>>=_=_;rw[h4];show (if [D.exc (cB cA k)].length=1 then noex (noex (bV K cA [.exc (cB cA k)])) else ah)>>=_=_;rw[zX B k];rfl
abbrev iM:Stmt:=top 53
def lq:List Str:=["_law_which","_law_board_here","_law_cell_here","_law_ways","_law_thing","_law_e"]
def lF:List Str:=["_law_which","_law_board_here","_law_cell_here","_law_ways","_law_thing"]
theorem kB:FnScope lq lF (ai iM):=dz
theorem sk(B:Bl K mg base cv cA Cp)(eN:ar P w K mg base cv 5 "paints_over" 3 bD)(Lr:ar P w K mg base cv 6 "cuts" 2 jQ)(tM:qB P w K mg base cv 1 "_law_refused" 1 (bV K cA))(Du:ar P w K mg base cv 6 "painted" 4 fL)(E8:ar P w K mg base cv 6 "change" 4 gR)(T:bJ K mg "_law_told" iM f):ar P w K mg base cv 7 "_law_told" 5 (aA):=
 aF (N:=lq) (ps:=lF) T kB (λ_ _ _ _ _ _ us hl=>match us,hl with | [_,_,_,_,_],_=>rfl) λ_ _ _ _ _ _ hr=>
  (av (JV (i:=5) (hd:=LV) B.cvE kB.nd rfl rfl rfl B.top B.exm (λpn Ec Xw' hp=>(ao (bS (Pq (af (pv 0)) au) (av (aJ (GR Du E8 (mR hr) (mR hr) rfl rfl hp (af (pv 0)) (aa (af (pv 1)) (aa (af (pv 2)) (aa (af (pv 3)) (aa (af (pv 4)) ag)))) rfl))) br) (av (aJ (GO (sO hr.units (af (pv 0)) au) (a6 eN (mR hr) rfl hp (aa (af (pv 1)) (aa (af (pv 3)) (aa (di (aa (af (pv 4)) ag)) ag))) rfl) (a6 Lr (mR hr) rfl hp (aa (af (pv 1)) (aa (af (pv 3)) ag)) rfl)))))) (λea=>(av (aJ (Ii tM (RoomH.of (mR hr) _) rfl (aa (af (pv 5)) ag))))) (λk Z _ e=>hh B k Z e)))
abbrev aq:Stmt:=top 57
def aO:List Str:=["_law_script","_law_board_here","_law_whole","_law_cell_here","_law_ways","_law_letter","_law_row","_law_column","_law_fresh","_law_more","_law_letters_here","_law_here","_law_one","_law_odd","_law_none","_law_bad"]
def oJ:List Str:=["_law_script"]
theorem bC:FnScope aO oJ (ai aq):=dz
theorem xN(B:Bl K mg base cv cA Cp)(jP:ar P w K mg base cv 3 "_law_board" 3 ej){bT:Value}{A:WX}{outer:List Env}{s:We}{H:Hp}{E:XK}(hr:Room 7 (A.deeper (XD "law" (ai aq) s.heap.objs.size f bT))):
 Box (gM (ba (df P w cv) P w K mg base aO "law" (ai aq) f bT A outer s H E) (λn H'=>E (cv n) none H') ((aV aq).getD 0 (.Pass ⟨0,0,0,0⟩)) p5):=
 ⟨(aH bC.nd rfl (.inr rfl) (a6 jP (mR hr) rfl bf (aa (af (pv 0)) (aa au (aa au ag))) rfl))⟩
theorem xO(B:Bl K mg base cv cA Cp)(cN:ar P w K mg base cv 1 "_law_cells" 1 bh){bT:Value}{A:WX}{outer:List Env}{s:We}{H:Hp}{E:XK}(hr:Room 7 (A.deeper (XD "law" (ai aq) s.heap.objs.size f bT))):
 Box (gM (ba (df P w cv) P w K mg base aO "law" (ai aq) f bT A outer s H E) (λn H'=>E (cv n) none H') ((aV aq).getD 1 (.Pass ⟨0,0,0,0⟩)) p6):=
 ⟨(aH bC.nd rfl (.inl rfl) (a6 cN (mR hr) rfl bf (aa (af (pv 1)) ag) rfl))⟩
theorem xP(B:Bl K mg base cv cA Cp)(aM:ar P w K mg base cv 2 "_law_drawn" 3 aD){bT:Value}{A:WX}{outer:List Env}{s:We}{H:Hp}{E:XK}(hr:Room 7 (A.deeper (XD "law" (ai aq) s.heap.objs.size f bT))):
 Box (gM (ba (df P w cv) P w K mg base aO "law" (ai aq) f bT A outer s H E) (λn H'=>E (cv n) none H') ((aV aq).getD 2 (.Pass ⟨0,0,0,0⟩)) p7):=
 ⟨(aH bC.nd rfl (.inr rfl) (l6 (af (pv 2)) (a6 aM (mR hr) rfl bf (aa (af (pv 0)) (aa au (aa (bN rfl B.len (aa (af (pv 2)) ag)) ag))) rfl)))⟩
theorem xQ(B:Bl K mg base cv cA Cp)(aM:ar P w K mg base cv 2 "_law_drawn" 3 aD){bT:Value}{A:WX}{outer:List Env}{s:We}{H:Hp}{E:XK}(hr:Room 7 (A.deeper (XD "law" (ai aq) s.heap.objs.size f bT))):
 Box (gM (ba (df P w cv) P w K mg base aO "law" (ai aq) f bT A outer s H E) (λn H'=>E (cv n) none H') ((aV aq).getD 3 (.Pass ⟨0,0,0,0⟩)) p8):=
 ⟨(aH bC.nd rfl (.inr rfl) (l6 (di (aa au (aa au ag))) (a6 aM (mR hr) rfl bf (aa (af (pv 0)) (aa au (aa au ag))) rfl)))⟩
theorem xR(B:Bl K mg base cv cA Cp)(aM:ar P w K mg base cv 2 "_law_drawn" 3 aD){bT:Value}{A:WX}{outer:List Env}{s:We}{H:Hp}{E:XK}(hr:Room 7 (A.deeper (XD "law" (ai aq) s.heap.objs.size f bT))):
 Box (gM (ba (df P w cv) P w K mg base aO "law" (ai aq) f bT A outer s H E) (λn H'=>E (cv n) none H') ((aV aq).getD 4 (.Pass ⟨0,0,0,0⟩)) p9):=
 ⟨(aH bC.nd rfl (.inl rfl) (l7 cJ (a6 aM (mR hr) rfl bf (aa (af (pv 0)) (aa au (aa au ag))) rfl)))⟩
theorem xS(B:Bl K mg base cv cA Cp)(aR:ar P w K mg base cv 7 "_law_told" 5 aA)(dX:ar P w K mg base cv 4 "_law_painted" 4 cP){bT:Value}{A:WX}{outer:List Env}{s:We}{H:Hp}{E:XK}(hr:Room 7 (A.deeper (XD "law" (ai aq) s.heap.objs.size f bT))):
 Box (gM (ba (df P w cv) P w K mg base aO "law" (ai aq) f bT A outer s H E) (λn H'=>E (cv n) none H') ((aV aq).getD 5 (.Pass ⟨0,0,0,0⟩)) p_):=
 ⟨(bS (jN hr.units (a6 aR (mR hr) rfl bf (aa au (aa (af (pv 1)) (aa (af (pv 3)) (aa (af (pv 4)) (aa (af (pv 5)) ag))))) rfl) (a6 dX (mR hr) rfl bf (aa (af (pv 1)) (aa (af (pv 3)) (aa (af (pv 4)) (aa (af (pv 5)) ag)))) rfl)) (av (aJ fm)) br)⟩
theorem xT(B:Bl K mg base cv cA Cp){bT:Value}{A:WX}{outer:List Env}{s:We}{H:Hp}{E:XK}(hr:Room 7 (A.deeper (XD "law" (ai aq) s.heap.objs.size f bT))):
 Box (gM (ba (df P w cv) P w K mg base aO "law" (ai aq) f bT A outer s H E) (λn H'=>E (cv n) none H') ((aV aq).getD 6 (.Pass ⟨0,0,0,0⟩)) qa):=
 ⟨(JU (af (pv 3)) (BB rfl (i8 (bb bC.nd rfl (.inl rfl)) (i8 (bb bC.nd rfl (.inl rfl)) xq))) (xt (is:=[6,7])))⟩
theorem xU(B:Bl K mg base cv cA Cp)(eM:ar P w K mg base cv 1 "_law_changed" 4 ck){bT:Value}{A:WX}{outer:List Env}{s:We}{H:Hp}{E:XK}(hr:Room 7 (A.deeper (XD "law" (ai aq) s.heap.objs.size f bT))):
 Box (gM (ba (df P w cv) P w K mg base aO "law" (ai aq) f bT A outer s H E) (λn H'=>E (cv n) none H') ((aV aq).getD 7 (.Pass ⟨0,0,0,0⟩)) qb):=
 ⟨(aH bC.nd rfl (.inl rfl) (a6 eM (mR hr) rfl bf (aa (af (pv 1)) (aa (af (pv 6)) (aa (af (pv 7)) (aa (af (pv 5)) ag)))) rfl))⟩
theorem xV(B:Bl K mg base cv cA Cp)(bE:ar P w K mg base cv 3 "_law_patches" 2 aK){bT:Value}{A:WX}{outer:List Env}{s:We}{H:Hp}{E:XK}(hr:Room 7 (A.deeper (XD "law" (ai aq) s.heap.objs.size f bT))):
 Box (gM (ba (df P w cv) P w K mg base aO "law" (ai aq) f bT A outer s H E) (λn H'=>E (cv n) none H') ((aV aq).getD 8 (.Pass ⟨0,0,0,0⟩)) qc):=
 ⟨(aH bC.nd rfl (.inl rfl) (oO (bN rfl B.len (aa (a6 bE (mR hr) rfl bf (aa (af (pv 8)) (aa (af (pv 4)) ag)) rfl) ag)) (bN rfl B.len (aa (a6 bE (mR hr) rfl bf (aa (af (pv 1)) (aa (af (pv 4)) ag)) rfl) ag))))⟩
theorem xW(B:Bl K mg base cv cA Cp)(aR:ar P w K mg base cv 7 "_law_told" 5 aA){bT:Value}{A:WX}{outer:List Env}{s:We}{H:Hp}{E:XK}(hr:Room 7 (A.deeper (XD "law" (ai aq) s.heap.objs.size f bT))):
 Box (gM (ba (df P w cv) P w K mg base aO "law" (ai aq) f bT A outer s H E) (λn H'=>E (cv n) none H') ((aV aq).getD 9 (.Pass ⟨0,0,0,0⟩)) qd):=
 ⟨(bS (jN hr.units (a6 aR (mR hr) rfl bf (aa au (aa (af (pv 1)) (aa (af (pv 3)) (aa (af (pv 4)) (aa (af (pv 5)) ag))))) rfl) (af (pv 9))) (av (aJ fm)) br)⟩
theorem uh(B:Bl K mg base cv cA Cp)(aR:ar P w K mg base cv 7 "_law_told" 5 aA)(lN:ar P w K mg base cv 4 "_law_cuts" 2 gU){bT:Value}{A:WX}{outer:List Env}{s:We}{H:Hp}{E:XK}(hr:Room 7 (A.deeper (XD "law" (ai aq) s.heap.objs.size f bT))):
 Box (gM (ba (df P w cv) P w K mg base aO "law" (ai aq) f bT A outer s H E) (λn H'=>E (cv n) none H') ((aV aq).getD 10 (.Pass ⟨0,0,0,0⟩)) nS):=
 ⟨(bS (jN hr.units (a6 aR (mR hr) rfl bf (aa au (aa (af (pv 1)) (aa (af (pv 3)) (aa (af (pv 4)) (aa sG ag))))) rfl) (a6 lN (mR hr) rfl bf (aa (af (pv 1)) (aa (af (pv 4)) ag)) rfl)) (av (aJ fm)) br)⟩
theorem uk(B:Bl K mg base cv cA Cp)(aM:ar P w K mg base cv 2 "_law_drawn" 3 aD){bT:Value}{A:WX}{outer:List Env}{s:We}{H:Hp}{E:XK}(hr:Room 7 (A.deeper (XD "law" (ai aq) s.heap.objs.size f bT))):
 Box (gM (ba (df P w cv) P w K mg base aO "law" (ai aq) f bT A outer s H E) (λn H'=>E (cv n) none H') ((aV aq).getD 11 (.Pass ⟨0,0,0,0⟩)) nT):=
 ⟨(iu (tn:=["_law_k"]) (n:=0) bC.nd rfl (.inl rfl) (bt (N:=aO) (osc:=(ai aq)) rfl rfl (by decide+kernel)) rfl rfl (b7 rfl B.range (aa (a6 aM (mR hr) rfl bf (aa (af (pv 0)) (aa au (aa au ag))) rfl) ag)) (λ_ _ _ _ _ _ _=>cu (show Xl (((["_law_k"]:List Str))++cW ["_law_k"] aO) by decide+kernel) rfl rfl) (λ_ _ _ _ _ _=>cH) (λ_ _ _ _ _ _=>(l7 cJ (a6 aM (mR hr) rfl cS (aa (af (pv 1)) (aa (cX au (af (pv 0))) (aa au ag))) rfl))))⟩
theorem um(B:Bl K mg base cv cA Cp){bT:Value}{A:WX}{outer:List Env}{s:We}{H:Hp}{E:XK}(hr:Room 7 (A.deeper (XD "law" (ai aq) s.heap.objs.size f bT))):
 Box (gM (ba (df P w cv) P w K mg base aO "law" (ai aq) f bT A outer s H E) (λn H'=>E (cv n) none H') ((aV aq).getD 12 (.Pass ⟨0,0,0,0⟩)) nU):=
 ⟨(aH bC.nd rfl (.inl rfl) (af (pv 1)))⟩
theorem uo(B:Bl K mg base cv cA Cp)(dX:ar P w K mg base cv 4 "_law_painted" 4 cP){bT:Value}{A:WX}{outer:List Env}{s:We}{H:Hp}{E:XK}(hr:Room 7 (A.deeper (XD "law" (ai aq) s.heap.objs.size f bT))):
 Box (gM (ba (df P w cv) P w K mg base aO "law" (ai aq) f bT A outer s H E) (λn H'=>E (cv n) none H') ((aV aq).getD 13 (.Pass ⟨0,0,0,0⟩)) nV):=
 ⟨(cx (bM WI rfl (bq (af (pv 10))) (bb bC.nd rfl (.inl rfl)) bB (a9 (av (aH bC.nd rfl (.inl rfl) (a6 dX (mR hr) rfl cS (aa (af (pv 11)) (aa (b6 (aa au (aa au ag))) (aa (af (pv 4)) (aa (af (pv 12)) ag)))) rfl))))))⟩
theorem uq(B:Bl K mg base cv cA Cp)(eN:ar P w K mg base cv 5 "paints_over" 3 bD){bT:Value}{A:WX}{outer:List Env}{s:We}{H:Hp}{E:XK}(hr:Room 7 (A.deeper (XD "law" (ai aq) s.heap.objs.size f bT))):
 Box (gM (ba (df P w cv) P w K mg base aO "law" (ai aq) f bT A outer s H E) (λn H'=>E (cv n) none H') ((aV aq).getD 14 (.Pass ⟨0,0,0,0⟩)) nW):=
 ⟨(bS (jN hr.units (a6 eN (mR hr) rfl bf (aa (af (pv 1)) (aa (af (pv 4)) (aa (af (pv 10)) ag))) rfl) (af (pv 11))) (av (aJ fm)) br)⟩
theorem ur(B:Bl K mg base cv cA Cp)(aM:ar P w K mg base cv 2 "_law_drawn" 3 aD){bT:Value}{A:WX}{outer:List Env}{s:We}{H:Hp}{E:XK}(hr:Room 7 (A.deeper (XD "law" (ai aq) s.heap.objs.size f bT))):
 Box (gM (ba (df P w cv) P w K mg base aO "law" (ai aq) f bT A outer s H E) (λn H'=>E (cv n) none H') ((aV aq).getD 15 (.Pass ⟨0,0,0,0⟩)) nX):=
 ⟨(aH bC.nd rfl (.inr rfl) (l6 (di (aa cJ (aa cJ (aa sG (aa cJ (aa au ag)))))) (a6 aM (mR hr) rfl bf (aa (af (pv 0)) (aa au (aa au ag))) rfl)))⟩
theorem uu(B:Bl K mg base cv cA Cp)(aR:ar P w K mg base cv 7 "_law_told" 5 aA){bT:Value}{A:WX}{outer:List Env}{s:We}{H:Hp}{E:XK}(hr:Room 7 (A.deeper (XD "law" (ai aq) s.heap.objs.size f bT))):
 Box (gM (ba (df P w cv) P w K mg base aO "law" (ai aq) f bT A outer s H E) (λn H'=>E (cv n) none H') ((aV aq).getD 16 (.Pass ⟨0,0,0,0⟩)) nY):=
 ⟨(bS (jN hr.units (c9 (tn:=["_law_which"]) (n:=0) (bt (N:=aO) (osc:=(ai aq)) rfl rfl (by decide+kernel)) rfl rfl (b7 rfl B.range (aa au ag)) (λ_ _ _ _ _ _ _=>cu (show Xl (((["_law_which"]:List Str))++cW ["_law_which"] aO) by decide+kernel) rfl rfl) (λ_ _ _ _ _ _=>cH) (λ_ _ _ _ _ _=>(a6 aR (mR hr) rfl cS (aa (af (pv 0)) (aa (af (pv 2)) (aa (af (pv 4)) (aa (af (pv 5)) (aa (af (pv 14)) ag))))) rfl))) (xn (di (aa (b6 (aa cJ (aa au ag))) ag)) au)) (av (aJ fm)) br)⟩
theorem uv(B:Bl K mg base cv cA Cp)(aM:ar P w K mg base cv 2 "_law_drawn" 3 aD){bT:Value}{A:WX}{outer:List Env}{s:We}{H:Hp}{E:XK}(hr:Room 7 (A.deeper (XD "law" (ai aq) s.heap.objs.size f bT))):
 Box (gM (ba (df P w cv) P w K mg base aO "law" (ai aq) f bT A outer s H E) (λn H'=>E (cv n) none H') ((aV aq).getD 17 (.Pass ⟨0,0,0,0⟩)) nZ):=
 ⟨(aH bC.nd rfl (.inr rfl) (l6 (di (aa au (aa au (aa sG (aa fm ag))))) (a6 aM (mR hr) rfl bf (aa (af (pv 0)) (aa au (aa au ag))) rfl)))⟩
theorem uw(B:Bl K mg base cv cA Cp)(aR:ar P w K mg base cv 7 "_law_told" 5 aA){bT:Value}{A:WX}{outer:List Env}{s:We}{H:Hp}{E:XK}(hr:Room 7 (A.deeper (XD "law" (ai aq) s.heap.objs.size f bT))):
 Box (gM (ba (df P w cv) P w K mg base aO "law" (ai aq) f bT A outer s H E) (λn H'=>E (cv n) none H') ((aV aq).getD 18 (.Pass ⟨0,0,0,0⟩)) n4):=
 ⟨(bS (jN hr.units (c9 (tn:=["_law_which"]) (n:=0) (bt (N:=aO) (osc:=(ai aq)) rfl rfl (by decide+kernel)) rfl rfl (b7 rfl B.range (aa au ag)) (λ_ _ _ _ _ _ _=>cu (show Xl (((["_law_which"]:List Str))++cW ["_law_which"] aO) by decide+kernel) rfl rfl) (λ_ _ _ _ _ _=>cH) (λ_ _ _ _ _ _=>(a6 aR (mR hr) rfl cS (aa (af (pv 0)) (aa (af (pv 2)) (aa (af (pv 4)) (aa (af (pv 15)) (aa (af (pv 14)) ag))))) rfl))) (xn (di (aa (b6 (aa cJ (aa au ag))) ag)) au)) (av (aJ fm)) br)⟩
theorem ux(B:Bl K mg base cv cA Cp)(aM:ar P w K mg base cv 2 "_law_drawn" 3 aD){bT:Value}{A:WX}{outer:List Env}{s:We}{H:Hp}{E:XK}(hr:Room 7 (A.deeper (XD "law" (ai aq) s.heap.objs.size f bT))):
 Box (gM (ba (df P w cv) P w K mg base aO "law" (ai aq) f bT A outer s H E) (λn H'=>E (cv n) none H') ((aV aq).getD 19 (.Pass ⟨0,0,0,0⟩)) n8):=
 ⟨(aH bC.nd rfl (.inr rfl) (l6 (di (aa (b6 (aa (bN rfl B.len (aa (af (pv 1)) ag)) (aa au ag))) (aa (b6 (aa au (aa (xl au) ag))) (aa sG (aa (di (aa au (aa au ag))) ag))))) (a6 aM (mR hr) rfl bf (aa (af (pv 0)) (aa au (aa au ag))) rfl)))⟩
theorem uy(B:Bl K mg base cv cA Cp)(aR:ar P w K mg base cv 7 "_law_told" 5 aA){bT:Value}{A:WX}{outer:List Env}{s:We}{H:Hp}{E:XK}(hr:Room 7 (A.deeper (XD "law" (ai aq) s.heap.objs.size f bT))):
 Box (gM (ba (df P w cv) P w K mg base aO "law" (ai aq) f bT A outer s H E) (λn H'=>E (cv n) none H') ((aV aq).getD 20 (.Pass ⟨0,0,0,0⟩)) n9):=
 ⟨(bS (jN hr.units (c9 (tn:=["_law_which"]) (n:=0) (bt (N:=aO) (osc:=(ai aq)) rfl rfl (by decide+kernel)) rfl rfl (b7 rfl B.range (aa au ag)) (λ_ _ _ _ _ _ _=>cu (show Xl (((["_law_which"]:List Str))++cW ["_law_which"] aO) by decide+kernel) rfl rfl) (λ_ _ _ _ _ _=>cH) (λ_ _ _ _ _ _=>(a6 aR (mR hr) rfl cS (aa (af (pv 0)) (aa (af (pv 2)) (aa (af (pv 16)) (aa (af (pv 15)) (aa (af (pv 14)) ag))))) rfl))) (xn (di (aa (b6 (aa cJ (aa au ag))) ag)) au)) (av (aJ fm)) br)⟩
theorem uz(B:Bl K mg base cv cA Cp)(aR:ar P w K mg base cv 7 "_law_told" 5 aA){bT:Value}{A:WX}{outer:List Env}{s:We}{H:Hp}{E:XK}(hr:Room 7 (A.deeper (XD "law" (ai aq) s.heap.objs.size f bT))):
 Box (gM (ba (df P w cv) P w K mg base aO "law" (ai aq) f bT A outer s H E) (λn H'=>E (cv n) none H') ((aV aq).getD 21 (.Pass ⟨0,0,0,0⟩)) n_):=
 ⟨(aJ (zN hr.units (c9 (tn:=["_law_which"]) (n:=0) (bt (N:=aO) (osc:=(ai aq)) rfl rfl (by decide+kernel)) rfl rfl (b7 rfl B.range (aa au ag)) (λ_ _ _ _ _ _ _=>cu (show Xl (((["_law_which"]:List Str))++cW ["_law_which"] aO) by decide+kernel) rfl rfl) (λ_ _ _ _ _ _=>cH) (λ_ _ _ _ _ _=>(a6 aR (mR hr) rfl cS (aa (af (pv 0)) (aa (JE rfl B.list rfl (aa (af (pv 2)) ag)) (aa (af (pv 16)) (aa (af (pv 15)) (aa (af (pv 14)) ag))))) rfl))) (xn (di (aa (b6 (aa cJ (aa au ag))) ag)) au)))⟩
theorem zA{fd:Yk}(B:Bl K mg base cv cA Cp)(jP:ar P w K mg base cv 3 "_law_board" 3 ej)(cN:ar P w K mg base cv 1 "_law_cells" 1 bh)(eM:ar P w K mg base cv 1 "_law_changed" 4 ck)(aM:ar P w K mg base cv 2 "_law_drawn" 3 aD)(aR:ar P w K mg base cv 7 "_law_told" 5 aA)(dX:ar P w K mg base cv 4 "_law_painted" 4 cP)(lN:ar P w K mg base cv 4 "_law_cuts" 2 gU)(eN:ar P w K mg base cv 5 "paints_over" 3 bD)(bE:ar P w K mg base cv 3 "_law_patches" 2 aK)(Fn:Fun K "law" "law" aq f fd):FnOk P w K mg base (df P w cv) 8 f fd oJ (EW K cv 1 kJ):=
 Oj (N:=aO) (ps:=oJ) (τ:=o_) Fn bC λbT A outer s H E hr=>by
  obtain⟨V1⟩:Box (PSDs (ba (df P w cv) P w K mg base aO "law" (ai aq) f bT A outer s H E) (λn H'=>E (cv n) none H') (aV aq) o_):=(dg (xN B jP hr) (dg (xO B cN hr) (dg (xP B aM hr) (dg (xQ B aM hr) (dg (xR B aM hr) (dg (xS B aR dX hr) (dg (xT B hr) (dg (xU B eM hr) (dg (xV B bE hr) (dg (xW B aR hr) (dg (uh B aR lN hr) (dg (uk B aM hr) (dg (um B hr) (dg (uo B dX hr) (dg (uq B eN hr) (dg (ur B aM hr) (dg (uu B aR hr) (dg (uv B aM hr) (dg (uw B aR hr) (dg (ux B aM hr) (dg (uy B aR hr) (Lq (uz B aR hr)))))))))))))))))))))))
  assumption
end
end K1
namespace K1
open PySem L2 L3
theorem Gi{ds:List D}(h:ds.length<=lim):bP ds=ae (.lst ds):=acy h
theorem cq:lim=4096:=rfl
theorem gN{α:Type}{xs:List α}{i:Nat}{x:α}(h:xs[i]? =some x):L2.atI xs (i:Int)=some x:=by
 obtain⟨hi,e⟩:=Wy.mp h;unfold L2.atI Ct;rw[acy (Int.natCast_nonneg i),acy (by exact Int.ofNat_lt.mpr hi)];exact h
theorem aj{m:Nat}{g:List D->M D}{δs:DA}{Z:bo}{ds:List D}(h:δs Z=ae ds)(hl:ds.length=m):aw m g δs Z=g ds:=by
 unfold aw;rw[h];exact acy hl
theorem a7{a:DE}{r:DA}{Z:bo}{x:D}{xs:List D}(h1:a Z=ae x)(h2:r Z=ae xs):aC a r Z=ae (x::xs):=by
 unfold aC;rw[h1,ay,h2];rfl
theorem aP{g:D->D->M D}{a b:DE}{Z:bo}{x y:D}(h1:a Z=ae x)(h2:b Z=ae y):d2 g a b Z=g x y:=by
 unfold d2;rw[h1,ay,h2];rfl
theorem cz{g:List D->M D}{a:DA}{Z:bo}{xs:List D}(h:a Z=ae xs):dA g a Z=g xs:=by
 unfold dA;rw[h];rfl
theorem iS{i j:Int}(h:0<j):mB (.int i) (.int j)=ae (.int (i % j)):=by
 show (if decide (0<j)=true then _ else _)=_;rw[acy (acB h)]
theorem mz{i j:Int}(h:0<j)(h2:j<1073741824):tU (.int i) (.int j)=ae (.int (i / j)):=by
 show (if decide (0<j/\j<1073741824)=true then _ else _)=_;rw[acy (acB ⟨h,h2⟩)]
theorem gW{i j:Int}(h:(-(2 ^ 64)<i/\i<2 ^ 64)\/(-(2 ^ 64)<j/\j<2 ^ 64)):iD (.int i) (.int j)=ae (.int (i*j)):=by
 show (if decide _=true then _ else _)=_;rw[acy (acB h)]
theorem jR{i j:Int}:dw (.int i) (.int j)=ae (.int (i+j)):=rfl
theorem Ff(ns:List Int)(hl:ns.length<=63)(k:Nat):∃v,gT [.scr ns, .int (k:Int)]=ae (.int v):=by
 cases ns with
 |nil=>
  refine⟨7*(k:Int),?_⟩;rfl
 |cons n r=>
  have hp:0<(n::r).length:=Nat.succ_pos _;generalize e:(n::r)=ns at*;have he:kZ 6 (.scr ns) (.lst [])=some false:=by subst e;rfl
  obtain⟨y,hy⟩:∃y,ns[k % ns.length]? =some y:=⟨_,Wi (Nat.mod_lt _ hp)⟩
  have S0:(0:Int)<(ns.length:Int):=by omega
  have h1:mB (.int (k:Int)) (.int (ns.length:Int))=ae (.int ((k % ns.length:Nat):Int)):=iS S0;have h2:tU (.int (k:Int)) (.int (ns.length:Int))=ae (.int ((k:Int) / (ns.length:Int))):=mz S0 (by omega);have h3:FC (.scr ns) (.int ((k % ns.length:Nat):Int))=ae (.int y):=by
   show (match L2.atI ns ((k % ns.length:Nat):Int) with | some n=>ae (D.int n) | none=>ah)=_;rw[gN hy]
  have h4:iD (.int 6553) (.int ((k:Int) / (ns.length:Int)))=ae (.int (6553*((k:Int) / (ns.length:Int)))):=gW (.inl ⟨by decide,by decide⟩);refine⟨y+6553*((k:Int) / (ns.length:Int)),?_⟩;simp only[gT,tI,bQ,az,fU,bI,cG,cE,d2,dV,dC,dA,aC,aN,bP,bu,EM,kK,he,ay,h1,h2,h3,h4,Wq,XE,XT,WJ,Wl,Xb,WV,WZ,cq,Nat.reduceAdd,Xe,if_true,Xf,if_false,dw,gI]
theorem cY(ns:List Int)(hl:ns.length<=63)(k m:Nat)(hm:0<m):∃v:Nat,v<m/\aD [.scr ns, .int (k:Int), .int (m:Int)]=ae (.int (v:Int)):=by
 obtain⟨c,hc⟩:=Ff ns hl k;have b1:=abg (c % 2147483563*69069+104723*((k:Int)+1)) (b:=2147483563) (by decide);have b2:=aaF (c % 2147483563*69069+104723*((k:Int)+1)) (b:=2147483563) (by decide);generalize hx:(c % 2147483563*69069+104723*((k:Int)+1)) % 2147483563=x at b1 b2;have b3:=abg (x*x+x / 3) (b:=2147483399) (by decide);have b4:=aaF (x*x+x / 3) (b:=2147483399) (by decide);generalize hy:(x*x+x / 3) % 2147483399=y at b3 b4;have m1:iD (.int (c % 2147483563)) (.int 69069)=_:=gW (.inr ⟨by decide,by decide⟩);have m2:iD (.int 104723) (.int ((k:Int)+1))=_:=gW (.inl ⟨by decide,by decide⟩);have m3:iD (.int x) (.int x)=_:=gW (.inl ⟨by omega,by omega⟩);have m4:iD (.int y) (.int y)=_:=gW (.inl ⟨by omega,by omega⟩);have hM:(0:Int)<(m:Int):=Int.ofNat_lt.mpr hm;have n1:=abg ((y*y+y / 7) % 2147483647 / 11) (b:=(m:Int)) (by omega);have n2:=aaF ((y*y+y / 7) % 2147483647 / 11) hM;have q1:mB (.int c) (.int 2147483563)=_:=iS (by decide);have q2:mB (.int (c % 2147483563*69069+104723*((k:Int)+1))) (.int 2147483563)=_:=iS (by decide);have q3:tU (.int x) (.int 3)=_:=mz (by decide) (by decide);have q4:mB (.int (x*x+x / 3)) (.int 2147483399)=_:=iS (by decide);have q5:tU (.int y) (.int 7)=_:=mz (by decide) (by decide);have q6:mB (.int (y*y+y / 7)) (.int 2147483647)=_:=iS (by decide);have q7:tU (.int ((y*y+y / 7) % 2147483647)) (.int 11)=_:=mz (by decide) (by decide);have q8:mB (.int ((y*y+y / 7) % 2147483647 / 11)) (.int (m:Int))=_:=iS hM;refine⟨((y*y+y / 7) % 2147483647 / 11 % (m:Int)).toNat,by omega,?_⟩;rw[aap n1];rw[hx] at q2;rw[hy] at q4;simp only[aD,p4,bQ,az,aW,bI,aw,d2,dV,dC,dA,aC,aN,ay,hc,Wq,XE,XT,WJ,Wl,Xb,WV,WZ,Wm,X_,Yb,Nat.reduceAdd,Nat.reduceSub,if_true,jR,m1,m2,m3,m4,q1,q2,q3,q4,q5,q6,q7,q8]
theorem Gq{α:Type}(a:α):noex (ae a)=ae a:=rfl
theorem yW{put:D->bo->Option bo}{body:DS}{I:Nat->bo->Prop}:∀(ds:List D) (i:Nat) (Z:bo),I i Z->
 (∀j d,ds[j]? =some d->∀Z,I (i+j) Z->∃Z1 Z2,put d Z=some Z1/\body Z1=ae (.nx Z2)/\I (i+j+1) Z2)->∃Z',forL put body ds Z=ae (.nx Z')/\I (i+ds.length) Z'
 |[],i,Z,h,_=>⟨Z,rfl,h⟩
 |d::ds,i,Z,h,step=>by
  obtain⟨Z1,Z2,e1,e2,h2⟩:=step 0 d rfl Z h;obtain⟨Z',e3,h3⟩:=yW (I:=I) ds (i+1) Z2 h2 λj d' hd Z hI=>by
   have:=step (j+1) d' hd Z (by rw[show i+(j+1)=i+1+j by omega];exact hI);rw[show i+(j+1)+1=i+1+j+1 by omega] at this;exact this
  refine⟨Z',?_,?_⟩
  ·show (match put d Z with | none=>ah | some Z1=>body Z1>>=λo=>match o with | .nx Z2=>forL put body ds Z2 | .rt v=>ae (.rt v))=_;rw[e1];show (body Z1>>=λo=>match o with | .nx Z2=>forL put body ds Z2 | .rt v=>ae (.rt v))=_;rw[e2];exact e3
  ·rw[show i+(d::ds).length=i+1+ds.length by simp;omega];exact h3
theorem uO{f:D->M (Option D)}{Pr:D->Prop}:∀(ds:List D),(∀d∈ds,∃y,f d=ae (some y)/\Pr y)->∃ys,eW f ds=ae ys/\ys.length=ds.length/\∀y∈ys,Pr y
 |[],_=>⟨[],rfl,rfl,λ_ h=>by cases h⟩
 |d::ds,h=>by
  obtain⟨y,e,hy⟩:=h d (Wh ..);obtain⟨ys,e2,hl,hp⟩:=uO ds λd' hd=>h d' (Wf _ hd);refine⟨y::ys,?_,by simp[hl],λz hz=>?_⟩
  ·rw[gQ,e,ay,e2];rfl
  ·cases hz with
   |head=>exact hy
   |tail _ hz=>exact hp z hz
theorem iQ{f:D->M (Option D)}{g:D->D}:∀(ds:List D),(∀d∈ds,f d=ae (some (g d)))->eW f ds=ae (ds.map g)
 |[],_=>rfl
 |d::ds,h=>by
  rw[gQ,h d (Wh ..),ay,iQ ds λd' hd=>h d' (Wf _ hd)];rfl
def FV(x:Str):Bool:=!(YJ ("abcdef":Str) x 0 ("abcdef":Str).length 1).isEmpty
structure Row (W:Nat) (r:Str):Prop where
 len:r.length=W
 let':∀c∈r.cps.toList,FV ⟨#[c]⟩=true
structure Good (bd:List Str) (W:Nat):Prop where
 r1:1<=bd.length
 r5:bd.length<=5
 w1:1<=W
 w5:W<=5
 rows:∀r∈bd,Row W r
abbrev lE(c:Nat):Prop:=FV ⟨#[c]⟩=true/\c≠101
def Qd(r:Str):Prop:=∀c∈r.cps.toList,c≠101
theorem Ah:∀(ys:List D),(∀y∈ys,∃c,y= .str ⟨#[c]⟩/\lE c)->∃xs,qz ys=some xs/\xs.length=ys.length/\(xs.map (·.length)).sum=ys.length/\Row ys.length (e_ xs)/\Qd (e_ xs)
 |[],_=>⟨[],rfl,rfl,rfl,⟨rfl,λc h=>by cases h⟩,λc h=>by cases h⟩
 |y::ys,h=>by
  obtain⟨c,e,hc⟩:=h y (Wh ..);obtain⟨xs,e1,e2,e3,e4,e5⟩:=Ah ys λz hz=>h z (Wf _ hz);subst e;have DV:∀z,z∈((⟨#[c]⟩:Str)++e_ xs).cps.toList->z=c\/z∈(e_ xs).cps.toList:=λz hz=>by
   have:((⟨#[c]⟩:Str)++e_ xs).cps= #[c]++(e_ xs).cps:=rfl;rw[this] at hz;simpa using hz
  refine⟨⟨#[c]⟩::xs,?_,by simp[e2],?_,⟨?_,λz hz=>?_⟩,λz hz=>?_⟩
  ·show (qz ys).map _=_;rw[e1];rfl
  ·rw[Wq,YA,e3];show 1+ys.length=_;simp;omega
  ·show ((⟨#[c]⟩:Str)++e_ xs).length=_;rw[g9,e4.len];show 1+ys.length=_;simp;omega
  ·rcases DV z hz with rfl | q
   ·exact hc.1
   ·exact e4.let' z q
  ·rcases DV z hz with rfl | q
   ·exact hc.2
   ·exact e5 z q
theorem Hj{lo:Int}{n:Nat}{d:D}(h:d∈jb lo n):∃i:Nat,i<n/\d= .int (lo+(i:Int)):=by
 unfold jb at h;obtain⟨i,hi,e⟩:=WC.mp h;exact⟨i,XW.mp hi,e.symm⟩
theorem J_{lo:Int}{n j:Nat}{d:D}(h:(jb lo n)[j]? =some d):j<n/\d= .int (lo+(j:Int)):=by
 unfold jb at h;rw[Wz] at h;by_cases hj:j<n
 ·rw[Zr hj] at h;cases h;exact⟨hj,rfl⟩
 ·rw[Z0 (by simpa using hj)] at h;cases h
theorem kh(lo:Int)(n:Nat):(jb lo n).length=n:=by simp[jb]
abbrev fz(d:D):Option Sl:=some (.fz d)
theorem iA{δe:DE}{Z:bo}{d:D}:jI 0 bX δe Z d=(δe (fz d::Z)>>=λy=>ae (some y)):=rfl
theorem qX{δt:DT}{δe:DE}{Z:bo}{d:D}:jI 0 δt δe Z d=(δt (fz d::Z)>>=λb=>if b then δe (fz d::Z)>>=λy=>ae (some y) else ae none):=rfl
theorem ak{a b:DS}{Z Z':bo}{o:M Out}(h:a Z=ae (.nx Z'))(h2:b Z'=o):az a b Z=o:=by
 unfold az;rw[h];exact h2
theorem fw{a b:DS}{Z:bo}{d:D}(h:a Z=ae (.rt d)):az a b Z=ae (.rt d):=by
 unfold az;rw[h];rfl
theorem aL{i:Nat}{δ:DE}{Z:bo}{d:D}(h:δ Z=ae d):aW i δ Z=ae (.nx (Z.set i (fz d))):=by
 unfold aW;rw[h];rfl
theorem dJ{c:DT}{a b:DS}{Z:bo}{o:M Out}(h:c Z=ae true)(h2:a Z=o):fU c a b Z=o:=by
 unfold fU;rw[h];exact h2
theorem dr{c:DT}{a b:DS}{Z:bo}{o:M Out}(h:c Z=ae false)(h2:b Z=o):fU c a b Z=o:=by
 unfold fU;rw[h];exact h2
theorem a_{δ:DE}{Z:bo}{d:D}(h:δ Z=ae d):bI δ Z=ae (.rt d):=by
 unfold bI;rw[h];rfl
theorem bL{δ:DE}{Z:bo}{d:D}(h:δ Z=ae d):ki δ Z=ae (.nx Z):=by
 unfold ki;rw[h];rfl
theorem bg{n:Nat}{τ:DS}{ds:List D}{d:D}(h:τ (ds.map (λd=>some (Sl.fz d))++Wm (n - ds.length) none)=ae (.rt d)):bQ n τ ds=ae d:=by
 unfold bQ;rw[h];rfl
theorem nJ{n:Nat}{τ:DS}{ds:List D}{Z:bo}(h:τ (ds.map (λd=>some (Sl.fz d))++Wm (n - ds.length) none)=ae (.nx Z)):bQ n τ ds=ae .non:=by
 unfold bQ;rw[h];rfl
theorem dS{n k:Nat}{τ:DS}{ds:List D}(h:τ (ds.map (λd=>some (Sl.fz d))++Wm (n - ds.length) none)=a8 k):bQ n τ ds=a8 k:=by
 unfold bQ;rw[h];rfl
theorem Hl{put:D->bo->Option bo}{δi:DA}{b:DS}{Z:bo}{ds:List D}{o:Out}(h:δi Z=ae ds)(h2:forL put b ds Z=ae o):noex (da put δi b Z)=ae o:=by
 unfold da;rw[h,ay,h2];rfl
theorem aX{is:List Nat}{τ:DS}{Z Z':bo}(h:τ Z=ae (.nx Z')):bH is τ Z=ae (.nx (fgt is Z')):=by
 unfold bH;rw[h];rfl
theorem bK{n:Nat}{δi:DA}{δt:DT}{δe:DE}{Z:bo}{ds ys:List D}(h:δi Z=ae ds)(h2:eW (jI n δt δe Z) ds=ae ys)(h3:ys.length<=lim):bc n δi δt δe Z=ae (.lst ys):=by
 unfold bc;rw[h,ay,h2,Gq,ay,Gi h3]
theorem oZ{n:Nat}(h:n<=4096):d7 [.int (n:Int)]=ae (jb 0 n):=by
 show (if -4096<=(n:Int)/\(n:Int)<=4096 then ae (jb 0 (n:Int).toNat) else ah)=_;rw[acy ⟨by omega,by omega⟩];rfl
structure Alpha (al:Str):Prop where
 pos:0<al.length
 ok:∀c∈al.cps.toList,lE c
theorem Lk:Alpha "ab"/\Alpha "abc"/\Alpha "aab"/\Alpha "fa":=by
 refine⟨⟨by decide+kernel,?_⟩,⟨by decide+kernel,?_⟩,⟨by decide+kernel,?_⟩,⟨by decide+kernel,?_⟩⟩<;>decide+kernel
theorem FD{x:Str}{i:Nat}(h:i<x.length):∃c,c∈x.cps.toList/\x.cps.toList[i]? =some c/\gn (.str x) (.int (i:Int))=ae (.str ⟨#[c]⟩):=by
 have h:i<x.cps.toList.length:=by rw[WL];exact h
 refine⟨x.cps.toList[i],Yp h,Wi h,?_⟩;show (match L2.atI x.cps.toList (i:Int) with | some c=>ae (D.str ⟨#[c]⟩) | none=>ah)=_;rw[gN (Wi h)]
abbrev brd(bd:List Str):D:= .tup (bd.map D.str)
abbrev sgn(at' mo:Nat)(ns:List Int)(W:Nat)(al:Str)(bd:List Str)(R:Nat)(x7 x8:Option Sl):bo:=[fz (.scr ns),fz (.int (at':Int)),fz (.int (mo:Int)),fz (.int (R:Int)),fz (.int (W:Int)),fz (.str al),fz (brd bd),x7,x8]
def TL:DE:=bc 0 (λZ=>(aC (dV 4) aN) Z>>=d7) bX (d2 gn (dV 6) (aw 3 aD (aC (dV 1) (aC (d2 dw (d2 dw (d2 dw (dV 2) (dC (.int 3))) (d2 iD (dC (.int 7)) (dV 8))) (dV 0)) (aC (dA bu (aC (dV 6) aN)) aN)))))
theorem EE(at' mo:Nat)(ns:List Int)(hl:ns.length<=63)(al:Str)(ha:Alpha al)(j W R:Nat)(hW:W<=5)(bd:List Str)(x8:Option Sl):
 ∃ys,TL (sgn at' mo ns W al bd R (fz (.int (0+(j:Int)))) x8)=ae (.lst ys)/\ys.length=W/\∀y∈ys,∃c,y= .str ⟨#[c]⟩/\lE c:=by
 obtain⟨ys,e,ET,hp⟩:=uO (f:=jI 0 bX (d2 gn (dV 6) (aw 3 aD (aC (dV 1) (aC (d2 dw (d2 dw (d2 dw (dV 2) (dC (.int 3))) (d2 iD (dC (.int 7)) (dV 8))) (dV 0)) (aC (dA bu (aC (dV 6) aN)) aN)))))
  (sgn at' mo ns W al bd R (fz (.int (0+(j:Int)))) x8)) (Pr:=λy=>∃c,y= .str ⟨#[c]⟩/\lE c) (jb 0 W) λd hd=>by
  obtain⟨i,hi,rfl⟩:=Hj hd;obtain⟨v,hv,e⟩:=cY ns hl (at'+3+7*j+i) al.length ha.pos;obtain⟨c,hc,_,e2⟩:=FD hv;refine⟨.str ⟨#[c]⟩,?_,c,rfl,ha.ok c hc⟩;rw[iA];have k:(at':Int)+3+7*(0+(j:Int))+(0+(i:Int))=((at'+3+7*j+i:Nat):Int):=by omega
  have m1:iD (.int 7) (.int (0+(j:Int)))=ae (.int (7*(0+(j:Int)))):=gW (.inl ⟨by decide,by decide⟩);simp only[aw,d2,dV,dC,dA,aC,aN,ay,Wl,Xb,WV,WZ,Nat.reduceAdd,if_true,jR,m1,k,bu,e,e2]
 refine⟨ys,bK (oZ (n:=W) (by omega)) e (by rw[ET,kh,cq];omega),by rw[ET,kh],hp⟩
def TM:DS:=aW 6 (d2 jS (dV 6) (dA aZ (aC (dM Cs joinM (dC (.str "")) (aC (dV 8) aN)) aN)))
theorem Ij(at' mo:Nat)(ns:List Int)(W:Nat)(al:Str)(bd:List Str)(R:Nat)(x7:Option Sl)(ys:List D)(hb:bd.length<=5)(hy:ys.length<=5)(s3:∀y∈ys,∃c,y= .str ⟨#[c]⟩/\lE c):
 ∃r,(Row ys.length r/\Qd r)/\TM (sgn at' mo ns W al bd R x7 (fz (.lst ys)))=ae (.nx (sgn at' mo ns W al (bd++[r]) R x7 (fz (.lst ys)))):=by
 obtain⟨xs,t1,t2,t3,t4⟩:=Ah ys s3;refine⟨e_ xs,t4,?_⟩;have jn:joinM (.str "") [.lst ys]=ae (.str (e_ xs)):=by
  show (match qz ys with | some (xs:List Str)=>if ("":Str).length=0/\(xs.map (λx:Str=>x.length)).sum<=lim then ae (D.str (e_ xs)) else ah | none=>ah)=_;rw[t1];show (if ("":Str).length=0/\(xs.map (λx:Str=>x.length)).sum<=lim then ae (D.str (e_ xs)) else ah)=_;rw[acy ⟨rfl,by rw[t3,cq];omega⟩]
 have ct:jS (brd bd) (.tup [.str (e_ xs)])=ae (brd (bd++[e_ xs])):=by
  show (if (bd.map D.str).length+1<=lim then ae (D.tup (bd.map D.str++[.str (e_ xs)])) else ah)=_;rw[acy (by rw[Wc,cq];omega)];simp[brd]
 refine(aL (d:=brd (bd++[e_ xs])) ?_).trans rfl;simp only[d2,dV,dC,dA,aC,aN,dM,Cs,ay,WV,WZ,if_true,jn,aZ,Wl,Xb,cq,Nat.reduceAdd,Nat.reduceLeDiff,ct]
theorem AB(ns:List Int)(hl:ns.length<=63)(at' mo:Nat)(m0:0<mo)(m5:mo<=5):∃bd W,Good bd W/\(∀r∈bd,Qd r)/\bd.length<=mo/\W<=mo/\ej [.scr ns, .int (at':Int), .int (mo:Int)]=ae (brd bd):=by
 obtain⟨r,hr,e1⟩:=cY ns hl at' mo m0;obtain⟨c,hc,e2⟩:=cY ns hl (at'+1) mo m0;obtain⟨a,ha,e3⟩:=cY ns hl (at'+2) 4 (by decide);obtain⟨al,KI,e4⟩:∃al,Alpha al/\jT (.lst [.str "ab", .str "abc", .str "aab", .str "fa"]) (.int (a:Int))=ae (.str al):=by
  obtain⟨a1,a2,a3,a4⟩:=Lk
  match a,ha with
  |0,_=>exact⟨_,a1,rfl⟩
  |1,_=>exact⟨_,a2,rfl⟩
  |2,_=>exact⟨_,a3,rfl⟩
  |3,_=>exact⟨_,a4,rfl⟩
 have k1:(1:Int)+(r:Int)=((r+1:Nat):Int):=by omega
 have k2:(1:Int)+(c:Int)=((c+1:Nat):Int):=by omega
 have EO:aD [.scr ns, .int (at':Int), .int (mo:Int)]=ae (.int (r:Int)):=e1;have NL:aD [.scr ns, .int ((at':Int)+1), .int (mo:Int)]=ae (.int (c:Int)):=e2;have Qh:aD [.scr ns, .int ((at':Int)+2), .int 4]=ae (.int (a:Int)):=e3;obtain⟨Z',f1,bd,f2,f3,f4⟩:=yW (put:=putN 7) (body:=bH [7,8] (az (aW 8 TL) TM))
  (I:=λi Z=>∃bd,Z=sgn at' mo ns (c+1) al bd (r+1) none none/\bd.length=i/\∀z∈bd,Row (c+1) z/\Qd z)
  (jb 0 (r+1)) 0 (sgn at' mo ns (c+1) al [] (r+1) none none) ⟨[],rfl,rfl,λ_ h=>by cases h⟩ λj d hd Z ⟨bd,hZ,hb,hw⟩=>by
   obtain⟨hj,rfl⟩:=J_ hd;subst hZ;obtain⟨ys,s1,s2,s3⟩:=EE at' mo ns hl al KI j (c+1) (r+1) (by omega) bd none;obtain⟨Aw,t1,t2⟩:=Ij at' mo ns (c+1) al bd (r+1) (fz (.int (0+(j:Int)))) ys (by omega) (by omega) s3;refine⟨_,_,rfl,aX (ak (aL s1) t2),bd++[Aw],rfl,by simp[hb],λz hz=>?_⟩;rcases W6.mp hz with h | h
   ·exact hw z h
   ·have h:z=Aw:=by simpa using h
    subst h;rw[s2] at t1;exact t1
 refine⟨bd,c+1,⟨by rw[f3,kh];omega,by rw[f3,kh];omega,by omega,by omega,λr q=>(f4 r q).1⟩,λr q=>(f4 r q).2,by rw[f3,kh];omega,by omega,?_⟩;subst f2;refine bg ?_;refine ak (aL (d:= .int ((r+1:Nat):Int)) ?_) ?_
 ·simp only[aw,d2,dV,dC,aC,aN,ay,Wq,XE,XT,WJ,Wl,Xb,WV,WZ,Nat.reduceAdd,if_true,jR,EO,k1]
 refine ak (aL (d:= .int ((c+1:Nat):Int)) ?_) ?_
 ·simp only[aw,d2,dV,dC,aC,aN,ay,Wq,XE,XT,WJ,Wl,Xb,Wm,X_,Yb,Nat.reduceSub,WV,WZ,Nat.reduceAdd,if_true,jR,NL,k2]
 refine ak (aL (d:= .str al) ?_) ?_
 ·simp only[aw,d2,dV,dC,dA,aC,aN,ay,Wq,XE,XT,WJ,Wl,Xb,Wm,X_,Yb,Nat.reduceSub,WV,WZ,Nat.reduceAdd,if_true,jR,Qh,bP,cq,Nat.reduceLeDiff,e4]
 refine ak (aL (d:= .tup []) rfl) ?_;refine ak (Hl (oZ (n:=r+1) (by omega)) f1) ?_;exact a_ rfl
theorem AD(ns:List Int)(hl:ns.length<=63)(at' mo:Nat)(m0:0<mo)(m5:mo<=5):∃bd W,Good bd W/\bd.length<=mo/\W<=mo/\ej [.scr ns, .int (at':Int), .int (mo:Int)]=ae (brd bd):=
 let ⟨bd,W,h1,_,h2⟩:=AB ns hl at' mo m0 m5
 ⟨bd,W,h1,h2⟩
theorem Dq(ns:List Int)(hl:ns.length<=63)(at' mo:Nat)(m0:0<mo)(m5:mo<=5):∃bd W,Good bd W/\ej [.scr ns, .int (at':Int), .int (mo:Int)]=ae (brd bd):=by
 obtain⟨bd,W,h1,_,_,h2⟩:=AD ns hl at' mo m0 m5;exact⟨bd,W,h1,h2⟩
def Plain:D->Prop
 | .non | .bl _ | .int _ | .str _ | .tup _ | .lst _=>True
 |_=>False
def isStr:D->Bool
 | .str _=>true
 |_=>false
def isTup:D->Bool
 | .tup _=>true
 |_=>false
theorem ij{d:D}(h:Plain d):jo [d, .raw (.ty "str")]=ae (.bl (isStr d)):=by
 cases d<;>first | rfl | exact h.elim
theorem qE{d:D}(h:Plain d):jo [d, .raw (.ty "tuple")]=ae (.bl (isTup d)):=by
 cases d<;>first | rfl | exact h.elim
def tW:D->Bool
 | .str x=>(x.length==1)&&FV x
 |_=>false
theorem v8{Z:bo}{i:Nat}{d:D}(h:Z[i]? =some (fz d)):dV i Z=ae d:=by
 unfold dV;rw[h]
theorem eq_int(i j:Int):kK (.int i) (.int j)=ae (.bl (i==j)):=rfl
theorem ne_int(i j:Int):mi (.int i) (.int j)=ae (.bl (!(i==j))):=rfl
theorem len_str(x:Str):bu [.str x]=ae (.int (x.length:Int)):=rfl
theorem in_str(x:Str):FA false (.str x) (.str "abcdef")=ae (.bl (FV x)):=rfl
theorem mY(a b:Nat):((a:Int)==(b:Int))=(a==b):=by
 by_cases h:a=b
 ·subst h;simp
 ·have h2:¬(a:Int)=(b:Int):=by omega
  rw[acG.mpr h,acG.mpr h2]
theorem Jk{d:D}(h:Plain d){i:Nat}{Z:bo}(hZ:Z[i]? =some (fz d)):
 eX (dA jo (aC (dV i) (aC (dC (.raw (.ty "str"))) aN))) (eX (d2 kK (dA bu (aC (dV i) aN)) (dC (.int 1))) (d2 (FA false) (dV i) (dC (.str "abcdef")))) Z=ae (.bl (tW d)):=by
 have hv:=v8 hZ;have e1:=mY;cases d with
 |str x=>
  have k:((x.length:Int)==1)=(x.length==1):=mY x.length 1;simp only[eX,dA,aC,aN,dC,d2,hv,ay,ij h,isStr,EM,if_true,len_str,eq_int,k,in_str,tW];cases x.length==1<;>rfl
 |non=>simp only[eX,dA,aC,aN,dC,d2,hv,ay,ij h,isStr,EM,if_false,Xf,tW]
 |bl b=>simp only[eX,dA,aC,aN,dC,d2,hv,ay,ij h,isStr,EM,if_false,Xf,tW]
 |int b=>simp only[eX,dA,aC,aN,dC,d2,hv,ay,ij h,isStr,EM,if_false,Xf,tW]
 |tup b=>simp only[eX,dA,aC,aN,dC,d2,hv,ay,ij h,isStr,EM,if_false,Xf,tW]
 |lst b=>simp only[eX,dA,aC,aN,dC,d2,hv,ay,ij h,isStr,EM,if_false,Xf,tW]
 |raw _=>exact h.elim
 |exc _=>exact h.elim
 |scr _=>exact h.elim
 |dct _ _=>exact h.elim
 |dci _ _=>exact h.elim
theorem fW{d:D}(h:Plain d):b_ [d]=ae (.bl (tW d)):=bg (a_ (Jk h rfl))
def kS(x:Str):Bool:=x.cps.toList.all λc=>FV ⟨#[c]⟩
def qt:D->Bool
 | .str x=>(decide (1<=x.length)&&decide (x.length<=8))&&kS x
 |_=>false
theorem Dr(l:List Bool):bools (l.map D.bl)=some l:=by
 induction l with
 |nil=>rfl
 |cons b r ih=>show (bools (r.map D.bl)).map _=_;rw[ih];rfl
theorem all_map(l:List Bool):allM [.lst (l.map D.bl)]=ae (.bl (l.all id)):=by
 show (match bools (l.map D.bl) with | some bs=>ae (D.bl (bs.all id)) | none=>ah)=_;rw[Dr]
theorem Fh{δ:DE}{Z:bo}{n:Nat}(h:δ Z=ae (.int (n:Int))):
 cE (tP (λi j=>decide (i<=j)) (λi j=>decide (i<=j)) (dC (.int 1)) δ (dC (.int 8))) Z=ae (decide (1<=n)&&decide (n<=8)):=by
 have k1:decide ((1:Int)<=(n:Int))=decide (1<=n):=by by_cases h:1<=n<;>simp[h]<;>omega
 have k2:decide ((n:Int)<=8)=decide (n<=8):=by by_cases h:n<=8<;>simp[h]<;>omega
 simp only[cE,tP,dC,h,ay,k1,k2,gI,EM];cases decide (1<=n)<;>rfl
theorem A6{d:D}(h:Plain d):gS [d]=ae (.bl (qt d)):=by
 refine bg ?_;have hZ:([d].map (λd=>some (Sl.fz d))++Wm (1 - [d].length) none)=[fz d]:=rfl;rw[hZ];have hv:dV 0 [fz d]=ae d:=rfl;have no:isStr d=false->An [fz d]=ae (.rt (.bl false)):=λhs=>by
  refine fw (dJ ?_ (a_ rfl));simp only[lR,du,bW,dA,aC,aN,dC,hv,ay,ij h,hs,Ag,aab,if_true]
 cases d with
 |str x=>
  have hi:bW (dA jo (aC (dV 0) (aC (dC (.raw (.ty "str"))) aN))) [fz (.str x)]=ae true:=by
   simp only[bW,dA,aC,aN,dC,hv,ay,ij h,isStr,Ag]
  have hl:dA bu (aC (dV 0) aN) [fz (.str x)]=ae (.int (x.length:Int)):=rfl;have hc:=Fh hl;by_cases hr:(decide (1<=x.length)&&decide (x.length<=8))=true
  ·rw[hr] at hc;refine ak (dr ?_ (Z:=[fz (.str x)]) rfl) (a_ ?_)
   ·unfold lR du;rw[hi,ay,ay,hc];rfl
   ·have hb:x.length<=8:=by simp only[Wv,acA] at hr;exact hr.2
    have cm:bc 0 (λZ=>(dV 0) Z>>=Nw) bX (aw 1 b_ (aC (dV 0) aN)) [fz (.str x)]=ae (.lst ((x.cps.toList.map λc=>FV ⟨#[c]⟩).map D.bl)):=by
     refine bK (ds:=signs x) rfl ?_ ?_
     ·have:=iQ (f:=jI 0 bX (aw 1 b_ (aC (dV 0) aN)) [fz (.str x)]) (g:=λd=>D.bl (tW d)) (signs x) λd hd=>by
       rw[iA];obtain⟨c,_,rfl⟩:=WC.mp hd;show (b_ [.str ⟨#[c]⟩]>>=λy=>ae (some y))=_;rw[fW (d:= .str ⟨#[c]⟩) trivial];rfl
      rw[this];unfold signs;rw[W7,W7];congr 1
     ·rw[Wc,Wc,WL,cq];exact WM hb (by decide)
    rw[cz (a7 cm rfl),all_map];show ae (D.bl ((x.cps.toList.map λc=>FV ⟨#[c]⟩).all id))=ae (D.bl ((decide (1<=x.length)&&decide (x.length<=8))&&kS x));rw[hr];unfold kS;rw[YR];rfl
  ·have hr:(decide (1<=x.length)&&decide (x.length<=8))=false:=by simpa using hr
   rw[hr] at hc;have:qt (.str x)=false:=by
    show ((decide (1<=x.length)&&decide (x.length<=8))&&kS x)=false;rw[hr];rfl
   rw[this];refine fw (dJ ?_ (a_ rfl));unfold lR du;rw[hi,ay,ay,hc];rfl
 |non=>exact no rfl
 |bl b=>exact no rfl
 |int b=>exact no rfl
 |tup b=>exact no rfl
 |lst b=>exact no rfl
 |raw _=>exact h.elim
 |exc _=>exact h.elim
 |scr _=>exact h.elim
 |dct _ _=>exact h.elim
 |dci _ _=>exact h.elim
def lT:D->Nat
 | .str x=>x.length
 |_=>0
def oj:D->Bool
 | .tup ds=>(decide (1<=ds.length)&&decide (ds.length<=8))&&(ds.all qt&&ds.all λd=>lT d==lT (ds.headD .non))
 |_=>false
def Plain2:D->Prop
 | .tup ds=>∀d∈ds,Plain d
 |d=>Plain d
theorem Plain2.plain{d:D}(h:Plain2 d):Plain d:=by
 cases d<;>first | exact h | exact trivial
theorem Jj{ds:List D}:bu [.tup ds]=ae (.int (ds.length:Int)):=rfl
theorem RF{ds:List D}{d:D}{r:List D}(h:ds=d::r):aU (.tup ds) (.int 0)=ae d:=by
 subst h;show (match L2.atI (d::r) ((0:Nat):Int) with | some d=>ae d | none=>ah)=_;rw[gN (x:=d) rfl]
theorem Kb{d:D}(h:qt d=true):∃x,d= .str x:=by
 cases d<;>first | exact⟨_,rfl⟩ | cases h
theorem DK{d:D}(h:Plain d):lR (du (bW (dA jo (aC (dV 0) (aC (dC (.raw (.ty "tuple"))) aN))))) (du (cE (tP (λi j=>decide (i<=j)) (λi j=>decide (i<=j)) (dC (.int 1)) (dA bu (aC (dV 0) aN)) (dC (.int 8))))) [fz d]=
 ae (match d with | .tup ds=>!(decide (1<=ds.length)&&decide (ds.length<=8)) | _=>true):=by
 have hv:dV 0 [fz d]=ae d:=rfl;have no:isTup d=false->lR (du (bW (dA jo (aC (dV 0) (aC (dC (.raw (.ty "tuple"))) aN))))) (du (cE (tP (λi j=>decide (i<=j)) (λi j=>decide (i<=j)) (dC (.int 1)) (dA bu (aC (dV 0) aN)) (dC (.int 8))))) [fz d]=ae true:=λhs=>by
  simp only[lR,du,bW,dA,aC,aN,dC,hv,ay,qE h,hs,Ag,aab,if_true]
 cases d with
 |tup ds=>
  have hi:bW (dA jo (aC (dV 0) (aC (dC (.raw (.ty "tuple"))) aN))) [fz (.tup ds)]=ae true:=by
   simp only[bW,dA,aC,aN,dC,hv,ay,qE h,isTup,Ag]
  have hl:dA bu (aC (dV 0) aN) [fz (.tup ds)]=ae (.int (ds.length:Int)):=rfl;unfold lR du;rw[hi,ay,ay,Fh hl];rfl
 |non=>exact no rfl
 |bl b=>exact no rfl
 |int b=>exact no rfl
 |str b=>exact no rfl
 |lst b=>exact no rfl
 |raw _=>exact h.elim
 |exc _=>exact h.elim
 |scr _=>exact h.elim
 |dct _ _=>exact h.elim
 |dci _ _=>exact h.elim
theorem all_rows{ds:List D}(h:∀d∈ds,Plain d)(hl:ds.length<=8):dA allM (aC (bc 0 (tQ (dV 0)) bX (aw 1 gS (aC (dV 0) aN))) aN) [fz (.tup ds)]=ae (.bl (ds.all qt)):=by
 have cm:bc 0 (tQ (dV 0)) bX (aw 1 gS (aC (dV 0) aN)) [fz (.tup ds)]=ae (.lst ((ds.map qt).map D.bl)):=by
  refine bK (ds:=ds) rfl ?_ (by rw[Wc,Wc,cq];omega);rw[W7];refine iQ (g:=D.bl∘qt) ds λd hd=>?_;rw[iA];show (gS [d]>>=λy=>ae (some y))=_;rw[A6 (h d hd)];rfl
 rw[cz (a7 cm rfl),all_map,YR];rfl
theorem all_lens{ds:List D}(hs:∀d∈ds,∃x,d= .str x)(h0:1<=ds.length)(hl:ds.length<=8):
 dA allM (aC (bc 0 (tQ (dV 0)) bX (d2 kK (dA bu (aC (dV 0) aN)) (dA bu (aC (d2 aU (dV 1) (dC (.int 0))) aN)))) aN) [fz (.tup ds)]=ae (.bl (ds.all λd=>lT d==lT (ds.headD .non))):=by
 obtain⟨d0,r,e0⟩:∃d0 r,ds=d0::r:=by
  cases ds with
  |nil=>simp at h0
  |cons a r=>exact⟨a,r,rfl⟩
 have hh:ds.headD .non=d0:=by rw[e0];rfl
 obtain⟨x0,Ta⟩:=hs d0 (by rw[e0];exact Wh ..);have cm:bc 0 (tQ (dV 0)) bX (d2 kK (dA bu (aC (dV 0) aN)) (dA bu (aC (d2 aU (dV 1) (dC (.int 0))) aN))) [fz (.tup ds)]=ae (.lst ((ds.map λd=>lT d==lT (ds.headD .non)).map D.bl)):=by
  refine bK (ds:=ds) rfl ?_ (by rw[Wc,Wc,cq];omega);rw[W7];refine iQ (g:=D.bl∘λd=>lT d==lT (ds.headD .non)) ds λd hd=>?_;rw[iA];obtain⟨x,rfl⟩:=hs d hd;have k:((x.length:Int)==(x0.length:Int))=(x.length==x0.length):=mY _ _;have i0:aU (.tup ds) (.int 0)=ae (.str x0):=by rw[RF e0,Ta]
  have UG:ds.headD .non= .str x0:=by rw[hh,Ta]
  simp only[d2,dA,aC,aN,dC,dV,ay,WV,WZ,len_str,i0,eq_int,k,aa3,lT,UG]
 rw[cz (a7 cm rfl),all_map,YR];rfl
theorem mH{d:D}(h:Plain2 d):jj [d]=ae (.bl (oj d)):=by
 refine bg ?_;have hZ:([d].map (λd=>some (Sl.fz d))++Wm (1 - [d].length) none)=[fz d]:=rfl;rw[hZ];have hf:=DK h.plain;have no:(∀ds,d≠ .tup ds)->tH [fz d]=ae (.rt (.bl (oj d))):=λhn=>by
  cases d<;>first | exact acE rfl (hn _) | exact fw (dJ hf (a_ rfl))
 cases d with
 |tup ds=>
  have hf:_=ae (!(decide (1<=ds.length)&&decide (ds.length<=8))):=hf;by_cases hr:(decide (1<=ds.length)&&decide (ds.length<=8))=true
  ·rw[hr] at hf;have hb:=hr;simp only[Wv,acA] at hb;have e:oj (.tup ds)=(ds.all qt&&ds.all λd=>lT d==lT (ds.headD .non)):=by
    show ((decide (1<=ds.length)&&decide (ds.length<=8))&&_)=_;rw[hr,abz]
   rw[e];have a1:=all_rows h hb.2;refine ak (dr hf rfl) ?_;cases hc:ds.all qt with
   |false=>
    rw[hc] at a1;refine fw (dJ ?_ (a_ rfl));unfold du bW;rw[a1];rfl
   |true=>
    rw[hc] at a1;refine ak (dr ?_ rfl) (a_ ?_)
    ·unfold du bW;rw[a1];rfl
    ·rw[abz];exact all_lens (λd hd=>Kb (W3.mp hc d hd)) hb.1 hb.2
  ·have hr:(decide (1<=ds.length)&&decide (ds.length<=8))=false:=by simpa using hr
   rw[hr] at hf;have e:oj (.tup ds)=false:=by
    show ((decide (1<=ds.length)&&decide (ds.length<=8))&&_)=_;rw[hr];rfl
   rw[e];exact fw (dJ hf (a_ rfl))
 |non=>exact no λ_ z=>by cases z
 |bl b=>exact no λ_ z=>by cases z
 |int b=>exact no λ_ z=>by cases z
 |str b=>exact no λ_ z=>by cases z
 |lst b=>exact no λ_ z=>by cases z
 |raw _=>exact h.elim
 |exc _=>exact h.elim
 |scr _=>exact h.elim
 |dct _ _=>exact h.elim
 |dci _ _=>exact h.elim
structure Brd (ob:List Str) (V:Nat):Prop where
 r1:1<=ob.length
 r8:ob.length<=8
 w1:1<=V
 w8:V<=8
 rows:∀r∈ob,Row V r
theorem Good.brd{bd:List Str}{W:Nat}(hg:Good bd W):Brd bd W:=⟨hg.r1,by have:=hg.r5;omega,hg.w1,by have:=hg.w5;omega,hg.rows⟩
theorem Brd.board{ob:List Str}{V:Nat}(h:Brd ob V):oj (brd ob)=true:=by
 have L7:∀r∈ob,qt (.str r)=true:=λr hr=>by
  have q:=h.rows r hr;show ((decide (1<=r.length)&&decide (r.length<=8))&&kS r)=true;rw[q.len];have a:decide (1<=V)=true:=acB h.w1;have b:decide (V<=8)=true:=acB h.w8;rw[a,b];show kS r=true;exact W3.mpr λc hc=>q.let' c hc
 have h0:lT ((ob.map D.str).headD .non)=V:=by
  have:=h.r1;have hr:=h.rows;cases ob with
  |nil=>simp at this
  |cons x l=>exact(hr x (Wh ..)).len
 show ((decide (1<=(ob.map D.str).length)&&decide ((ob.map D.str).length<=8))&&((ob.map D.str).all qt&&(ob.map D.str).all λd=>lT d==lT ((ob.map D.str).headD .non)))=true;rw[h0,Wc,acB h.r1,acB h.r8];have a:(ob.map D.str).all qt=true:=W3.mpr λd hd=>by
  obtain⟨r,hr,rfl⟩:=WC.mp hd;exact L7 r hr
 have b:((ob.map D.str).all λd=>lT d==V)=true:=W3.mpr λd hd=>by
  obtain⟨r,hr,rfl⟩:=WC.mp hd;show (r.length==V)=true;rw[(h.rows r hr).len];simp
 rw[a,b];rfl
theorem Ds{bd:List Str}:Plain2 (brd bd):=λd hd=>by
 obtain⟨r,_,rfl⟩:=WC.mp hd;trivial
theorem eK{δ:DE}{Z:bo}{b:Bool}(h:δ Z=ae (.bl b)):bW δ Z=ae b:=by
 unfold bW;rw[h];rfl
theorem gj{δ:DE}{Z:bo}{b:Bool}(h:δ Z=ae (.bl b)):cE δ Z=ae b:=by
 unfold cE;rw[h];rfl
theorem iB{τ:DT}{Z:bo}{b:Bool}(h:τ Z=ae b):du τ Z=ae (!b):=by
 unfold du;rw[h];rfl
theorem Fl{a c:DT}{Z:bo}{p q:Bool}(h1:a Z=ae p)(h2:c Z=ae q):lR a c Z=ae (p||q):=by
 unfold lR;rw[h1,ay];cases p
 ·exact h2
 ·rfl
theorem AQ{a c:DT}{Z:bo}{p q:Bool}(h1:a Z=ae p)(h2:c Z=ae q):lQ a c Z=ae (p&&q):=by
 unfold lQ;rw[h1,ay];cases p
 ·rfl
 ·exact h2
theorem Im{a c:DE}{Z:bo}{p q:Bool}(h1:a Z=ae (.bl p))(h2:c Z=ae (.bl q)):eX a c Z=ae (.bl (p&&q)):=by
 unfold eX;rw[h1,ay];cases p
 ·rfl
 ·exact h2
theorem Kv{c:DT}{a b:DE}{Z:bo}{p:Bool}(h:c Z=ae p):EN c a b Z=if p then a Z else b Z:=by
 unfold EN;rw[h];rfl
theorem Brd.nb{ob:List Str}{V:Nat}(h:Brd ob V):cp [brd ob]=ae .non:=by
 refine nJ (Z:=[fz (brd ob)]) (dr (iB (eK (b:=true) ?_)) rfl);refine(aj (ds:=[brd ob]) rfl rfl).trans ?_;rw[mH Ds,h.board]
structure Ln (V:Nat) (r:Str):Prop where
 len:r.length=V
structure Wd (ob:List Str) (V:Nat):Prop where
 r1:1<=ob.length
 r8:ob.length<=8
 w1:1<=V
 w8:V<=8
 rows:∀r∈ob,Ln V r
theorem Brd.wd{ob:List Str}{V:Nat}(h:Brd ob V):Wd ob V:=⟨h.r1,h.r8,h.w1,h.w8,λr hr=>⟨(h.rows r hr).len⟩⟩
theorem Wd.len0{ob:List Str}{V:Nat}(h:Wd ob V){i:Nat}{Z:bo}(hZ:Z[i]? =some (fz (brd ob))):dA bu (aC (d2 aU (dV i) (dC (.int 0))) aN) Z=ae (.int (V:Int)):=by
 have h1:=h.r1;have hr:=h.rows;obtain⟨x,l,e⟩:∃x l,ob=x::l:=by
  cases ob with
  |nil=>simp at h1
  |cons x l=>exact⟨x,l,rfl⟩
 have hx:x.length=V:=(hr x (by rw[e];exact Wh ..)).len;have i0:aU (brd ob) (.int 0)=ae (.str x):=RF (show ob.map D.str=D.str x::l.map D.str by rw[e];rfl);have k:=aP (g:=aU) (v8 hZ) (show dC (.int 0) Z=ae (.int 0) from rfl);rw[i0] at k;rw[cz (a7 (xs:=[]) k rfl)];show ae (D.int (x.length:Int))=_;rw[hx]
theorem Brd.len0{ob:List Str}{V:Nat}(h:Brd ob V){i:Nat}{Z:bo}(hZ:Z[i]? =some (fz (brd ob))):dA bu (aC (d2 aU (dV i) (dC (.int 0))) aN) Z=ae (.int (V:Int)):=h.wd.len0 hZ
theorem A_{bd:List Str}{i:Nat}{Z:bo}(hZ:Z[i]? =some (fz (brd bd))):dA bu (aC (dV i) aN) Z=ae (.int (bd.length:Int)):=by
 have:bu [brd bd]=ae (.int (bd.length:Int)):=by
  show ae (D.int ((bd.map D.str).length:Int))=_;rw[Wc]
 simp only[dA,aC,aN,v8 hZ,ay,this]
def jF:D->Bool
 | .int _=>true
 |_=>false
theorem vK{d:D}(h:Plain d):cg [d]=ae (.bl (jF d)):=by
 cases d<;>first | rfl | exact h.elim
def N6(R W:Nat):D->D->Bool
 | .int a, .int b=>(decide (0<=a)&&decide (a<(R:Int)))&&(decide (0<=b)&&decide (b<(W:Int)))
 |_,_=>false
def B7(R W:Nat):D->Bool
 | .tup [u,v]=>N6 R W u v
 |_=>false
theorem Il{δ ε:DE}{Z:bo}{i n:Int}(h:δ Z=ae (.int i))(h2:ε Z=ae (.int n)):
 tP (λi j=>decide (i<=j)) (λi j=>decide (i<j)) (dC (.int 0)) δ ε Z=ae (.bl (decide (0<=i)&&decide (i<n))):=by
 simp only[tP,dC,h,h2,ay,gI];cases decide (0<=i)<;>rfl
theorem O3{d e:D}:aU (.tup [d,e]) (.int 0)=ae d/\aU (.tup [d,e]) (.int 1)=ae e:=⟨rfl,rfl⟩
theorem pq{bd:List Str}{W:Nat}(hg:Brd bd W){d:D}(h:Plain2 d):kI [brd bd,d]=ae (.bl (B7 bd.length W d)):=by
 refine bg ?_;have hZ:([brd bd,d].map (λd=>some (Sl.fz d))++Wm (2 - [brd bd,d].length) none)=[fz (brd bd),fz d]:=rfl;rw[hZ];have hv:dV 1 [fz (brd bd),fz d]=ae d:=rfl;have no:isTup d=false->vL [fz (brd bd),fz d]=ae (.rt (.bl false)):=λhs=>by
  refine fw (dJ ?_ (a_ rfl));simp only[lR,du,bW,dA,aC,aN,dC,hv,ay,qE h.plain,hs,Ag,aab,if_true]
 cases d with
 |tup ds=>
  have hi:du (bW (dA jo (aC (dV 1) (aC (dC (.raw (.ty "tuple"))) aN)))) [fz (brd bd),fz (.tup ds)]=ae false:=by
   simp only[du,bW,dA,aC,aN,dC,hv,ay,qE h.plain,isTup,Ag,Bool.not_true]
  have k:((ds.length:Int)==2)=(ds.length==2):=mY ds.length 2;have hl:lR (du (bW (dA jo (aC (dV 1) (aC (dC (.raw (.ty "tuple"))) aN))))) (cE (d2 mi (dA bu (aC (dV 1) aN)) (dC (.int 2)))) [fz (brd bd),fz (.tup ds)]=ae (!(ds.length==2)):=by
   unfold lR;rw[hi];simp only[cE,d2,dA,aC,aN,dC,hv,ay,Jj,ne_int,k,EM,Xf,if_false]
  match ds,h,hl with
  |[],h,hl=>exact fw (dJ hl (a_ rfl))
  |[_],h,hl=>exact fw (dJ hl (a_ rfl))
  |_::_::_::_,h,hl=>
   refine fw (dJ (hl.trans ?_) (a_ rfl));simp
  |[u,v],h,hl=>
   refine ak (dr hl rfl) ?_;have pu:Plain u:=h u (by simp);have pv:Plain v:=h v (by simp);have w1:aw 1 cg (aC (d2 aU (dV 1) (dC (.int 0))) aN) [fz (brd bd),fz (.tup [u,v])]=ae (.bl (jF u)):=vK pu;have w2:aw 1 cg (aC (d2 aU (dV 1) (dC (.int 1))) aN) [fz (brd bd),fz (.tup [u,v])]=ae (.bl (jF v)):=vK pv;have hw:lR (du (bW (aw 1 cg (aC (d2 aU (dV 1) (dC (.int 0))) aN)))) (du (bW (aw 1 cg (aC (d2 aU (dV 1) (dC (.int 1))) aN)))) [fz (brd bd),fz (.tup [u,v])]=ae (!(jF u&&jF v)):=by
    unfold lR du bW;rw[w1,w2];simp only[ay,Ag];cases jF u<;>cases jF v<;>rfl
   have bad:(jF u&&jF v)=false->az (fU (lR (du (bW (aw 1 cg (aC (d2 aU (dV 1) (dC (.int 0))) aN)))) (du (bW (aw 1 cg (aC (d2 aU (dV 1) (dC (.int 1))) aN))))) (bI (dC (.bl false))) cG) (bI (eX (tP (λi j=>decide (i<=j)) (λi j=>decide (i<j)) (dC (.int 0)) (d2 aU (dV 1) (dC (.int 0))) (dA bu (aC (dV 0) aN))) (tP (λi j=>decide (i<=j)) (λi j=>decide (i<j)) (dC (.int 0)) (d2 aU (dV 1) (dC (.int 1))) (dA bu (aC (d2 aU (dV 0) (dC (.int 0))) aN))))) [fz (brd bd),fz (.tup [u,v])]=ae (.rt (.bl false)):=λhz=>by
    rw[hz] at hw;exact fw (dJ hw (a_ rfl))
   match u,v,hw,bad with
   | .int a, .int b,hw,bad=>
     refine ak (dr hw rfl) (a_ ?_);obtain⟨x0,r,e0⟩:∃x0 r,bd=x0::r:=by
      have:=hg.r1;cases bd with
      |nil=>simp at this
      |cons x r=>exact⟨x,r,rfl⟩
     have hx:x0.length=W:=(hg.rows x0 (by rw[e0];simp)).len;have l0:dA bu (aC (dV 0) aN) [fz (brd bd),fz (.tup [.int a, .int b])]=ae (.int (bd.length:Int)):=by
      show ae (D.int ((bd.map D.str).length:Int))=_;rw[Wc]
     have l1:dA bu (aC (d2 aU (dV 0) (dC (.int 0))) aN) [fz (brd bd),fz (.tup [.int a, .int b])]=ae (.int (W:Int)):=by
      have i0:aU (brd bd) (.int 0)=ae (.str x0):=RF (r:=r.map D.str) (by rw[e0];rfl);simp only[dA,aC,aN,d2,dC,dV,WV,ay,i0,len_str,hx]
     have c1:=Il (δ:=d2 aU (dV 1) (dC (.int 0))) (i:=a) rfl l0;have c2:=Il (δ:=d2 aU (dV 1) (dC (.int 1))) (i:=b) rfl l1;unfold eX;rw[c1,ay];show (if (decide (0<=a)&&decide (a<(bd.length:Int)))=true then _ else _)=ae (D.bl ((decide (0<=a)&&decide (a<(bd.length:Int)))&&(decide (0<=b)&&decide (b<(W:Int)))));cases (decide (0<=a)&&decide (a<(bd.length:Int)))
     ·rfl
     ·rw[acy rfl,c2,abz]
   | .non,_,_,bad=>exact bad rfl
   | .bl _,_,_,bad=>exact bad rfl
   | .str _,_,_,bad=>exact bad rfl
   | .tup _,_,_,bad=>exact bad rfl
   | .lst _,_,_,bad=>exact bad rfl
   | .raw _,_,_,_=>exact pu.elim
   | .exc _,_,_,_=>exact pu.elim
   | .scr _,_,_,_=>exact pu.elim
   | .int a, .non,_,bad=>exact bad rfl
   | .int a, .bl _,_,bad=>exact bad rfl
   | .int a, .str _,_,bad=>exact bad rfl
   | .int a, .tup _,_,bad=>exact bad rfl
   | .int a, .lst _,_,bad=>exact bad rfl
   | .int a, .raw _,_,_=>exact pv.elim
   | .int a, .exc _,_,_=>exact pv.elim
   | .int a, .scr _,_,_=>exact pv.elim
 |non=>exact no rfl
 |bl b=>exact no rfl
 |int b=>exact no rfl
 |str b=>exact no rfl
 |lst b=>exact no rfl
 |raw _=>exact h.elim
 |exc _=>exact h.elim
 |scr _=>exact h.elim
 |dct _ _=>exact h.elim
 |dci _ _=>exact h.elim
abbrev Cell:=Nat×Nat
def cD(c:Cell):D:= .tup [.int (c.1:Int), .int (c.2:Int)]
def On(R W:Nat)(c:Cell):Prop:=c.1<R/\c.2<W
instance {R W:Nat}{c:Cell}:Decidable (On R W c):=by unfold On;infer_instance
theorem E7{c:Cell}:Plain2 (cD c):=λd hd=>by
 have:d= .int (c.1:Int)\/d= .int (c.2:Int):=by simpa[cD] using hd
 rcases this with rfl | rfl<;>trivial
theorem Ik{R W:Nat}{c:Cell}(h:On R W c):B7 R W (cD c)=true:=by
 show ((decide ((0:Int)<=(c.1:Int))&&decide ((c.1:Int)<(R:Int)))&&(decide ((0:Int)<=(c.2:Int))&&decide ((c.2:Int)<(W:Int))))=true;obtain⟨h1,h2⟩:=h;simp;omega
theorem Brd.nc{bd:List Str}{W:Nat}(hg:Brd bd W){c:Cell}(h:On bd.length W c):gc [brd bd,cD c]=ae .non:=by
 refine nJ (Z:=[fz (brd bd),fz (cD c)]) (dr (iB (eK (b:=true) ?_)) rfl);refine(aj (ds:=[brd bd,cD c]) rfl rfl).trans ?_;rw[pq hg E7,Ik h]
def Ways(w:Nat):Prop:=w=4\/w=8
theorem Ways.nw{w:Nat}(h:Ways w):c7 [.int (w:Int)]=ae .non:=by
 rcases h with rfl | rfl<;>rfl
def ch(x:Str)(j:Nat):Nat:=x.cps.toList.getD j 0
def at2(bd:List Str)(i j:Nat):Nat:=ch (bd.getD i ⟨#[]⟩) j
abbrev lt(bd:List Str)(c:Cell):Nat:=at2 bd c.1 c.2
def sg(n:Nat):D:= .str ⟨#[n]⟩
theorem xK{x:Str}{c:Nat}(h:c<x.length):gn (.str x) (.int (c:Int))=ae (sg (ch x c)):=by
 have h':c<x.cps.toList.length:=by rw[WL];exact h
 show (match L2.atI x.cps.toList (c:Int) with | some c=>ae (D.str ⟨#[c]⟩) | none=>ah)=_;rw[gN (Wi h')];unfold sg ch;rw[WK,Wi h'];rfl
theorem getD_mem{bd:List Str}{i:Nat}(h:i<bd.length):bd.getD i ⟨#[]⟩∈bd:=by
 rw[WK,Wi h];exact Yp h
theorem wD{bd:List Str}{i:Nat}(h:i<bd.length):aU (brd bd) (.int (i:Int))=ae (.str (bd.getD i ⟨#[]⟩)):=by
 show (match L2.atI (bd.map D.str) (i:Int) with | some d=>ae d | none=>ah)=_;rw[gN (x:= .str (bd.getD i ⟨#[]⟩)) ?_];rw[Wz,Wi h,WK,Wi h];rfl
theorem iF{bd:List Str}{W:Nat}(hg:Brd bd W){c:Cell}(h:On bd.length W c):cb [brd bd,cD c]=ae (sg (lt bd c)):=by
 refine bg (a_ ?_);refine(aP (x:= .str (bd.getD c.1 ⟨#[]⟩)) (y:= .int (c.2:Int)) ((aP (x:=brd bd) (y:= .int (c.1:Int)) rfl rfl).trans (wD h.1)) rfl).trans ?_;exact xK (by rw[(hg.rows _ (getD_mem h.1)).len];exact h.2)
theorem KD(a b:Nat):kK (sg a) (sg b)=ae (.bl (decide (a=b))):=by
 show ae (D.bl (decide ((⟨#[a]⟩:Str)=⟨#[b]⟩)))=_;congr 2;by_cases h:a=b
 ·subst h;simp
 ·have:¬((⟨#[a]⟩:Str)=⟨#[b]⟩):=λz=>by
   injection z with z
   exact h (by simpa using z)
  rw[acC h,acC this]
def g_(a b:Nat):Nat:=max a b - min a b
def mj(w:Nat)(a b:Cell):Bool:=if w=4 then decide (g_ a.1 b.1+g_ a.2 b.2=1) else decide (max (g_ a.1 b.1) (g_ a.2 b.2)=1)
theorem BY(a b:Nat):E2 [.int ((a:Int) - (b:Int))]=ae (.int (g_ a b:Int)):=by
 show ae (D.int _)=_;congr 2;unfold g_;omega
theorem vO{w:Nat}(hw:Ways w)(a b:Cell):eU [cD a,cD b, .int (w:Int)]=ae (.bl (mj w a b)):=by
 refine bg ?_;refine ak (Z':=[fz (cD a),fz (cD b),fz (.int (w:Int)),fz (.int (g_ a.1 b.1:Int)),none]) ((aL (d:= .int (g_ a.1 b.1:Int)) (BY a.1 b.1)).trans rfl) ?_;refine ak (Z':=[fz (cD a),fz (cD b),fz (.int (w:Int)),fz (.int (g_ a.1 b.1:Int)),fz (.int (g_ a.2 b.2:Int))]) ((aL (d:= .int (g_ a.2 b.2:Int)) (BY a.2 b.2)).trans rfl) ?_;rcases hw with rfl | rfl
 ·refine fw (dJ (gj rfl) (a_ ?_));show ae (D.bl (((g_ a.1 b.1:Int)+(g_ a.2 b.2:Int))==1))=_;unfold mj;rw[acy rfl];congr 2;have:((g_ a.1 b.1:Int)+(g_ a.2 b.2:Int))=((g_ a.1 b.1+g_ a.2 b.2:Nat):Int):=by omega
  rw[this];have e:=mY (g_ a.1 b.1+g_ a.2 b.2) 1;exact e.trans rfl
 ·refine ak (dr (gj rfl) rfl) (a_ ?_);show ae (D.bl ((if (g_ a.1 b.1:Int)<(g_ a.2 b.2:Int) then(g_ a.2 b.2:Int) else(g_ a.1 b.1:Int))==1))=_;have hn:mj 8 a b=decide (max (g_ a.1 b.1) (g_ a.2 b.2)=1):=rfl;rw[hn];congr 2;have:(if (g_ a.1 b.1:Int)<(g_ a.2 b.2:Int) then(g_ a.2 b.2:Int) else(g_ a.1 b.1:Int))=((max (g_ a.1 b.1) (g_ a.2 b.2):Nat):Int):=by split<;>omega
  rw[this];have e:=mY (max (g_ a.1 b.1) (g_ a.2 b.2)) 1;exact e.trans rfl
theorem rZ(w:Nat)(a b:Cell):mj w a b=mj w b a:=by
 have e:∀x y:Nat,g_ x y=g_ y x:=λx y=>by unfold g_;omega
 unfold mj;rw[e a.1,e a.2]
theorem MB{w:Nat}(hw:Ways w){a:Cell}:mj w a a=false:=by
 unfold mj g_;rcases hw with rfl | rfl<;>simp
theorem cZ{put:D->bo->Option bo}{body:DS}{d:D}{ds:List D}{Z Z1 Z2:bo}(h1:put d Z=some Z1)(h2:body Z1=ae (.nx Z2)):forL put body (d::ds) Z=forL put body ds Z2:=by
 show (match put d Z with | none=>ah | some Z1=>body Z1>>=λo=>match o with | .nx Z2=>forL put body ds Z2 | .rt v=>ae (.rt v))=_;rw[h1];show (body Z1>>=λo=>match o with | .nx Z2=>forL put body ds Z2 | .rt v=>ae (.rt v))=_;rw[h2];rfl
section
variable{α σ:Type}{put:D->bo->Option bo}{body:DS}
theorem iR(enc:α->D)(mk:σ->bo)(step:σ->α->σ)(I:σ->Prop):∀(xs:List α) (s:σ),I s->(∀s,I s->∀x∈xs,I (step s x)/\∃Z1,put (enc x) (mk s)=some Z1/\body Z1=ae (.nx (mk (step s x))))->
 I (xs.foldl step s)/\forL put body (xs.map enc) (mk s)=ae (.nx (mk (xs.foldl step s)))
 |[],s,h,_=>⟨h,rfl⟩
 |x::xs,s,h,st=>by
  obtain⟨h2,Z1,e1,e2⟩:=st s h x (Wh ..);obtain⟨h3,e3⟩:=iR enc mk step I xs (step s x) h2 λs hs y hy=>st s hs y (Wf _ hy);exact⟨h3,(cZ e1 e2).trans e3⟩
theorem el(enc:α->D)(mk:List D->bo)(g:α->List D){B:Nat}:∀(xs:List α) (u8:List D),(u8++xs.flatMap g).length<=B->(∀x∈xs,∀u8,(u8++g x).length<=B->∃Z1,put (enc x) (mk u8)=some Z1/\body Z1=ae (.nx (mk (u8++g x))))->
 forL put body (xs.map enc) (mk u8)=ae (.nx (mk (u8++xs.flatMap g)))
 |[],u8,_,_=>by simp;rfl
 |x::xs,u8,hB,st=>by
  have SF:((u8++g x)++xs.flatMap g).length<=B:=by simpa[Xj,Xk] using hB
  obtain⟨Z1,e1,e2⟩:=st x (Wh ..) u8 (WM (by simp only[Wj];omega) SF);have e3:=el enc mk g xs (u8++g x) SF λy hy=>st y (Wf _ hy);rw[Wq,cZ e1 e2,e3,Xj,Xk]
end
theorem dI{put:D->bo->Option bo}{δi:DA}{b:DS}{Z:bo}{ds:List D}{m:M Out}(h:δi Z=ae ds)(h2:forL put b ds Z=m):da put δi b Z=m:=by
 unfold da;rw[h];exact h2
theorem cw{τ:DS}{Z:bo}{o:Out}(h:τ Z=ae o):(λZ=>noex (τ Z)) Z=ae o:=by
 show noex (τ Z)=_;rw[h];rfl
theorem zZ(lo n:Nat):jb (lo:Int) n=(W9 lo n).map λ(k:Nat)=>D.int (k:Int):=by
 unfold jb;rw[ab0];have:∀(n a:Nat),(W9 a n).map (λ(i:Nat)=>D.int ((lo:Int)+(i:Int)))=(W9 (lo+a) n).map λ(k:Nat)=>D.int (k:Int):=by
  intro n;induction n with
  |zero=>intro a;rfl
  |succ n ih=>
   intro a;rw[Zj,Zj,Wq,Wq,ih (a+1)];rfl
 exact this n 0
theorem xC{δ:DE}{Z:bo}{n:Nat}(h:δ Z=ae (.int (n:Int)))(hn:n<=4096):(aC δ aN Z>>=d7)=ae ((WD n).map λ(k:Nat)=>D.int (k:Int)):=by
 rw[a7 h rfl,ay,oZ hn,show jb 0 n=jb ((0:Nat):Int) n from rfl,zZ,ab0]
theorem PU{δ ε:DE}{Z:bo}{i j:Nat}(h:δ Z=ae (.int (i:Int)))(h2:ε Z=ae (.int (j:Int)))(hi:i<=4096)(hj:j<=4096):(aC δ (aC ε aN) Z>>=vC)=ae ((W9 i (j - i)).map λ(k:Nat)=>D.int (k:Int)):=by
 rw[a7 h (a7 h2 rfl),ay];show (if (-4096<=(i:Int)/\(i:Int)<=4096)/\(-4096<=(j:Int)/\(j:Int)<=4096) then ae (jb (i:Int) ((j:Int) - (i:Int)).toNat) else ah)=_;rw[acy ⟨⟨by omega,by omega⟩,by omega,by omega⟩,show ((j:Int) - (i:Int)).toNat=j - i by omega,zZ]
def cy(W r:Nat):List Cell:=(WD W).map λk=>(r,k)
def ax(R W:Nat):List Cell:=(WD R).flatMap (cy W)
theorem aB{R W:Nat}{c:Cell}:c∈ax R W↔On R W c:=by
 unfold ax cy On;simp only[X6,XW,WC];constructor
 ·rintro⟨r,hr,k,hk,rfl⟩;exact⟨hr,hk⟩
 ·rintro⟨h1,h2⟩;exact⟨c.1,h1,c.2,h2,rfl⟩
theorem bw(R W:Nat):(ax R W).length=R*W:=by
 unfold ax;have:∀l:List Nat,(l.flatMap (cy W)).length=l.length*W:=by
  intro l;induction l with
  |nil=>simp
  |cons a l ih=>rw[Xj,Wj,ih,Wl,Nat.succ_mul];simp[cy];omega
 rw[this,Y_]
theorem iP{bd:List Str}{W:Nat}(hg:Brd bd W)(r:Nat):bY [brd bd, .int (r:Int)]=ae (.lst ((cy W r).map cD)):=by
 have:=hg.w8;refine bg (a_ (bK (xC (n:=W) (hg.len0 rfl) (by omega)) ?_ (by simp[cy,cq];omega)));rw[show (cy W r).map cD=((WD W).map λ(k:Nat)=>D.int (k:Int)).map (λe=> .tup [.int (r:Int),e]) by simp[cy,W7];intro a _;rfl];exact iQ (g:=λe=> .tup [.int (r:Int),e]) _ λe _=>rfl
theorem tL{bd:List Str}{W:Nat}(hg:Brd bd W):h9 [brd bd]=ae (.lst ((ax bd.length W).map cD)):=by
 have h8:=hg.r8;have w8:=hg.w8;have hm:bd.length*W<=64:=XM h8 w8;have DR:(WD bd.length).flatMap (λr=>(cy W r).map cD)=(ax bd.length W).map cD:=by
  unfold ax;rw[Zk]
 have e:=el (put:=putN 2) (body:=bH [2] (BE 1 (aw 2 bY (aC (dV 0) (aC (dV 2) aN))))) (λ(k:Nat)=>D.int (k:Int)) (λu8=>[fz (brd bd),some (.ow (.lst u8)),none]) (λr=>(cy W r).map cD) (B:=64) (WD bd.length) []
  (by rw[WJ,DR,Wc,bw];exact hm) λr hr u8 hB=>by
   refine⟨[fz (brd bd),some (.ow (.lst u8)),fz (.int (r:Int))],rfl,?_⟩;refine(aX (Z':=[fz (brd bd),some (.ow (.lst (u8++(cy W r).map cD))),fz (.int (r:Int))]) ?_).trans rfl;show (bY [brd bd, .int (r:Int)]>>=λd=>lstM d>>=λes=>if u8.length+es.length<=lim then ae (Out.nx (List.set [fz (brd bd),some (.ow (.lst u8)),fz (.int (r:Int))] 1 (some (.ow (.lst (u8++es)))))) else ah)=_;rw[iP hg,ay];show (if u8.length+((cy W r).map cD).length<=lim then ae (Out.nx [fz (brd bd),some (.ow (.lst (u8++(cy W r).map cD))),fz (.int (r:Int))]) else ah)=_;rw[acy (by rw[Wj] at hB;rw[cq];omega)]
 rw[WJ,DR] at e;refine bg (ak (Z':=[fz (brd bd),some (.ow (.lst [])),none]) rfl (ak (Z':=[fz (brd bd),some (.ow (.lst ((ax bd.length W).map cD))),none]) (cw (dI (xC (n:=bd.length) (A_ rfl) (by omega)) e)) ?_));rfl
def iY(R W w:Nat)(c:Cell):List Cell:=
 (W9 (c.1 - 1) (min (c.1+2) R - (c.1 - 1))).flatMap λr=>((W9 (c.2 - 1) (min (c.2+2) W - (c.2 - 1))).map λk=>(r,k)).filter (mj w c)
theorem oE{R W w:Nat}(hw:Ways w){c x:Cell}:x∈iY R W w c↔On R W x/\mj w c x=true:=by
 unfold iY On;simp only[X6,WN,WC,acu];constructor
 ·rintro⟨r,⟨h1,h2⟩,⟨k,⟨h3,h4⟩,rfl⟩,h5⟩;refine⟨⟨?_,?_⟩,h5⟩
  ·show r<R;omega
  ·show k<W;omega
 ·rintro⟨⟨h1,h2⟩,h5⟩;have h6:g_ c.1 x.1<=1/\g_ c.2 x.2<=1:=by
   unfold mj at h5;rcases hw with rfl | rfl
   ·rw[acy rfl] at h5;have:=acD h5;omega
   ·rw[acz (by decide)] at h5;have:=acD h5;omega
  unfold g_ at h6;exact⟨x.1,⟨by omega,by omega⟩,⟨x.2,⟨by omega,by omega⟩,rfl⟩,h5⟩
theorem oB(R W w:Nat)(c:Cell):(iY R W w c).length<=9:=by
 unfold iY;rw[ab7];have h:∀r,(((W9 (c.2 - 1) (min (c.2+2) W - (c.2 - 1))).map λk=>(r,k)).filter (mj w c)).length<=3:=λr=>by
  refine WM (Xg ..) ?_;rw[Wc,aaA];omega
 have:∀(l:List Nat),(l.map λr=>(((W9 (c.2 - 1) (min (c.2+2) W - (c.2 - 1))).map λk=>(r,k)).filter (mj w c)).length).sum<=3*l.length:=by
  intro l;induction l with
  |nil=>simp
  |cons a l ih=>rw[Wq,YA,Wl];have:=h a;omega
 refine WM (this _) ?_;rw[aaA];omega
abbrev nc(b c w:D)(u8:List D)(x4 x5:Option Sl):bo:=[fz b,fz c,fz w,some (.ow (.lst u8)),x4,x5]
theorem j0{bd:List Str}{W w:Nat}(hg:Brd bd W)(hw:Ways w){c:Cell}(hc:On bd.length W c):cI [brd bd,cD c, .int (w:Int)]=ae (.lst ((iY bd.length W w c).map cD)):=by
 have h8:=hg.r8;have w8:=hg.w8;obtain⟨c1,c2⟩:=hc;have OI:∀n:Nat,Bd [.int ((n:Int) - 1), .int 0]=ae (.int ((n - 1:Nat):Int)):=λn=>by
  show ae (D.int (if (0:Int)>(n:Int) - 1 then 0 else(n:Int) - 1))=_;congr 2;split<;>omega
 have OJ:∀n m:Nat,Eg [.int ((n:Int)+2), .int (m:Int)]=ae (.int ((min (n+2) m:Nat):Int)):=λn m=>by
  show ae (D.int (if (m:Int)<(n:Int)+2 then(m:Int) else(n:Int)+2))=_;congr 2;split<;>omega
 have inner:∀(r:Nat) (u8:List D),u8.length<=16->forL (putN 5) (bH [5] (fU (bW (aw 3 eU (aC (dV 1) (aC (dA aZ (aC (dV 4) (aC (dV 5) aN))) (aC (dV 2) aN))))) (gA 3 (dA aZ (aC (dV 4) (aC (dV 5) aN)))) cG))
  ((W9 (c.2 - 1) (min (c.2+2) W - (c.2 - 1))).map λ(k:Nat)=>D.int (k:Int)) (nc (brd bd) (cD c) (.int (w:Int)) u8 (fz (.int (r:Int))) none)=
  ae (.nx (nc (brd bd) (cD c) (.int (w:Int)) (u8++(W9 (c.2 - 1) (min (c.2+2) W - (c.2 - 1))).flatMap λk=>if mj w c (r,k) then [cD (r,k)] else []) (fz (.int (r:Int))) none)):=λr u8 y0=>by
  refine el (λ(k:Nat)=>D.int (k:Int)) (λu8=>nc (brd bd) (cD c) (.int (w:Int)) u8 (fz (.int (r:Int))) none) (λk=>if mj w c (r,k) then [cD (r,k)] else []) (B:=64) _ u8 ?_ λk hk u8 hB=>?_
  ·rw[Wj,ab7];have:∀l:List Nat,(l.map λk=>(if mj w c (r,k) then [cD (r,k)] else []).length).sum<=l.length:=by
    intro l;induction l with
    |nil=>simp
    |cons a l ih=>rw[Wq,YA,Wl];split<;>simp<;>omega
   have h2:=this (W9 (c.2 - 1) (min (c.2+2) W - (c.2 - 1)));rw[aaA] at h2;omega
  ·refine⟨nc (brd bd) (cD c) (.int (w:Int)) u8 (fz (.int (r:Int))) (fz (.int (k:Int))),rfl,?_⟩;have ht:bW (aw 3 eU (aC (dV 1) (aC (dA aZ (aC (dV 4) (aC (dV 5) aN))) (aC (dV 2) aN)))) (nc (brd bd) (cD c) (.int (w:Int)) u8 (fz (.int (r:Int))) (fz (.int (k:Int))))=ae (mj w c (r,k)):=
    eK ((aj (ds:=[cD c,cD (r,k), .int (w:Int)]) rfl rfl).trans (vO hw c (r,k)))
   cases hn:mj w c (r,k) with
   |true=>
    rw[hn] at ht;rw[hn,acy rfl,Wj] at hB;refine(aX (Z':=nc (brd bd) (cD c) (.int (w:Int)) (u8++[cD (r,k)]) (fz (.int (r:Int))) (fz (.int (k:Int)))) (dJ ht ?_)).trans rfl;show (if u8.length<lim then ae (Out.nx (nc (brd bd) (cD c) (.int (w:Int)) (u8++[cD (r,k)]) (fz (.int (r:Int))) (fz (.int (k:Int))))) else ah)=_;rw[acy (by rw[cq];simp at hB;omega)]
   |false=>
    rw[hn] at ht;refine(aX (Z':=nc (brd bd) (cD c) (.int (w:Int)) u8 (fz (.int (r:Int))) (fz (.int (k:Int)))) (dr ht rfl)).trans ?_;simp;rfl
 have flt:∀r,((W9 (c.2 - 1) (min (c.2+2) W - (c.2 - 1))).flatMap λk=>if mj w c (r,k) then [cD (r,k)] else [])=(((W9 (c.2 - 1) (min (c.2+2) W - (c.2 - 1))).map λk=>(r,k)).filter (mj w c)).map cD:=λr=>by
  generalize W9 (c.2 - 1) (min (c.2+2) W - (c.2 - 1))=l;induction l with
  |nil=>rfl
  |cons a l ih=>
   rw[Xj,ih,Wq,YN];cases mj w c (r,a)<;>rfl
 have tot:(W9 (c.1 - 1) (min (c.1+2) bd.length - (c.1 - 1))).flatMap (λr=>(((W9 (c.2 - 1) (min (c.2+2) W - (c.2 - 1))).map λk=>(r,k)).filter (mj w c)).map cD)=(iY bd.length W w c).map cD:=by
  unfold iY;rw[Zk]
 have outer:=el (put:=putN 4) (body:=bH [4,5] (da (putN 5) (λZ=>(aC (dA Bd (aC (d2 wm (d2 aU (dV 1) (dC (.int 1))) (dC (.int 1))) (aC (dC (.int 0)) aN))) (aC (dA Eg (aC (d2 dw (d2 aU (dV 1) (dC (.int 1))) (dC (.int 2))) (aC (dA bu (aC (d2 aU (dV 0) (dC (.int 0))) aN)) aN))) aN)) Z>>=vC) (bH [5] (fU (bW (aw 3 eU (aC (dV 1) (aC (dA aZ (aC (dV 4) (aC (dV 5) aN))) (aC (dV 2) aN))))) (gA 3 (dA aZ (aC (dV 4) (aC (dV 5) aN)))) cG))))
  (λ(k:Nat)=>D.int (k:Int)) (λu8=>nc (brd bd) (cD c) (.int (w:Int)) u8 none none) (λr=>(((W9 (c.2 - 1) (min (c.2+2) W - (c.2 - 1))).map λk=>(r,k)).filter (mj w c)).map cD) (B:=16) (W9 (c.1 - 1) (min (c.1+2) bd.length - (c.1 - 1))) []
  (by rw[WJ,tot,Wc];have:=oB bd.length W w c;omega) λr hr u8 hB=>by
   refine⟨nc (brd bd) (cD c) (.int (w:Int)) u8 (fz (.int (r:Int))) none,rfl,?_⟩;have e:=inner r u8 (by rw[Wj] at hB;omega);rw[flt r] at e;refine(aX (dI (PU (i:=c.2 - 1) (j:=min (c.2+2) W) ?_ ?_ (by omega) (by omega)) e)).trans rfl
   ·exact(cz (xs:=[.int ((c.2:Int) - 1), .int 0]) rfl).trans (OI c.2)
   ·refine(cz (xs:=[.int ((c.2:Int)+2), .int (W:Int)]) ?_).trans (OJ c.2 W);exact a7 (show d2 dw (d2 aU (dV 1) (dC (.int 1))) (dC (.int 2)) (nc (brd bd) (cD c) (.int (w:Int)) u8 (fz (.int (r:Int))) none)=ae (.int ((c.2:Int)+2)) from rfl) (a7 (hg.len0 rfl) rfl)
 rw[WJ,tot] at outer;refine bg (ak (Z':=nc (brd bd) (cD c) (.int (w:Int)) [] none none) rfl (ak (Z':=nc (brd bd) (cD c) (.int (w:Int)) ((iY bd.length W w c).map cD) none none) (cw (dI (PU (i:=c.1 - 1) (j:=min (c.1+2) bd.length) ?_ ?_ (by omega) (by omega)) outer)) ?_))
 ·exact(cz (xs:=[.int ((c.1:Int) - 1), .int 0]) rfl).trans (OI c.1)
 ·refine(cz (xs:=[.int ((c.1:Int)+2), .int (bd.length:Int)]) ?_).trans (OJ c.1 bd.length);exact a7 (show d2 dw (d2 aU (dV 1) (dC (.int 0))) (dC (.int 2)) (nc (brd bd) (cD c) (.int (w:Int)) [] none none)=ae (.int ((c.1:Int)+2)) from rfl) (a7 (A_ rfl) rfl)
 ·rfl
def bx(bd:List Str)(W w:Nat)(c:Cell):List Cell:=(iY bd.length W w c).filter λx=>decide (lt bd x=lt bd c)
theorem cT{bd:List Str}{W w:Nat}(hw:Ways w){c x:Cell}:x∈bx bd W w c↔On bd.length W x/\mj w c x=true/\lt bd x=lt bd c:=by
 unfold bx;rw[WN,oE hw,acA,and_assoc]
theorem Ea(bd:List Str)(W w:Nat)(c:Cell):(bx bd W w c).length<=9:=WM (Xg ..) (oB ..)
theorem gF{α:Type}{f:D->M (Option D)}(enc:α->D)(p:α->Bool):∀(xs:List α),(∀x∈xs,f (enc x)=ae (if p x then some (enc x) else none))->eW f (xs.map enc)=ae ((xs.filter p).map enc)
 |[],_=>rfl
 |x::xs,h=>by
  rw[Wq,gQ,h x (Wh ..),ay,gF enc p xs λy hy=>h y (Wf _ hy),YN];cases p x<;>rfl
theorem rL{bd:List Str}{W w:Nat}(hg:Brd bd W)(hw:Ways w){c:Cell}(hc:On bd.length W c):dP [brd bd,cD c, .int (w:Int)]=ae (.lst ((bx bd W w c).map cD)):=by
 refine bg (ak (Z':=[fz (brd bd),fz (cD c),fz (.int (w:Int)),fz (sg (lt bd c))]) ((aL (d:=sg (lt bd c)) ((aj (ds:=[brd bd,cD c]) rfl rfl).trans (iF hg hc))).trans rfl) (a_ ?_));refine bK (ds:=(iY bd.length W w c).map cD) ?_ (gF cD _ _ λx hx=>?_) (by rw[Wc,cq];exact WM (Ea bd W w c) (by decide))
 ·show (aw 3 cI _ _>>=lstM)=_;have e:aw 3 cI (aC (dV 0) (aC (dV 1) (aC (dV 2) aN))) [fz (brd bd),fz (cD c),fz (.int (w:Int)),fz (sg (lt bd c))]=ae (.lst ((iY bd.length W w c).map cD)):=j0 hg hw hc;rw[e];rfl
 ·have IV:=(oE hw).mp hx;rw[qX];have e:cE (d2 kK (aw 2 cb (aC (dV 1) (aC (dV 0) aN))) (dV 4)) (fz (cD x)::[fz (brd bd),fz (cD c),fz (.int (w:Int)),fz (sg (lt bd c))])=ae (decide (lt bd x=lt bd c)):=by
   refine gj ?_;exact(aP (x:=sg (lt bd x)) (y:=sg (lt bd c)) ((aj (ds:=[brd bd,cD x]) rfl rfl).trans (iF hg IV.1)) rfl).trans (KD _ _)
  rw[e,ay];cases decide (lt bd x=lt bd c)<;>rfl
end K1
namespace K1
section
variable{α:Type}[DecidableEq α]
structure Bk (α:Type) where
 ks:List α
 ps:List (Option α)
 fu:List α
def dG(c:α)(s:Bk α)(x:α):Bk α:=if x∈s.ks then s else⟨s.ks++[x],s.ps++[some c],s.fu++[x]⟩
variable(nb:α->List α)
def hJ(s:Bk α)(c:α):Bk α:=(nb c).foldl (dG c) s
def cF(s:Bk α)(v6:List α):Bk α:=v6.foldl (hJ nb) s
def Rb(a:α):Nat->α->Prop
 |0,x=>x=a
 |k+1,x=>Rb a k x\/∃y,Rb a k y/\x∈nb y
variable{nb}{a:α}
theorem Rb.mono{i j:Nat}{x:α}(h:i<=j)(r:Rb nb a i x):Rb nb a j x:=by
 induction h with
 |refl=>exact r
 |step _ ih=>exact .inl ih
structure Grown (P:α->α->Prop) (s t:Bk α):Prop where
 ex:∃fs:List (α×α),t.ks=s.ks++fs.map (·.1)/\t.ps=s.ps++fs.map (λp=>some p.2)/\t.fu=s.fu++fs.map (·.1)/\(∀p∈fs,P p.2 p.1)
 nd:s.ks.Nodup->t.ks.Nodup
theorem Grown.refl{P:α->α->Prop}(s:Bk α):Grown P s s:=⟨⟨[],by simp,by simp,by simp,λ_ h=>by cases h⟩,id⟩
theorem Grown.trans{P:α->α->Prop}{s t u:Bk α}(h1:Grown P s t)(h2:Grown P t u):Grown P s u:=by
 obtain⟨fs,a1,a2,a3,a4⟩:=h1.ex;obtain⟨gs,b1,b2,b3,b4⟩:=h2.ex;refine⟨⟨fs++gs,by rw[b1,a1];simp,by rw[b2,a2];simp,by rw[b3,a3];simp,λp hp=>?_⟩,λh=>h2.nd (h1.nd h)⟩;rcases W6.mp hp with h | h
 ·exact a4 p h
 ·exact b4 p h
theorem yu{P:α->α->Prop}{c x:α}(s:Bk α)(h:P c x):Grown P s (dG c s x):=by
 unfold dG;split
 ·exact Grown.refl s
 ·rename_i hx;refine⟨⟨[(x,c)],rfl,rfl,rfl,λp hp=>?_⟩,λhn=>?_⟩
  ·have:p=(x,c):=by simpa using hp
   subst this;exact h
  ·refine XI.mpr ⟨hn,by simp,λy hy z hz e=>?_⟩;have hz:z=x:=by simpa using hz
   rw[e,hz] at hy;exact hx hy
theorem uI{c x y:α}(s:Bk α):y∈(dG c s x).ks↔y∈s.ks\/y=x:=by
 unfold dG;split
 ·rename_i hx;exact⟨.inl,λh=>h.elim id λe=>by rw[e];exact hx⟩
 ·simp
theorem foldStep{P:α->α->Prop}{c:α}:∀(l:List α) (s:Bk α),(∀x∈l,P c x)->Grown P s (l.foldl (dG c) s)/\∀y,y∈(l.foldl (dG c) s).ks↔y∈s.ks\/y∈l
 |[],s,_=>⟨Grown.refl s,λy=>by simp⟩
 |x::l,s,h=>by
  obtain⟨h1,h2⟩:=foldStep l (dG c s x) λy hy=>h y (Wf _ hy);refine⟨(yu s (h x (Wh ..))).trans h1,λy=>?_⟩;rw[YY,h2 y,uI];simp[or_assoc]
theorem yU{P:α->α->Prop}:∀(l:List α) (s:Bk α),(∀c∈l,∀x∈nb c,P c x)->Grown P s (cF nb s l)/\∀y,y∈(cF nb s l).ks↔y∈s.ks\/∃c∈l,y∈nb c
 |[],s,_=>⟨Grown.refl s,λy=>by simp[cF]⟩
 |c::l,s,h=>by
  obtain⟨g1,m1⟩:=foldStep (P:=P) (c:=c) (nb c) s (h c (Wh ..));obtain⟨g2,m2⟩:=yU l (hJ nb s c) λc' hc=>h c' (Wf _ hc);refine⟨g1.trans g2,λy=>?_⟩;show y∈(cF nb (hJ nb s c) l).ks↔_;rw[m2 y];show (y∈((nb c).foldl (dG c) s).ks\/_)↔_;rw[m1 y];simp[or_assoc]
structure Rng (nb:α->List α) (a:α) (k:Nat) (ks:List α) (ps:List (Option α)) (v6:List α):Prop where
 len:ks.length=ps.length
 nd:ks.Nodup
 mem:∀x,x∈ks↔Rb nb a k x
 rg:∀x,x∈v6↔Rb nb a k x/\∀j,Rb nb a j x->k<=j
 par:∀x p,(x,some p)∈ks.zip ps->x∈nb p/\p∈ks/\∀j,Rb nb a j x->∃i,j=i+1/\Rb nb a i p
 non:∀x,(x,none)∈ks.zip ps->x=a
 sz:k<=ks.length/\(v6≠[]->k+1<=ks.length)
theorem Rng.zero(nb:α->List α)(a:α):Rng nb a 0 [a] [none] [a] where
 len:=rfl
 nd:=by simp
 mem:=λx=>by simp[Rb]
 rg:=λx=>by simp[Rb]
 par:=λx p h=>by simp at h
 non:=λx h=>by simpa using h
 sz:=⟨by simp,λ_=>by simp⟩
theorem Rng.next{k:Nat}{ks:List α}{ps:List (Option α)}{v6:List α}(h:Rng nb a k ks ps v6)(hr:v6≠[]):Rng nb a (k+1) (cF nb ⟨ks,ps,[]⟩ v6).ks (cF nb ⟨ks,ps,[]⟩ v6).ps (cF nb ⟨ks,ps,[]⟩ v6).fu:=by
 obtain⟨g,m⟩:=yU (nb:=nb) (P:=λc x=>c∈v6/\x∈nb c) v6 ⟨ks,ps,[]⟩ λc hc x hx=>⟨hc,hx⟩
 obtain⟨fs,e1,e2,e3,e4⟩:=g.ex;have EU:=g.nd h.nd;have hm:∀x,x∈(cF nb ⟨ks,ps,[]⟩ v6).ks↔Rb nb a (k+1) x:=λx=>by
  rw[m x];show (x∈ks\/_)↔(Rb nb a k x\/_);constructor
  ·rintro(q | ⟨c,hc,hx⟩)
   ·exact .inl ((h.mem x).mp q)
   ·exact .inr ⟨c,((h.rg c).mp hc).1,hx⟩
  ·rintro(q | ⟨y,hy,hx⟩)
   ·exact .inl ((h.mem x).mpr q)
   ·by_cases hk:∀j,Rb nb a j y->k<=j
    ·exact .inr ⟨y,(h.rg y).mpr ⟨hy,hk⟩,hx⟩
    ·refine .inl ((h.mem x).mpr ?_);obtain⟨j,hj⟩:=abp.mp hk;obtain⟨Ra,UI⟩:=abO.mp hj;exact Rb.mono (i:=j+1) (by omega) (.inr ⟨y,Ra,hx⟩)
 have EO:(cF nb ⟨ks,ps,[]⟩ v6).ks=ks++fs.map (·.1):=e1;have NL:(cF nb ⟨ks,ps,[]⟩ v6).ps=ps++fs.map (λp=>some p.2):=e2;have Qh:(cF nb ⟨ks,ps,[]⟩ v6).fu=fs.map (·.1):=e3;have new:∀x,x∈fs.map (·.1)->¬Rb nb a k x:=λx hx hk=>by
  rw[EO] at EU;exact(XI.mp EU).2.2 x ((h.mem x).mpr hk) x hx rfl
 have O6:∀x,¬Rb nb a k x->∀j,Rb nb a j x->k+1<=j:=λx hx j hj=>by
  by_cases UJ:k+1<=j
  ·exact UJ
  ·exact acE (Rb.mono (by omega) hj) hx
 have OW:(cF nb ⟨ks,ps,[]⟩ v6).ks.zip (cF nb ⟨ks,ps,[]⟩ v6).ps=ks.zip ps++fs.map λp=>(p.1,some p.2):=by
  rw[EO,NL,List.zip_append h.len];congr 1;rw[List.zip_map']
 refine⟨?_,EU,hm,λx=>?_,λx p hp=>?_,λx hx=>?_,?_⟩
 ·rw[EO,NL,Wj,Wj,Wc,Wc,h.len]
 ·rw[Qh];constructor
  ·intro hx;exact⟨(hm x).mp (by rw[EO];exact Xa _ hx),O6 x (new x hx)⟩
  ·rintro⟨h1,h2⟩;have h3:=(hm x).mpr h1;rw[EO] at h3;rcases W6.mp h3 with q | q
   ·have:=h2 k ((h.mem x).mp q);omega
   ·exact q
 ·rw[OW] at hp;rcases W6.mp hp with q | q
  ·obtain⟨q1,q2,q3⟩:=h.par x p q;exact⟨q1,by rw[EO];exact Yg _ q2,q3⟩
  ·obtain⟨f,hf,e⟩:=WC.mp q;cases e;obtain⟨f1,f2⟩:=e4 f hf;have hc:=(h.rg f.2).mp f1;refine⟨f2,by rw[EO];exact Yg _ ((h.mem _).mpr hc.1),λj hj=>?_⟩;have:=O6 f.1 (new f.1 (WC.mpr ⟨f,hf,rfl⟩)) j hj;exact⟨j - 1,by omega,Rb.mono (by omega) hc.1⟩
 ·rw[OW] at hx;rcases W6.mp hx with q | q
  ·exact h.non x q
  ·obtain⟨f,hf,e⟩:=WC.mp q;cases e
 ·have hs:=h.sz.2 hr;rw[EO,Wj,Wc];refine⟨by omega,λjU=>?_⟩;have:fs≠[]:=λz=>jU (by rw[Qh,z];rfl);have:=List.length_pos_iff.mpr this;omega
theorem Rng.last{k:Nat}{ks:List α}{ps:List (Option α)}(h:Rng nb a k ks ps []):∀x,x∈ks↔∃j,Rb nb a j x:=by
 have none:∀x,¬(Rb nb a k x/\∀j,Rb nb a j x->k<=j):=λx q=>by
  have:=(h.rg x).mpr q;cases this
 have hk:∀x,Rb nb a k x->∃i,i<k/\Rb nb a i x:=λx hx=>by
  by_cases q:∀j,Rb nb a j x->k<=j
  ·exact acE ⟨hx,q⟩ (none x)
  ·obtain⟨j,hj⟩:=abp.mp q;obtain⟨Ra,UI⟩:=abO.mp hj;exact⟨j,by omega,Ra⟩
 have all:∀j x,Rb nb a j x->Rb nb a k x:=by
  intro j;induction j with
  |zero=>intro x hx;exact Rb.mono (Xe _) hx
  |succ j ih=>
   rintro x (q | ⟨y,hy,hx⟩)
   ·exact ih x q
   ·obtain⟨i,hi,hr⟩:=hk y (ih y hy);exact Rb.mono (i:=i+1) (by omega) (.inr ⟨y,hr,hx⟩)
 exact λx=>⟨λq=>⟨k,(h.mem x).mp q⟩,λ⟨j,hj⟩=>(h.mem x).mpr (all j x hj)⟩
theorem fk{l U:List α}(hn:l.Nodup)(h:∀x∈l,x∈U):l.length<=U.length:=by
 induction l generalizing U with
 |nil=>simp
 |cons a l ih=>
  rw[X0] at hn;have hl:∀x∈l,x∈U.erase a:=λx hx=>by
   have jU:x≠a:=λz=>hn.1 (by rw[<-z];exact hx);exact(List.mem_erase_of_ne jU).mpr (h x (Wf _ hx))
  have h1:=ih hn.2 hl;have h2:=aby (h a (Wh ..));have h3:=List.length_pos_of_mem (h a (Wh ..));rw[Wl];omega
end
end K1
namespace K1
open PySem L2 L3
def keyOf(c:Cell):List Key:=[.inl (c.1:Int), .inl (c.2:Int)]
theorem gG{a b:Cell}(h:keyOf a=keyOf b):a=b:=by
 unfold keyOf at h;injection h with h1 h2
 injection h1 with h1
 injection h2 with h2 _
 injection h2 with h2
 exact aaw (Z6 h1) (Z6 h2)
theorem gu(c:Cell):eV (cD c)=some (keyOf c):=rfl
theorem gL{c:Cell}:∀{ks:List Cell}{ds:List D},c∉ks->fK (ks.map keyOf) ds (keyOf c)=none
 |[],_,_=>by simp[fK]
 |k::ks,[],_=>by simp[fK]
 |k::ks,d::ds,h=>by
  rw[Wq];unfold fK;rw[acz (λz=>h (by rw[gG z];exact Wh ..))];exact gL λz=>h (Wf _ z)
theorem kX{c:Cell}:∀{ks:List Cell}{ds:List D},ks.length=ds.length->c∈ks->∃d,fK (ks.map keyOf) ds (keyOf c)=some d/\(c,d)∈ks.zip ds
 |[],_,_,h=>by cases h
 |k::ks,[],hl,_=>by simp at hl
 |k::ks,d::ds,hl,h=>by
  rw[Wq];unfold fK;by_cases hk:k=c
  ·subst hk;rw[acy rfl];exact⟨d,rfl,by simp⟩
  ·rw[acz (λz=>hk (gG z))];have hc:c∈ks:=by
    rcases Wu.mp h with q | q
    ·exact acE q.symm hk
    ·exact q
   obtain⟨d',e1,e2⟩:=kX (ds:=ds) (by simpa using hl) hc;exact⟨d',e1,by simp[e2]⟩
theorem kL{neg:Bool}{ks:List Cell}{ds:List D}{c:Cell}(hl:ks.length=ds.length):gm neg (cD c) (.dct (ks.map keyOf) ds)=ae (.bl (if neg then !decide (c∈ks) else decide (c∈ks))):=by
 show (match (eV (cD c)).map (fK (ks.map keyOf) ds) with | some o=>ae (D.bl (if neg then !o.isSome else o.isSome)) | none=>ah)=_;rw[gu];show ae (D.bl (if neg then !(fK (ks.map keyOf) ds (keyOf c)).isSome else(fK (ks.map keyOf) ds (keyOf c)).isSome))=_;by_cases h:c∈ks
 ·obtain⟨d,e,_⟩:=kX hl h;rw[e,acB h];rfl
 ·rw[gL h,acC h];rfl
theorem sP{ks:List Cell}{ds:List D}{c:Cell}{d:D}(h:c∉ks)(hl:ds.length<lim):ke (.dct (ks.map keyOf) ds) (cD c) d=some (.dct ((ks++[c]).map keyOf) (ds++[d])):=by
 show (match eV (cD c) with | some kk=>if ds.length<lim then some (C.dct (eG (ks.map keyOf) ds kk) (dH (ks.map keyOf) ds kk d)) else none | none=>none)=_;rw[gu];show (if ds.length<lim then some (C.dct (eG (ks.map keyOf) ds (keyOf c)) (dH (ks.map keyOf) ds (keyOf c) d)) else none)=_;rw[acy hl];unfold eG dH;rw[gL h];simp
theorem Ac{τ:DT}{Z:bo}{b:Bool}(h:τ (tT Z)=ae b):yk τ Z=ae b:=by
 unfold yk;rw[h];rfl
theorem Kz{δ:DE}{Z:bo}{d:D}(h:δ (tT Z)=ae d)(hf:yR d=true):Ky δ Z=ae d:=by
 unfold Ky;rw[h];show rh d=_;unfold rh;rw[hf];rfl
theorem IH(c:Cell):yR (cD c)=true:=rfl
theorem nR{c:DT}{body:DS}{n:Nat}{Z Z':bo}{m:M Out}(h1:c Z=ae true)(h2:body Z=ae (.nx Z'))(h3:fH c body n Z'=m):fH c body (n+1) Z=m:=by
 show (c Z>>=λb=>if b then body Z>>=λo=>match o with | .nx Z'=>fH c body n Z' | .rt d=>ae (.rt d) else ae (.nx Z))=_;rw[h1,ay,acy rfl,h2];exact h3
theorem tF{c:DT}{body:DS}{n:Nat}{Z:bo}(h1:c Z=ae false):fH c body (n+1) Z=ae (.nx Z):=by
 show (c Z>>=λb=>if b then body Z>>=λo=>match o with | .nx Z'=>fH c body n Z' | .rt d=>ae (.rt d) else ae (.nx Z))=_;rw[h1];rfl
def GJ:Option Cell->D
 |none=> .non
 |some c=>cD c
abbrev E4(ks:List Cell)(ps:List (Option Cell)):C:= .dct (ks.map keyOf) (ps.map GJ)
abbrev gO(ks:List Cell)(ps:List (Option Cell)):D:= .dct (ks.map keyOf) (ps.map GJ)
abbrev sb(b s w:D)(ks:List Cell)(ps:List (Option Cell))(x4 x5 x6 x7:Option Sl):bo:=[fz b,fz s,fz w,some (.ow (E4 ks ps)),x4,x5,x6,x7]
structure Bok (R W:Nat) (s:Bk Cell):Prop where
 len:s.ks.length=s.ps.length
 nd:s.ks.Nodup
 on:∀x∈s.ks,On R W x
 fu:s.fu.length<=s.ks.length
theorem Bok.le{R W:Nat}{s:Bk Cell}(h:Bok R W s):s.ks.length<=R*W:=by
 rw[<-bw R W];exact fk h.nd λx hx=>aB.mpr (h.on x hx)
theorem Bok.step{R W:Nat}{s:Bk Cell}(h:Bok R W s){c x:Cell}(hx:On R W x):Bok R W (dG c s x):=by
 unfold dG;split
 ·exact h
 ·rename_i hn;refine⟨by simp[h.len],?_,λy hy=>?_,by simp;exact h.fu⟩
  ·refine XI.mpr ⟨h.nd,by simp,λy hy z hz e=>?_⟩;have hz:z=x:=by simpa using hz
   rw[e,hz] at hy;exact hn hy
  ·rcases W6.mp hy with q | q
   ·exact h.on y q
   ·have:y=x:=by simpa using q
    rw[this];exact hx
def Nu:DS:=bH [7] (fU (yk (cE (d2 (gm true) (dV 7) (dV 3)))) (az (d8 3 (dV 7) (dV 6)) (gA 5 (dV 7))) cG)
theorem Kd{bd:List Str}{W:Nat}(hg:Brd bd W){a c x:Cell}{w:D}{r:Option Sl}{s:Bk Cell}(h:Bok bd.length W s):
 Nu (sb (brd bd) (cD a) w s.ks s.ps r (some (.ow (.lst (s.fu.map cD)))) (fz (cD c)) (fz (cD x)))=ae (.nx (sb (brd bd) (cD a) w (dG c s x).ks (dG c s x).ps r (some (.ow (.lst ((dG c s x).fu.map cD)))) (fz (cD c)) none)):=by
 have hle:=h.le;have hm:bd.length*W<=64:=XM hg.r8 hg.w8;have ht:yk (cE (d2 (gm true) (dV 7) (dV 3))) (sb (brd bd) (cD a) w s.ks s.ps r (some (.ow (.lst (s.fu.map cD)))) (fz (cD c)) (fz (cD x)))=ae (!decide (x∈s.ks)):=
  Ac (gj ((aP (x:=cD x) (y:=gO s.ks s.ps) rfl rfl).trans (kL (neg:=true) (by rw[Wc];exact h.len))))
 by_cases hx:x∈s.ks
 ·rw[acB hx] at ht;have e:dG c s x=s:=acy hx;rw[e];exact(aX (dr ht rfl)).trans rfl
 ·rw[acC hx] at ht;have e:dG c s x=⟨s.ks++[x],s.ps++[some c],s.fu++[x]⟩:=acz hx;rw[e];refine(aX (Z':=sb (brd bd) (cD a) w (s.ks++[x]) (s.ps++[some c]) r (some (.ow (.lst ((s.fu++[x]).map cD)))) (fz (cD c)) (fz (cD x))) (dJ ht (ak (Z':=sb (brd bd) (cD a) w (s.ks++[x]) (s.ps++[some c]) r (some (.ow (.lst (s.fu.map cD)))) (fz (cD c)) (fz (cD x))) ?_ ?_))).trans rfl
  ·show (match ke (E4 s.ks s.ps) (cD x) (cD c) with | some c'=>ae (Out.nx (List.set (sb (brd bd) (cD a) w s.ks s.ps r (some (.ow (.lst (s.fu.map cD)))) (fz (cD c)) (fz (cD x))) 3 (some (.ow c')))) | none=>ah)=_;rw[sP hx (by rw[Wc,<-h.len,cq];omega)];rw[show s.ps.map GJ++[cD c]=(s.ps++[some c]).map GJ by simp[GJ]];rfl
  ·show (if (s.fu.map cD).length<lim then ae (Out.nx (sb (brd bd) (cD a) w (s.ks++[x]) (s.ps++[some c]) r (some (.ow (.lst (s.fu.map cD++[cD x])))) (fz (cD c)) (fz (cD x)))) else ah)=_;have:=h.fu;rw[acy (by rw[Wc,cq];omega)];rw[show s.fu.map cD++[cD x]=(s.fu++[x]).map cD by simp]
def Nt:DS:=bH [6,7] (da (putN 7) (cj (aw 3 dP (aC (dV 0) (aC (dV 6) (aC (dV 2) aN))))) Nu)
theorem Dc{bd:List Str}{W w:Nat}(hg:Brd bd W)(hw:Ways w){a c:Cell}(hc:On bd.length W c){r:Option Sl}{s:Bk Cell}(h:Bok bd.length W s):
 Bok bd.length W (hJ (bx bd W w) s c)/\Nt (sb (brd bd) (cD a) (.int (w:Int)) s.ks s.ps r (some (.ow (.lst (s.fu.map cD)))) (fz (cD c)) none)=
  ae (.nx (sb (brd bd) (cD a) (.int (w:Int)) (hJ (bx bd W w) s c).ks (hJ (bx bd W w) s c).ps r (some (.ow (.lst ((hJ (bx bd W w) s c).fu.map cD)))) none none)):=by
 obtain⟨h1,e⟩:=iR (put:=putN 7) (body:=Nu) cD (λs:Bk Cell=>sb (brd bd) (cD a) (.int (w:Int)) s.ks s.ps r (some (.ow (.lst (s.fu.map cD)))) (fz (cD c)) none) (dG c) (Bok bd.length W) (bx bd W w c) s h λs hs x hx=>
  ⟨hs.step ((cT hw).mp hx).1,_,rfl,Kd hg hs⟩
 refine⟨h1,(aX (dI ?_ e)).trans rfl⟩;show (aw 3 dP (aC (dV 0) (aC (dV 6) (aC (dV 2) aN))) (sb (brd bd) (cD a) (.int (w:Int)) s.ks s.ps r (some (.ow (.lst (s.fu.map cD)))) (fz (cD c)) none)>>=lstM)=_;have e2:aw 3 dP (aC (dV 0) (aC (dV 6) (aC (dV 2) aN))) (sb (brd bd) (cD a) (.int (w:Int)) s.ks s.ps r (some (.ow (.lst (s.fu.map cD)))) (fz (cD c)) none)=ae (.lst ((bx bd W w c).map cD)):=rL hg hw hc;rw[e2];rfl
def PY:DS:=bH [5,6,7] (az (l8 5) (az (da (putN 6) (cj (dV 4)) Nt) (qw 5 (aW 4 (dV 5)))))
theorem Kc{bd:List Str}{W w:Nat}(hg:Brd bd W)(hw:Ways w){a:Cell}{v6:List Cell}(hr:∀c∈v6,On bd.length W c){s:Bk Cell}(h:Bok bd.length W s)(hf:s.fu=[]):
 Bok bd.length W (cF (bx bd W w) s v6)/\PY (sb (brd bd) (cD a) (.int (w:Int)) s.ks s.ps (fz (.lst (v6.map cD))) none none none)=
  ae (.nx (sb (brd bd) (cD a) (.int (w:Int)) (cF (bx bd W w) s v6).ks (cF (bx bd W w) s v6).ps (fz (.lst ((cF (bx bd W w) s v6).fu.map cD))) none none none)):=by
 obtain⟨h1,e⟩:=iR (put:=putN 6) (body:=Nt) cD (λs:Bk Cell=>sb (brd bd) (cD a) (.int (w:Int)) s.ks s.ps (fz (.lst (v6.map cD))) (some (.ow (.lst (s.fu.map cD)))) none none) (hJ (bx bd W w)) (Bok bd.length W) v6 s h λs hs c hc=>
  ⟨(Dc (a:=a) (r:=fz (.lst (v6.map cD))) hg hw (hr c hc) hs).1,_,rfl,(Dc hg hw (hr c hc) hs).2⟩
 refine⟨h1,(aX (Z':=sb (brd bd) (cD a) (.int (w:Int)) (cF (bx bd W w) s v6).ks (cF (bx bd W w) s v6).ps (fz (.lst ((cF (bx bd W w) s v6).fu.map cD))) (fz (.lst ((cF (bx bd W w) s v6).fu.map cD))) none none) ?_).trans rfl⟩;refine ak (Z':=sb (brd bd) (cD a) (.int (w:Int)) s.ks s.ps (fz (.lst (v6.map cD))) (some (.ow (.lst []))) none none) rfl (ak (Z':=sb (brd bd) (cD a) (.int (w:Int)) (cF (bx bd W w) s v6).ks (cF (bx bd W w) s v6).ps (fz (.lst (v6.map cD))) (some (.ow (.lst ((cF (bx bd W w) s v6).fu.map cD)))) none none) ?_ rfl);rw[hf] at e;exact dI rfl e
theorem z4{bd:List Str}{W w:Nat}(hg:Brd bd W)(hw:Ways w){a:Cell}(ha:On bd.length W a):∀(fuel k:Nat) (ks:List Cell) (ps:List (Option Cell)) (v6:List Cell),bd.length*W+2<=fuel+k->Rng (bx bd W w) a k ks ps v6->(∀x∈ks,On bd.length W x)->
 ∃k' ks' K_,Rng (bx bd W w) a k' ks' K_ []/\(∀x∈ks',On bd.length W x)/\fH (bW (dV 4)) PY fuel (sb (brd bd) (cD a) (.int (w:Int)) ks ps (fz (.lst (v6.map cD))) none none none)=ae (.nx (sb (brd bd) (cD a) (.int (w:Int)) ks' K_ (fz (.lst [])) none none none))
 |0,k,ks,ps,v6,hf,hR,ig=>by
  have h1:ks.length<=bd.length*W:=by
   rw[<-bw bd.length W];exact fk hR.nd λx hx=>aB.mpr (ig x hx)
  have:=hR.sz.1;omega
 |fuel+1,k,ks,ps,[],hf,hR,ig=>⟨k,ks,ps,hR,ig,tF rfl⟩
 |fuel+1,k,ks,ps,c::v6,hf,hR,ig=>by
  have jU:c::v6≠[]:=by simp
  have hN:=hR.next jU;have OS:∀x∈c::v6,On bd.length W x:=λx hx=>ig x ((hR.mem x).mpr ((hR.rg x).mp hx).1);obtain⟨hb,e⟩:=Kc (a:=a) hg hw OS (s:=⟨ks,ps,[]⟩) ⟨hR.len,hR.nd,ig,Xe _⟩ rfl;obtain⟨k',ks',K_,q1,q2,q3⟩:=z4 hg hw ha fuel (k+1) _ _ _ (by omega) hN hb.on;exact⟨k',ks',K_,q1,q2,nR rfl e q3⟩
theorem kC{bd:List Str}{W w:Nat}(hg:Brd bd W)(hw:Ways w){a:Cell}(ha:On bd.length W a):
 ∃k ks ps,Rng (bx bd W w) a k ks ps []/\(∀x∈ks,On bd.length W x)/\bF [brd bd,cD a, .int (w:Int)]=ae (gO ks ps):=by
 have hm:bd.length*W<=64:=XM hg.r8 hg.w8;obtain⟨k,ks,ps,h1,h2,h3⟩:=z4 hg hw ha lim 0 [a] [none] [a] (by rw[cq];omega) (Rng.zero _ _) (λx hx=>(show x=a by simpa using hx)▸ha);refine⟨k,ks,ps,h1,h2,bg (ak (Z':=[fz (brd bd),fz (cD a),fz (.int (w:Int)),some (.ow (E4 [a] [none])),none,none,none,none]) rfl (ak (Z':=sb (brd bd) (cD a) (.int (w:Int)) [a] [none] (fz (.lst [cD a])) none none none) rfl (ak (Z':=sb (brd bd) (cD a) (.int (w:Int)) ks ps (fz (.lst [])) none none none) (cw h3) rfl)))⟩
def k8{α:Type}[DecidableEq α](n:Nat)(enc:α->D):Prop:=∀k x y,kZ (n+k) (enc x) (enc y)=some (decide (x=y))
theorem IE(n:Nat)(xs ys:List D):kZ (n+1) (.tup xs) (.tup ys)=pj (kZ n) xs ys:=rfl
theorem mr(n:Nat)(i j:Int):kZ n (.int i) (.int j)=some (i==j):=by cases n<;>rfl
theorem ID(n:Nat)(i j:Str):kZ n (.str i) (.str j)=some (i==j):=by cases n<;>rfl
theorem wa{α:Type}[DecidableEq α]{enc:α->D}{f:D->D->Option Bool}(h:∀x y,f (enc x) (enc y)=some (decide (x=y))):∀(xs ys:List α),pj f (xs.map enc) (ys.map enc)=some (decide (xs=ys))
 |[],[]=>rfl
 |[],_::_=>by simp[pj]
 |_::_,[]=>by simp[pj]
 |x::xs,y::ys=>by
  rw[Wq,Wq];show (match f (enc x) (enc y),pj f (xs.map enc) (ys.map enc) with | some b,some r=>some (b&&r) | _,_=>none)=_;rw[h,wa h xs ys];show some (decide (x=y)&&decide (xs=ys))=_;congr 1;by_cases h1:x=y<;>by_cases h2:xs=ys<;>simp[h1,h2]
theorem Ft:k8 1 cD:=λk a b=>by
 rw[aaS];show (match kZ k (.int (a.1:Int)) (.int (b.1:Int)),pj (kZ k) [.int (a.2:Int)] [.int (b.2:Int)] with | some b,some r=>some (b&&r) | _,_=>none)=_;rw[mr];show (match some ((a.1:Int)==(b.1:Int)),(match kZ k (.int (a.2:Int)) (.int (b.2:Int)),pj (kZ k) [] [] with | some b,some r=>some (b&&r) | _,_=>none) with | some b,some r=>some (b&&r) | _,_=>none)=_;rw[mr];show some (((a.1:Int)==(b.1:Int))&&(((a.2:Int)==(b.2:Int))&&true))=_;rw[mY,mY,abA];congr 1;obtain⟨a1,a2⟩:=a;obtain⟨b1,b2⟩:=b;by_cases h1:a1=b1<;>by_cases h2:a2=b2<;>simp[h1,h2]
theorem Iz{α:Type}[DecidableEq α]{enc:α->D}{n:Nat}(h:k8 n enc):k8 (n+1) (λl:List α=> .lst (l.map enc)):=λk x y=>by
 rw[show n+1+k=(n+k)+1 by omega];exact wa (h k) x y
theorem IB{α:Type}[DecidableEq α]{enc:α->D}{n:Nat}(h:k8 n enc):k8 (n+1) (λl:List α=> .tup (l.map enc)):=λk x y=>by
 rw[show n+1+k=(n+k)+1 by omega];exact wa (h k) x y
theorem IA:k8 0 D.str:=λk x y=>by
 rw[ID];congr 1
theorem Iy:k8 0 D.int:=λk x y=>by
 rw[mr];congr 1
theorem Iw:k8 1 brd:=IB IA
theorem QN{α:Type}[DecidableEq α]{enc:α->D}{n:Nat}(h:k8 n enc)(hn:n<=6)(x y:α):kK (enc x) (enc y)=ae (.bl (decide (x=y))):=by
 have:=h (6 - n) x y;rw[show n+(6 - n)=6 by omega] at this;unfold kK;rw[this]
theorem v9{α:Type}[DecidableEq α]{enc:α->D}{n:Nat}(h:k8 n enc)(hn:n<=6)(x y:α):mi (enc x) (enc y)=ae (.bl (!decide (x=y))):=by
 have:=h (6 - n) x y;rw[show n+(6 - n)=6 by omega] at this;unfold mi;rw[this]
abbrev cL(l:List Cell):D:= .lst (l.map cD)
theorem K5(a b:Cell):mi (cD a) (cD b)=ae (.bl (!decide (a=b))):=v9 Ft (by decide) a b
theorem O_(a b:List Cell):mi (cL a) (cL b)=ae (.bl (!decide (a=b))):=v9 (Iz Ft) (by decide) a b
def ic(c:Cell):List Int:=[(c.1:Int),(c.2:Int)]
def uN(a b:Cell):Bool:=if a.1=b.1 then decide (a.2<b.2) else decide (a.1<b.1)
def IW(k:Cell):List Cell->List Cell
 |[]=>[k]
 |x::r=>if uN k x then k::x::r else x::IW k r
def lJ:List Cell->List Cell
 |[]=>[]
 |k::r=>IW k (lJ r)
theorem Bc(a b:Cell):fI (ic a) (ic b)=uN a b:=by
 show (if (a.1:Int)=(b.1:Int) then(if (a.2:Int)=(b.2:Int) then false else decide ((a.2:Int)<(b.2:Int))) else decide ((a.1:Int)<(b.1:Int)))=_;unfold uN;by_cases h:a.1=b.1
 ·rw[acy h,acy (by omega)];by_cases h2:a.2=b.2
  ·rw[acy (by omega),h2];simp
  ·rw[acz (by omega)];by_cases h3:a.2<b.2
   ·rw[acB h3,acB (by omega)]
   ·rw[acC h3,acC (by omega)]
 ·rw[acz h,acz (by omega)];by_cases h3:a.1<b.1
  ·rw[acB h3,acB (by omega)]
  ·rw[acC h3,acC (by omega)]
theorem FX(k:Cell):∀l:List Cell,insI (ic k) (l.map ic)=(IW k l).map ic
 |[]=>rfl
 |x::r=>by
  rw[Wq];unfold insI IW;rw[Bc];cases uN k x with
  |true=>rfl
  |false=>rw[acz (by decide),acz (by decide),Wq,FX k r]
theorem nL:∀l:List Cell,sortI (l.map ic)=(lJ l).map ic
 |[]=>rfl
 |k::r=>by
  rw[Wq];unfold sortI lJ;rw[nL r,FX]
theorem wz{a b:Cell}(h:ic a=ic b):a=b:=by
 unfold ic at h;injection h with h1 h2
 injection h2 with h2 _
 exact aaw (Z6 h1) (Z6 h2)
theorem kT{x:Cell}{l:List Cell}:x∈lJ l↔x∈l:=by
 have h:=gK (x:=ic x) (l:=l.map ic);rw[nL] at h;constructor
 ·intro hx;obtain⟨y,hy,e⟩:=WC.mp (h.mp (WC.mpr ⟨x,hx,rfl⟩));rw[<-wz e];exact hy
 ·intro hx;obtain⟨y,hy,e⟩:=WC.mp (h.mpr (WC.mpr ⟨x,hx,rfl⟩));rw[<-wz e];exact hy
def RiseC(l:List Cell):Prop:=l.Pairwise λa b=>uN a b=true
theorem xB{l:List Cell}:Ay (l.map ic)↔RiseC l:=by
 unfold Ay RiseC;rw[ZH];constructor<;>intro h<;>refine ZZ ?_ h<;>intro a b q
 ·rw[<-Bc];exact q
 ·rw[Bc];exact q
theorem zr{l:List Cell}(h:l.Nodup):(l.map ic).Nodup:=by
 unfold Xl at h⊢;rw[ZH];exact ZZ (λh z=>h (wz z)) h
theorem mf{l:List Cell}(h:l.Nodup):RiseC (lJ l):=by
 have:=mh (zr h);rw[nL] at this;exact xB.mp this
theorem fT{a b:List Cell}(ha:RiseC a)(hb:RiseC b)(h:∀x,x∈a↔x∈b):a=b:=by
 have e:=sT (xB.mpr ha) (xB.mpr hb) λx=>by
  constructor
  ·intro hx;obtain⟨y,hy,rfl⟩:=WC.mp hx;exact WC.mpr ⟨y,(h y).mp hy,rfl⟩
  ·intro hx;obtain⟨y,hy,rfl⟩:=WC.mp hx;exact WC.mpr ⟨y,(h y).mpr hy,rfl⟩
 have inj:∀(a b:List Cell),a.map ic=b.map ic->a=b:=by
  intro a;induction a with
  |nil=>intro b h;cases b with
   |nil=>rfl
   |cons=>simp at h
  |cons x a ih=>intro b h;cases b with
   |nil=>simp at h
   |cons y b=>
    rw[Wq,Wq] at h;injection h with h1 h2
    rw[wz h1,ih b h2]
 exact inj a b e
theorem RiseC.nodup{l:List Cell}(h:RiseC l):l.Nodup:=by
 refine ZZ ?_ h;intro a b q z;subst z;unfold uN at q;rw[acy rfl] at q;have:=acD q;omega
theorem kO:∀ks:List Cell,fN (ks.map keyOf)=some (ks.map ic)
 |[]=>rfl
 |k::r=>by
  show (match u4 (keyOf k),fN (r.map keyOf) with | some x,some xs=>some (x::xs) | _,_=>none)=_;rw[kO r];rfl
theorem K6{ks:List Cell}(h:ks.Nodup)(hl:ks.length<64):gp (ks.map ic)=true:=by
 unfold gp;rw[Wc,acB (zr h),acB hl];simp;intro a b _ z;cases z
theorem z_{ks:List Cell}{ds:List D}(h:ks.Nodup)(hl:ks.length<64):pY [.dct (ks.map keyOf) ds]=ae (cL (lJ ks)):=by
 show (match fN (ks.map keyOf) with | some ks=>if gp ks&&ks.all (λk=>decide (k.length<=lim)) then ae (D.lst ((sortI ks).map tupI)) else ah | none=>ah)=_;rw[kO];show (if gp (ks.map ic)&&(ks.map ic).all (λk=>decide (k.length<=lim)) then ae (D.lst ((sortI (ks.map ic)).map tupI)) else ah)=_;rw[K6 h hl];have:(ks.map ic).all (λk=>decide (k.length<=lim))=true:=by
  simp;intro a b _;show 2<=lim
  decide
 rw[this,abA,acy rfl,nL,W7];rfl
def Cn(bd:List Str)(W w:Nat)(a b:Cell):Prop:=∃j,Rb (bx bd W w) a j b
theorem Cn.refl{bd:List Str}{W w:Nat}{a:Cell}:Cn bd W w a a:=⟨0,rfl⟩
theorem lU{bd:List Str}{W w:Nat}(hw:Ways w){a b:Cell}(ha:On bd.length W a)(h:b∈bx bd W w a):a∈bx bd W w b:=by
 obtain⟨h1,h2,h3⟩:=(cT hw).mp h;exact(cT hw).mpr ⟨ha,by rw[rZ];exact h2,h3.symm⟩
theorem zV{bd:List Str}{W w:Nat}(hw:Ways w){a b:Cell}(ha:On bd.length W a):∀{j:Nat},Rb (bx bd W w) a j b->On bd.length W b
 |0,h=>by rw[show b=a from h];exact ha
 |j+1, .inl h=>zV hw ha h
 |j+1, .inr ⟨y,_,hy⟩=>((cT hw).mp hy).1
theorem sQ{bd:List Str}{W w:Nat}{a c b:Cell}(h:c∈bx bd W w a):∀{j:Nat},Rb (bx bd W w) c j b->Rb (bx bd W w) a (j+1) b
 |0,q=> .inr ⟨a,rfl,by rw[show b=c from q];exact h⟩
 |j+1, .inl q=> .inl (sQ h q)
 |j+1, .inr ⟨y,q,hy⟩=> .inr ⟨y,sQ h q,hy⟩
theorem xu{bd:List Str}{W w:Nat}(hw:Ways w){a b:Cell}(ha:On bd.length W a):∀{j:Nat},Rb (bx bd W w) a j b->Rb (bx bd W w) b j a
 |0,h=>show a=b from(show b=a from h).symm
 |j+1, .inl h=> .inl (xu hw ha h)
 |j+1, .inr ⟨y,q,hy⟩=>sQ (lU hw (zV hw ha q) hy) (xu hw ha q)
theorem sR{bd:List Str}{W w:Nat}{a b c:Cell}{i:Nat}(h:Rb (bx bd W w) a i b):∀{j:Nat},Rb (bx bd W w) b j c->Rb (bx bd W w) a (i+j) c
 |0,q=>by rw[show c=b from q];exact h
 |j+1, .inl q=> .inl (sR h q)
 |j+1, .inr ⟨y,q,hy⟩=> .inr ⟨y,sR h q,hy⟩
theorem oT{bd:List Str}{W w:Nat}(hw:Ways w){a b:Cell}:∀{j:Nat},Rb (bx bd W w) a j b->lt bd b=lt bd a
 |0,h=>by rw[show b=a from h]
 |j+1, .inl h=>oT hw h
 |j+1, .inr ⟨y,q,hy⟩=>((cT hw).mp hy).2.2.trans (oT hw q)
section
variable{bd:List Str}{W w:Nat}{a b c:Cell}
theorem Cn.on(hw:Ways w)(ha:On bd.length W a)(h:Cn bd W w a b):On bd.length W b:=let ⟨_,q⟩:=h;zV hw ha q
theorem Cn.symm(hw:Ways w)(ha:On bd.length W a)(h:Cn bd W w a b):Cn bd W w b a:=let ⟨j,q⟩:=h;⟨j,xu hw ha q⟩
theorem Cn.trans(h:Cn bd W w a b)(h2:Cn bd W w b c):Cn bd W w a c:=let ⟨i,q⟩:=h;let ⟨j,r⟩:=h2;⟨i+j,sR q r⟩
theorem Cn.letter(hw:Ways w)(h:Cn bd W w a b):lt bd b=lt bd a:=let ⟨_,q⟩:=h;oT hw q
theorem Cn.step(h:Cn bd W w a b)(h2:c∈bx bd W w b):Cn bd W w a c:=let ⟨j,q⟩:=h;⟨j+1, .inr ⟨b,q,h2⟩⟩
end
structure IsPatch (bd:List Str) (W w:Nat) (a:Cell) (P:List Cell):Prop where
 rise:RiseC P
 mem:∀x,x∈P↔Cn bd W w a x
theorem IsPatch.one{bd:List Str}{W w:Nat}{a:Cell}{P Q:List Cell}(h:IsPatch bd W w a P)(h2:IsPatch bd W w a Q):P=Q:=fT h.rise h2.rise λx=>(h.mem x).trans (h2.mem x).symm
theorem jd{bd:List Str}{W:Nat}{ks:List Cell}(hn:ks.Nodup)(ig:∀x∈ks,On bd.length W x):ks.length<=bd.length*W:=by
 rw[<-bw bd.length W];exact fk hn λx hx=>aB.mpr (ig x hx)
def Lj(w:Nat):List Cell->Bool
 |a::b::r=>mj w a b&&Lj w (b::r)
 |_=>true
theorem yr{α:Type}{l:List α}{x:α}:L2.atI (l++[x]) (-1)=some x:=by
 unfold L2.atI Ct;rw[acz (by decide)];have: -((l++[x]).length:Int)<= -1:=by simp;omega
 rw[acy this];have e:((-1:Int)+((l++[x]).length:Int)).toNat=l.length:=by simp;omega
 show (l++[x])[((-1:Int)+((l++[x]).length:Int)).toNat]? =some x;rw[e];simp
theorem O2{l:List Cell}{x:Cell}:jT (cL (l++[x])) (.int (-1))=ae (cD x):=by
 show (match L2.atI ((l++[x]).map cD) (-1) with | some d=>ae d | none=>ah)=_;rw[Xo,show [x].map cD=[cD x] from rfl,yr]
theorem Mj{l:List Cell}{i:Nat}{x:Cell}(h:l[i]? =some x):jT (cL l) (.int (i:Int))=ae (cD x):=by
 show (match L2.atI (l.map cD) (i:Int) with | some d=>ae d | none=>ah)=_;rw[gN (x:=cD x) (by rw[Wz,h];rfl)]
abbrev wr(bd w a b k t:D):bo:=[fz bd,fz w,fz a,fz b,fz k,fz t]
theorem dN{α:Type}{f:D->M (Option D)}(enc:α->D)(g:α->D):∀(xs:List α),(∀x∈xs,f (enc x)=ae (some (g x)))->eW f (xs.map enc)=ae (xs.map g)
 |[],_=>rfl
 |x::xs,h=>by
  rw[Wq,gQ,h x (Wh ..),ay,dN enc g xs λy hy=>h y (Wf _ hy)];rfl
theorem yp{α:Type}{δi:DA}{δe:DE}{Z:bo}{enc:α->D}{xs:List α}{g:α->Bool}(h:δi Z=ae (xs.map enc))(h2:∀x∈xs,δe (fz (enc x)::Z)=ae (.bl (g x)))(h3:xs.length<=4096):dA allM (aC (bc 0 δi bX δe) aN) Z=ae (.bl (xs.all g)):=by
 have cm:bc 0 δi bX δe Z=ae (.lst ((xs.map g).map D.bl)):=by
  refine bK h ?_ (by rw[Wc,Wc,cq];exact h3);rw[W7];exact dN enc _ xs λx hx=>by rw[iA,h2 x hx];rfl
 rw[cz (a7 cm rfl),all_map,YR];rfl
theorem NP{Z:bo}{i:Nat}{ds:List D}(h:Z[i]? =some (fz (.lst ds))):cj (dV i) Z=ae ds:=by
 unfold cj;rw[v8 h];rfl
theorem Di{w:Nat}:∀(p:List Cell) (c:Cell),(W9 1 (p.length - 1)).all (λi=>mj w (p.getD (i - 1) c) (p.getD i c))=Lj w p
 |[],_=>rfl
 |[_],_=>rfl
 |a::b::r,c=>by
  have ih:=Di (w:=w) (b::r) c;unfold Lj;rw[<-ih];show (W9 1 (r.length+1)).all _=(_&&(W9 1 r.length).all _)
  rw[Zj,Y3];congr 1;rw[show W9 (1+1) r.length=(W9 1 r.length).map (1+ ·) from(List.map_add_range' (a:=1) 1 r.length 1).symm,YR];refine Bool.eq_iff_iff.mpr ?_;simp only[W3,acu,aa3];constructor
  ·intro h i hi;have:=h i hi;rw[show 1+i - 1=(i - 1)+1 by omega,aaS 1 i] at this;exact this
  ·intro h i hi;have:=h i hi;rw[show 1+i - 1=(i - 1)+1 by omega,aaS 1 i];exact this
def b9(ks:List Cell)(c:Cell):List Cell:=if c∈ks then ks else ks++[c]
def bj(l:List Cell):List Cell:=l.foldl b9 []
def aT(ks:List Cell):List D:=ks.map λ_=> .bl true
theorem yo{ks:List Cell}{c x:Cell}:x∈b9 ks c↔x∈ks\/x=c:=by
 unfold b9;split
 ·rename_i h;exact⟨.inl,λq=>q.elim id λe=>by rw[e];exact h⟩
 ·simp
theorem la:∀(l ks:List Cell),(ks.Nodup->(l.foldl b9 ks).Nodup)/\(∀x,x∈l.foldl b9 ks↔x∈ks\/x∈l)/\(l.foldl b9 ks).length<=ks.length+l.length
 |[],ks=>⟨id,λx=>by simp,by simp⟩
 |c::l,ks=>by
  obtain⟨h1,h2,h3⟩:=la l (b9 ks c);refine⟨λhn=>h1 ?_,λx=>?_,?_⟩
  ·unfold b9;split
   ·exact hn
   ·rename_i hc;refine XI.mpr ⟨hn,by simp,λy hy z hz e=>?_⟩;have hz:z=c:=by simpa using hz
    rw[e,hz] at hy;exact hc hy
  ·rw[YY,h2 x,yo];simp[or_assoc]
  ·rw[YY,Wl];have:(b9 ks c).length<=ks.length+1:=by unfold b9;split<;>simp
   omega
theorem dD{l:List Cell}{x:Cell}:x∈bj l↔x∈l:=by
 unfold bj;rw[(la l []).2.1 x];simp
theorem mZ(l:List Cell):(bj l).Nodup:=(la l []).1 YM
theorem oA(l:List Cell):(bj l).length<=l.length:=by have:=(la l []).2.2;simpa[bj] using this
theorem vA{k:List Key}:∀{ks:List (List Key)}{l:List Cell},ks.length=l.length->oY ks (aT l) k (.bl true)=aT l
 |[],[],_=>rfl
 |k'::ks,c::l,h=>by
  show (if k'=k then D.bl true else D.bl true)::oY ks (aT l) k (.bl true)=_;rw[vA (by simpa using h)];split<;>rfl
 |[],_::_,h=>by simp at h
 |_::_,[],h=>by simp at h
theorem zT{ks:List Cell}{c:Cell}(hl:ks.length<lim):ke (.dct (ks.map keyOf) (aT ks)) (cD c) (.bl true)=some (.dct ((b9 ks c).map keyOf) (aT (b9 ks c))):=by
 have T0:(aT ks).length=ks.length:=by simp[aT]
 unfold b9;by_cases h:c∈ks
 ·rw[acy h];show (match eV (cD c) with | some kk=>if (aT ks).length<lim then some (C.dct (eG (ks.map keyOf) (aT ks) kk) (dH (ks.map keyOf) (aT ks) kk (.bl true))) else none | none=>none)=_;rw[gu];show (if (aT ks).length<lim then some (C.dct (eG (ks.map keyOf) (aT ks) (keyOf c)) (dH (ks.map keyOf) (aT ks) (keyOf c) (.bl true))) else none)=_;rw[acy (by rw[T0];exact hl)];obtain⟨d,e,_⟩:=kX (ds:=aT ks) T0.symm h;unfold eG dH;rw[e];show some (C.dct (ks.map keyOf) (oY (ks.map keyOf) (aT ks) (keyOf c) (.bl true)))=_;rw[vA (by simp)]
 ·rw[acz h,sP h (by rw[T0];exact hl)];simp[aT]
abbrev jr(l:List Cell):D:= .dct ((bj l).map keyOf) (aT (bj l))
theorem kP{l:List Cell}(hl:l.length<4000):d6 [cL l]=ae (jr l):=by
 have e:∀(xs ks:List Cell),ks.length+xs.length<4000->forL (putN 2) (bH [2] (d8 1 (dV 2) (dC (.bl true)))) (xs.map cD) [fz (cL l),some (.ow (.dct (ks.map keyOf) (aT ks))),none]=ae (.nx [fz (cL l),some (.ow (.dct ((xs.foldl b9 ks).map keyOf) (aT (xs.foldl b9 ks)))),none]):=by
  intro xs;induction xs with
  |nil=>intro ks _;rfl
  |cons x xs ih=>
   intro ks hk;rw[Wl] at hk;have hle:(b9 ks x).length<=ks.length+1:=by unfold b9;split<;>simp
   refine(cZ (Z1:=[fz (cL l),some (.ow (.dct (ks.map keyOf) (aT ks))),fz (cD x)]) (Z2:=[fz (cL l),some (.ow (.dct ((b9 ks x).map keyOf) (aT (b9 ks x)))),none]) rfl ?_).trans (ih (b9 ks x) (by omega));refine(aX (Z':=[fz (cL l),some (.ow (.dct ((b9 ks x).map keyOf) (aT (b9 ks x)))),fz (cD x)]) ?_).trans rfl;show (match ke (.dct (ks.map keyOf) (aT ks)) (cD x) (.bl true) with | some c'=>ae (Out.nx [fz (cL l),some (.ow c'),fz (cD x)]) | none=>ah)=_;rw[zT (by rw[cq];omega)]
 refine bg (ak (Z':=[fz (cL l),some (.ow (.dct [] [])),none]) rfl (ak (Z':=[fz (cL l),some (.ow (.dct ((bj l).map keyOf) (aT (bj l)))),none]) (cw (dI (ds:=l.map cD) rfl (e l [] (by simpa using hl)))) rfl))
theorem D8{ks:List Cell}{ds:List D}:jJ (.dct (ks.map keyOf) ds)=ae (ks.map cD):=by
 show (if (ks.map keyOf).all (λk=>decide (k.length<=lim)&&k.all vj) then ae ((ks.map keyOf).map tupK) else ah)=_;have:(ks.map keyOf).all (λk=>decide (k.length<=lim)&&k.all vj)=true:=by
  simp only[W3,WC];rintro k ⟨c,_,rfl⟩;rfl
 rw[acy this,W7];rfl
theorem zi{x:Cell}:∀{l:List Cell},oD (keyOf x) (l.map keyOf)=decide (x∈l)
 |[]=>rfl
 |y::l=>by
  show (decide (keyOf y=keyOf x)||oD (keyOf x) (l.map keyOf))=_;rw[zi];by_cases h:y=x
  ·subst h;simp
  ·have h2:¬keyOf y=keyOf x:=λz=>h (gG z);rw[acC h2,Bool.false_or,acF];constructor
   ·exact λq=>Wf _ q
   ·intro q;rcases Wu.mp q with q | q
    ·exact acE q.symm h
    ·exact q
theorem vc:∀{l:List Cell},mK (l.map cD)=some (l.map keyOf)
 |[]=>rfl
 |y::l=>by
  show (match eV (cD y),mK (l.map cD) with | some k,some ks=>some (k::ks) | _,_=>none)=_;rw[vc];rfl
theorem Cq{neg:Bool}{x:Cell}{l:List Cell}:rk neg (cD x) (cL l)=ae (.bl (if neg then !decide (x∈l) else decide (x∈l))):=by
 show (match eV (cD x),mK (l.map cD) with | some k,some ks=>ae (D.bl (if neg then !oD k ks else oD k ks)) | _,_=>ah)=_;rw[vc,gu];show ae (D.bl (if neg then !oD (keyOf x) (l.map keyOf) else oD (keyOf x) (l.map keyOf)))=_;rw[zi]
theorem Mu(l:List Cell):bu [cL l]=ae (.int (l.length:Int)):=by
 show ae (D.int ((l.map cD).length:Int))=_;rw[Wc]
theorem Ls{a b:List Cell}(h:a.length+b.length<=4096):gV (cL a) (cL b)=ae (cL (a++b)):=by
 show (if (a.map cD).length+(b.map cD).length<=lim then ae (D.lst (a.map cD++b.map cD)) else ah)=_;rw[acy (by rw[Wc,Wc,cq];exact h),<-Xo]
theorem K3(a b:Nat):LO (.int (a:Int)) (.int (b:Int))=ae (.bl (decide (b<a))):=by
 show ae (D.bl (decide ((b:Int)<(a:Int))))=_;congr 2;rw[acF];omega
theorem Fg{R W v:Nat}(h:v<R*W):∃c,On R W c/\(ax R W)[v]? =some c:=by
 have hv:v<(ax R W).length:=by rw[bw];exact h
 exact⟨(ax R W)[v],aB.mp (Yp _),Wi hv⟩
theorem G4(ns:List Int)(hl:ns.length<=63){R W:Nat}(h:0<R*W)(k:Nat):∃c,On R W c/\∃v:Nat,v<R*W/\aD [.scr ns, .int (k:Int), .int ((R*W:Nat):Int)]=ae (.int (v:Int))/\jT (cL (ax R W)) (.int (v:Int))=ae (cD c):=by
 obtain⟨v,hv,e⟩:=cY ns hl k (R*W) h;obtain⟨c,hc,e2⟩:=Fg hv;exact⟨c,hc,v,hv,e,Mj e2⟩
theorem D_{R W:Nat}{δ:DE}{Z:bo}(h:δ Z=ae (cL (ax R W))):dA bu (aC δ aN) Z=ae (.int ((R*W:Nat):Int)):=by
 refine(cz (xs:=[cL (ax R W)]) (a7 h rfl)).trans ?_;rw[Mu,bw]
theorem G3(ns:List Int)(hl:ns.length<=63){R W:Nat}(h:0<R*W){i s:Nat}{δk:DE}{Z:bo}{k:Nat}(hi:dV i Z=ae (cL (ax R W)))(hs:dV s Z=ae (.scr ns))(hk:δk Z=ae (.int (k:Int))):
 ∃c,On R W c/\d2 jT (dV i) (aw 3 aD (aC (dV s) (aC δk (aC (dA bu (aC (dV i) aN)) aN)))) Z=ae (cD c):=by
 obtain⟨c,hc,v,hv,e1,e2⟩:=G4 ns hl h k;exact⟨c,hc,(aP hi ((aj (ds:=[.scr ns, .int (k:Int), .int ((R*W:Nat):Int)]) (a7 hs (a7 hk (a7 (D_ hi) rfl))) rfl).trans e1)).trans e2⟩
def yK(ks:List Cell)(f:Cell->D):C:= .dct (ks.map keyOf) (ks.map f)
def yi(ks:List Cell)(f:Cell->D):D:= .dct (ks.map keyOf) (ks.map f)
def fJ(f:Cell->D)(x:Cell)(d:D):Cell->D:=λy=>if y=x then d else f y
theorem nN{f:Cell->D}{x:Cell}:∀{ks:List Cell},x∈ks->fK (ks.map keyOf) (ks.map f) (keyOf x)=some (f x)
 |y::ks,h=>by
  show (if keyOf y=keyOf x then some (f y) else fK (ks.map keyOf) (ks.map f) (keyOf x))=_;by_cases e:y=x
  ·subst e;rw[acy rfl]
  ·rw[acz (λz=>e (gG z))];rcases Wu.mp h with q | q
   ·exact acE q.symm e
   ·exact nN q
theorem rD{ks:List Cell}{f:Cell->D}{x:Cell}(h:x∈ks):c8 (yi ks f) (cD x)=ae (f x):=by
 show (match ((eV (cD x)).map λk=>fK (ks.map keyOf) (ks.map f) k) with | some (some v)=>ae v | _=>ah)=_;rw[gu];show (match some (fK (ks.map keyOf) (ks.map f) (keyOf x)) with | some (some v)=>ae v | _=>ah)=_;rw[nN h]
theorem IK{ks:List Cell}{f:Cell->D}{x:Cell}{v:D}(h:x∈ks):getM (yi ks f) (cD x) v=ae (f x):=by
 show (match ((eV (cD x)).map λk=>fK (ks.map keyOf) (ks.map f) k) with | some (some x)=>ae x | some none=>ae v | none=>ah)=_;rw[gu];show (match some (fK (ks.map keyOf) (ks.map f) (keyOf x)) with | some (some x)=>ae x | some none=>ae v | none=>ah)=_;rw[nN h]
theorem FG{ks:List Cell}{f:Cell->D}{x:Cell}{v:D}(h:x∉ks):getM (yi ks f) (cD x) v=ae v:=by
 show (match ((eV (cD x)).map λk=>fK (ks.map keyOf) (ks.map f) k) with | some (some x)=>ae x | some none=>ae v | none=>ah)=_;rw[gu];show (match some (fK (ks.map keyOf) (ks.map f) (keyOf x)) with | some (some x)=>ae x | some none=>ae v | none=>ah)=_;rw[gL h]
theorem xA{f:Cell->D}{x:Cell}{d:D}:∀{ks:List Cell},oY (ks.map keyOf) (ks.map f) (keyOf x) d=ks.map (fJ f x d)
 |[]=>rfl
 |y::ks=>by
  show (if keyOf y=keyOf x then d else f y)::oY (ks.map keyOf) (ks.map f) (keyOf x) d=_;rw[xA,Wq];congr 1;unfold fJ;by_cases e:y=x
  ·subst e;rw[acy rfl,acy rfl]
  ·rw[acz (λz=>e (gG z)),acz e]
theorem J2{ks:List Cell}{f:Cell->D}{x:Cell}{d:D}(hl:ks.length<lim):ke (yK ks f) (cD x) d=some (yK (b9 ks x) (fJ f x d)):=by
 show (match eV (cD x) with | some kk=>if (ks.map f).length<lim then some (C.dct (eG (ks.map keyOf) (ks.map f) kk) (dH (ks.map keyOf) (ks.map f) kk d)) else none | none=>none)=_;rw[gu];show (if (ks.map f).length<lim then some (C.dct (eG (ks.map keyOf) (ks.map f) (keyOf x)) (dH (ks.map keyOf) (ks.map f) (keyOf x) d)) else none)=_;rw[acy (by rw[Wc];exact hl)];unfold yK b9 eG dH;by_cases h:x∈ks
 ·rw[nN h,acy h];show some (C.dct (ks.map keyOf) (oY (ks.map keyOf) (ks.map f) (keyOf x) d))=_;rw[xA]
 ·rw[gL h,acz h];show some (C.dct (ks.map keyOf++[keyOf x]) (ks.map f++[d]))=_;have e1:ks.map f=ks.map (fJ f x d):=aad λy hy=>by
   unfold fJ;rw[acz (λz:y=x=>h (z▸hy))]
  have e2:(ks++[x]).map (fJ f x d)=ks.map (fJ f x d)++[d]:=by
   rw[Xo];congr 1;show [fJ f x d x]=[d]
   unfold fJ;rw[acy rfl]
  rw[Xo,e1,e2];rfl
theorem qK{i:Nat}{δk δv:DE}{Z:bo}{ks:List Cell}{f:Cell->D}{x:Cell}{d:D}(h0:Z[i]? =some (some (.ow (yK ks f))))(hv:δv Z=ae d)(hk:δk Z=ae (cD x))(hl:ks.length<lim):
 d8 i δk δv Z=ae (.nx (Z.set i (some (.ow (yK (b9 ks x) (fJ f x d)))))):=by
 unfold d8 zI;rw[h0];show (δv Z>>=λv=>δk Z>>=λk=>match ke (yK ks f) k v with | some c'=>ae (Out.nx (Z.set i (some (.ow c')))) | none=>ah)=_;rw[hv,ay,hk,ay,J2 hl]
theorem ik{bd:List Str}{W:Nat}(hg:Wd bd W):bh [brd bd]=ae (cL (ax bd.length W)):=by
 have h8:=hg.r8;have w8:=hg.w8;have hm:bd.length*W<=64:=XM h8 w8;have DR:(WD bd.length).flatMap (λr=>(cy W r).map cD)=(ax bd.length W).map cD:=by
  unfold ax;rw[Zk]
 have e:=el (put:=putN 2) (body:=bH [2] (aW 1 (d2 gV (dV 1) (bc 0 (λZ=>(aC (dA bu (aC (d2 aU (dV 0) (dC (.int 0))) aN)) aN) Z>>=d7) bX (dA aZ (aC (dV 3) (aC (dV 0) aN))))))) (λ(k:Nat)=>D.int (k:Int)) (λu8=>[fz (brd bd),fz (.lst u8),none]) (λr=>(cy W r).map cD) (B:=64) (WD bd.length) []
  (by rw[WJ,DR,Wc,bw];exact hm) λr hr u8 hB=>by
   refine⟨[fz (brd bd),fz (.lst u8),fz (.int (r:Int))],rfl,?_⟩;refine(aX (Z':=[fz (brd bd),fz (.lst (u8++(cy W r).map cD)),fz (.int (r:Int))]) ?_).trans rfl;have hc:bc 0 (λZ=>(aC (dA bu (aC (d2 aU (dV 0) (dC (.int 0))) aN)) aN) Z>>=d7) bX (dA aZ (aC (dV 3) (aC (dV 0) aN))) [fz (brd bd),fz (.lst u8),fz (.int (r:Int))]=ae (.lst ((cy W r).map cD)):=by
    refine bK (xC (n:=W) (hg.len0 rfl) (by omega)) ?_ (by simp[cy,cq];omega);rw[show (cy W r).map cD=(WD W).map (λk=>cD (r,k)) by simp[cy,W7]];exact dN (λ(k:Nat)=>D.int (k:Int)) (λk=>cD (r,k)) _ λk _=>rfl
   refine(aL (d:= .lst (u8++(cy W r).map cD)) ((aP (x:= .lst u8) (y:= .lst ((cy W r).map cD)) rfl hc).trans ?_)).trans rfl;show (if u8.length+((cy W r).map cD).length<=lim then ae (D.lst (u8++(cy W r).map cD)) else ah)=_;rw[acy (by rw[Wj] at hB;rw[cq];omega)]
 rw[WJ,DR] at e;refine bg (ak (Z':=[fz (brd bd),fz (.lst []),none]) rfl (ak (Z':=[fz (brd bd),fz (.lst ((ax bd.length W).map cD)),none]) (cw (dI (xC (n:=bd.length) (A_ rfl) (by omega)) e)) ?_));rfl
theorem lg{bd:List Str}{W:Nat}(hg:Brd bd W):bh [brd bd]=ae (cL (ax bd.length W)):=ik hg.wd
def yw(R W w:Nat)(c:Cell)(d e:Int):Bool:=((decide (0<=(c.1:Int)+d)&&decide ((c.1:Int)+d<(R:Int)))&&(decide (0<=(c.2:Int)+e)&&decide ((c.2:Int)+e<(W:Int))))&&((!(d==0&&e==0))&&((w==8)||(d*e==0)))
def lM(R W w:Nat)(c:Cell)(d e:Int):List Cell:=if yw R W w c d e then [(((c.1:Int)+d).toNat,((c.2:Int)+e).toNat)] else []
def ml(R W w:Nat)(c:Cell):List Cell:=[-1,0,1].flatMap λd=>[-1,0,1].flatMap λe=>lM R W w c d e
theorem E5(R W w:Nat)(c:Cell)(d e:Int):(lM R W w c d e).length<=1:=by unfold lM;split<;>simp
theorem yx(R W w:Nat)(c:Cell):(ml R W w c).length<=9:=by
 have h:=E5 R W w c;simp only[ml,Xj,List.flatMap_nil,Wj,WU];have:=h (-1) (-1);have:=h (-1) 0;have:=h (-1) 1;have:=h 0 (-1);have:=h 0 0;have:=h 0 1;have:=h 1 (-1);have:=h 1 0;have:=h 1 1;omega
theorem BZ{d:Int}(h:d.natAbs<=1):d∈[(-1:Int),0,1]:=by
 have:d= -1\/d=0\/d=1:=by omega
 rcases this with rfl | rfl | rfl<;>decide
theorem B4:∀d∈[(-1:Int),0,1],∀e∈[(-1:Int),0,1],∀w∈[4,8],((!(d==0&&e==0))&&((w==8)||(d*e==0)))=if w=4 then decide (d.natAbs+e.natAbs=1) else decide (max d.natAbs e.natAbs=1):=by decide
theorem B_{a x:Nat}{d:Int}(h:(x:Int)=a+d):g_ a x=d.natAbs:=by
 unfold g_;omega
theorem CK{w:Nat}{a1 a2 x1 x2:Nat}{d e:Int}(h1:(x1:Int)=a1+d)(h2:(x2:Int)=a2+e):mj w (a1,a2) (x1,x2)=if w=4 then decide (d.natAbs+e.natAbs=1) else decide (max d.natAbs e.natAbs=1):=by
 show (if w=4 then decide (g_ a1 x1+g_ a2 x2=1) else decide (max (g_ a1 x1) (g_ a2 x2)=1))=_;rw[B_ h1,B_ h2]
theorem rM{R W w:Nat}(hw:Ways w){c x:Cell}(hc:On R W c):x∈ml R W w c↔On R W x/\mj w c x=true:=by
 obtain⟨c1,c2⟩:=c;obtain⟨x1,x2⟩:=x;have SM:c1<R:=hc.1;have FJ:c2<W:=hc.2;have key:(x1,x2)∈ml R W w (c1,c2)↔∃d∈[(-1:Int),0,1],∃e∈[(-1:Int),0,1],yw R W w (c1,c2) d e=true/\(x1:Int)=c1+d/\(x2:Int)=c2+e:=by
  unfold ml lM;simp only[X6];constructor
  ·rintro⟨d,hd,e,he,h⟩;by_cases hb:yw R W w (c1,c2) d e=true
   ·rw[acy hb] at h;have Cf:=hb;unfold yw at Cf;simp only[Wv,acA] at Cf;have h:=W2.mp h;rw[abd] at h;exact⟨d,hd,e,he,hb,by omega,by omega⟩
   ·rw[acz hb] at h;cases h
  ·rintro⟨d,hd,e,he,hb,h1,h2⟩;refine⟨d,hd,e,he,?_⟩;rw[acy hb];exact W2.mpr (by rw[abd];exact⟨by omega,by omega⟩)
 rw[key];constructor
 ·rintro⟨d,hd,e,he,hb,h1,h2⟩;unfold yw at hb;rw[Wv] at hb;have h3:=hb.1;simp only[Wv,acA] at h3;refine⟨⟨show x1<R by omega,show x2<W by omega⟩,?_⟩;rw[CK h1 h2,<-B4 d hd e he w (by rcases hw with rfl | rfl<;>decide)];exact hb.2
 ·rintro⟨⟨h1,h2⟩,h3⟩;have e1:(x1:Int)=c1+((x1:Int) - c1):=by omega
  have e2:(x2:Int)=c2+((x2:Int) - c2):=by omega
  rw[CK e1 e2] at h3;have hn:((x1:Int) - c1).natAbs<=1/\((x2:Int) - c2).natAbs<=1:=by
   rcases hw with rfl | rfl
   ·have:=acD h3;omega
   ·have:=acD h3;omega
  have m1:=BZ hn.1;have m2:=BZ hn.2;rw[<-B4 _ m1 _ m2 w (by rcases hw with rfl | rfl<;>decide)] at h3;refine⟨_,m1,_,m2,?_,e1,e2⟩;unfold yw;rw[Wv];refine⟨?_,h3⟩;have h1:x1<R:=h1;have h2:x2<W:=h2;rw[<-e1,<-e2];simp only[Wv,acA];omega
def Ig:DS:=(bH [5,6,7,8] (az (aW 6 (d2 dw (d2 aU (dV 1) (dC (.int 0))) (dV 4))) (az (aW 7 (d2 dw (d2 aU (dV 1) (dC (.int 1))) (dV 5))) (az (aW 8 (eX (tP (λi j=>decide (i<=j)) (λi j=>decide (i<j)) (dC (.int 0)) (dV 6) (dA bu (aC (dV 0) aN))) (tP (λi j=>decide (i<=j)) (λi j=>decide (i<j)) (dC (.int 0)) (dV 7) (dA bu (aC (d2 aU (dV 0) (dC (.int 0))) aN))))) (fU (lQ (bW (dV 8)) (lQ (cE (d2 mi (dA aZ (aC (dV 4) (aC (dV 5) aN))) (dA aZ (aC (dC (.int 0)) (aC (dC (.int 0)) aN))))) (lR (cE (d2 kK (dV 2) (dC (.int 8)))) (cE (d2 kK (d2 iD (dV 4) (dV 5)) (dC (.int 0))))))) (gA 3 (dA aZ (aC (dV 6) (aC (dV 7) aN)))) cG)))))
theorem Jq(a b c d:Int):mi (.tup [.int a, .int b]) (.tup [.int c, .int d])=ae (.bl (!(a==c&&b==d))):=by
 show (match kZ 6 (.tup [.int a, .int b]) (.tup [.int c, .int d]) with | some b=>ae (D.bl (!b)) | none=>ah)=_;have:kZ 6 (.tup [.int a, .int b]) (.tup [.int c, .int d])=some (a==c&&b==d):=by
  rw[show (6:Nat)=5+1 from rfl,IE];unfold pj;rw[mr];cases h:(a==c)
  ·rfl
  ·unfold pj;rw[mr];cases h2:(b==d)
   ·rfl
   ·rfl
 rw[this]
theorem Ih{bd:List Str}{W w:Nat}(hg:Wd bd W){c:Cell}{d e:Int}(hd:d∈[(-1:Int),0,1])(he:e∈[(-1:Int),0,1]){u8:List D}(hl:(u8++(lM bd.length W w c d e).map cD).length<=64):
 Ig [fz (brd bd),fz (cD c),fz (.int (w:Int)),some (.ow (.lst u8)),fz (.int d),fz (.int e),none,none,none]=ae (.nx [fz (brd bd),fz (cD c),fz (.int (w:Int)),some (.ow (.lst (u8++(lM bd.length W w c d e).map cD))),fz (.int d),none,none,none,none]):=by
 have DV:eX (tP (λi j=>decide (i<=j)) (λi j=>decide (i<j)) (dC (.int 0)) (dV 6) (dA bu (aC (dV 0) aN))) (tP (λi j=>decide (i<=j)) (λi j=>decide (i<j)) (dC (.int 0)) (dV 7) (dA bu (aC (d2 aU (dV 0) (dC (.int 0))) aN))) [fz (brd bd),fz (cD c),fz (.int (w:Int)),some (.ow (.lst u8)),fz (.int d),fz (.int e),fz (.int ((c.1:Int)+d)),fz (.int ((c.2:Int)+e)),none]=
  ae (.bl ((decide (0<=(c.1:Int)+d)&&decide ((c.1:Int)+d<(bd.length:Int)))&&(decide (0<=(c.2:Int)+e)&&decide ((c.2:Int)+e<(W:Int))))):=Im (Il rfl (A_ rfl)) (Il rfl (hg.len0 rfl))
 have SU: -(2:Int) ^ 64<d/\d<2 ^ 64:=by
  simp only[Wu,Xi,or_false] at hd;rcases hd with rfl | rfl | rfl<;>decide
 have ht:∀{b8:Bool},lQ (bW (dV 8)) (lQ (cE (d2 mi (dA aZ (aC (dV 4) (aC (dV 5) aN))) (dA aZ (aC (dC (.int 0)) (aC (dC (.int 0)) aN))))) (lR (cE (d2 kK (dV 2) (dC (.int 8)))) (cE (d2 kK (d2 iD (dV 4) (dV 5)) (dC (.int 0)))))) [fz (brd bd),fz (cD c),fz (.int (w:Int)),some (.ow (.lst u8)),fz (.int d),fz (.int e),fz (.int ((c.1:Int)+d)),fz (.int ((c.2:Int)+e)),fz (.bl b8)]=
  ae (b8&&((!(d==0&&e==0))&&((w==8)||(d*e==0)))):=λ{b8}=>
  AQ (eK rfl) (AQ (gj ((aP (x:= .tup [.int d, .int e]) (y:= .tup [.int 0, .int 0]) rfl rfl).trans (Jq ..))) (Fl (gj ((aP (x:= .int (w:Int)) (y:= .int 8) rfl rfl).trans ((eq_int _ _).trans (by rw[show ((w:Int)==8)=(w==8) from mY w 8])))) (gj ((aP (x:= .int (d*e)) (y:= .int 0) ((aP (x:= .int d) (y:= .int e) rfl rfl).trans (gW (.inl SU))) rfl).trans (eq_int _ _)))))
 have pre:∀{Z':bo},fU (lQ (bW (dV 8)) (lQ (cE (d2 mi (dA aZ (aC (dV 4) (aC (dV 5) aN))) (dA aZ (aC (dC (.int 0)) (aC (dC (.int 0)) aN))))) (lR (cE (d2 kK (dV 2) (dC (.int 8)))) (cE (d2 kK (d2 iD (dV 4) (dV 5)) (dC (.int 0))))))) (gA 3 (dA aZ (aC (dV 6) (aC (dV 7) aN)))) cG [fz (brd bd),fz (cD c),fz (.int (w:Int)),some (.ow (.lst u8)),fz (.int d),fz (.int e),fz (.int ((c.1:Int)+d)),fz (.int ((c.2:Int)+e)),fz (.bl ((decide (0<=(c.1:Int)+d)&&decide ((c.1:Int)+d<(bd.length:Int)))&&(decide (0<=(c.2:Int)+e)&&decide ((c.2:Int)+e<(W:Int)))))]=ae (.nx Z')->
  Ig [fz (brd bd),fz (cD c),fz (.int (w:Int)),some (.ow (.lst u8)),fz (.int d),fz (.int e),none,none,none]=ae (.nx (fgt [5,6,7,8] Z')):=λ{Z'} h=>
  aX (ak (Z':=[fz (brd bd),fz (cD c),fz (.int (w:Int)),some (.ow (.lst u8)),fz (.int d),fz (.int e),fz (.int ((c.1:Int)+d)),none,none]) rfl
   (ak (Z':=[fz (brd bd),fz (cD c),fz (.int (w:Int)),some (.ow (.lst u8)),fz (.int d),fz (.int e),fz (.int ((c.1:Int)+d)),fz (.int ((c.2:Int)+e)),none]) rfl (ak ((aL DV).trans rfl) h)))
 have HU:yw bd.length W w c d e=(((decide (0<=(c.1:Int)+d)&&decide ((c.1:Int)+d<(bd.length:Int)))&&(decide (0<=(c.2:Int)+e)&&decide ((c.2:Int)+e<(W:Int))))&&((!(d==0&&e==0))&&((w==8)||(d*e==0)))):=rfl;have ht:=ht (b8:=(decide (0<=(c.1:Int)+d)&&decide ((c.1:Int)+d<(bd.length:Int)))&&(decide (0<=(c.2:Int)+e)&&decide ((c.2:Int)+e<(W:Int))));rw[<-HU] at ht;by_cases hb:yw bd.length W w c d e=true
 ·have Cf:=hb;rw[HU] at Cf;simp only[Wv,acA] at Cf;have eg:(lM bd.length W w c d e).map cD=[.tup [.int ((c.1:Int)+d), .int ((c.2:Int)+e)]]:=by
   unfold lM;rw[acy hb];show [D.tup [.int ((((c.1:Int)+d).toNat:Nat):Int), .int ((((c.2:Int)+e).toNat:Nat):Int)]]=_;rw[aap (by omega),aap (by omega)]
  rw[eg] at hl⊢;rw[hb] at ht;refine(pre (Z':=[fz (brd bd),fz (cD c),fz (.int (w:Int)),some (.ow (.lst (u8++[.tup [.int ((c.1:Int)+d), .int ((c.2:Int)+e)]]))),fz (.int d),fz (.int e),fz (.int ((c.1:Int)+d)),fz (.int ((c.2:Int)+e)),fz (.bl ((decide (0<=(c.1:Int)+d)&&decide ((c.1:Int)+d<(bd.length:Int)))&&(decide (0<=(c.2:Int)+e)&&decide ((c.2:Int)+e<(W:Int)))))]) (dJ ht ?_)).trans rfl;show (if u8.length<lim then ae (Out.nx [fz (brd bd),fz (cD c),fz (.int (w:Int)),some (.ow (.lst (u8++[.tup [.int ((c.1:Int)+d), .int ((c.2:Int)+e)]]))),fz (.int d),fz (.int e),fz (.int ((c.1:Int)+d)),fz (.int ((c.2:Int)+e)),_]) else ah)=_;rw[acy (by rw[Wj] at hl;rw[cq];simp at hl;omega)]
 ·have eg:(lM bd.length W w c d e).map cD=[]:=by
   unfold lM;rw[acz hb];rfl
  rw[eg,WU];rw[aaN.mpr hb] at ht;exact(pre (dr ht rfl)).trans rfl
theorem wJ{bd:List Str}{W w:Nat}(hg:Wd bd W){c:Cell}:dO [brd bd,cD c, .int (w:Int)]=ae (cL (ml bd.length W w c)):=by
 have DV:∀d∈[(-1:Int),0,1],∀u8:List D,(u8++([(-1:Int),0,1].flatMap λe=>(lM bd.length W w c d e).map cD)).length<=64->
  forL (putN 5) Ig ([(-1:Int),0,1].map D.int) [fz (brd bd),fz (cD c),fz (.int (w:Int)),some (.ow (.lst u8)),fz (.int d),none,none,none,none]=
   ae (.nx [fz (brd bd),fz (cD c),fz (.int (w:Int)),some (.ow (.lst (u8++([(-1:Int),0,1].flatMap λe=>(lM bd.length W w c d e).map cD)))),fz (.int d),none,none,none,none]):=λd hd u8 hl=>
  el (B:=64) D.int (λu8=>[fz (brd bd),fz (cD c),fz (.int (w:Int)),some (.ow (.lst u8)),fz (.int d),none,none,none,none]) (λe=>(lM bd.length W w c d e).map cD) [(-1:Int),0,1] u8 hl λe he Az ET=>⟨_,rfl,Ih hg hd he ET⟩
 have DR:([(-1:Int),0,1].flatMap λd=>[(-1:Int),0,1].flatMap λe=>(lM bd.length W w c d e).map cD)=(ml bd.length W w c).map cD:=by
  unfold ml;simp only[Zk]
 have ON:=el (put:=putN 4) (body:=bH [4,5,6,7,8] (da (putN 5) (tQ (dA aZ (aC (d1 Ej (dC (.int 1))) (aC (dC (.int 0)) (aC (dC (.int 1)) aN))))) Ig)) (B:=64) D.int (λu8=>[fz (brd bd),fz (cD c),fz (.int (w:Int)),some (.ow (.lst u8)),none,none,none,none,none]) (λd=>[(-1:Int),0,1].flatMap λe=>(lM bd.length W w c d e).map cD) [(-1:Int),0,1] []
  (by rw[WJ,DR,Wc];have:=yx bd.length W w c;omega) λd hd u8 hl=>⟨_,rfl,(aX (dI (ds:=[(-1:Int),0,1].map D.int) rfl (DV d hd u8 hl))).trans rfl⟩
 rw[WJ,DR] at ON;refine bg (ak (Z':=[fz (brd bd),fz (cD c),fz (.int (w:Int)),some (.ow (.lst [])),none,none,none,none,none]) rfl (ak (cw (dI (ds:=[(-1:Int),0,1].map D.int) rfl ON)) ?_));rfl
theorem Hn{bd:List Str}{W:Nat}(hg:Wd bd W){x:Cell}(hx:On bd.length W x){b i:Nat}{Z:bo}(hb:dV b Z=ae (brd bd))(hi:dV i Z=ae (cD x)):d2 gn (d2 aU (dV b) (d2 aU (dV i) (dC (.int 0)))) (d2 aU (dV i) (dC (.int 1))) Z=ae (sg (lt bd x)):=by
 have h1:d2 aU (dV i) (dC (.int 0)) Z=ae (.int (x.1:Int)):=(aP (y:= .int 0) hi rfl).trans O3.1;have h2:d2 aU (dV i) (dC (.int 1)) Z=ae (.int (x.2:Int)):=(aP (y:= .int 1) hi rfl).trans O3.2;refine(aP ((aP hb h1).trans (wD hx.1)) h2).trans (xK ?_);rw[(hg.rows _ (getD_mem hx.1)).len];exact hx.2
theorem Ga(a b:Cell):HT.lexLt (ic a) (ic b)=uN a b:=by
 show (if (a.1:Int)=(b.1:Int) then(if (a.2:Int)=(b.2:Int) then false else decide ((a.2:Int)<(b.2:Int))) else decide ((a.1:Int)<(b.1:Int)))=_;unfold uN;by_cases h1:a.1=b.1
 ·rw[acy (by omega),acy h1];by_cases h2:a.2=b.2
  ·rw[acy (by omega),acC (by omega)]
  ·rw[acz (by omega),acF];omega
 ·rw[acz (by omega),acz h1,acF];omega
theorem Gf(a b:Cell):NQ (cD a) (cD b)=some (uN a b):=by
 show some (HT.lexLt (ic a) (ic b))=_;rw[Ga]
theorem IJ(a b:Cell):wk (cD a) (cD b)=ae (.bl (uN a b)):=by
 unfold wk;rw[Gf]
def cC(a b:Cell):Cell:=if uN b a then b else a
theorem Jn(a b:Cell):rS [cD a,cD b]=ae (cD (cC a b)):=by
 show (match NQ (cD b) (cD a) with | some r=>ae (if r then cD b else cD a) | none=>ah)=_;rw[Gf];unfold cC;cases uN b a<;>rfl
def rank(W:Nat)(x:Cell):Nat:=x.1*W+x.2
theorem eh{R W:Nat}{a b:Cell}(ha:On R W a)(hb:On R W b):uN a b=true↔rank W a<rank W b:=by
 unfold uN rank;have h1:=ha.2;have h2:=hb.2;by_cases h:a.1=b.1
 ·rw[acy h,acA,h];omega
 ·rw[acz h,acA];constructor
  ·intro q;have:(a.1+1)*W<=b.1*W:=Zp _ q;rw[acm,ack] at this;omega
  ·intro q;refine Classical.byContradiction λz=>?_;have:(b.1+1)*W<=a.1*W:=Zp _ (by omega);rw[acm,ack] at this;omega
theorem nG{R W:Nat}{a b:Cell}(ha:On R W a)(hb:On R W b)(h:rank W a=rank W b):a=b:=by
 have n1:¬uN a b=true:=λz=>by have:=(eh ha hb).mp z;omega
 have n2:¬uN b a=true:=λz=>by have:=(eh hb ha).mp z;omega
 unfold uN at n1 n2;obtain⟨a1,a2⟩:=a;obtain⟨b1,b2⟩:=b;simp only at n1 n2;by_cases h1:a1=b1
 ·rw[acy h1,acA] at n1;rw[acy h1.symm,acA] at n2;rw[abd];exact⟨h1,by omega⟩
 ·rw[acz h1,acA] at n1;rw[acz (Xq h1),acA] at n2;omega
theorem J7{R W:Nat}{a:Cell}(ha:On R W a):rank W a<R*W:=by
 unfold rank;have:(a.1+1)*W<=R*W:=Zp _ ha.1;rw[acm,ack] at this;have:=ha.2;omega
theorem Ed(a b:Cell):cC a b=a\/cC a b=b:=by unfold cC;split;exact .inr rfl;exact .inl rfl
theorem Eb{R W:Nat}{a b:Cell}(ha:On R W a)(hb:On R W b):rank W (cC a b)<=rank W a/\rank W (cC a b)<=rank W b:=by
 unfold cC;by_cases h:uN b a=true
 ·rw[acy h];have:=(eh hb ha).mp h;omega
 ·rw[acz h];have:¬rank W b<rank W a:=λz=>h ((eh hb ha).mpr z);omega
theorem BJ{α:Type}{f g:α->Nat}:∀{l:List α},(∀x∈l,f x<=g x)->(l.map f).sum<=(l.map g).sum
 |[],_=>Wr _
 |a::l,h=>by
  rw[Wq,Wq,YA,YA];exact Nat.add_le_add (h a (Wh ..)) (BJ λx hx=>h x (Wf _ hx))
theorem Hu{α:Type}{f g:α->Nat}:∀{l:List α},(∀x∈l,f x<=g x)->(∃x∈l,f x<g x)->(l.map f).sum<(l.map g).sum
 |[],_,⟨x,hx,_⟩=>by cases hx
 |a::l,h,⟨x,hx,hl⟩=>by
  rw[Wq,Wq,YA,YA];have h1:=h a (Wh ..);have h2:=BJ λx hx=>h x (Wf _ hx);rcases Wu.mp hx with rfl | hx
  ·omega
  ·have:=Hu (λx hx=>h x (Wf _ hx)) ⟨x,hx,hl⟩;omega
section
variable{bd:List Str}{W w:Nat}
def eF(s:(Cell->Cell)×Bool)(p:Cell×Cell):(Cell->Cell)×Bool:=
 if s.1 p.1=s.1 p.2 then s else(λz=>if z=p.2 then cC (s.1 p.1) (s.1 p.2) else if z=p.1 then cC (s.1 p.1) (s.1 p.2) else s.1 z,true)
structure Lab (bd:List Str) (W w:Nat) (L:Cell->Cell):Prop where
 on:∀x,On bd.length W x->On bd.length W (L x)
 cn:∀x,On bd.length W x->Cn bd W w x (L x)
 le:∀x,On bd.length W x->rank W (L x)<=rank W x
def mu(R W:Nat)(L:Cell->Cell):Nat:=((ax R W).map λx=>rank W (L x)).sum
def Ax(bd:List Str)(W w:Nat)(p:Cell×Cell):Prop:=On bd.length W p.1/\On bd.length W p.2/\Cn bd W w p.1 p.2
theorem zg(hw:Ways w){s:(Cell->Cell)×Bool}{p:Cell×Cell}(hp:Ax bd W w p)(h:Lab bd W w s.1):
 Lab bd W w (eF s p).1/\mu bd.length W (eF s p).1<=mu bd.length W s.1/\((eF s p).2=s.2/\(eF s p).1=s.1/\s.1 p.1=s.1 p.2\/(eF s p).2=true/\mu bd.length W (eF s p).1<mu bd.length W s.1):=by
 obtain⟨h1,h2,h3⟩:=hp;unfold eF;by_cases e:s.1 p.1=s.1 p.2
 ·rw[acy e];exact⟨h,Wr _, .inl ⟨rfl,rfl,e⟩⟩
 ·rw[acz e];have o1:=h.on _ h1;have o2:=h.on _ h2;have hle:=Eb o1 o2;have SY:=Ed (s.1 p.1) (s.1 p.2);have ig:On bd.length W (cC (s.1 p.1) (s.1 p.2)):=by rcases SY with q | q<;>rw[q]<;>assumption
  have c1:Cn bd W w p.1 (cC (s.1 p.1) (s.1 p.2)):=by
   rcases SY with q | q<;>rw[q]
   ·exact h.cn _ h1
   ·exact h3.trans (h.cn _ h2)
  have c2:Cn bd W w p.2 (cC (s.1 p.1) (s.1 p.2)):=(h3.symm hw h1).trans c1;have Tn:∀z,On bd.length W z->rank W (if z=p.2 then cC (s.1 p.1) (s.1 p.2) else if z=p.1 then cC (s.1 p.1) (s.1 p.2) else s.1 z)<=rank W (s.1 z):=λz hz=>by
   by_cases z1:z=p.2
   ·rw[acy z1,z1];exact hle.2
   ·rw[acz z1];by_cases z2:z=p.1
    ·rw[acy z2,z2];exact hle.1
    ·rw[acz z2];exact Wr _
  have lt':mu bd.length W (λz=>if z=p.2 then cC (s.1 p.1) (s.1 p.2) else if z=p.1 then cC (s.1 p.1) (s.1 p.2) else s.1 z)<mu bd.length W s.1:=by
   refine Hu (λx hx=>Tn x (aB.mp hx)) ?_;have jU:rank W (s.1 p.1)≠rank W (s.1 p.2):=λz=>e (nG o1 o2 z);by_cases q:rank W (s.1 p.1)<rank W (s.1 p.2)
   ·refine⟨p.2,aB.mpr h2,?_⟩;show rank W (if p.2=p.2 then _ else _)<_;rw[acy rfl];omega
   ·refine⟨p.1,aB.mpr h1,?_⟩;by_cases q2:p.1=p.2
    ·rw[q2] at jU;exact acE rfl jU
    ·show rank W (if p.1=p.2 then _ else if p.1=p.1 then _ else _)<_;rw[acz q2,acy rfl];omega
  refine⟨⟨λx hx=>?_,λx hx=>?_,λx hx=>WM (Tn x hx) (h.le x hx)⟩,XX lt', .inr ⟨rfl,lt'⟩⟩
  ·show On _ _ (if x=p.2 then _ else if x=p.1 then _ else s.1 x);split
   ·exact ig
   ·split
    ·exact ig
    ·exact h.on x hx
  ·show Cn _ _ _ _ (if x=p.2 then _ else if x=p.1 then _ else s.1 x);by_cases z1:x=p.2
   ·rw[acy z1,z1];exact c2
   ·rw[acz z1];by_cases z2:x=p.1
    ·rw[acy z2,z2];exact c1
    ·rw[acz z2];exact h.cn x hx
theorem K0(hw:Ways w):∀(ps:List (Cell×Cell)) (s:(Cell->Cell)×Bool),(∀p∈ps,Ax bd W w p)->Lab bd W w s.1->
 Lab bd W w (ps.foldl eF s).1/\mu bd.length W (ps.foldl eF s).1<=mu bd.length W s.1/\((ps.foldl eF s).2=s.2/\(ps.foldl eF s).1=s.1/\(∀p∈ps,s.1 p.1=s.1 p.2)\/(ps.foldl eF s).2=true/\mu bd.length W (ps.foldl eF s).1<mu bd.length W s.1)
 |[],s,_,h=>⟨h,Wr _, .inl ⟨rfl,rfl,λp hp=>by cases hp⟩⟩
 |p::ps,s,hp,h=>by
  obtain⟨a1,a2,a3⟩:=zg hw (hp p (Wh ..)) h;obtain⟨b1,b2,b3⟩:=K0 hw ps (eF s p) (λq hq=>hp q (Wf _ hq)) a1;rw[YY];refine⟨b1,WM b2 a2,?_⟩;rcases b3 with⟨c1,c2,c3⟩ | ⟨c1,c2⟩
  ·rcases a3 with⟨d1,d2,d3⟩ | ⟨d1,d2⟩
   ·refine .inl ⟨c1.trans d1,c2.trans d2,λq hq=>?_⟩;rcases Wu.mp hq with rfl | hq
    ·exact d3
    ·rw[<-d2];exact c3 q hq
   ·exact .inr ⟨c1.trans d1,by rw[c2];exact d2⟩
  ·exact .inr ⟨c1,WW c2 a2⟩
def pD(p:Cell×Cell):D:= .tup [cD p.1,cD p.2]
def RG:DS:=(bH [8,9,10] (fU (yk (cE (d2 mi (d2 c8 (dV 2) (dV 8)) (d2 c8 (dV 2) (dV 9))))) (az (aW 10 (Ky (dA rS (aC (d2 c8 (dV 2) (dV 8)) (aC (d2 c8 (dV 2) (dV 9)) aN))))) (az (d8 2 (dV 8) (dV 10)) (az (d8 2 (dV 9) (dV 10)) (aW 7 (dC (.bl true)))))) cG))
def Je(bd:List Str)(W w:Nat)(ps:List (Cell×Cell))(s:(Cell->Cell)×Bool)(x8 x9 EY:Option Sl):bo:=[fz (brd bd),fz (.int (w:Int)),some (.ow (yK (ax bd.length W) λx=>cD (s.1 x))),fz (.lst (ps.map pD)),none,none,none,fz (.bl s.2),x8,x9,EY]
theorem vM{ks:List Cell}{x:Cell}(h:x∈ks):b9 ks x=ks:=acy h
theorem Jg(hg:Wd bd W){ps:List (Cell×Cell)}{s:(Cell->Cell)×Bool}{p:Cell×Cell}(h1:On bd.length W p.1)(h2:On bd.length W p.2):
 RG (Je bd W w ps s (fz (cD p.1)) (fz (cD p.2)) none)=ae (.nx (Je bd W w ps (eF s p) none none none)):=by
 have hm:bd.length*W<=64:=XM hg.r8 hg.w8;have Ow:(ax bd.length W).length<lim:=by rw[bw,cq];omega
 have m1:=aB.mpr h1;have m2:=aB.mpr h2;have i1:∀{EY:Option Sl},d2 c8 (dV 2) (dV 8) (tT (Je bd W w ps s (fz (cD p.1)) (fz (cD p.2)) EY))=ae (cD (s.1 p.1)):=(aP (x:=yi (ax bd.length W) λx=>cD (s.1 x)) (y:=cD p.1) rfl rfl).trans (rD m1);have i2:∀{EY:Option Sl},d2 c8 (dV 2) (dV 9) (tT (Je bd W w ps s (fz (cD p.1)) (fz (cD p.2)) EY))=ae (cD (s.1 p.2)):=(aP (x:=yi (ax bd.length W) λx=>cD (s.1 x)) (y:=cD p.2) rfl rfl).trans (rD m2);have ht:yk (cE (d2 mi (d2 c8 (dV 2) (dV 8)) (d2 c8 (dV 2) (dV 9)))) (Je bd W w ps s (fz (cD p.1)) (fz (cD p.2)) none)=ae (!decide (s.1 p.1=s.1 p.2)):=Ac (gj ((aP i1 i2).trans (K5 _ _)));unfold eF;by_cases e:s.1 p.1=s.1 p.2
 ·rw[acB e] at ht;rw[acy e];exact(aX (dr ht rfl)).trans rfl
 ·rw[acC e] at ht;rw[acz e];have Rh:Ky (dA rS (aC (d2 c8 (dV 2) (dV 8)) (aC (d2 c8 (dV 2) (dV 9)) aN))) (Je bd W w ps s (fz (cD p.1)) (fz (cD p.2)) none)=ae (cD (cC (s.1 p.1) (s.1 p.2))):=
   Kz ((cz (xs:=[cD (s.1 p.1),cD (s.1 p.2)]) (a7 i1 (a7 i2 rfl))).trans (Jn _ _)) (IH _)
  refine(aX (dJ ht (ak ((aL Rh).trans rfl) (ak ((qK (x:=p.1) (d:=cD (cC (s.1 p.1) (s.1 p.2))) (ks:=ax bd.length W) (f:=λx=>cD (s.1 x)) rfl rfl rfl Ow).trans rfl) (ak ((qK (x:=p.2) (d:=cD (cC (s.1 p.1) (s.1 p.2))) (ks:=b9 (ax bd.length W) p.1) (f:=fJ (λx=>cD (s.1 x)) p.1 (cD (cC (s.1 p.1) (s.1 p.2)))) rfl rfl rfl (by rw[vM m1];exact Ow)).trans rfl) rfl))))).trans ?_;rw[vM m1,vM m2];unfold Je;have ef:fJ (fJ (λx=>cD (s.1 x)) p.1 (cD (cC (s.1 p.1) (s.1 p.2)))) p.2 (cD (cC (s.1 p.1) (s.1 p.2)))=λx=>cD (if x=p.2 then cC (s.1 p.1) (s.1 p.2) else if x=p.1 then cC (s.1 p.1) (s.1 p.2) else s.1 x):=by
   funext x;unfold fJ;by_cases z1:x=p.2
   ·rw[acy z1,acy z1]
   ·rw[acz z1,acz z1];by_cases z2:x=p.1
    ·rw[acy z2,acy z2]
    ·rw[acz z2,acz z2]
  rw[ef];rfl
end
theorem Gm{i:Nat}{δ:DF}{Z:bo}{c:C}(h:δ Z=ae c):pX i δ Z=ae (.nx (Z.set i (some (.ow c)))):=by
 unfold pX;rw[h];rfl
theorem A7{δ:DE}{Z:bo}{l:List Cell}(h:δ Z=ae (cL l)):cj δ Z=ae (l.map cD):=by
 show (δ Z>>=lstM)=_;rw[h];rfl
theorem cO(R W:Nat):RiseC (ax R W):=by
 unfold RiseC ax cy;rw[List.pairwise_flatMap];constructor
 ·intro r _;rw[ZH];exact List.pairwise_lt_range.imp λh=>by show (if _ then _ else _)=true;rw[acy rfl,acA];exact h
 ·refine List.pairwise_lt_range.imp λ{a b} h x hx y hy=>?_;obtain⟨i,_,rfl⟩:=WC.mp hx;obtain⟨j,_,rfl⟩:=WC.mp hy;show (if a=b then _ else decide (a<b))=true;rw[acz (by omega),acA];exact h
section
variable{bd:List Str}{W w:Nat}
def yz(bd:List Str)(x y:Cell):Bool:=uN x y&&decide (lt bd x=lt bd y)
def Ie(bd:List Str)(x y:Cell):List D:=if yz bd x y then [pD (x,y)] else []
def bR(bd:List Str)(W w:Nat):List (Cell×Cell):=(ax bd.length W).flatMap λx=>((ml bd.length W w x).filter (yz bd x)).map λy=>(x,y)
theorem lV(hw:Ways w){p:Cell×Cell}:p∈bR bd W w↔On bd.length W p.1/\On bd.length W p.2/\mj w p.1 p.2=true/\lt bd p.1=lt bd p.2/\uN p.1 p.2=true:=by
 unfold bR yz;simp only[X6,WC,WN,Wv,acA];constructor
 ·rintro⟨x,hx,y,⟨hy,h1,h2⟩,rfl⟩;have hx:=aB.mp hx;have:=(rM hw hx).mp hy;exact⟨hx,this.1,this.2,h2,h1⟩
 ·rintro⟨h1,h2,h3,h4,h5⟩;exact⟨p.1,aB.mpr h1,p.2,⟨(rM hw h1).mpr ⟨h2,h3⟩,h5,h4⟩,rfl⟩
theorem sD(hw:Ways w){p:Cell×Cell}(h:p∈bR bd W w):Ax bd W w p:=by
 obtain⟨h1,h2,h3,h4,_⟩:=(lV hw).mp h;exact⟨h1,h2,Cn.refl.step ((cT hw).mpr ⟨h2,h3,h4.symm⟩)⟩
theorem yy(x:Cell):∀l:List Cell,l.flatMap (Ie bd x)=((l.filter (yz bd x)).map λy=>(x,y)).map pD
 |[]=>rfl
 |y::l=>by
  rw[Xj,yy x l];unfold Ie;by_cases h:yz bd x y=true
  ·rw[acy h,Y0 h];rfl
  ·rw[acz h,Y1 h];rfl
def RS:DS:=(bH [5,6] (az (aW 6 (d2 gn (d2 aU (dV 0) (d2 aU (dV 4) (dC (.int 0)))) (d2 aU (dV 4) (dC (.int 1))))) (fU (lQ (cE (d2 wk (dV 4) (dV 5))) (cE (d2 kK (dV 6) (d2 gn (d2 aU (dV 0) (d2 aU (dV 5) (dC (.int 0)))) (d2 aU (dV 5) (dC (.int 1))))))) (gA 3 (dA aZ (aC (dV 4) (aC (dV 5) aN)))) cG)))
def zS(bd:List Str)(w:Nat)(o:Option Sl)(u8:List D)(x4 x5 x6:Option Sl):bo:=[fz (brd bd),fz (.int (w:Int)),o,some (.ow (.lst u8)),x4,x5,x6,none,none,none,none]
theorem JS(hg:Wd bd W){o:Option Sl}{x y:Cell}(hx:On bd.length W x)(hy:On bd.length W y){u8:List D}(hl:(u8++Ie bd x y).length<=600):
 RS (zS bd w o u8 (fz (cD x)) (fz (cD y)) none)=ae (.nx (zS bd w o (u8++Ie bd x y) (fz (cD x)) none none)):=by
 have ht:lQ (cE (d2 wk (dV 4) (dV 5))) (cE (d2 kK (dV 6) (d2 gn (d2 aU (dV 0) (d2 aU (dV 5) (dC (.int 0)))) (d2 aU (dV 5) (dC (.int 1)))))) (zS bd w o u8 (fz (cD x)) (fz (cD y)) (fz (sg (lt bd x))))=ae (yz bd x y):=
  AQ (gj ((aP (x:=cD x) (y:=cD y) rfl rfl).trans (IJ _ _))) (gj ((aP (x:=sg (lt bd x)) rfl (Hn hg hy rfl rfl)).trans (KD _ _)))
 have h6:d2 gn (d2 aU (dV 0) (d2 aU (dV 4) (dC (.int 0)))) (d2 aU (dV 4) (dC (.int 1))) (zS bd w o u8 (fz (cD x)) (fz (cD y)) none)=ae (sg (lt bd x)):=Hn hg hx rfl rfl;unfold Ie at hl⊢;by_cases hb:yz bd x y=true
 ·rw[acy hb] at hl⊢;rw[hb] at ht;refine(aX (Z':=zS bd w o (u8++[pD (x,y)]) (fz (cD x)) (fz (cD y)) (fz (sg (lt bd x)))) (ak (Z':=zS bd w o u8 (fz (cD x)) (fz (cD y)) (fz (sg (lt bd x)))) ((aL h6).trans rfl) (dJ ht ?_))).trans rfl;show (if u8.length<lim then ae (Out.nx (zS bd w o (u8++[pD (x,y)]) (fz (cD x)) (fz (cD y)) (fz (sg (lt bd x))))) else ah)=_;rw[acy (by rw[Wj] at hl;rw[cq];simp at hl;omega)]
 ·rw[acz hb,WU];rw[aaN.mpr hb] at ht;exact(aX (Z':=zS bd w o u8 (fz (cD x)) (fz (cD y)) (fz (sg (lt bd x)))) (ak (Z':=zS bd w o u8 (fz (cD x)) (fz (cD y)) (fz (sg (lt bd x)))) ((aL h6).trans rfl) (dr ht rfl))).trans rfl
theorem zd{α β:Type}{n:Nat}(f:α->List β)(h:∀a,(f a).length<=n):∀l:List α,(l.flatMap f).length<=n*l.length
 |[]=>Xe _
 |a::l=>by
  rw[Xj,Wj,Wl,Nat.mul_add,Nat.mul_one];have:=h a;have:=zd f h l;omega
theorem JR(hg:Wd bd W)(hw:Ways w){o:Option Sl}:forL (putN 4) (bH [4,5,6] (da (putN 5) (cj (aw 3 dO (aC (dV 0) (aC (dV 4) (aC (dV 1) aN))))) RS)) ((ax bd.length W).map cD) (zS bd w o [] none none none)=ae (.nx (zS bd w o ((bR bd W w).map pD) none none none)):=by
 have hm:bd.length*W<=64:=XM hg.r8 hg.w8;have DR:(ax bd.length W).flatMap (λx=>(ml bd.length W w x).flatMap (Ie bd x))=(bR bd W w).map pD:=by
  unfold bR;rw[Zk];congr 1;funext x;exact yy x _
 have V4:((bR bd W w).map pD).length<=576:=by
  rw[Wc];have:=zd (n:=9) (λx=>((ml bd.length W w x).filter (yz bd x)).map λy=>(x,y)) (λx=>by rw[Wc];exact WM (Xg ..) (yx ..)) (ax bd.length W);rw[bw] at this;exact WM this (by omega)
 have:=el (put:=putN 4) (body:=bH [4,5,6] (da (putN 5) (cj (aw 3 dO (aC (dV 0) (aC (dV 4) (aC (dV 1) aN))))) RS)) (B:=600) cD (λu8=>zS bd w o u8 none none none) (λx=>(ml bd.length W w x).flatMap (Ie bd x)) (ax bd.length W) [] (by rw[WJ,DR];omega) λx hx u8 hl=>by
  have hx:=aB.mp hx;refine⟨zS bd w o u8 (fz (cD x)) none none,rfl,(aX (Z':=zS bd w o (u8++(ml bd.length W w x).flatMap (Ie bd x)) (fz (cD x)) none none) (dI (ds:=(ml bd.length W w x).map cD) ?_ ?_)).trans rfl⟩
  ·exact A7 ((aj (ds:=[brd bd,cD x, .int (w:Int)]) rfl rfl).trans (wJ hg))
  ·exact el (B:=600) cD (λu8=>zS bd w o u8 (fz (cD x)) none none) (Ie bd x) _ u8 hl λy hy Az ET=>⟨_,rfl,JS hg hx ((rM hw hx).mp hy).1 ET⟩
 rw[WJ,DR] at this;exact this
def Ti:DS:=(bH [8,9,10] (az (aW 7 (dC (.bl false))) (qw 3 (da (nE [8,9]) (cj (dV 3)) RG))))
def Mt(bd:List Str)(W w:Nat)(s:(Cell->Cell)×Bool)(x3:Option Sl):bo:=[fz (brd bd),fz (.int (w:Int)),some (.ow (yK (ax bd.length W) λx=>cD (s.1 x))),x3,none,none,none,fz (.bl s.2),none,none,none]
theorem Jf(hg:Wd bd W)(hw:Ways w){L:Cell->Cell}{b:Bool}{x3:Option Sl}(h3:x3=some (.ow (.lst ((bR bd W w).map pD)))\/x3=fz (.lst ((bR bd W w).map pD)))(h:Lab bd W w L):
 Ti (Mt bd W w (L,b) x3)=ae (.nx (Mt bd W w ((bR bd W w).foldl eF (L,false)) (fz (.lst ((bR bd W w).map pD))))):=by
 have hf:=(iR (put:=nE [8,9]) (body:=RG) pD (λs=>Je bd W w (bR bd W w) s none none none) eF (λs=>Lab bd W w s.1) (bR bd W w) (L,false) h λs hs p hp=>by
  obtain⟨q1,q2,q3⟩:=sD hw hp;exact⟨(zg hw (sD hw hp) hs).1,_,rfl,Jg hg q1 q2⟩).2
 refine(aX (Z':=Je bd W w (bR bd W w) ((bR bd W w).foldl eF (L,false)) none none none) (ak (Z':=Mt bd W w (L,false) x3) rfl ?_)).trans rfl;rcases h3 with rfl | rfl
 ·exact dI (ds:=(bR bd W w).map pD) rfl hf
 ·exact dI (ds:=(bR bd W w).map pD) rfl hf
theorem zb(hg:Wd bd W)(hw:Ways w):∀(fuel:Nat) (L:Cell->Cell) (x3:Option Sl),x3=some (.ow (.lst ((bR bd W w).map pD)))\/x3=fz (.lst ((bR bd W w).map pD))->Lab bd W w L->mu bd.length W L+2<=fuel->
 ∃L',Lab bd W w L'/\(∀p∈bR bd W w,L' p.1=L' p.2)/\fH (bW (dV 7)) Ti fuel (Mt bd W w (L,true) x3)=ae (.nx (Mt bd W w (L',false) (fz (.lst ((bR bd W w).map pD)))))
 |0,_,_,_,_,hf=>by omega
 |1,_,_,_,_,hf=>by omega
 |fuel+2,L,x3,h3,h,hf=>by
  have hp:=Jf (b:=true) hg hw h3 h;obtain⟨a1,a2,a3⟩:=K0 hw (bR bd W w) (L,false) (λp hp=>sD hw hp) h;rcases a3 with⟨b1,b2,b3⟩ | ⟨b1,b2⟩
  ·have e:(bR bd W w).foldl eF (L,false)=(L,false):=aaw b2 b1;rw[e] at hp;exact⟨L,h,b3,nR (eK rfl) hp (tF (eK rfl))⟩
  ·have e:(bR bd W w).foldl eF (L,false)=(((bR bd W w).foldl eF (L,false)).1,true):=aaw rfl b1;obtain⟨L',c1,c2,c3⟩:=zb hg hw (fuel+1) _ _ (.inr rfl) a1 (by have b2:mu bd.length W _<mu bd.length W L:=b2;omega);rw[e] at hp;exact⟨L',c1,c2,nR (eK rfl) hp c3⟩
def Least(bd:List Str)(W w:Nat)(x m:Cell):Prop:=Cn bd W w x m/\∀z,Cn bd W w x z->rank W m<=rank W z
theorem tf(hw:Ways w){L:Cell->Cell}(h:∀p∈bR bd W w,L p.1=L p.2){x:Cell}(hx:On bd.length W x):∀{j:Nat}{y:Cell},Rb (bx bd W w) x j y->L x=L y
 |0,y,h0=>by rw[show y=x from h0]
 |j+1,y,h0=>by
  rcases h0 with q | ⟨z,q1,q2⟩
  ·exact tf hw h hx q
  ·rw[tf hw h hx q1];have hz:=zV hw hx q1;obtain⟨y1,y2,y3⟩:=(cT hw).mp q2;by_cases jl:rank W z<rank W y
   ·exact h (z,y) ((lV hw).mpr ⟨hz,y1,y2,y3.symm,(eh hz y1).mpr jl⟩)
   ·have jU:rank W z≠rank W y:=λe=>by
     have:=nG hz y1 e;subst this;rw[MB hw] at y2;cases y2
    exact(h (y,z) ((lV hw).mpr ⟨y1,hz,by rw[rZ];exact y2,y3,(eh y1 hz).mpr (by omega)⟩)).symm
theorem rG(hg:Wd bd W)(hw:Ways w):∃L:Cell->Cell,(∀x,On bd.length W x->Least bd W w x (L x))/\mx [brd bd, .int (w:Int)]=ae (yi (ax bd.length W) λx=>cD (L x)):=by
 have hm:bd.length*W<=64:=XM hg.r8 hg.w8;have l0:Lab bd W w id:=⟨λx hx=>hx,λx hx=>Cn.refl,λx hx=>Wr _⟩
 have V7:mu bd.length W id<=4032:=by
  unfold mu;have:=BJ (f:=λx=>rank W (id x)) (g:=λ_=>63) (l:=ax bd.length W) λx hx=>by
   have:=J7 (aB.mp hx);show rank W x<=63;omega
  refine WM this ?_;rw[List.map_const',List.sum_replicate_nat,bw];have:bd.length*W*63<=64*63:=Zp _ hm;omega
 obtain⟨L,h1,h2,h3⟩:=zb hg hw lim id (some (.ow (.lst ((bR bd W w).map pD)))) (.inl rfl) l0 (by rw[cq];omega);refine⟨L,λx hx=>⟨h1.cn x hx,λz hz=>?_⟩,?_⟩
 ·obtain⟨j,q⟩:=hz;rw[tf hw h2 hx q];exact h1.le z (zV hw hx q)
 ·have EU:((ax bd.length W).map keyOf).Nodup:=by
   exact(cO _ _).nodup.map (f:=keyOf) λa b h z=>h (gG z)
  have wx:(aC (bc 0 (cj (aw 1 bh (aC (dV 0) aN))) bX (dA aZ (aC (dV 0) (aC (dV 0) aN)))) aN) [fz (brd bd),fz (.int (w:Int)),none,none,none,none,none,none,none,none,none]=ae [.lst ((ax bd.length W).map λx=>pD (x,x))]:=by
   refine a7 (bK (ds:=(ax bd.length W).map cD) ?_ (dN cD (λx=>pD (x,x)) _ λx _=>rfl) (by rw[Wc,bw,cq];omega)) rfl;exact A7 ((aj (ds:=[brd bd]) rfl rfl).trans (ik hg))
  have Rp:∀l:List Cell,lY (l.map λx=>pD (x,x))=some (l.map keyOf,l.map cD):=λl=>by
   induction l with
   |nil=>rfl
   |cons a l ih=>
    show (match eV (cD a),lY (l.map λx=>pD (x,x)) with | some kk,some q=>some (kk::q.1,cD a::q.2) | _,_=>none)=_;rw[ih];rfl
  refine bg (ak (Z':=[fz (brd bd),fz (.int (w:Int)),some (.ow (yK (ax bd.length W) cD)),none,none,none,none,none,none,none,none]) ?_ (ak (Z':=zS bd w (some (.ow (yK (ax bd.length W) cD))) [] none none none) rfl (ak (Z':=zS bd w (some (.ow (yK (ax bd.length W) cD))) ((bR bd W w).map pD) none none none) (cw (dI (ds:=(ax bd.length W).map cD) ?_ (JR hg hw))) (ak (Z':=Mt bd W w (id,true) (some (.ow (.lst ((bR bd W w).map pD))))) rfl (ak (Z':=Mt bd W w (L,false) (fz (.lst ((bR bd W w).map pD)))) ?_ rfl)))))
  ·refine Gm (Z:=[fz (brd bd),fz (.int (w:Int)),none,none,none,none,none,none,none,none,none]) (c:=yK (ax bd.length W) cD) ?_;refine(acH (· >>=yL) wx).trans ?_;show (match lY ((ax bd.length W).map λx=>pD (x,x)) with | some q=>if q.1.Nodup/\q.2.length<=lim then ae (C.dct q.1 q.2) else ah | none=>ah)=_;rw[Rp];show (if ((ax bd.length W).map keyOf).Nodup/\((ax bd.length W).map cD).length<=lim then ae (C.dct ((ax bd.length W).map keyOf) ((ax bd.length W).map cD)) else ah)=_;rw[acy ⟨EU,by rw[Wc,bw,cq];omega⟩];rfl
  ·exact A7 ((aj (ds:=[brd bd]) rfl rfl).trans (ik hg))
  ·exact cw h3
end
theorem Ou:((ax 8 8).map λc=>ib (ic c)).Nodup:=by decide+kernel
theorem vi{α β:Type}{f:α->β}:∀{l:List α},(l.map f).Nodup->∀a∈l,∀b∈l,f a=f b->a=b
 |x::l,h,a,ha,b,hb,e=>by
  rw[Wq,X0] at h;by_cases h1:a=x
  ·by_cases h2:b=x
   ·rw[h1,h2]
   ·have hb:b∈l:=(Wu.mp hb).resolve_left h2;exact acE (WC.mpr ⟨b,hb,by rw[<-h1];exact e.symm⟩) h.1
  ·have ha:a∈l:=(Wu.mp ha).resolve_left h1;by_cases h2:b=x
   ·exact acE (WC.mpr ⟨a,ha,by rw[<-h2];exact e⟩) h.1
   ·exact vi h.2 a ha b ((Wu.mp hb).resolve_left h2) e
theorem Ce{R W:Nat}(hR:R<=8)(hW:W<=8){l:List Cell}(hn:l.Nodup)(ig:∀x∈l,On R W x):(l.map λc=>ib (ic c)).Nodup:=by
 have h8:∀x∈l,x∈ax 8 8:=λx hx=>aB.mpr ⟨by have:=(ig x hx).1;omega,by have:=(ig x hx).2;omega⟩;rw[Xl,ZH];refine List.Pairwise.imp_of_mem (λ{a b} ha hb h z=>h ?_) hn;exact vi Ou a (h8 a ha) b (h8 b hb) z
theorem y7:∀l:List Cell,jm (l.map cD)=some (l.map ic)
 |[]=>rfl
 |c::l=>by
  show (match KW (cD c),jm (l.map cD) with | some k,some ks=>some (k::ks) | _,_=>none)=_;rw[y7 l];rfl
theorem Kj{l:List Cell}(h:l.Nodup)(hl:l.length<64):Ki [cL l]=ae (cL (lJ l)):=by
 show (match jm (l.map cD) with | some ks=>if gp ks then ae (D.lst ((sortI ks).map tupI)) else ah | none=>ah)=_;rw[y7];refine(acy (K6 h hl)).trans ?_;rw[nL,W7];rfl
theorem Ni{ks:List Cell}{f:Cell->D}{x:Cell}{d:D}:eG (ks.map keyOf) (ks.map f) (keyOf x)=(b9 ks x).map keyOf/\dH (ks.map keyOf) (ks.map f) (keyOf x) d=(b9 ks x).map (fJ f x d):=by
 unfold b9 eG dH;by_cases h:x∈ks
 ·rw[nN h,acy h];exact⟨rfl,xA⟩
 ·rw[gL h,acz h];have e1:ks.map f=ks.map (fJ f x d):=aad λy hy=>by
   unfold fJ;rw[acz (λz:y=x=>h (z▸hy))]
  have e2:(ks++[x]).map (fJ f x d)=ks.map (fJ f x d)++[d]:=by
   rw[Xo];congr 1;show [fJ f x d x]=[d]
   unfold fJ;rw[acy rfl]
  exact⟨by rw[Xo];rfl,by rw[e2,<-e1];rfl⟩
theorem rR:∀(l ks:List Cell),dh (ks.map keyOf) (aT ks) (l.map keyOf) (aT l)=((l.foldl b9 ks).map keyOf,aT (l.foldl b9 ks))
 |[],ks=>rfl
 |x::l,ks=>by
  show dh (eG (ks.map keyOf) (aT ks) (keyOf x)) (dH (ks.map keyOf) (aT ks) (keyOf x) (.bl true)) (l.map keyOf) (aT l)=_;have h:=Ni (ks:=ks) (f:=λ_=>D.bl true) (x:=x) (d:= .bl true);have e:fJ (λ_=>D.bl true) x (.bl true)=λ_=>D.bl true:=by
   funext y;unfold fJ;split<;>rfl
  rw[e] at h;rw[show aT ks=ks.map (λ_=>D.bl true) from rfl,h.1,h.2];exact rR l (b9 ks x)
theorem yV{l ks:List Cell}(h:ks.Nodup):(l.foldl b9 ks).Nodup:=(la l ks).1 h
section
open Classical
variable{bd:List Str}{W w:Nat}
noncomputable def aG(bd:List Str)(W w:Nat)(m:Cell):List Cell:=(ax bd.length W).filter λx=>decide (Cn bd W w m x)
noncomputable def b5(bd:List Str)(W w:Nat)(l:List Cell):List Cell:=l.filter λx=>decide (Least bd W w x x)
theorem dE(hw:Ways w){m:Cell}(hm:On bd.length W m):IsPatch bd W w m (aG bd W w m):=by
 refine⟨(cO _ _).filter _,λx=>?_⟩;unfold aG;rw[WN,aB,acA];exact⟨λh=>h.2,λh=>⟨h.on hw hm,h⟩⟩
theorem Least.on(hw:Ways w){x m:Cell}(hx:On bd.length W x)(h:Least bd W w x m):On bd.length W m:=h.1.on hw hx
theorem Least.move(hw:Ways w){x y m:Cell}(hx:On bd.length W x)(h:Least bd W w x m)(hy:Cn bd W w x y):Least bd W w y m:=
 ⟨(hy.symm hw hx).trans h.1,λz hz=>h.2 z (hy.trans hz)⟩
theorem Least.one(hw:Ways w){x m n:Cell}(hx:On bd.length W x)(h:Least bd W w x m)(h2:Least bd W w x n):m=n:=
 nG (h.on hw hx) (h2.on hw hx) (abe (h.2 n h2.1) (h2.2 m h.1))
theorem Least.self(hw:Ways w){x m:Cell}(hx:On bd.length W x)(h:Least bd W w x m):Least bd W w m m:=h.move hw hx h.1
variable(L:Cell->Cell)
theorem kQ(hw:Ways w):∃L:Cell->Cell,∀x,On bd.length W x->Least bd W w x (L x):=by
 have h:∀x,∃m,On bd.length W x->Least bd W w x m:=λx=>by
  by_cases hx:On bd.length W x
  ·have hP:=dE hw hx;cases hp:aG bd W w x with
   |nil=>have:=(hP.mem x).mpr Cn.refl;rw[hp] at this;cases this
   |cons m r=>
    rw[hp] at hP;have hm:=(hP.mem m).mp (Wh ..);refine⟨m,λ_=>⟨hm,λz hz=>?_⟩⟩;rcases Wu.mp ((hP.mem z).mpr hz) with rfl | Vl
    ·exact Wr _
    ·exact XX ((eh (hm.on hw hx) (hz.on hw hx)).mp ((XB.mp hP.rise).1 z Vl))
  ·exact⟨x,λz=>acE z hx⟩
 exact⟨λx=>Classical.choose (h x),λx=>Classical.choose_spec (h x)⟩
noncomputable def qu(L:Cell->Cell)(s:List Cell):Cell->D:=λk=>cL (s.filter λx=>decide (L x=k))
noncomputable def Tp(L:Cell->Cell)(s:List Cell):C:=yK (bj (s.map L)) (qu L s)
noncomputable def H0(bd:List Str)(W w:Nat)(L:Cell->Cell)(s:List Cell)(x4:Option Sl):bo:=[fz (brd bd),fz (.int (w:Int)),fz (yi (ax bd.length W) λx=>cD (L x)),some (.ow (Tp L s)),x4]
theorem B9:∀l:List Cell,ra (l.map cD)=true
 |[]=>rfl
 |x::l=>by
  show (uQ (cD x)&&ra (l.map cD))=true;rw[B9 l];rfl
theorem Ip{δ:DE}{Z:bo}{l:List Cell}(h1:m_ Z=true)(h:δ (tT Z)=ae (cL l)):Lu δ Z=ae (cL l):=by
 unfold Lu;rw[acy h1,h];show (if uQ (cL l) then ae (cL l) else ah)=_;rw[acy (show uQ (cL l)=true from B9 l)]
theorem A9(l:List Cell)(x:Cell):bj (l++[x])=b9 (bj l) x:=by
 unfold bj;rw[acw];rfl
theorem FF{i:Nat}{Z:bo}{δk:DE}{ks:List Cell}{f:Cell->D}{k:Cell}(h1:dV i Z=ae (yi ks f))(h2:δk Z=ae (cD k)):pf (dV i) δk (dA bP aN) Z=ae (if k∈ks then f k else .lst []):=by
 unfold pf;rw[h1,ay];show (δk Z>>=λk=>dA bP aN Z>>=λv=>getM (yi ks f) k v)=_;rw[h2,ay];show getM (yi ks f) (cD k) (.lst [])=_;by_cases h:k∈ks
 ·rw[IK h,acy h]
 ·rw[FG h,acz h]
def To:DS:=(bH [4] (d8 3 (d2 c8 (dV 2) (dV 4)) (Lu (d2 gV (pf (dV 3) (d2 c8 (dV 2) (dV 4)) (dA bP aN)) (dA bP (aC (dV 4) aN))))))
theorem Jl(hg:Wd bd W){L:Cell->Cell}{s:List Cell}{x:Cell}(hx:On bd.length W x)(hs:s.length<64):To (H0 bd W w L s (fz (cD x)))=ae (.nx (H0 bd W w L (s++[x]) none)):=by
 have hl:(bj (s.map L)).length<lim:=by
  have:=oA (s.map L);rw[Wc] at this;rw[cq];omega
 have i1:∀{o:Option Sl},d2 c8 (dV 2) (dV 4) [fz (brd bd),fz (.int (w:Int)),fz (yi (ax bd.length W) λx=>cD (L x)),o,fz (cD x)]=ae (cD (L x)):=(aP (x:=yi (ax bd.length W) λx=>cD (L x)) (y:=cD x) rfl rfl).trans (rD (aB.mpr hx));have hv:Lu (d2 gV (pf (dV 3) (d2 c8 (dV 2) (dV 4)) (dA bP aN)) (dA bP (aC (dV 4) aN))) (H0 bd W w L s (fz (cD x)))=ae (cL ((s.filter λy=>decide (L y=L x))++[x])):=by
  refine Ip rfl ?_;have g:pf (dV 3) (d2 c8 (dV 2) (dV 4)) (dA bP aN) (tT (H0 bd W w L s (fz (cD x))))=ae (cL (s.filter λy=>decide (L y=L x))):=by
   refine(FF (i:=3) (ks:=bj (s.map L)) (f:=qu L s) (k:=L x) rfl i1).trans ?_;by_cases h:L x∈bj (s.map L)
   ·rw[acy h];rfl
   ·rw[acz h];have:s.filter (λy=>decide (L y=L x))=[]:=List.filter_eq_nil_iff.mpr λy hy=>by
     rw[acA];exact λz=>h (dD.mpr (WC.mpr ⟨y,hy,z⟩))
    rw[this];rfl
  exact(aP (y:=cL [x]) g rfl).trans (Ls (by have:=Xg (λy=>decide (L y=L x)) s;show _+1<=4096;omega))
 refine(aX ((qK (ks:=bj (s.map L)) (f:=qu L s) (x:=L x) rfl hv i1 hl).trans rfl)).trans ?_;have ef:fJ (qu L s) (L x) (cL ((s.filter λy=>decide (L y=L x))++[x]))=qu L (s++[x]):=by
  funext k;unfold fJ qu;rw[aaB];by_cases e:k=L x
  ·subst e;rw[acy rfl,Y0 (by simp),Yv]
  ·rw[acz e,Y1 (by simp;exact λz=>e z.symm),Yv,WU]
 show ae (Out.nx [fz (brd bd),fz (.int (w:Int)),fz (yi (ax bd.length W) λx=>cD (L x)),some (.ow (yK (b9 (bj (s.map L)) (L x)) (fJ (qu L s) (L x) (cL ((s.filter λy=>decide (L y=L x))++[x]))))),none])=_;rw[ef,<-A9];unfold H0 Tp;rw[Xo];rfl
theorem CA(hg:Wd bd W){L:Cell->Cell}:∀(l s:List Cell),(∀x∈l,On bd.length W x)->s.length+l.length<=64->forL (putN 4) To (l.map cD) (H0 bd W w L s none)=ae (.nx (H0 bd W w L (s++l) none))
 |[],s,_,_=>by rw[WU];rfl
 |x::l,s,h,hl=>by
  rw[Wl] at hl;have:=CA hg (L:=L) l (s++[x]) (λy hy=>h y (Wf _ hy)) (by rw[Wj];show _+1+_<=_;omega);rw[Xk] at this;exact(cZ rfl (Jl hg (h x (Wh ..)) (by omega))).trans this
noncomputable def j7(bd:List Str)(W w:Nat):D:= .lst ((b5 bd W w (ax bd.length W)).map λm=>cL (aG bd W w m))
theorem tV(hg:Wd bd W)(hs:bd.length*W<64)(hw:Ways w):k_ [brd bd, .int (w:Int)]=ae (j7 bd W w):=by
 have hm:bd.length*W<=64:=XM hg.r8 hg.w8;obtain⟨L,hL,eL⟩:=rG hg hw;have T0:(ax bd.length W).length<=64:=by rw[bw];omega
 have lp:=CA (w:=w) (L:=L) hg (ax bd.length W) [] (λx hx=>aB.mp hx) (by simpa using T0);rw[WJ] at lp;have KP:(bj ((ax bd.length W).map L)).length<64:=by
  have:=oA ((ax bd.length W).map L);rw[Wc,bw] at this;omega
 have KU:lJ (bj ((ax bd.length W).map L))=b5 bd W w (ax bd.length W):=by
  refine fT (mf (mZ _)) ((cO _ _).filter _) λk=>?_;rw[kT,dD,WC];unfold b5;rw[WN,acA];constructor
  ·rintro⟨x,hx,rfl⟩;have hx:=aB.mp hx;exact⟨aB.mpr ((hL x hx).on hw hx),(hL x hx).self hw hx⟩
  ·rintro⟨hk,h⟩;exact⟨k,hk,(hL k (aB.mp hk)).one hw (aB.mp hk) h⟩
 have L7:∀k∈b5 bd W w (ax bd.length W),qu L (ax bd.length W) k=cL (aG bd W w k):=λk hk=>by
  unfold b5 at hk;rw[WN,acA] at hk;have UL:=aB.mp hk.1;unfold qu aG;congr 1;refine ZI λx hx=>?_;have hx:=aB.mp hx;rw[acF];constructor
  ·intro e;have:=(hL x hx).1;rw[e] at this;exact this.symm hw hx
  ·intro e;exact(hL x hx).one hw hx (hk.2.move hw UL e)
 refine bg (ak (Z':=[fz (brd bd),fz (.int (w:Int)),fz (yi (ax bd.length W) λx=>cD (L x)),none,none]) ((aL (d:=yi (ax bd.length W) λx=>cD (L x)) ((aj (ds:=[brd bd, .int (w:Int)]) rfl rfl).trans eL)).trans rfl) (ak (Z':=H0 bd W w L [] none) rfl (ak (Z':=H0 bd W w L (ax bd.length W) none) (cw (dI (ds:=(ax bd.length W).map cD) (A7 ((aj (ds:=[brd bd]) rfl rfl).trans (ik hg))) lp)) ?_)));refine a_ (bK (ds:=(b5 bd W w (ax bd.length W)).map cD) (ys:=(b5 bd W w (ax bd.length W)).map λm=>cL (aG bd W w m)) (A7 ?_) (dN cD (λm=>cL (aG bd W w m)) _ λm hm=>?_) ?_)
 ·rw[<-KU];exact(cz (xs:=[yi (bj ((ax bd.length W).map L)) (qu L (ax bd.length W))]) rfl).trans (z_ (mZ _) KP)
 ·rw[iA,<-L7 m hm];have UW:m∈bj ((ax bd.length W).map L):=by rw[<-kT,KU];exact hm
  have:d2 c8 (dV 4) (dV 0) (fz (cD m)::frz 3 (H0 bd W w L (ax bd.length W) none))=ae (qu L (ax bd.length W) m):=(aP (x:=yi (bj ((ax bd.length W).map L)) (qu L (ax bd.length W))) (y:=cD m) rfl rfl).trans (rD UW);rw[this];rfl
 ·rw[Wc,cq];have:=Xg (λx=>decide (Least bd W w x x)) (ax bd.length W);unfold b5;omega
end
section
open Classical
variable{bd:List Str}{W w:Nat}
def Sr:DS:=(bH [4,5] (fU (yk (cE (d2 (gm true) (dV 4) (dV 3)))) (az (aW 5 (dA pY (aC (aw 3 bF (aC (dV 0) (aC (dV 4) (aC (dV 1) aN)))) aN))) (az (gA 2 (dV 5)) (z0 3 (aw 1 d6 (aC (dV 5) aN))))) cG))
noncomputable def Dj(bd:List Str)(W w:Nat)(s:List Cell):List D:=(b5 bd W w s).map λm=>cL (aG bd W w m)
noncomputable def HP(bd:List Str)(W w:Nat)(s ks:List Cell)(x4 x5:Option Sl):bo:=[fz (brd bd),fz (.int (w:Int)),some (.ow (.lst (Dj bd W w s))),some (.ow (.dct (ks.map keyOf) (aT ks))),x4,x5]
structure Seen (bd:List Str) (W w:Nat) (s ks:List Cell):Prop where
 nd:ks.Nodup
 on:∀y∈ks,On bd.length W y
 mem:∀y,y∈ks↔∃m∈b5 bd W w s,Cn bd W w m y
theorem Ai{i:Nat}{δ:DE}{Z:bo}{ks l:List Cell}(h0:Z[i]? =some (some (.ow (.dct (ks.map keyOf) (aT ks)))))(hd:δ Z=ae (jr l))(hz:ks.length+l.length<=4096)(hh:ks=[]->((bj l).map λc=>ib (ic c)).Nodup):
 z0 i δ Z=ae (.nx (Z.set i (some (.ow (.dct (((bj l).foldl b9 ks).map keyOf) (aT ((bj l).foldl b9 ks))))))):=by
 unfold z0 zI;rw[h0];show (δ Z>>=λd=>match HK (ks.map keyOf) (aT ks) d with | some c'=>ae (Out.nx (Z.set i (some (.ow c')))) | none=>ah)=_;rw[hd,ay];have:HK (ks.map keyOf) (aT ks) (jr l)=some (.dct (((bj l).foldl b9 ks).map keyOf) (aT ((bj l).foldl b9 ks))):=by
  show (match fN ((bj l).map keyOf) with | some ns=>if (aT ks).length+(aT (bj l)).length<=lim/\((ks.map keyOf).isEmpty=true->(ns.map ib).Nodup) then some (C.dct (dh (ks.map keyOf) (aT ks) ((bj l).map keyOf) (aT (bj l))).1 (dh (ks.map keyOf) (aT ks) ((bj l).map keyOf) (aT (bj l))).2) else none | none=>none)=_;rw[kO];show (if (aT ks).length+(aT (bj l)).length<=lim/\((ks.map keyOf).isEmpty=true->(((bj l).map ic).map ib).Nodup) then some (C.dct (dh (ks.map keyOf) (aT ks) ((bj l).map keyOf) (aT (bj l))).1 (dh (ks.map keyOf) (aT ks) ((bj l).map keyOf) (aT (bj l))).2) else none)=_;have c1:(aT ks).length+(aT (bj l)).length<=lim:=by
   have:=oA l;unfold aT;rw[Wc,Wc,cq];omega
  have c2:(ks.map keyOf).isEmpty=true->(((bj l).map ic).map ib).Nodup:=λz=>by
   rw[W7];exact hh (by cases ks with | nil=>rfl | cons _ _=>cases z)
  rw[acy ⟨c1,c2⟩,rR]
 rw[this]
theorem z8(hg:Brd bd W)(hs:bd.length*W<64)(hw:Ways w){x:Cell}(hx:On bd.length W x){Z:bo}(h0:dV 0 Z=ae (brd bd))(h1:dV 1 Z=ae (.int (w:Int)))(h4:dV 4 Z=ae (cD x)):
 dA pY (aC (aw 3 bF (aC (dV 0) (aC (dV 4) (aC (dV 1) aN)))) aN) Z=ae (cL (aG bd W w x)):=by
 obtain⟨k,ks,ps,q1,q2,q3⟩:=kC hg hw hx;have e1:aw 3 bF (aC (dV 0) (aC (dV 4) (aC (dV 1) aN))) Z=ae (gO ks ps):=(aj (ds:=[brd bd,cD x, .int (w:Int)]) (a7 h0 (a7 h4 (a7 h1 rfl))) rfl).trans q3;refine(cz (xs:=[gO ks ps]) (a7 e1 rfl)).trans ((z_ q1.nd (aaE (jd q1.nd q2) hs)).trans ?_);have:lJ ks=aG bd W w x:=IsPatch.one ⟨mf q1.nd,λx=>kT.trans (q1.last x)⟩ (dE hw hx);rw[this]
theorem ju(s:List Cell)(x:Cell):b5 bd W w (s++[x])=if Least bd W w x x then b5 bd W w s++[x] else b5 bd W w s:=by
 unfold b5;rw[aaB];by_cases h:Least bd W w x x
 ·rw[acy h,Y0 (by rw[acA];exact h),Yv]
 ·rw[acz h,Y1 (by rw[acA];exact h),Yv,WU]
theorem Ia(hg:Brd bd W)(hs:bd.length*W<64)(hw:Ways w){L:Cell->Cell}(hL:∀x,On bd.length W x->Least bd W w x (L x)){s r ks:List Cell}{x:Cell}(e:s++x::r=ax bd.length W)(h:Seen bd W w s ks):
 ∃ks',Seen bd W w (s++[x]) ks'/\Sr (HP bd W w s ks (fz (cD x)) none)=ae (.nx (HP bd W w (s++[x]) ks' none none)):=by
 have hx:On bd.length W x:=aB.mp (by rw[<-e];simp);have ro:=cO bd.length W;rw[<-e] at ro;have KS:∀y∈s,On bd.length W y:=λy hy=>aB.mp (by rw[<-e];simp[hy]);have OS:∀y∈r,On bd.length W y:=λy hy=>aB.mp (by rw[<-e];simp[hy]);have wt:∀y∈s,rank W y<rank W x:=λy hy=>(eh (KS y hy) hx).mp ((Zn.mp ro).2.2 y hy x (Wh ..));have AY:∀y∈r,rank W x<rank W y:=λy hy=>(eh hx (OS y hy)).mp ((XB.mp (Zn.mp ro).2.1).1 y hy);have SR:ks.length<=64:=by have:=jd (bd:=bd) (W:=W) h.nd h.on;omega
 have Ck:s.length<64:=by
  have:=acH ab8 e;rw[bw,Wj,Wl] at this;omega
 have ht:yk (cE (d2 (gm true) (dV 4) (dV 3))) (HP bd W w s ks (fz (cD x)) none)=ae (!decide (x∈ks)):=
  Ac (gj ((aP (x:=cD x) (y:= .dct (ks.map keyOf) (aT ks)) rfl rfl).trans (kL (neg:=true) (by simp[aT]))))
 by_cases hl:Least bd W w x x
 ·have Rx:x∉ks:=λz=>by
   obtain⟨m,hm,hc⟩:=(h.mem x).mp z;unfold b5 at hm;rw[WN,acA] at hm;have h1:=wt m hm.1;have h2:=hl.2 m (hc.symm hw (KS m hm.1));omega
  rw[acC Rx] at ht;have hP:=dE hw hx (bd:=bd) (W:=W);have LQ:∀y∈aG bd W w x,On bd.length W y:=λy hy=>((hP.mem y).mp hy).on hw hx;have LP:(aG bd W w x).length<=64:=by have:=jd (bd:=bd) (W:=W) hP.rise.nodup LQ;omega
  have DR:(Dj bd W w s).length<lim:=by
   unfold Dj;rw[Wc,cq];have:=Xg (λx=>decide (Least bd W w x x)) s;unfold b5;omega
  refine⟨(bj (aG bd W w x)).foldl b9 ks,⟨yV h.nd,λy hy=>?_,λy=>?_⟩,?_⟩
  ·rcases((la (bj (aG bd W w x)) ks).2.1 y).mp hy with q | q
   ·exact h.on y q
   ·exact LQ y (dD.mp q)
  ·rw[(la (bj (aG bd W w x)) ks).2.1 y,dD,h.mem y,ju,acy hl,hP.mem y];constructor
   ·rintro(⟨m,hm,hc⟩ | hc)
    ·exact⟨m,W6.mpr (.inl hm),hc⟩
    ·exact⟨x,by simp,hc⟩
   ·rintro⟨m,hm,hc⟩;rcases W6.mp hm with hm | hm
    ·exact .inl ⟨m,hm,hc⟩
    ·rw[W2.mp hm] at hc;exact .inr hc
  ·have ef:Dj bd W w (s++[x])=Dj bd W w s++[cL (aG bd W w x)]:=by
    unfold Dj;rw[ju,acy hl,Xo];rfl
   refine(aX (Z':=[fz (brd bd),fz (.int (w:Int)),some (.ow (.lst (Dj bd W w s++[cL (aG bd W w x)]))),some (.ow (.dct (((bj (aG bd W w x)).foldl b9 ks).map keyOf) (aT ((bj (aG bd W w x)).foldl b9 ks)))),fz (cD x),fz (cL (aG bd W w x))]) (dJ ht (ak (Z':=HP bd W w s ks (fz (cD x)) (fz (cL (aG bd W w x)))) ((aL (z8 hg hs hw hx rfl rfl rfl)).trans rfl) (ak (Z':=[fz (brd bd),fz (.int (w:Int)),some (.ow (.lst (Dj bd W w s++[cL (aG bd W w x)]))),some (.ow (.dct (ks.map keyOf) (aT ks))),fz (cD x),fz (cL (aG bd W w x))]) ?_ ?_)))).trans ?_
   ·show (if (Dj bd W w s).length<lim then ae (Out.nx [fz (brd bd),fz (.int (w:Int)),some (.ow (.lst (Dj bd W w s++[cL (aG bd W w x)]))),some (.ow (.dct (ks.map keyOf) (aT ks))),fz (cD x),fz (cL (aG bd W w x))]) else ah)=_;rw[acy DR]
   ·exact(Ai (ks:=ks) (l:=aG bd W w x) rfl ((aj (ds:=[cL (aG bd W w x)]) rfl rfl).trans (kP (by omega))) (by omega) (λ_=>Ce hg.r8 hg.w8 (mZ _) λy hy=>LQ y (dD.mp hy))).trans rfl
   ·unfold HP;rw[ef];rfl
 ·have hm:=hL x hx;have jU:L x≠x:=λz=>hl (by rw[z] at hm;exact hm);have jl:rank W (L x)<rank W x:=by
   have h1:=hm.2 x Cn.refl;have h2:rank W (L x)≠rank W x:=λz=>jU (nG (hm.on hw hx) hx z);omega
  have UX:L x∈s:=by
   have:L x∈s++x::r:=by rw[e];exact aB.mpr (hm.on hw hx)
   rcases W6.mp this with q | q
   ·exact q
   ·rcases Wu.mp q with q | q
    ·exact acE q jU
    ·have:=AY _ q;omega
  have Rx:x∈ks:=(h.mem x).mpr ⟨L x,by unfold b5;rw[WN,acA];exact⟨UX,hm.self hw hx⟩,hm.1.symm hw hx⟩;rw[acB Rx] at ht;refine⟨ks,⟨h.nd,h.on,λy=>by rw[ju,acz hl];exact h.mem y⟩,?_⟩;have ef:Dj bd W w (s++[x])=Dj bd W w s:=by
   unfold Dj;rw[ju,acz hl]
  refine(aX (dr ht rfl)).trans ?_;unfold HP;rw[ef];rfl
theorem B0(hg:Brd bd W)(hs:bd.length*W<64)(hw:Ways w){L:Cell->Cell}(hL:∀x,On bd.length W x->Least bd W w x (L x)):∀(r s ks:List Cell),s++r=ax bd.length W->Seen bd W w s ks->
 ∃ks',forL (putN 4) Sr (r.map cD) (HP bd W w s ks none none)=ae (.nx (HP bd W w (ax bd.length W) ks' none none))
 |[],s,ks,e,h=>by
  rw[WU] at e;exact⟨ks,by rw[e];rfl⟩
 |x::r,s,ks,e,h=>by
  obtain⟨Vp,h1,e1⟩:=Ia hg hs hw hL e h;obtain⟨Vq,e2⟩:=B0 hg hs hw hL r (s++[x]) Vp (by rw[Xk];exact e) h1;exact⟨Vq,(cZ rfl e1).trans e2⟩
theorem jH(hg:Brd bd W)(hs:bd.length*W<64)(hw:Ways w):bU [brd bd, .int (w:Int)]=ae (j7 bd W w):=by
 obtain⟨L,hL⟩:=kQ (bd:=bd) (W:=W) hw;obtain⟨ks,e⟩:=B0 hg hs hw hL (ax bd.length W) [] [] rfl ⟨YM,(λy hy=>(by cases hy)),(λy=>⟨λz=>(by cases z),λ⟨m,hm,_⟩=>(by cases hm)⟩)⟩;refine bg (ak (Z':=[fz (brd bd),fz (.int (w:Int)),some (.ow (.lst [])),none,none,none]) rfl (ak (Z':=HP bd W w [] [] none none) rfl (ak (Z':=HP bd W w (ax bd.length W) ks none none) (cw (dI (ds:=(ax bd.length W).map cD) (A7 ((aj (ds:=[brd bd]) rfl rfl).trans (tL hg))) e)) rfl)))
end
section
open Classical
variable{bd:List Str}{W w:Nat}
noncomputable def a5(bd:List Str)(W w:Nat):List (List Cell):=(b5 bd W w (ax bd.length W)).map (aG bd W w)
theorem sE:j7 bd W w= .lst ((a5 bd W w).map cL):=by
 unfold j7 a5;rw[W7];rfl
theorem fe{m:Cell}(h:m∈b5 bd W w (ax bd.length W)):On bd.length W m:=by
 unfold b5 at h;exact aB.mp (WN.mp h).1
theorem Bv(hg:Brd bd W)(hw:Ways w){x:Cell}(hx:On bd.length W x):(a5 bd W w).filter (λP=>decide (x∈P))=[aG bd W w x]:=by
 obtain⟨L,hL⟩:=kQ (bd:=bd) (W:=W) hw;have hm:=hL x hx;have KQ:=hm.on hw hx;have e1:(b5 bd W w (ax bd.length W)).filter ((λP=>decide (x∈P))∘aG bd W w)=[L x]:=by
  refine fT (((cO _ _).filter _).filter _) (YX ..) λm=>?_;rw[WN,W2];show (m∈b5 bd W w (ax bd.length W)/\decide (x∈aG bd W w m)=true)↔_;rw[acA];constructor
  ·rintro⟨h1,h2⟩;have ho:=fe h1;have hc:=((dE hw ho).mem x).mp h2;unfold b5 at h1;rw[WN,acA] at h1;exact(h1.2.move hw ho hc).one hw hx hm
  ·rintro rfl;refine⟨?_,((dE hw KQ).mem x).mpr (hm.1.symm hw hx)⟩;unfold b5;rw[WN,acA];exact⟨aB.mpr KQ,hm.self hw hx⟩
 unfold a5;rw[aa2,e1];show [aG bd W w (L x)]=_;congr 1;unfold aG;refine ZI λy _=>?_;rw[acF];exact⟨λh=>hm.1.trans h,λh=>(hm.1.symm hw hx).trans h⟩
theorem Ba:(a5 bd W w).length<=bd.length*W:=by
 unfold a5 b5;rw[Wc,<-bw bd.length W];exact Xg ..
end
end K1
namespace K1
open PySem L2 L3 HT
def jL(l:List Nat):Str:=⟨l.toArray⟩
theorem eA(l:List Nat):(jL l).cps.toList=l:=by simp[jL]
theorem kR(l:List Nat):(jL l).length=l.length:=by simp[jL,Str.length]
theorem qO(x y:Str):(x++y).cps.toList=x.cps.toList++y.cps.toList:=by
 show (x.cps++y.cps).toList=_;simp
end K1
namespace K1
open PySem PySem.Spec L2 L3
open PyProof.Rows hiding St
section
open Classical
variable{bd:List Str}{W w:Nat}
theorem Jo:(b5 bd W w (ax bd.length W)).Nodup:=by
 unfold b5;exact(RiseC.nodup (cO _ _)).filter _
theorem zk{l:List Cell}{m:Cell}:m∈b5 bd W w l↔m∈l/\Least bd W w m m:=by
 unfold b5;rw[WN,acA]
theorem zc(hw:Ways w){m x:Cell}(hm:m∈b5 bd W w (ax bd.length W))(hx:x∈aG bd W w m):Least bd W w x m:=
 (zk.mp hm).2.move hw (fe hm) (((dE hw (fe hm)).mem x).mp hx)
theorem Cd{f:Cell->List Cell}:∀l:List Cell,l.Nodup->(∀a∈l,(f a).Nodup)->(∀a∈l,∀b∈l,∀x,x∈f a->x∈f b->a=b)->(l.flatMap f).Nodup
 |[],_,_,_=>YM
 |a::l,h1,h2,h3=>by
  rw[Xj,XI];obtain⟨g1,g2⟩:=X0.mp h1;refine⟨h2 a (Wh ..),Cd l g2 (λb hb=>h2 b (Wf _ hb)) λb hb c hc=>h3 b (Wf _ hb) c (Wf _ hc),λx hx y hy e=>?_⟩;subst e;obtain⟨b,hb,q⟩:=X6.mp hy;have:=h3 a (Wh ..) b (Wf _ hb) x hx q;subst this;exact g1 hb
end
end K1
namespace K1
open PySem L2 L3
theorem wj{α σ:Type}{put:D->bo->Option bo}{body:DS}(enc:α->D)(I:σ->bo->Prop)(step:σ->α->σ):∀(xs:List α) (s:σ) (Z:bo),I s Z->(∀s Z,I s Z->∀x∈xs,∃Z1 Z2,put (enc x) Z=some Z1/\body Z1=ae (.nx Z2)/\I (step s x) Z2)->
 ∃Z',forL put body (xs.map enc) Z=ae (.nx Z')/\I (xs.foldl step s) Z'
 |[],s,Z,h,_=>⟨Z,rfl,h⟩
 |x::xs,s,Z,h,st=>by
  obtain⟨Z1,Z2,e1,e2,h2⟩:=st s Z h x (Wh ..);obtain⟨Z',e3,h3⟩:=wj enc I step xs (step s x) Z2 h2 λs Z h y hy=>st s Z h y (Wf _ hy);exact⟨Z',by rw[Wq,cZ e1 e2,e3],h3⟩
theorem Hf{i:Nat}{δk δv:DE}{Z:bo}{c c':C}{k d:D}(h0:Z[i]? =some (some (.ow c)))(hv:δv Z=ae d)(hk:δk Z=ae k)(hp:ke c k d=some c'):d8 i δk δv Z=ae (.nx (Z.set i (some (.ow c')))):=by
 unfold d8 zI;rw[h0];show (δv Z>>=λv=>δk Z>>=λk=>match ke c k v with | some c'=>ae (Out.nx (Z.set i (some (.ow c')))) | none=>ah)=_;rw[hv,ay,hk,ay,hp]
theorem Ja{ks:List Cell}{vs:List Int}{c:Cell}(hl:ks.length=vs.length)(h:c∈ks):∃i:Int,c8 (.dct (ks.map keyOf) (vs.map D.int)) (cD c)=ae (.int i):=by
 obtain⟨d,e1,e2⟩:=kX (ds:=vs.map D.int) (by rw[Wc];exact hl) h;obtain⟨i,_,rfl⟩:=WC.mp (Zq e2).2;refine⟨i,?_⟩;show (match (eV (cD c)).map (fK (ks.map keyOf) (vs.map D.int)) with | some (some v)=>ae v | _=>ah)=_;rw[gu];show (match some (fK (ks.map keyOf) (vs.map D.int) (keyOf c)) with | some (some v)=>ae v | _=>ah)=_;rw[e1]
structure Sok (S:List Cell) (s:Bk Cell):Prop where
 len:s.ks.length=s.ps.length
 nd:s.ks.Nodup
 on:∀x∈s.ks,x∈S
 fu:s.fu.length<=s.ks.length
theorem Sok.step{S:List Cell}{s:Bk Cell}(h:Sok S s){c x:Cell}(hx:x∈S):Sok S (dG c s x):=by
 unfold dG;split
 ·exact h
 ·rename_i hn;refine⟨by simp[h.len],?_,λy hy=>?_,by simp;exact h.fu⟩
  ·refine XI.mpr ⟨h.nd,by simp,λy hy z hz e=>?_⟩;have hz:z=x:=by simpa using hz
   rw[e,hz] at hy;exact hn hy
  ·rcases W6.mp hy with q | q
   ·exact h.on y q
   ·have:y=x:=by simpa using q
    rw[this];exact hx
abbrev dR(nr a:D)(ks:List Cell)(vs:List Int)(x3 x4 x5 x6:Option Sl):bo:=[fz nr,fz a,some (.ow (.dct (ks.map keyOf) (vs.map D.int))),x3,x4,x5,x6]
def Ly:DS:=(bH [6] (fU (yk (cE (d2 (gm true) (dV 6) (dV 2)))) (az (d8 2 (dV 6) (Ky (d2 dw (d2 c8 (dV 2) (dV 5)) (dC (.int 1))))) (gA 4 (dV 6))) cG))
theorem Iv{S:List Cell}(yY:S.length<=64){nr a:D}{c x:Cell}{r:Option Sl}{s:Bk Cell}(h:Sok S s)(hc:c∈s.ks){vs:List Int}(hv:s.ks.length=vs.length):
 ∃vs',(dG c s x).ks.length=vs'.length/\Ly (dR nr a s.ks vs r (some (.ow (.lst (s.fu.map cD)))) (fz (cD c)) (fz (cD x)))=ae (.nx (dR nr a (dG c s x).ks vs' r (some (.ow (.lst ((dG c s x).fu.map cD)))) (fz (cD c)) none)):=by
 have hle:s.ks.length<=S.length:=fk h.nd h.on;have ht:yk (cE (d2 (gm true) (dV 6) (dV 2))) (dR nr a s.ks vs r (some (.ow (.lst (s.fu.map cD)))) (fz (cD c)) (fz (cD x)))=ae (!decide (x∈s.ks)):=
  Ac (gj ((aP (x:=cD x) (y:= .dct (s.ks.map keyOf) (vs.map D.int)) rfl rfl).trans (kL (neg:=true) (by rw[Wc];exact hv))))
 by_cases hx:x∈s.ks
 ·rw[acB hx] at ht;have e:dG c s x=s:=acy hx;rw[e];exact⟨vs,hv,(aX (dr ht rfl)).trans rfl⟩
 ·rw[acC hx] at ht;have e:dG c s x=⟨s.ks++[x],s.ps++[some c],s.fu++[x]⟩:=acz hx;rw[e];obtain⟨i,hi⟩:=Ja hv hc;have hp:ke (.dct (s.ks.map keyOf) (vs.map D.int)) (cD x) (.int (i+1))=some (.dct ((s.ks++[x]).map keyOf) ((vs++[i+1]).map D.int)):=by
   rw[sP hx (by rw[Wc,<-hv,cq];omega),Xo (f:=D.int)];rfl
  refine⟨vs++[i+1],by simp[hv],(aX (Z':=dR nr a (s.ks++[x]) (vs++[i+1]) r (some (.ow (.lst ((s.fu++[x]).map cD)))) (fz (cD c)) (fz (cD x))) (dJ ht (ak (Z':=dR nr a (s.ks++[x]) (vs++[i+1]) r (some (.ow (.lst (s.fu.map cD)))) (fz (cD c)) (fz (cD x))) ((Hf (c:= .dct (s.ks.map keyOf) (vs.map D.int)) (k:=cD x) (d:= .int (i+1)) rfl (Kz ((aP (x:= .int i) (y:= .int 1) ((aP (x:= .dct (s.ks.map keyOf) (vs.map D.int)) (y:=cD c) rfl rfl).trans hi) rfl).trans rfl) rfl) rfl hp).trans rfl) ?_))).trans rfl⟩;show (if (s.fu.map cD).length<lim then ae (Out.nx (dR nr a (s.ks++[x]) (vs++[i+1]) r (some (.ow (.lst (s.fu.map cD++[cD x])))) (fz (cD c)) (fz (cD x)))) else ah)=_;have:=h.fu;rw[acy (by rw[Wc,cq];omega),show s.fu.map cD++[cD x]=(s.fu++[x]).map cD by simp]
def cR(S:List Cell)(nb:Cell->List Cell):D:=yi S λy=>cL (nb y)
def Lx:DS:=(bH [5,6] (da (putN 6) (FU (cj (d2 c8 (dV 0) (dV 5))) (λZ=>(d2 c8 (dV 0) (dV 5)) Z>>=jJ)) Ly))
section
variable{S:List Cell}{nb:Cell->List Cell}
theorem Dm{c x y:Cell}{s:Bk Cell}(h:y∈s.ks):y∈(dG c s x).ks:=(uI s).mpr (.inl h)
theorem Dl{y c:Cell}{s:Bk Cell}(h:y∈s.ks):y∈(hJ nb s c).ks:=((foldStep (P:=λ_ _=>True) (nb c) s λ_ _=>trivial).2 y).mpr (.inl h)
theorem Ir(yY:S.length<=64)(hS:∀y∈S,∀x∈nb y,x∈S){a:D}{c:Cell}{r:Option Sl}{s:Bk Cell}(h:Sok S s)(hc:c∈s.ks){vs:List Int}(hv:s.ks.length=vs.length):
 Sok S (hJ nb s c)/\∃vs',(hJ nb s c).ks.length=vs'.length/\Lx (dR (cR S nb) a s.ks vs r (some (.ow (.lst (s.fu.map cD)))) (fz (cD c)) none)=ae (.nx (dR (cR S nb) a (hJ nb s c).ks vs' r (some (.ow (.lst ((hJ nb s c).fu.map cD)))) none none)):=by
 have SN:=h.on c hc;obtain⟨Z',e,h1,h2,vs',h3,rfl⟩:=wj (put:=putN 6) (body:=Ly) cD (λ(s:Bk Cell) Z=>Sok S s/\c∈s.ks/\∃vs:List Int,s.ks.length=vs.length/\Z=dR (cR S nb) a s.ks vs r (some (.ow (.lst (s.fu.map cD)))) (fz (cD c)) none) (dG c) (nb c) s _ ⟨h,hc,vs,hv,rfl⟩ λs Z ⟨h,hc,vs,hv,e⟩ x hx=>by
  subst e;obtain⟨vs',h1,h2⟩:=Iv (nr:=cR S nb) (a:=a) (x:=x) (r:=r) yY h hc hv;exact⟨_,_,rfl,h2,h.step (hS c SN x hx),Dm hc,vs',h1,rfl⟩
 refine⟨h1,vs',h3,(aX (dI ?_ e)).trans rfl⟩;have e0:d2 c8 (dV 0) (dV 5) (dR (cR S nb) a s.ks vs r (some (.ow (.lst (s.fu.map cD)))) (fz (cD c)) none)=ae (cL (nb c)):=(aP (x:=cR S nb) (y:=cD c) rfl rfl).trans (rD (f:=λy=>cL (nb y)) SN);show orM (cj (d2 c8 (dV 0) (dV 5)) _) _=_;rw[show cj (d2 c8 (dV 0) (dV 5)) (dR (cR S nb) a s.ks vs r (some (.ow (.lst (s.fu.map cD)))) (fz (cD c)) none)=ae ((nb c).map cD) by
  show (d2 c8 (dV 0) (dV 5) _>>=lstM)=_;rw[e0];rfl]
 rfl
def Oe:DS:=(bH [4,5,6] (az (l8 4) (az (da (putN 5) (cj (dV 3)) Lx) (qw 4 (aW 3 (dV 4))))))
theorem Iu(yY:S.length<=64)(hS:∀y∈S,∀x∈nb y,x∈S){a:D}{v6:List Cell}{s:Bk Cell}(hr:∀c∈v6,c∈s.ks)(h:Sok S s)(hf:s.fu=[]){vs:List Int}(hv:s.ks.length=vs.length):
 Sok S (cF nb s v6)/\∃vs',(cF nb s v6).ks.length=vs'.length/\Oe (dR (cR S nb) a s.ks vs (fz (.lst (v6.map cD))) none none none)=ae (.nx (dR (cR S nb) a (cF nb s v6).ks vs' (fz (.lst ((cF nb s v6).fu.map cD))) none none none)):=by
 obtain⟨Z',e,h1,h2,vs',h3,rfl⟩:=wj (put:=putN 5) (body:=Lx) cD (λ(s:Bk Cell) Z=>Sok S s/\(∀c∈v6,c∈s.ks)/\∃vs:List Int,s.ks.length=vs.length/\Z=dR (cR S nb) a s.ks vs (fz (.lst (v6.map cD))) (some (.ow (.lst (s.fu.map cD)))) none none) (hJ nb) v6 s _ ⟨h,hr,vs,hv,rfl⟩ λs Z ⟨h,hr,vs,hv,e⟩ c hc=>by
  subst e;obtain⟨g1,vs',g2,g3⟩:=Ir (nb:=nb) (a:=a) (r:=fz (.lst (v6.map cD))) yY hS h (hr c hc) hv;exact⟨_,_,rfl,g3,g1,λc' HV=>Dl (hr c' HV),vs',g2,rfl⟩
 rw[hf] at e;refine⟨h1,vs',h3,(aX (Z':=dR (cR S nb) a (cF nb s v6).ks vs' (fz (.lst ((cF nb s v6).fu.map cD))) (fz (.lst ((cF nb s v6).fu.map cD))) none none) ?_).trans rfl⟩;refine ak (Z':=dR (cR S nb) a s.ks vs (fz (.lst (v6.map cD))) (some (.ow (.lst []))) none none) rfl (ak (Z':=dR (cR S nb) a (cF nb s v6).ks vs' (fz (.lst (v6.map cD))) (some (.ow (.lst ((cF nb s v6).fu.map cD)))) none none) ?_ rfl);exact dI rfl e
theorem yO(yY:S.length<=64)(hS:∀y∈S,∀x∈nb y,x∈S){a:Cell}(ha:a∈S):∀(fuel k:Nat) (ks:List Cell) (ps:List (Option Cell)) (v6:List Cell) (vs:List Int),S.length+2<=fuel+k->Rng nb a k ks ps v6->(∀x∈ks,x∈S)->ks.length=vs.length->
 ∃k' ks' K_ vs',Rng nb a k' ks' K_ []/\(∀x∈ks',x∈S)/\ks'.length=vs'.length/\fH (bW (dV 3)) Oe fuel (dR (cR S nb) (cD a) ks vs (fz (.lst (v6.map cD))) none none none)=ae (.nx (dR (cR S nb) (cD a) ks' vs' (fz (.lst [])) none none none))
 |0,k,ks,ps,v6,vs,hf,hR,ig,hv=>by
  have h1:ks.length<=S.length:=fk hR.nd ig;have:=hR.sz.1;omega
 |fuel+1,k,ks,ps,[],vs,hf,hR,ig,hv=>⟨k,ks,ps,vs,hR,ig,hv,tF rfl⟩
 |fuel+1,k,ks,ps,c::v6,vs,hf,hR,ig,hv=>by
  have hN:=hR.next (by simp);have OS:∀x∈c::v6,x∈ks:=λx hx=>(hR.mem x).mpr ((hR.rg x).mp hx).1;obtain⟨hb,VQ,Vg,e⟩:=Iu (nb:=nb) (a:=cD a) yY hS (s:=⟨ks,ps,[]⟩) OS ⟨hR.len,hR.nd,ig,Xe _⟩ rfl hv;obtain⟨k',ks',K_,vs',q1,q2,q3,q4⟩:=yO yY hS ha fuel (k+1) _ _ _ VQ (by omega) hN hb.on Vg;exact⟨k',ks',K_,vs',q1,q2,q3,nR rfl e q4⟩
theorem tR(yY:S.length<=64)(hS:∀y∈S,∀x∈nb y,x∈S){a:Cell}(ha:a∈S):
 ∃(ks:List Cell) (vs:List Int),ks.Nodup/\(∀x∈ks,x∈S)/\(∀x,x∈ks↔∃j,Rb nb a j x)/\ks.length=vs.length/\gb [cR S nb,cD a]=ae (.dct (ks.map keyOf) (vs.map D.int)):=by
 obtain⟨k,ks,ps,vs,h1,h2,h3,h4⟩:=yO (nb:=nb) yY hS ha lim 0 [a] [none] [a] [0] (by rw[cq];omega) (Rng.zero _ _) (λx hx=>(show x=a by simpa using hx)▸ha) rfl;refine⟨ks,vs,h1.nd,h2,h1.last,h3,bg (ak (Z':=dR (cR S nb) (cD a) [a] [0] none none none none) rfl (ak (Z':=dR (cR S nb) (cD a) [a] [0] (fz (.lst [cD a])) none none none) rfl (ak (Z':=dR (cR S nb) (cD a) ks vs (fz (.lst [])) none none none) (cw h4) rfl)))⟩
end
end K1
namespace K1
open PySem PySem.Spec L2 L3
open PyProof.Rows hiding St
section
variable{nb:Cell->List Cell}
theorem rl{a c b:Cell}(h:c∈nb a):∀{j:Nat},Rb nb c j b->Rb nb a (j+1) b
 |0,q=> .inr ⟨a,rfl,(show b=c from q)▸h⟩
 |j+1,q=>q.elim (λq=> .inl (rl h q)) λ⟨y,q1,q2⟩=> .inr ⟨y,rl h q1,q2⟩
theorem rm{a b c:Cell}{i:Nat}(h:Rb nb a i b):∀{j:Nat},Rb nb b j c->Rb nb a (i+j) c
 |0,q=>(show c=b from q)▸h
 |j+1,q=>q.elim (λq=> .inl (rm h q)) λ⟨y,q1,q2⟩=> .inr ⟨y,rm h q1,q2⟩
theorem uX{P:Cell->Prop}(hP:∀y,P y->∀x∈nb y,P x){a b:Cell}(ha:P a):∀{j:Nat},Rb nb a j b->P b
 |0,q=>(show b=a from q)▸ha
 |j+1,q=>q.elim (λq=>uX hP ha q) λ⟨y,q1,q2⟩=>hP y (uX hP ha q1) b q2
theorem wo{P:Cell->Prop}(hP:∀y,P y->∀x∈nb y,P x)(hs:∀y,P y->∀x∈nb y,y∈nb x){a b:Cell}(ha:P a):∀{j:Nat},Rb nb a j b->Rb nb b j a
 |0,q=>(show b=a from q).symm
 |j+1,q=>q.elim (λq=> .inl (wo hP hs ha q)) λ⟨y,q1,q2⟩=>rl (hs y (uX hP ha q1) b q2) (wo hP hs ha q1)
end
def og(R W w:Nat)(S:List Cell)(y:Cell):List Cell:=(iY R W w y).filter λx=>decide (x∈S)
theorem mO{R W w:Nat}(hw:Ways w){S:List Cell}{x y:Cell}:x∈og R W w S y↔On R W x/\mj w y x=true/\x∈S:=by
 unfold og;rw[WN,oE hw,acA,and_assoc]
def CnS(R W w:Nat)(S:List Cell)(a b:Cell):Prop:=∃j,Rb (og R W w S) a j b
section
open Classical
variable{bd:List Str}{W w:Nat}{S:List Cell}{R:Nat}
theorem Bf(hw:Ways w):∀y,y∈S->∀x∈og R W w S y,x∈S:=λy _ x hx=>((mO hw).mp hx).2.2
theorem My(hw:Ways w)(ig:∀y∈S,On R W y):∀y,y∈S->∀x∈og R W w S y,y∈og R W w S x:=λy hy x hx=>(mO hw).mpr ⟨ig y hy,by rw[rZ];exact((mO hw).mp hx).2.1,hy⟩
theorem CnS.trans{a b c:Cell}(h:CnS R W w S a b)(h2:CnS R W w S b c):CnS R W w S a c:=let ⟨i,p⟩:=h;let ⟨j,q⟩:=h2;⟨i+j,rm p q⟩
theorem CnS.symm(hw:Ways w)(ig:∀y∈S,On R W y){a b:Cell}(ha:a∈S)(h:CnS R W w S a b):CnS R W w S b a:=let ⟨j,q⟩:=h;⟨j,wo (Bf hw) (My hw ig) ha q⟩
theorem CnS.mem(hw:Ways w){a b:Cell}(ha:a∈S)(h:CnS R W w S a b):b∈S:=let ⟨_,q⟩:=h;uX (P:=(· ∈S)) (Bf hw) ha q
def NY(R W w:Nat)(S:List Cell)(x:Cell):Prop:=∀y,CnS R W w S x y->rank W x<=rank W y
noncomputable def my(R W w:Nat)(S t:List Cell):List Cell:=t.filter λx=>decide (NY R W w S x)
theorem foldl_addK:∀(l t:List Cell),(t++l).Nodup->l.foldl b9 t=t++l
 |[],t,_=>by simp
 |x::l,t,h=>by
  have hx:x∉t:=λq=>(XI.mp h).2.2 x q x (Wh ..) rfl;rw[YY,show b9 t x=t++[x] from acz hx,foldl_addK l (t++[x]) (by rw[Xk];exact h),Xk];rfl
def Vv:DS:=(bH [5] (d8 4 (dV 5) (bc 0 (cj (aw 3 cI (aC (dV 0) (aC (dV 5) (aC (dV 2) aN))))) (cE (d2 (gm false) (dV 0) (dV 4))) (dV 0))))
theorem Gk(hg:Brd bd W)(hw:Ways w)(hn:S.Nodup)(ig:∀y∈S,On bd.length W y):gr [brd bd,cL S, .int (w:Int)]=ae (cR S (og bd.length W w S)):=by
 have hm:bd.length*W<=64:=XM hg.r8 hg.w8;have yY:S.length<=64:=by
  have:=fk hn λx hx=>aB.mpr (ig x hx);rw[bw] at this;omega
 obtain⟨_,e⟩:=iR (put:=putN 5) (body:=Vv) cD (λt:List Cell=>[fz (brd bd),fz (cL S),fz (.int (w:Int)),fz (jr S),some (.ow (yK t λy=>cL (og bd.length W w S y))),none]) b9 (λt=>t.Nodup/\∀y∈t,y∈S) S [] ⟨YM,λ_ h=>by cases h⟩ λt ⟨h1,h2⟩ x hx=>by
  have hl:=fk h1 h2;refine⟨⟨(la [x] t).1 h1,λy hy=>(yo.mp hy).elim (h2 y) λq=>q▸hx⟩,_,rfl,?_⟩;refine(aX (Z':=[fz (brd bd),fz (cL S),fz (.int (w:Int)),fz (jr S),some (.ow (yK (b9 t x) λy=>cL (og bd.length W w S y))),fz (cD x)]) ?_).trans rfl;refine(qK (x:=x) (d:=cL (og bd.length W w S x)) rfl (bK (ds:=(iY bd.length W w x).map cD) (A7 ((aj (ds:=[brd bd,cD x, .int (w:Int)]) rfl rfl).trans (j0 hg hw (ig x hx)))) (gF cD _ _ λy hy=>?_) ?_) rfl (by rw[cq];omega)).trans ?_
  ·rw[qX,gj (b:=decide (y∈S)) ((aP (x:=cD y) (y:=jr S) rfl rfl).trans ((kL (neg:=false) (by simp[aT])).trans (by rw[acz (by decide)];congr 2;rw[acF];exact dD))),ay];cases decide (y∈S)<;>rfl
  ·rw[Wc,cq];exact WM (Xg ..) (WM (oB ..) (by decide))
  ·have:fJ (λy=>cL (og bd.length W w S y)) x (cL (og bd.length W w S x))=λy=>cL (og bd.length W w S y):=by
    funext y;unfold fJ;split
    ·rename_i q;rw[q]
    ·rfl
   rw[this];rfl
 rw[foldl_addK S [] (by simpa using hn),WJ] at e;exact bg (ak (Z':=[fz (brd bd),fz (cL S),fz (.int (w:Int)),fz (jr S),none,none]) ((aL ((aj (ds:=[cL S]) rfl rfl).trans (kP (by omega)))).trans rfl) (ak (Z':=[fz (brd bd),fz (cL S),fz (.int (w:Int)),fz (jr S),some (.ow (yK [] λy=>cL (og bd.length W w S y))),none]) rfl (ak (cw (dI rfl e)) rfl)))
theorem Gd{ks:List Cell}{ds:List D}(h:ks.length<=64):zf [.dct (ks.map keyOf) ds]=ae (cL ks):=by
 show (match fN (ks.map keyOf) with | some ks=>if ks.length<=lim/\ks.all (λk=>decide (k.length<=lim)) then ae (D.lst (ks.map tupI)) else ah | none=>ah)=_;rw[kO];show (if (ks.map ic).length<=lim/\(ks.map ic).all (λk=>decide (k.length<=lim)) then ae (D.lst ((ks.map ic).map tupI)) else ah)=_;rw[acy ⟨by rw[Wc,cq];omega,W3.mpr λk hk=>by obtain⟨c,_,rfl⟩:=WC.mp hk;rfl⟩,W7];rfl
def Tv:DS:=(bH [6,7] (fU (yk (cE (d2 (gm true) (dV 6) (dV 5)))) (az (aW 7 (dA zf (aC (aw 2 gb (aC (dV 3) (aC (dV 6) aN))) aN))) (az (gA 4 (dV 7)) (z0 5 (aw 1 d6 (aC (dV 7) aN))))) cG))
abbrev JY(b w nr:D)(S:List Cell)(u8:List D)(ks:List Cell)(x6 x7:Option Sl):bo:=[fz b,fz (cL S),fz w,fz nr,some (.ow (.lst u8)),some (.ow (.dct (ks.map keyOf) (aT ks))),x6,x7]
structure SeenS (R W w:Nat) (S t ks:List Cell):Prop where
 nd:ks.Nodup
 on:∀y∈ks,y∈S
 mem:∀y,y∈ks↔∃m∈t,CnS R W w S m y
theorem uV(t:List Cell)(x:Cell):my R W w S (t++[x])=if NY R W w S x then my R W w S t++[x] else my R W w S t:=by
 unfold my;rw[aaB];by_cases h:NY R W w S x
 ·rw[acy h,Y0 (by rw[acA];exact h),Yv]
 ·rw[acz h,Y1 (by rw[acA];exact h),Yv,WU]
theorem J0(hg:Brd bd W)(hs:bd.length*W<64)(hw:Ways w)(hS:RiseC S)(ig:∀y∈S,On bd.length W y){t r ks:List Cell}{x:Cell}{u8:List D}(e:t++x::r=S)(h:SeenS bd.length W w S t ks)(ha:u8.length=(my bd.length W w S t).length):
 ∃Az ks',SeenS bd.length W w S (t++[x]) ks'/\Az.length=(my bd.length W w S (t++[x])).length/\Tv (JY (brd bd) (.int (w:Int)) (cR S (og bd.length W w S)) S u8 ks (fz (cD x)) none)=ae (.nx (JY (brd bd) (.int (w:Int)) (cR S (og bd.length W w S)) S Az ks' none none)):=by
 have Qt:x∈S:=by rw[<-e];simp
 have hx:=ig x Qt;have hn:=RiseC.nodup hS;have hl:S.length<=bd.length*W:=jd hn ig;have yY:S.length<=64:=by omega
 have ro:=hS;rw[<-e] at ro;have S7:∀y∈t,y∈S:=λy hy=>by rw[<-e];simp[hy]
 have wt:∀y∈t,rank W y<rank W x:=λy hy=>(eh (ig y (S7 y hy)) hx).mp ((Zn.mp ro).2.2 y hy x (Wh ..));have AY:∀y∈r,rank W x<rank W y:=λy hy=>(eh hx (ig y (by rw[<-e];simp[hy]))).mp ((XB.mp (Zn.mp ro).2.1).1 y hy);have SR:ks.length<=64:=by have:=fk h.nd h.on;omega
 have KI:u8.length<=64:=by
  rw[ha];have h1:(my bd.length W w S t).length<=t.length:=by unfold my;exact Xg ..
  have h2:t.length<=S.length:=by rw[<-e,Wj];omega
  omega
 have ht:yk (cE (d2 (gm true) (dV 6) (dV 5))) (JY (brd bd) (.int (w:Int)) (cR S (og bd.length W w S)) S u8 ks (fz (cD x)) none)=ae (!decide (x∈ks)):=
  Ac (gj ((aP (x:=cD x) (y:= .dct (ks.map keyOf) (aT ks)) rfl rfl).trans (kL (neg:=true) (by simp[aT]))))
 by_cases hk:x∈ks
 ·rw[acB hk] at ht;obtain⟨m,hm,hc⟩:=(h.mem x).mp hk;have hf:¬NY bd.length W w S x:=λq=>by
   have:=q m (hc.symm hw ig (S7 m hm));have:=wt m hm;omega
  refine⟨u8,ks,⟨h.nd,h.on,λy=>?_⟩,by rw[uV,acz hf];exact ha,(aX (dr ht rfl)).trans rfl⟩;rw[h.mem y];constructor
  ·rintro⟨m,hm,q⟩;exact⟨m,by simp[hm],q⟩
  ·rintro⟨n,OK,q⟩;rcases W6.mp OK with z | z
   ·exact⟨n,z,q⟩
   ·rw[W2.mp z] at q;exact⟨m,hm,hc.trans q⟩
 ·rw[acC hk] at ht;have hf:NY bd.length W w S x:=λy hy=>by
   have Tc:=hy.mem hw Qt;rw[<-e] at Tc;rcases W6.mp Tc with q | q
   ·exact acE ((h.mem x).mpr ⟨y,q,hy.symm hw ig Qt⟩) hk
   ·rcases Wu.mp q with q | q
    ·rw[q];exact Wr _
    ·exact XX (AY y q)
  obtain⟨l,vs,l1,l2,l3,l4,l5⟩:=tR (nb:=og bd.length W w S) yY (Bf hw) Qt;have UQ:l.length<=64:=by have:=fk l1 l2;omega
  refine⟨u8++[cL l],(bj l).foldl b9 ks,⟨yV h.nd,λy hy=>?_,λy=>?_⟩,by rw[uV,acy hf,Wj,Wj,ha];rfl,?_⟩
  ·rcases((la (bj l) ks).2.1 y).mp hy with q | q
   ·exact h.on y q
   ·exact l2 y (dD.mp q)
  ·rw[(la (bj l) ks).2.1 y,dD,h.mem y,l3 y];constructor
   ·rintro(⟨m,hm,q⟩ | q)
    ·exact⟨m,by simp[hm],q⟩
    ·exact⟨x,by simp,q⟩
   ·rintro⟨m,hm,q⟩;rcases W6.mp hm with z | z
    ·exact .inl ⟨m,z,q⟩
    ·rw[W2.mp z] at q;exact .inr q
  ·refine(aX (Z':=JY (brd bd) (.int (w:Int)) (cR S (og bd.length W w S)) S (u8++[cL l]) ((bj l).foldl b9 ks) (fz (cD x)) (fz (cL l))) (dJ ht (ak (Z':=JY (brd bd) (.int (w:Int)) (cR S (og bd.length W w S)) S u8 ks (fz (cD x)) (fz (cL l))) ((aL ((cz (a7 ((aj (ds:=[cR S (og bd.length W w S),cD x]) rfl rfl).trans l5) rfl)).trans (Gd UQ))).trans rfl) (ak (Z':=JY (brd bd) (.int (w:Int)) (cR S (og bd.length W w S)) S (u8++[cL l]) ks (fz (cD x)) (fz (cL l))) ?_ ?_)))).trans rfl
   ·show (if u8.length<lim then ae (Out.nx _) else ah)=_;rw[acy (by rw[cq];omega)];rfl
   ·exact(Ai (ks:=ks) (l:=l) rfl ((aj (ds:=[cL l]) rfl rfl).trans (kP (by omega))) (by omega) (λ_=>Ce hg.r8 hg.w8 (mZ _) λy hy=>ig y (l2 y (dD.mp hy)))).trans rfl
theorem CY(hg:Brd bd W)(hs:bd.length*W<64)(hw:Ways w)(hS:RiseC S)(ig:∀y∈S,On bd.length W y):∀(r t ks:List Cell) (u8:List D),t++r=S->SeenS bd.length W w S t ks->u8.length=(my bd.length W w S t).length->
 ∃Az ks',Az.length=(my bd.length W w S S).length/\forL (putN 6) Tv (r.map cD) (JY (brd bd) (.int (w:Int)) (cR S (og bd.length W w S)) S u8 ks none none)=ae (.nx (JY (brd bd) (.int (w:Int)) (cR S (og bd.length W w S)) S Az ks' none none))
 |[],t,ks,u8,e,h,ha=>by
  rw[WU] at e;subst e;exact⟨u8,ks,ha,rfl⟩
 |x::r,t,ks,u8,e,h,ha=>by
  obtain⟨a1,k1,h1,h2,h3⟩:=J0 hg hs hw hS ig e h ha;obtain⟨a2,k2,g1,g2⟩:=CY hg hs hw hS ig r (t++[x]) k1 a1 (by rw[Xk];exact e) h1 h2;exact⟨a2,k2,g1,(cZ rfl h3).trans g2⟩
theorem Ex(hg:Brd bd W)(hs:bd.length*W<64)(hw:Ways w)(hS:RiseC S)(ig:∀y∈S,On bd.length W y):∃ds:List D,ds.length=(my bd.length W w S S).length/\jk [brd bd,cL S, .int (w:Int)]=ae (.lst ds):=by
 obtain⟨u8,ks,h1,h2⟩:=CY hg hs hw hS ig S [] [] [] rfl ⟨YM,(λ_ h=>by cases h),λy=>by simp⟩ rfl;exact⟨u8,h1,bg (ak (Z':=[fz (brd bd),fz (cL S),fz (.int (w:Int)),fz (cR S (og bd.length W w S)),none,none,none,none]) ((aL ((aj (ds:=[brd bd,cL S, .int (w:Int)]) rfl rfl).trans (Gk hg hw (RiseC.nodup hS) ig))).trans rfl) (ak (Z':=[fz (brd bd),fz (cL S),fz (.int (w:Int)),fz (cR S (og bd.length W w S)),some (.ow (.lst [])),none,none,none]) rfl (ak (Z':=JY (brd bd) (.int (w:Int)) (cR S (og bd.length W w S)) S [] [] none none) rfl (ak (cw (dI rfl h2)) rfl))))⟩
end
end K1
namespace K1
open PySem L2 L3 HT
theorem De:∀l:List Nat,qz (l.map sg)=some (l.map λc=>(⟨#[c]⟩:Str))
 |[]=>rfl
 |c::r=>by
  show (qz (r.map sg)).map _=_;rw[De r];rfl
theorem B6:∀l:List Nat,e_ (l.map λc=>(⟨#[c]⟩:Str))=jL l
 |[]=>rfl
 |c::r=>by
  refine xY ?_;show ((⟨#[c]⟩:Str)++e_ (r.map λc=>(⟨#[c]⟩:Str))).cps.toList=_;rw[qO,B6 r,eA,eA];rfl
theorem Hv:∀l:List Nat,((l.map λc=>(⟨#[c]⟩:Str)).map (·.length)).sum=l.length
 |[]=>rfl
 |c::r=>by
  show 1+((r.map λc=>(⟨#[c]⟩:Str)).map (·.length)).sum=_;rw[Hv r,Wl];omega
theorem Cu{l:List Nat}(h:l.length<=4096):joinM (.str "") [.lst (l.map sg)]=ae (.str (jL l)):=by
 show (match qz (l.map sg) with | some (xs:List Str)=>if ("":Str).length=0/\(xs.map λx:Str=>x.length).sum<=lim then ae (D.str (e_ xs)) else ah | none=>ah)=_;rw[De];show (if ("":Str).length=0/\((l.map λc=>(⟨#[c]⟩:Str)).map λx:Str=>x.length).sum<=lim then ae (D.str (e_ (l.map λc=>(⟨#[c]⟩:Str)))) else ah)=_;rw[acy ⟨rfl,by have:=Hv l;rw[cq];exact WM (Nat.le_of_eq this) h⟩,B6]
theorem qD(c:Nat):FV ⟨#[c]⟩=decide (c∈[97,98,99,100,101,102]):=StrLaws.found_one "abcdef" c
abbrev BX:List Nat:=[97,98,99,100,101,102]
theorem Ka{W:Nat}{r:Str}(h:Row W r){c:Nat}(hc:c∈r.cps.toList):c∈[97,98,99,100,101,102]:=by
 have:=h.let' c hc;rw[qD] at this;exact acD this
def H_(bd:List Str):List Nat:=(bd.map (·.cps.toList)).flatten
theorem zj{bd:List Str}{c:Nat}:c∈H_ bd↔∃r∈bd,c∈r.cps.toList:=by
 unfold H_;rw[List.mem_flatten];constructor
 ·rintro⟨l,hl,h⟩;obtain⟨r,hr,rfl⟩:=WC.mp hl;exact⟨r,hr,h⟩
 ·rintro⟨r,hr,h⟩;exact⟨_,WC.mpr ⟨r,hr,rfl⟩,h⟩
theorem E3{bd:List Str}{W:Nat}(hg:Brd bd W){c:Nat}(h:c∈H_ bd):c∈BX:=by
 obtain⟨r,hr,h⟩:=zj.mp h;exact Ka (hg.rows r hr) h
theorem Jm{bd:List Str}{W:Nat}(hg:Brd bd W){c:Cell}(hc:On bd.length W c):lt bd c∈H_ bd:=by
 have h1:c.1<bd.length:=hc.1;have hr:(bd.getD c.1 ⟨#[]⟩).cps.toList.length=W:=(hg.rows _ (getD_mem h1)).len;have h2:c.2<(bd.getD c.1 ⟨#[]⟩).cps.toList.length:=by rw[hr];exact hc.2
 refine zj.mpr ⟨_,getD_mem h1,?_⟩;show ch (bd.getD c.1 ⟨#[]⟩) c.2∈_;generalize bd.getD c.1 ⟨#[]⟩=r at h2;unfold ch;rw[WK,Wi h2];exact Yp h2
theorem vQ{bd:List Str}{i j:Nat}(hi:i<bd.length)(hj:j<bd[i].cps.toList.length):at2 bd i j=bd[i].cps.toList[j]:=by
 unfold at2 ch;rw[WK (l:=bd),Wi hi,aaM,WK,Wi hj,aaM]
theorem FH{α:Type}{l:List α}{i:Nat}{x:α}(h:l[i]? =some x)(hi:i<l.length):l[i]=x:=by
 rw[Wi hi] at h;exact WY h
theorem Ic{a b:List Str}{W:Nat}(ha:∀r∈a,r.length=W)(hb:∀r∈b,r.length=W)(hl:a.length=b.length)(h:∀i j,i<a.length->j<W->at2 a i j=at2 b i j):a=b:=by
 refine aaT hl λi h1 h2=>?_;have w1:a[i].cps.toList.length=W:=ha _ (Yp h1);have w2:b[i].cps.toList.length=W:=hb _ (Yp h2);refine xY (aaT (by rw[w1,w2]) λj q1 q2=>?_);rw[<-vQ h1 q1,<-vQ h2 q2];exact h i j h1 (by omega)
def CF(R W:Nat)(g:Nat->Nat->Nat):List Str:=(WD R).map λi=>jL ((WD W).map (g i))
theorem kU(R W:Nat)(g:Nat->Nat->Nat):(CF R W g).length=R:=by simp[CF]
theorem wO{R W:Nat}{g:Nat->Nat->Nat}:∀r∈CF R W g,r.length=W:=λr hr=>by
 obtain⟨i,_,rfl⟩:=WC.mp hr;rw[kR,Wc,Y_]
theorem Gg{R W:Nat}{g:Nat->Nat->Nat}{i j:Nat}(hi:i<R)(hj:j<W):at2 (CF R W g) i j=g i j:=by
 have h1:i<(CF R W g).length:=by rw[kU];exact hi
 have e0:(CF R W g)[i]? =some (jL ((WD W).map (g i))):=by
  unfold CF;rw[Wz,Zr hi];rfl
 have e1:(CF R W g)[i].cps.toList=(WD W).map (g i):=by rw[FH e0 h1,eA]
 have h2:j<(CF R W g)[i].cps.toList.length:=by rw[e1,Wc,Y_];exact hj
 rw[vQ h1 h2];have:(CF R W g)[i].cps.toList[j]? =some (g i j):=by rw[e1,Wz,Zr hj];rfl
 exact FH this h2
theorem Mv{bd:List Str}{R W:Nat}{g:Nat->Nat->Nat}(hl:bd.length=R)(hr:∀r∈bd,r.length=W)(h:∀i j,i<R->j<W->g i j=at2 bd i j):CF R W g=bd:=
 Ic (W:=W) wO hr ((kU ..).trans hl.symm) λi j hi hj=>by
  rw[kU] at hi;rw[Gg hi hj,h i j hi hj]
theorem Gh{R W:Nat}{g:Nat->Nat->Nat}(r1:1<=R)(r5:R<=5)(w1:1<=W)(w5:W<=5)(h:∀i j,i<R->j<W->g i j∈BX):Good (CF R W g) W:=by
 refine⟨by rw[kU];exact r1,by rw[kU];exact r5,w1,w5,λr hr=>⟨wO r hr,λc hc=>?_⟩⟩;obtain⟨i,hi,rfl⟩:=WC.mp hr;rw[eA] at hc;obtain⟨j,hj,rfl⟩:=WC.mp hc;exact(qD _).trans (acB (h i j (XW.mp hi) (XW.mp hj)))
theorem B1{bd:List Str}{W i j:Nat}(hg:Brd bd W)(hi:i<bd.length)(hj:j<W):at2 bd i j∈BX:=E3 hg (Jm (c:=(i,j)) hg ⟨hi,hj⟩)
def dj(bd:List Str)(W:Nat)(some:List Cell)(c:Nat):List Str:=CF bd.length W λi j=>if (i,j)∈some then c else at2 bd i j
theorem jO{bd:List Str}{W:Nat}(hg:Brd bd W){so:D}{l ks:List Cell}{ds:List D}(hk:d6 [so]=ae (.dct (ks.map keyOf) ds))(hl:ks.length=ds.length)(hm:∀x,x∈ks↔x∈l)(c:Nat):bA [brd bd,so,sg c]=ae (brd (dj bd W l c)):=by
 have h8:=hg.r8;have w8:=hg.w8;have row:∀{i:Nat},i<bd.length->∀{x4 x5:Option Sl},dM Cs joinM (dC (.str "")) (aC (bc 0 (cj (dV 6)) bX (EN (cE (d2 (gm false) (dV 0) (dV 4))) (dV 3) (aw 2 cb (aC (dV 1) (aC (dV 0) aN))))) aN) [fz (brd bd),fz so,fz (sg c),fz (.dct (ks.map keyOf) ds),x4,x5,fz (.lst ((cy W i).map cD))]=ae (.str (jL ((WD W).map λj=>if (i,j)∈l then c else at2 bd i j))):=by
  intro i hi x4 x5;have cm:bc 0 (cj (dV 6)) bX (EN (cE (d2 (gm false) (dV 0) (dV 4))) (dV 3) (aw 2 cb (aC (dV 1) (aC (dV 0) aN)))) [fz (brd bd),fz so,fz (sg c),fz (.dct (ks.map keyOf) ds),x4,x5,fz (.lst ((cy W i).map cD))]=ae (.lst (((WD W).map λj=>if (i,j)∈l then c else at2 bd i j).map sg)):=by
   refine bK (ds:=(cy W i).map cD) rfl ?_ (by simp[cq];omega);unfold cy;rw[W7,W7];refine dN (cD∘λk=>(i,k)) _ _ λj hj=>?_;have hj:=XW.mp hj;have hc:On bd.length W (i,j):=⟨hi,hj⟩
   rw[iA];have e1:cE (d2 (gm false) (dV 0) (dV 4)) (fz (cD (i,j))::[fz (brd bd),fz so,fz (sg c),fz (.dct (ks.map keyOf) ds),x4,x5,fz (.lst ((cy W i).map cD))])=ae (decide ((i,j)∈ks)):=gj ((aP (x:=cD (i,j)) (y:= .dct (ks.map keyOf) ds) rfl rfl).trans (kL hl));have e2:EN (cE (d2 (gm false) (dV 0) (dV 4))) (dV 3) (aw 2 cb (aC (dV 1) (aC (dV 0) aN))) (fz (cD (i,j))::[fz (brd bd),fz so,fz (sg c),fz (.dct (ks.map keyOf) ds),x4,x5,fz (.lst ((cy W i).map cD))])=ae (sg (if (i,j)∈l then c else at2 bd i j)):=by
    rw[Kv e1];by_cases h:(i,j)∈l
    ·rw[acy h,acy (acB ((hm _).mpr h))];rfl
    ·rw[acz h,acz (λz=>h ((hm _).mp (acD z)))];exact(aj (ds:=[brd bd,cD (i,j)]) rfl rfl).trans (iF hg hc)
   exact(acH (· >>=λy=>ae (some y)) e2).trans rfl
  show (if Cs (.str "") then((aC _ aN) [fz (brd bd),fz so,fz (sg c),fz (.dct (ks.map keyOf) ds),x4,x5,fz (.lst ((cy W i).map cD))]>>=λds=>joinM (.str "") ds) else ah)=_;rw[acy (show Cs (.str "")=true from rfl),a7 cm (xs:=[]) rfl,ay];exact Cu (by simp;omega)
 have lp:=el (put:=putN 5) (body:=bH [5,6] (az (aW 6 (aw 2 bY (aC (dV 0) (aC (dV 5) aN)))) (gA 4 (dM Cs joinM (dC (.str "")) (aC (bc 0 (cj (dV 6)) bX (EN (cE (d2 (gm false) (dV 0) (dV 4))) (dV 3) (aw 2 cb (aC (dV 1) (aC (dV 0) aN))))) aN))))) (λ(k:Nat)=>D.int (k:Int)) (λu8=>[fz (brd bd),fz so,fz (sg c),fz (.dct (ks.map keyOf) ds),some (.ow (.lst u8)),none,none]) (λi=>[.str (jL ((WD W).map λj=>if (i,j)∈l then c else at2 bd i j))]) (B:=100) (WD bd.length) [] (by
  have:∀l':List Nat,(l'.flatMap λi=>[D.str (jL ((WD W).map λj=>if (i,j)∈l then c else at2 bd i j))]).length=l'.length:=by
   intro l';induction l' with
   |nil=>rfl
   |cons a l' ih=>rw[Xj,Wj,ih,Wl];simp;omega
  rw[WJ,this,Y_];omega) λi hi u8 ha=>by
  have hi:=XW.mp hi;refine⟨[fz (brd bd),fz so,fz (sg c),fz (.dct (ks.map keyOf) ds),some (.ow (.lst u8)),fz (.int (i:Int)),none],rfl,?_⟩;refine(aX (Z':=[fz (brd bd),fz so,fz (sg c),fz (.dct (ks.map keyOf) ds),some (.ow (.lst (u8++[.str (jL ((WD W).map λj=>if (i,j)∈l then c else at2 bd i j))]))),fz (.int (i:Int)),fz (.lst ((cy W i).map cD))]) (ak (Z':=[fz (brd bd),fz so,fz (sg c),fz (.dct (ks.map keyOf) ds),some (.ow (.lst u8)),fz (.int (i:Int)),fz (.lst ((cy W i).map cD))]) ((aL ((aj (ds:=[brd bd, .int (i:Int)]) rfl rfl).trans (iP hg i))).trans rfl) ?_)).trans rfl;show (dM Cs joinM _ _ _>>=λd=>if u8.length<lim then ae (Out.nx _) else ah)=_;rw[row hi,ay,acy (by rw[cq];rw[Wj] at ha;simp at ha;omega)];rfl
 refine bg (ak (Z':=[fz (brd bd),fz so,fz (sg c),fz (.dct (ks.map keyOf) ds),none,none,none]) ((aL ((aj (ds:=[so]) rfl rfl).trans hk)).trans rfl) (ak (Z':=[fz (brd bd),fz so,fz (sg c),fz (.dct (ks.map keyOf) ds),some (.ow (.lst [])),none,none]) rfl (ak (cw (dI (xC (n:=bd.length) (A_ (i:=0) rfl) (by omega)) lp)) (a_ ?_))));refine(cz (xs:=[.lst ((WD bd.length).flatMap λi=>[.str (jL ((WD W).map λj=>if (i,j)∈l then c else at2 bd i j))])]) rfl).trans ?_;show ae (D.tup _)=ae (D.tup ((dj bd W l c).map D.str));unfold dj CF;rw[W7];have:∀l':List Nat,(l'.flatMap λi=>[D.str (jL ((WD W).map λj=>if (i,j)∈l then c else at2 bd i j))])=l'.map (D.str∘λi=>jL ((WD W).map λj=>if (i,j)∈l then c else at2 bd i j)):=by
  intro l';induction l' with
  |nil=>rfl
  |cons a l' ih=>rw[Xj,ih];rfl
 rw[this]
theorem o8{bd:List Str}{W:Nat}(hg:Brd bd W){l:List Cell}(hl:l.length<4000)(c:Nat):bA [brd bd,cL l,sg c]=ae (brd (dj bd W l c)):=
 jO hg (kP hl) (by simp[aT]) (λx=>dD) c
theorem J1{bd:List Str}{W:Nat}{l:List Cell}{c i j:Nat}(hi:i<bd.length)(hj:j<W):at2 (dj bd W l c) i j=if (i,j)∈l then c else at2 bd i j:=Gg hi hj
theorem g7(bd:List Str)(W:Nat)(l:List Cell)(c:Nat):(dj bd W l c).length=bd.length:=kU ..
theorem oR{bd:List Str}{W:Nat}(hG:Good bd W){l:List Cell}{c:Nat}(hc:c∈BX):Good (dj bd W l c) W:=Gh hG.r1 hG.r5 hG.w1 hG.w5 λi j hi hj=>by
 split
 ·exact hc
 ·exact B1 hG.brd hi hj
end K1
namespace K1
open PySem PySem.Spec L2 L3
open PyProof.Rows hiding St
section
open Classical
variable{bd:List Str}{W w:Nat}
theorem gh{n1 n2:Cell->List Cell}{Q:Cell->Prop}(hQ:∀u,Q u->∀z,z∈n1 u↔z∈n2 u)(hc:∀u,Q u->∀z∈n1 u,Q z){a:Cell}(ha:Q a):∀{j:Nat}{z:Cell},Rb n1 a j z↔Rb n2 a j z
 |0,z=>Iff.rfl
 |j+1,z=>by
  constructor
  ·rintro(q | ⟨y,q1,q2⟩)
   ·exact .inl ((gh hQ hc ha).mp q)
   ·exact .inr ⟨y,(gh hQ hc ha).mp q1,(hQ y (uX hc ha q1) z).mp q2⟩
  ·rintro(q | ⟨y,q1,q2⟩)
   ·exact .inl ((gh hQ hc ha).mpr q)
   ·have:=(gh hQ hc ha).mpr q1;exact .inr ⟨y,this,(hQ y (uX hc ha this) z).mpr q2⟩
noncomputable def gi(bd:List Str)(W w:Nat)(x:Cell):List Cell:=(aG bd W w x).filter λy=>!decide (y=x)
noncomputable def Bx(bd:List Str)(W w:Nat)(x:Cell):Nat:=(my bd.length W w (gi bd W w x) (gi bd W w x)).length
theorem fQ(hw:Ways w){x y:Cell}(hx:On bd.length W x):y∈aG bd W w x↔Cn bd W w x y:=(dE hw hx).mem y
theorem gH(hw:Ways w){x y:Cell}(hx:On bd.length W x):y∈gi bd W w x↔Cn bd W w x y/\y≠x:=by
 unfold gi;rw[WN,fQ hw hx];simp
theorem J9(hw:Ways w){x:Cell}(hx:On bd.length W x):∀y∈gi bd W w x,On bd.length W y:=λy hy=>((gH hw hx).mp hy).1.on hw hx
theorem vB(hw:Ways w){x:Cell}(hx:On bd.length W x):RiseC (gi bd W w x):=(dE hw hx).rise.filter _
theorem Ey(hw:Ways w){m x:Cell}(hm:On bd.length W m)(h:Cn bd W w m x):aG bd W w m=aG bd W w x:=by
 unfold aG;refine ZI λy _=>?_;rw[acF];exact⟨λq=>(h.symm hw hm).trans q,λq=>h.trans q⟩
section
variable{nb:List Str}{x:Cell}{e:Nat}
structure Lone (e:Nat) (bd nb:List Str) (W:Nat) (x:Cell):Prop where
 len:nb.length=bd.length
 on:On bd.length W x
 at':∀y,On bd.length W y->lt nb y=if y=x then e else lt bd y
 ne:∀y,On bd.length W y->lt bd y≠e
theorem Lone.like(h:Lone e bd nb W x)(hw:Ways w){u z:Cell}(hu:On bd.length W u)(Rr:u≠x):z∈bx nb W w u↔z∈bx bd W w u/\z≠x:=by
 rw[cT hw,cT hw,h.len,h.at' u hu,acz Rr];constructor
 ·rintro⟨h1,h2,h3⟩;rw[h.at' z h1] at h3;split at h3
  ·exact acE h3.symm (h.ne u hu)
  ·rename_i q;exact⟨⟨h1,h2,h3⟩,q⟩
 ·rintro⟨⟨h1,h2,h3⟩,h4⟩;exact⟨h1,h2,by rw[h.at' z h1,acz h4];exact h3⟩
theorem Lone.self(h:Lone e bd nb W x)(hw:Ways w){z:Cell}:∀{j:Nat},Rb (bx nb W w) x j z->z=x
 |0,q=>q
 |j+1,q=>q.elim (λq=>h.self hw q) λ⟨y,q1,q2⟩=>by
  have e:=h.self hw q1;subst e;have:=(cT hw).mp q2;rw[h.len] at this;rw[h.at' y h.on,acy rfl,h.at' z this.1] at this;by_cases q:z=y
  ·exact q
  ·rw[acz q] at this;exact acE this.2.2 (h.ne z this.1)
theorem Lone.cn_out(h:Lone e bd nb W x)(hw:Ways w){y z:Cell}(hy:On bd.length W y)(hn:¬Cn bd W w x y):Cn nb W w y z↔Cn bd W w y z:=by
 have hQ:∀u,(On bd.length W u/\¬Cn bd W w x u)->∀z,z∈bx nb W w u↔z∈bx bd W w u:=λu ⟨h1,h2⟩ z=>by
  have Rr:u≠x:=λq=>h2 (q▸Cn.refl);rw[h.like hw h1 Rr];refine⟨λq=>q.1,λq=>⟨q,λe=>h2 ?_⟩⟩;subst e;exact(Cn.refl:Cn bd W w z z).step (lU hw h1 q)
 have hc:∀u,(On bd.length W u/\¬Cn bd W w x u)->∀z∈bx nb W w u,On bd.length W z/\¬Cn bd W w x z:=λu hu z hz=>by
  have hz:=(hQ u hu z).mp hz;have Vm:=((cT hw).mp hz).1;exact⟨Vm,λq=>hu.2 (q.step (lU hw hu.1 hz))⟩
 exact⟨λ⟨j,q⟩=>⟨j,(gh hQ hc ⟨hy,hn⟩).mp q⟩,λ⟨j,q⟩=>⟨j,(gh hQ hc ⟨hy,hn⟩).mpr q⟩⟩
theorem Lone.cn_in(h:Lone e bd nb W x)(hw:Ways w){y z:Cell}(hy:y∈gi bd W w x):Cn nb W w y z↔CnS bd.length W w (gi bd W w x) y z:=by
 have hQ:∀u,u∈gi bd W w x->∀z,z∈bx nb W w u↔z∈og bd.length W w (gi bd W w x) u:=λu hu z=>by
  have L_:=(gH hw h.on).mp hu;have Vf:=L_.1.on hw h.on;rw[h.like hw Vf L_.2,cT hw,mO hw,gH hw h.on];constructor
  ·rintro⟨⟨h1,h2,h3⟩,h4⟩;exact⟨h1,h2,L_.1.step ((cT hw).mpr ⟨h1,h2,h3⟩),h4⟩
  ·rintro⟨h1,h2,h3,h4⟩;exact⟨⟨h1,h2,(h3.letter hw).trans (L_.1.letter hw).symm⟩,h4⟩
 have hc:∀u,u∈gi bd W w x->∀z∈bx nb W w u,z∈gi bd W w x:=λu hu z hz=>((mO hw).mp ((hQ u hu z).mp hz)).2.2;exact⟨λ⟨j,q⟩=>⟨j,(gh hQ hc hy).mp q⟩,λ⟨j,q⟩=>⟨j,(gh hQ hc hy).mpr q⟩⟩
theorem split_len{α:Type}(p q:α->Bool):∀l:List α,(l.filter p).length=(l.filter λy=>p y&&q y).length+(l.filter λy=>p y&& !q y).length
 |[]=>rfl
 |a::l=>by
  have ih:=split_len p q l;rw[YN,YN,YN];cases h1:p a<;>cases h2:q a<;>simp_all<;>omega
theorem Lone.many(h:Lone e bd nb W x)(hw:Ways w):(a5 nb W w).length=(a5 bd W w).length+Bx bd W w x:=by
 obtain⟨L,hL⟩:=kQ (bd:=bd) (W:=W) hw;have hm:=hL x h.on;have KQ:=hm.on hw h.on;unfold a5;rw[Wc,Wc,h.len];unfold b5;rw[split_len (λy=>decide (Least nb W w y y)) (λy=>decide (Cn bd W w x y)),split_len (λy=>decide (Least bd W w y y)) (λy=>decide (Cn bd W w x y))];have e1:(ax bd.length W).filter (λy=>decide (Least nb W w y y)&& !decide (Cn bd W w x y))=(ax bd.length W).filter (λy=>decide (Least bd W w y y)&& !decide (Cn bd W w x y)):=by
  refine ZI λy hy=>?_;have hy:=aB.mp hy;by_cases q:Cn bd W w x y
  ·rw[acB q];simp
  ·have:Least nb W w y y↔Least bd W w y y:=by
    unfold Least;exact⟨λ⟨_,g⟩=>⟨Cn.refl,λz hz=>g z ((h.cn_out hw hy q).mpr hz)⟩,λ⟨_,g⟩=>⟨Cn.refl,λz hz=>g z ((h.cn_out hw hy q).mp hz)⟩⟩
   rw[acF.mpr this]
 have e2:(ax bd.length W).filter (λy=>decide (Least bd W w y y)&&decide (Cn bd W w x y))=[L x]:=by
  refine fT ((cO _ _).filter _) (YX ..) λy=>?_;rw[WN,aB,W2,Wv,acA,acA];constructor
  ·rintro⟨h1,h2,h3⟩;exact(h2.move hw h1 (h3.symm hw h.on)).one hw h.on hm
  ·rintro rfl;exact⟨KQ,hm.self hw h.on,hm.1⟩
 have e3:((ax bd.length W).filter (λy=>decide (Least nb W w y y)&&decide (Cn bd W w x y))).length=1+Bx bd W w x:=by
  rw[split_len _ (λy=>decide (y=x))];have f1:(ax bd.length W).filter (λy=>(decide (Least nb W w y y)&&decide (Cn bd W w x y))&&decide (y=x))=[x]:=by
   refine fT ((cO _ _).filter _) (YX ..) λy=>?_;rw[WN,aB,W2,Wv,acA];constructor
   ·rintro⟨_,_,q⟩;exact q
   ·rintro rfl;refine⟨h.on,?_,rfl⟩;rw[Wv,acA,acA];exact⟨⟨Cn.refl,λz ⟨j,q⟩=>by rw[h.self hw q];exact Wr _⟩,Cn.refl⟩
  have f2:(ax bd.length W).filter (λy=>(decide (Least nb W w y y)&&decide (Cn bd W w x y))&& !decide (y=x))=my bd.length W w (gi bd W w x) (gi bd W w x):=by
   refine fT ((cO _ _).filter _) ((vB hw h.on).filter _) λy=>?_;unfold my;rw[WN,WN,aB,gH hw h.on];simp only[Wv,acA,Bool.not_eq_true',decide_eq_false_iff_not];constructor
   ·rintro⟨h1,⟨h2,h3⟩,h4⟩;exact⟨⟨h3,h4⟩,λz hz=>h2.2 z ((h.cn_in hw ((gH hw h.on).mpr ⟨h3,h4⟩)).mpr hz)⟩
   ·rintro⟨⟨h3,h4⟩,h5⟩;exact⟨h3.on hw h.on,⟨⟨Cn.refl,λz hz=>h5 z ((h.cn_in hw ((gH hw h.on).mpr ⟨h3,h4⟩)).mp hz)⟩,h3⟩,h4⟩
  rw[f1,f2];rfl
 rw[e1,e2,e3];show 1+Bx bd W w x+_=1+_+Bx bd W w x;omega
end
end
section
open Classical
variable{bd:List Str}{W w:Nat}
theorem DY(hg:Brd bd W)(hs:bd.length*W<64)(hw:Ways w){x:Cell}(hx:On bd.length W x):bO [brd bd, .int (w:Int),cL (aG bd W w x),cD x]=ae (.bl (decide (1<Bx bd W w x))):=by
 obtain⟨ds,h1,h2⟩:=Ex hg hs hw (vB hw hx) (J9 hw hx);have LP:(aG bd W w x).length<=bd.length*W:=jd (RiseC.nodup (dE hw hx).rise) λy hy=>((fQ hw hx).mp hy).on hw hx;have cm:bc 0 (cj (dV 2)) (cE (d2 mi (dV 0) (dV 4))) (dV 0) [fz (brd bd),fz (.int (w:Int)),fz (cL (aG bd W w x)),fz (cD x),none]=ae (cL (gi bd W w x)):=by
  refine bK (NP (i:=2) (ds:=(aG bd W w x).map cD) rfl) (gF cD _ _ λy _=>?_) ?_
  ·rw[qX,gj (b:=!decide (y=x)) ((aP (x:=cD y) (y:=cD x) rfl rfl).trans (K5 y x)),ay];cases (!decide (y=x))<;>rfl
  ·rw[Wc,cq];exact WM (Xg ..) (by omega)
 refine bg (ak (Z':=[fz (brd bd),fz (.int (w:Int)),fz (cL (aG bd W w x)),fz (cD x),fz (cL (gi bd W w x))]) ((aL cm).trans rfl) (a_ ((aP (x:= .int (ds.length:Int)) (y:= .int ((1:Nat):Int)) ((cz (xs:=[.lst ds]) (a7 ((aj (ds:=[brd bd,cL (gi bd W w x), .int (w:Int)]) rfl rfl).trans h2) rfl)).trans rfl) rfl).trans ((K3 _ _).trans ?_))));rw[h1];rfl
noncomputable def qZ(bd:List Str)(W w:Nat):List Cell:=(ax bd.length W).filter λx=>decide (1<Bx bd W w x)
theorem DG:RiseC (qZ bd W w):=(cO _ _).filter _
theorem Ef{x:Cell}:x∈qZ bd W w↔On bd.length W x/\1<Bx bd W w x:=by
 unfold qZ;rw[WN,aB,acA]
def TU:DS:=(bH [3] (BE 2 (bc 0 (cj (dV 3)) (bW (aw 4 bO (aC (dV 1) (aC (dV 2) (aC (dV 4) (aC (dV 0) aN)))))) (dV 0))))
theorem ri{α:Type}(f:α->List Cell):∀l:List α,(l.flatMap λm=>(f m).map cD)=(l.flatMap f).map cD
 |[]=>rfl
 |a::l=>by rw[Xj,Xj,Xo,ri f l]
theorem Fj(hg:Brd bd W)(hs:bd.length*W<64)(hw:Ways w):jQ [brd bd, .int (w:Int)]=ae (cL (qZ bd W w)):=by
 let f:Cell->List Cell:=λm=>(aG bd W w m).filter λx=>decide (1<Bx bd W w x)
 have IU:∀m∈b5 bd W w (ax bd.length W),∀x,x∈f m->x∈aG bd W w m:=λm _ x hx=>(WN.mp hx).1;have EU:((b5 bd W w (ax bd.length W)).flatMap f).Nodup:=by
  refine Cd _ Jo (λa ha=>(RiseC.nodup (dE hw (fe ha)).rise).filter _) λa ha b hb x hx hy=>?_;exact(zc hw ha (IU a ha x hx)).one hw ((((dE hw (fe ha)).mem x).mp (IU a ha x hx)).on hw (fe ha)) (zc hw hb (IU b hb x hy))
 have ig:∀x∈(b5 bd W w (ax bd.length W)).flatMap f,On bd.length W x:=λx hx=>by
  obtain⟨m,hm,q⟩:=X6.mp hx;exact((fQ hw (fe hm)).mp (IU m hm x q)).on hw (fe hm)
 have T0:((b5 bd W w (ax bd.length W)).flatMap f).length<=bd.length*W:=jd EU ig;have KS:lJ ((b5 bd W w (ax bd.length W)).flatMap f)=qZ bd W w:=by
  refine fT (mf EU) DG λx=>?_;rw[kT,Ef];constructor
  ·intro hx;obtain⟨m,hm,q⟩:=X6.mp hx;exact⟨ig x hx,acD (WN.mp q).2⟩
  ·rintro⟨h1,h2⟩;obtain⟨L,hL⟩:=kQ (bd:=bd) (W:=W) hw;have hm:=hL x h1;exact X6.mpr ⟨L x,zk.mpr ⟨aB.mpr (hm.on hw h1),hm.self hw h1⟩,WN.mpr ⟨(fQ hw (hm.on hw h1)).mpr (hm.1.symm hw h1),acB h2⟩⟩
 have lp:=el (put:=putN 3) (body:=TU) (λm=>cL (aG bd W w m)) (λu8=>[fz (brd bd),fz (.int (w:Int)),some (.ow (.lst u8)),none]) (λm=>(f m).map cD) (B:=64) (b5 bd W w (ax bd.length W)) [] (by rw[WJ,ri,Wc];omega) λm hm u8 ha=>by
  have KQ:=fe hm;refine⟨[fz (brd bd),fz (.int (w:Int)),some (.ow (.lst u8)),fz (cL (aG bd W w m))],rfl,?_⟩;have cm:bc 0 (cj (dV 3)) (bW (aw 4 bO (aC (dV 1) (aC (dV 2) (aC (dV 4) (aC (dV 0) aN)))))) (dV 0) [fz (brd bd),fz (.int (w:Int)),some (.ow (.lst u8)),fz (cL (aG bd W w m))]=ae (cL (f m)):=by
   refine bK (NP (i:=3) (ds:=(aG bd W w m).map cD) rfl) (gF cD _ _ λy hy=>?_) ?_
   ·have hc:=(fQ hw KQ).mp hy;have e:=DY hg hs hw (hc.on hw KQ);rw[<-Ey hw KQ hc] at e;have e2:bW (aw 4 bO (aC (dV 1) (aC (dV 2) (aC (dV 4) (aC (dV 0) aN))))) (fz (cD y)::[fz (brd bd),fz (.int (w:Int)),some (.ow (.lst u8)),fz (cL (aG bd W w m))])=ae (decide (1<Bx bd W w y)):=eK ((aj (ds:=[brd bd, .int (w:Int),cL (aG bd W w m),cD y]) rfl rfl).trans e);rw[qX,e2,ay];cases decide (1<Bx bd W w y)<;>rfl
   ·rw[Wj] at ha;rw[cq];omega
  refine(aX (Z':=[fz (brd bd),fz (.int (w:Int)),some (.ow (.lst (u8++(f m).map cD))),fz (cL (aG bd W w m))]) ?_).trans rfl;show (bc 0 (cj (dV 3)) (bW (aw 4 bO (aC (dV 1) (aC (dV 2) (aC (dV 4) (aC (dV 0) aN)))))) (dV 0) [fz (brd bd),fz (.int (w:Int)),some (.ow (.lst u8)),fz (cL (aG bd W w m))]>>=λd=>lstM d>>=λes=>if u8.length+es.length<=lim then ae (Out.nx _) else ah)=_;rw[cm,ay];show (if u8.length+((f m).map cD).length<=lim then ae (Out.nx _) else ah)=_;rw[Wj] at ha;rw[acy (by rw[cq];omega)];rfl
 rw[WJ,ri] at lp;refine bg (ak (bL ((aj (ds:=[brd bd]) rfl rfl).trans hg.nb)) (ak (bL ((aj (ds:=[.int (w:Int)]) rfl rfl).trans hw.nw)) (ak (Z':=[fz (brd bd),fz (.int (w:Int)),some (.ow (.lst [])),none]) rfl (ak (cw (dI (ds:=(b5 bd W w (ax bd.length W)).map λm=>cL (aG bd W w m)) ?_ lp)) ?_))))
 ·show (aw 2 bU (aC (dV 0) (aC (dV 1) aN)) _>>=lstM)=_;rw[(aj (ds:=[brd bd, .int (w:Int)]) rfl rfl:aw 2 bU (aC (dV 0) (aC (dV 1) aN)) _=_),jH hg hs hw];rfl
 ·refine a_ ((cz (xs:=[cL ((b5 bd W w (ax bd.length W)).flatMap f)]) rfl).trans ((Kj EU (by omega)).trans ?_));rw[KS]
theorem Cz(hg:Brd bd W)(hs:bd.length*W<64)(hw:Ways w){δ ε:DE}{Z:bo}(h1:δ Z=ae (brd bd))(h2:ε Z=ae (.int (w:Int))):dA bu (aC (aw 2 bU (aC δ (aC ε aN))) aN) Z=ae (.int ((a5 bd W w).length:Int)):=by
 refine(cz (xs:=[j7 bd W w]) (a7 ((aj (ds:=[brd bd, .int (w:Int)]) (a7 h1 (a7 h2 rfl)) rfl).trans (jH hg hs hw)) rfl)).trans ?_;rw[sE];show ae (D.int (((a5 bd W w).map cL).length:Int))=_;rw[Wc]
theorem Mz{p:Nat}(h:FV ⟨#[p]⟩=true):dY [sg p]=ae .non:=
 nJ (dr (iB (b:=true) (eK ((aj (ds:=[sg p]) rfl rfl).trans ((fW (d:=sg p) trivial).trans (by show ae (D.bl (true&&FV ⟨#[p]⟩))=_;rw[h];rfl))))) rfl)
theorem jZ(hg:Brd bd W)(hw:Ways w){x:Cell}(hx:On bd.length W x){c:Nat}(hc:c∈BX):bZ [brd bd,cD x, .int (w:Int),sg c]=ae .non:=
 nJ (ak (bL ((aj (ds:=[brd bd]) rfl rfl).trans hg.nb)) (ak (bL ((aj (ds:=[brd bd,cD x]) rfl rfl).trans (hg.nc hx))) (ak (bL ((aj (ds:=[.int (w:Int)]) rfl rfl).trans hw.nw)) (bL ((aj (ds:=[sg c]) rfl rfl).trans (Mz ((qD c).trans (acB hc))))))))
theorem AL(hG:Good bd W)(hs:bd.length*W<64)(hw:Ways w){x:Cell}(hx:On bd.length W x){c:Nat}(hc:c∈BX):gR [brd bd,cD x, .int (w:Int),sg c]=ae (.int (((a5 (dj bd W [x] c) W w).length:Int) - ((a5 bd W w).length:Int))):=by
 have hg:=hG.brd;have hn:=(oR hG (l:=[x]) hc).brd;have U8:(dj bd W [x] c).length*W<64:=by rw[g7];exact hs
 exact bg (ak (bL ((aj (ds:=[brd bd,cD x, .int (w:Int),sg c]) rfl rfl).trans (jZ hg hw hx hc))) (ak (Z':=[fz (brd bd),fz (cD x),fz (.int (w:Int)),fz (sg c),fz (brd (dj bd W [x] c))]) ((aL ((aj (ds:=[brd bd,cL [x],sg c]) rfl rfl).trans (o8 hg (by simp) c))).trans rfl) (a_ ((aP (Cz hn U8 hw rfl rfl) (Cz hg hs hw rfl rfl)).trans rfl))))
theorem Gb{x:Cell}{e:Nat}(hx:On bd.length W x)(jU:∀y,On bd.length W y->lt bd y≠e):Lone e bd (dj bd W [x] e) W x:=by
 refine⟨g7 ..,hx,λy hy=>?_,jU⟩;have:=J1 (bd:=bd) (W:=W) (l:=[x]) (c:=e) hy.1 hy.2;rw[show lt (dj bd W [x] e) y=at2 (dj bd W [x] e) y.1 y.2 from rfl,this];by_cases h:y=x
 ·rw[acy h,acy (by simpa using h)]
 ·rw[acz h,acz (by simpa using h)]
end
end K1
namespace K1
open PySem L2 L3
theorem ft{δ:DE}{Z:bo}{n:Nat}(h:δ Z=a8 n):ki δ Z=a8 n:=by
 unfold ki;rw[h];rfl
theorem fX{a b:DS}{Z:bo}{n:Nat}(h:a Z=a8 n):az a b Z=a8 n:=by
 unfold az;rw[h];rfl
def qr(n:Nat):D:= .tup [.str "refused", .int (n:Int)]
def HH(m:M D):M D:=match m with
 |some (.ex n)=>noex (LV n)
 |r=>r
theorem Dd{a b:DS}{Z:bo}{m:M D}(h:a Z=(m>>=λd=>ae (Out.rt d))):az a b Z=(m>>=λd=>ae (Out.rt d)):=by
 unfold az;rw[h]
 match m with
 |none=>rfl
 |some (.ok a)=>rfl
 |some (.ex n)=>rfl
theorem qL{n:Nat}{τ:DS}{ds:List D}{m:M D}(h:τ (ds.map (λd=>some (Sl.fz d))++Wm (n - ds.length) none)=(m>>=λd=>ae (Out.rt d))):bQ n (Hm τ λk=>noex (LV k)) ds=HH m:=by
 unfold bQ Hm;rw[h]
 match m with
 |none=>rfl
 |some (.ok a)=>rfl
 |some (.ex n)=>rfl
theorem tY{d:D}(h:Plain2 d)(hb:oj d=false):cp [d]=a8 0:=by
 refine dS (dJ (iB (b:=false) (eK ((aj (ds:=[d]) rfl rfl).trans ((mH h).trans (by rw[hb]))))) rfl)
theorem wR{bd:List Str}{W:Nat}(hg:Brd bd W){d:D}(h:Plain2 d)(hb:B7 bd.length W d=false):gc [brd bd,d]=a8 2:=by
 refine dS (dJ (iB (b:=false) (eK ((aj (ds:=[brd bd,d]) rfl rfl).trans ((pq hg h).trans (by rw[hb]))))) rfl)
end K1
namespace K1
open PySem L2 L3 HT
theorem NK{α β:Type}{m:M α}{x:α}{f:α->M β}{r:M β}(h:m=ae x)(h2:f x=r):(m>>=f)=r:=by
 rw[h];exact h2
theorem PZ{r:Str}{c:Nat}(h:c<=r.length):aaD r none (some (c:Int))=jL (r.cps.toList.take c):=by
 have q:=aam (PyProof.Rows.slice_closes_toL (x:=r) (j:=(c:Int)) (by omega) (by omega));rw[q];simp[jL]
theorem Kf{r:Str}{c:Nat}(h:c<=r.length):aaD r (some (c:Int)) none=jL (r.cps.toList.drop c):=by
 have q:=aam (PyProof.Rows.slice_closes_fromL (x:=r) (i:=(c:Int)) (b:=(r.length:Int)) (by omega) (by omega) rfl);rw[q];have e:((r.length:Int) - (c:Int)).toNat=r.length - c:=by omega
 rw[e,Zf,abM (by rw[Yo];exact Wr _)];rfl
theorem CL(a b:List Nat):jL a++jL b=jL (a++b):=xY (by rw[qO,eA,eA,eA])
theorem N9(ds:List D){n:Nat}(h:n<=ds.length):cutD ds none (some (n:Int))=ds.take n:=by
 unfold cutD;have e1:sIx ds.length 0 none=0:=rfl;have e2:sIx ds.length ds.length (some (n:Int))=n:=by
  show (if (n:Int)<0 then((n:Int)+(ds.length:Int)).toNat else min (n:Int).toNat ds.length)=n;rw[acz (by omega),Zf];omega
 rw[e1,e2];rfl
theorem N5(ds:List D){n:Nat}(h:n<=ds.length):cutD ds (some (n:Int)) none=ds.drop n:=by
 unfold cutD;have e1:sIx ds.length 0 (some (n:Int))=n:=by
  show (if (n:Int)<0 then((n:Int)+(ds.length:Int)).toNat else min (n:Int).toNat ds.length)=n;rw[acz (by omega),Zf];omega
 have e2:sIx ds.length ds.length none=ds.length:=rfl;rw[e1,e2,abM (by rw[Yo];exact Wr _)]
section
variable{bd:List Str}{W:Nat}
def gY(r:Str)(c ch:Nat):Str:=jL (r.cps.toList.set c ch)
theorem setB(hg:Brd bd W){x:Cell}(hx:On bd.length W x)(ch:Nat):bd.set x.1 (gY (bd.getD x.1 ⟨#[]⟩) x.2 ch)=dj bd W [x] ch:=by
 have hr:∀r∈bd,r.length=W:=λr hr=>(hg.rows r hr).len;have UR:(gY (bd.getD x.1 ⟨#[]⟩) x.2 ch).length=W:=by
  unfold gY;rw[kR,List.length_set];exact hr _ (getD_mem hx.1)
 refine(Mv (by rw[List.length_set]) (λr hq=>?_) λi j hi hj=>?_).symm
 ·rcases List.mem_or_eq_of_mem_set hq with q | q
  ·exact hr r q
  ·rw[q];exact UR
 ·unfold at2 K1.ch;rw[WK (l:=bd.set _ _),acv];by_cases h:x.1=i
  ·subst h;rw[acy rfl,acy hx.1,aaM];show (if (x.1,j)∈[x] then ch else(bd.getD x.1 ⟨#[]⟩).cps.toList.getD j 0)=(gY (bd.getD x.1 ⟨#[]⟩) x.2 ch).cps.toList.getD j 0;unfold gY;rw[eA,WK (l:=List.set _ _ _),acv];have T0:(bd.getD x.1 ⟨#[]⟩).cps.toList.length=W:=hr _ (getD_mem hx.1);by_cases h2:x.2=j
   ·subst h2;rw[acy (show (x.1,x.2)∈[x] from W2.mpr rfl),acy rfl,acy (by rw[T0];exact hx.2)];rfl
   ·rw[acz (λq:(x.1,j)∈[x]=>h2 (by rw[<-W2.mp q])),acz h2,WK]
  ·rw[acz h,acz (λq:(i,j)∈[x]=>h (by rw[<-W2.mp q])),<-WK]
theorem pd(hg:Brd bd W){x:Cell}(hx:On bd.length W x)(ch:Nat):ck [brd bd, .int (x.1:Int), .int (x.2:Int),sg ch]=ae (brd (dj bd W [x] ch)):=by
 have h8:=hg.r8;have w8:=hg.w8;have U5:(bd.getD x.1 ⟨#[]⟩).length=W:=(hg.rows _ (getD_mem hx.1)).len;have Vi:=hx.1;have Tb:=hx.2;have row:∀{x4:Option Sl},d2 aU (dV 0) (dV 1) [fz (brd bd),fz (.int (x.1:Int)),fz (.int (x.2:Int)),fz (sg ch),x4]=ae (.str (bd.getD x.1 ⟨#[]⟩)):=(aP (x:=brd bd) (y:= .int (x.1:Int)) rfl rfl).trans (wD hx.1);have s1:Io (d2 aU (dV 0) (dV 1)) oN (oS (dV 2)) [fz (brd bd),fz (.int (x.1:Int)),fz (.int (x.2:Int)),fz (sg ch),none]=ae (.str (jL ((bd.getD x.1 ⟨#[]⟩).cps.toList.take x.2))):=
  NK row (by show ae (D.str (aaD _ none (some (x.2:Int))))=_;rw[PZ (by omega)])
 have s2:Io (d2 aU (dV 0) (dV 1)) (oS (d2 dw (dV 2) (dC (.int 1)))) oN [fz (brd bd),fz (.int (x.1:Int)),fz (.int (x.2:Int)),fz (sg ch),none]=ae (.str (jL ((bd.getD x.1 ⟨#[]⟩).cps.toList.drop (x.2+1)))):=
  NK row (by show ae (D.str (aaD _ (some ((x.2+1:Nat):Int)) none))=_;rw[Kf (by omega)])
 have RI:(jL ((bd.getD x.1 ⟨#[]⟩).cps.toList.take x.2)).length<=8:=by rw[kR,XS];omega
 have V_:(jL ((bd.getD x.1 ⟨#[]⟩).cps.toList.drop (x.2+1))).length<=8:=by
  rw[kR,Yo];have:(bd.getD x.1 ⟨#[]⟩).cps.toList.length=W:=U5;omega
 have a1:uW (.str (jL ((bd.getD x.1 ⟨#[]⟩).cps.toList.take x.2))) (sg ch)=ae (.str (jL ((bd.getD x.1 ⟨#[]⟩).cps.toList.take x.2++[ch]))):=by
  show (if (jL ((bd.getD x.1 ⟨#[]⟩).cps.toList.take x.2)).length+(⟨#[ch]⟩:Str).length<=lim then ae (D.str (jL _++jL [ch])) else ah)=_;rw[acy (by show _+1<=lim;rw[cq];omega),CL]
 have a2:uW (.str (jL ((bd.getD x.1 ⟨#[]⟩).cps.toList.take x.2++[ch]))) (.str (jL ((bd.getD x.1 ⟨#[]⟩).cps.toList.drop (x.2+1))))=ae (.str (gY (bd.getD x.1 ⟨#[]⟩) x.2 ch)):=by
  show (if (jL ((bd.getD x.1 ⟨#[]⟩).cps.toList.take x.2++[ch])).length+(jL ((bd.getD x.1 ⟨#[]⟩).cps.toList.drop (x.2+1))).length<=lim then ae (D.str (jL _++jL _)) else ah)=_;rw[acy (by rw[kR,Wj,<-kR,cq,abV];omega),CL];unfold gY;rw[aay,acy (by show x.2<(bd.getD x.1 ⟨#[]⟩).length;omega),Xk];rfl
 refine bg (ak (Z':=[fz (brd bd),fz (.int (x.1:Int)),fz (.int (x.2:Int)),fz (sg ch),fz (.str (gY (bd.getD x.1 ⟨#[]⟩) x.2 ch))]) ((aL ((aP ((aP (y:=sg ch) s1 rfl).trans a1) s2).trans a2)).trans rfl) (a_ ?_));have t1:Io (dV 0) oN (oS (dV 1)) [fz (brd bd),fz (.int (x.1:Int)),fz (.int (x.2:Int)),fz (sg ch),fz (.str (gY (bd.getD x.1 ⟨#[]⟩) x.2 ch))]=ae (brd (bd.take x.1)):=by
  show ae (D.tup (cutD (bd.map D.str) none (some (x.1:Int))))=_;rw[N9 _ (by rw[Wc];omega),<-List.map_take]
 have t2:Io (dV 0) (oS (d2 dw (dV 1) (dC (.int 1)))) oN [fz (brd bd),fz (.int (x.1:Int)),fz (.int (x.2:Int)),fz (sg ch),fz (.str (gY (bd.getD x.1 ⟨#[]⟩) x.2 ch))]=ae (brd (bd.drop (x.1+1))):=by
  show ae (D.tup (cutD (bd.map D.str) (some ((x.1+1:Nat):Int)) none))=_;rw[N5 _ (by rw[Wc];omega),<-List.map_drop]
 have c1:jS (brd (bd.take x.1)) (.tup [.str (gY (bd.getD x.1 ⟨#[]⟩) x.2 ch)])=ae (brd (bd.take x.1++[gY (bd.getD x.1 ⟨#[]⟩) x.2 ch])):=by
  show (if ((bd.take x.1).map D.str).length+1<=lim then ae (D.tup (_++[_])) else ah)=_;rw[acy (by rw[Wc,XS,cq];omega)];simp[brd]
 have c2:jS (brd (bd.take x.1++[gY (bd.getD x.1 ⟨#[]⟩) x.2 ch])) (brd (bd.drop (x.1+1)))=ae (brd (dj bd W [x] ch)):=by
  show (if ((bd.take x.1++[gY (bd.getD x.1 ⟨#[]⟩) x.2 ch]).map D.str).length+((bd.drop (x.1+1)).map D.str).length<=lim then ae (D.tup (_++_)) else ah)=_;rw[acy (by rw[Wc,Wc,Wj,XS,Yo,cq];simp;omega),<-Xo,<-setB hg hx,aay,acy hx.1,Xk];rfl
 exact(aP ((aP t1 ((cz (xs:=[.str (gY (bd.getD x.1 ⟨#[]⟩) x.2 ch)]) rfl).trans rfl)).trans c1) t2).trans c2
end
end K1
namespace K1
open PySem L2 L3
theorem Bw:aK=k_:=rfl
section
open Classical
variable{bd:List Str}{W w:Nat}
theorem wN(hg:Wd bd W)(hs:bd.length*W<64)(hw:Ways w):aK [brd bd, .int (w:Int)]=ae (.lst ((a5 bd W w).map cL)):=by
 rw[Bw];exact(tV hg hs hw).trans (by rw[sE])
def pR(bd:List Str)(w:Nat)(x:Cell)(c:Nat)(x4 x5 x6 x7:Option Sl):bo:=[fz (brd bd),fz (cD x),fz (.int (w:Int)),fz (sg c),x4,x5,x6,x7]
def BD(bd:List Str)(W:Nat)(P:List Cell)(c r:Nat):Str:=jL ((WD W).map λj=>if (r,j)∈P then c else at2 bd r j)
def Tw:DS:=(bH [6,7] (az (aW 7 (bc 0 (λZ=>(aC (dA bu (aC (d2 aU (dV 0) (dC (.int 0))) aN)) aN) Z>>=d7) bX (EN (cE (d2 (rk false) (dA aZ (aC (dV 7) (aC (dV 0) aN))) (dV 5))) (dV 4) (d2 gn (d2 aU (dV 1) (dV 7)) (dV 0))))) (aW 5 (d2 jS (dV 5) (dA aZ (aC (dM Cs joinM (dC (.str "")) (aC (dV 7) aN)) aN))))))
theorem J4(hg:Brd bd W){x:Cell}{c r:Nat}(hr:r<bd.length){P:List Cell}{u8:List Str}(ha:u8.length<=100):
 Tw (pR bd w x c (fz (cL P)) (fz (brd u8)) (fz (.int (r:Int))) none)=ae (.nx (pR bd w x c (fz (cL P)) (fz (brd (u8++[BD bd W P c r]))) none none)):=by
 have w8:=hg.w8;have cm:bc 0 (λZ=>(aC (dA bu (aC (d2 aU (dV 0) (dC (.int 0))) aN)) aN) Z>>=d7) bX (EN (cE (d2 (rk false) (dA aZ (aC (dV 7) (aC (dV 0) aN))) (dV 5))) (dV 4) (d2 gn (d2 aU (dV 1) (dV 7)) (dV 0))) (pR bd w x c (fz (cL P)) (fz (brd u8)) (fz (.int (r:Int))) none)=ae (.lst (((WD W).map λj=>if (r,j)∈P then c else at2 bd r j).map sg)):=by
  refine bK (xC (n:=W) (hg.len0 (i:=0) rfl) (by omega)) ?_ (by simp[cq];omega);rw[W7];refine dN (λ(k:Nat)=>D.int (k:Int)) _ _ λj hj=>?_;have hj:=XW.mp hj;rw[iA];refine NK (x:=sg (if (r,j)∈P then c else at2 bd r j)) ?_ rfl;have e1:cE (d2 (rk false) (dA aZ (aC (dV 7) (aC (dV 0) aN))) (dV 5)) (fz (.int (j:Int))::pR bd w x c (fz (cL P)) (fz (brd u8)) (fz (.int (r:Int))) none)=ae (decide ((r,j)∈P)):=
   gj ((aP (x:=cD (r,j)) (y:=cL P) rfl rfl).trans Cq)
  rw[Kv e1];by_cases h:(r,j)∈P
  ·rw[acy h,acy (acB h)];rfl
  ·rw[acz h,acz λz=>h (acD z)];refine(aP (x:= .str (bd.getD r ⟨#[]⟩)) (y:= .int (j:Int)) ((aP (x:=brd bd) (y:= .int (r:Int)) rfl rfl).trans (wD hr)) rfl).trans ?_;exact xK (by rw[(hg.rows _ (getD_mem hr)).len];exact hj)
 have jn:dM Cs joinM (dC (.str "")) (aC (dV 7) aN) (pR bd w x c (fz (cL P)) (fz (brd u8)) (fz (.int (r:Int))) (fz (.lst (((WD W).map λj=>if (r,j)∈P then c else at2 bd r j).map sg))))=ae (.str (BD bd W P c r)):=by
  show joinM (.str "") [.lst (((WD W).map λj=>if (r,j)∈P then c else at2 bd r j).map sg)]=_;exact Cu (by simp;omega)
 refine(aX (ak ((aL cm).trans rfl) ((aL (d:=brd (u8++[BD bd W P c r])) ((aP (x:=brd u8) (y:= .tup [.str (BD bd W P c r)]) rfl ((cz (a7 jn rfl)).trans rfl)).trans ?_)).trans rfl))).trans rfl;show (if (u8.map D.str).length+1<=lim then ae (D.tup (u8.map D.str++[.str (BD bd W P c r)])) else ah)=_;rw[acy (by rw[Wc,cq];omega)];simp[brd]
theorem CZ(hg:Brd bd W){x:Cell}{c:Nat}{P:List Cell}:∀(l:List Nat) (u8:List Str),(∀r∈l,r<bd.length)->u8.length+l.length<=100->
 forL (putN 6) Tw (l.map λ(k:Nat)=>D.int (k:Int)) (pR bd w x c (fz (cL P)) (fz (brd u8)) none none)=ae (.nx (pR bd w x c (fz (cL P)) (fz (brd (u8++l.map (BD bd W P c)))) none none))
 |[],u8,_,_=>by rw[XE,XE,WU];rfl
 |r::l,u8,h,hl=>by
  rw[Wl] at hl;refine(cZ rfl (J4 hg (h r (Wh ..)) (by omega))).trans ((CZ hg l _ (λz hz=>h z (Wf _ hz)) (by rw[Wj];simp;omega)).trans ?_);rw[Xk];rfl
theorem jK(hg:Brd bd W)(hs:bd.length*W<64)(hw:Ways w){x:Cell}(hx:On bd.length W x)(c:Nat):cP [brd bd,cD x, .int (w:Int),sg c]=ae (brd (dj bd W (aG bd W w x) c)):=by
 have hR:=hg.r8;have hl:=Ba (bd:=bd) (W:=W) (w:=w);have hc:bc 0 (cj (aw 2 aK (aC (dV 0) (aC (dV 2) aN)))) (cE (d2 (rk false) (dV 2) (dV 0))) (dV 0) (pR bd w x c none none none none)=ae (.lst [cL (aG bd W w x)]):=by
  have e:=Bv hg hw hx;refine bK (ds:=(a5 bd W w).map cL) (ys:=[aG bd W w x].map cL) (NK ((aj (ds:=[brd bd, .int (w:Int)]) rfl rfl).trans (wN hg.wd hs hw)) rfl) ?_ (by simp[cq]);rw[<-e];refine gF cL (λP=>decide (x∈P)) _ λP hP=>?_;rw[qX];have:cE (d2 (rk false) (dV 2) (dV 0)) (fz (cL P)::pR bd w x c none none none none)=ae (decide (x∈P)):=gj ((aP (x:=cD x) (y:=cL P) rfl rfl).trans Cq);rw[this];by_cases h:x∈P
  ·rw[acB h];rfl
  ·rw[acC h];rfl
 have lp:=CZ (w:=w) hg (x:=x) (c:=c) (P:=aG bd W w x) (WD bd.length) [] (λr hr=>XW.mp hr) (by simp;omega);refine bg (ak (Z':=pR bd w x c (fz (cL (aG bd W w x))) none none none) ((aL ((aP (y:= .int 0) hc rfl).trans rfl)).trans rfl) (ak (Z':=pR bd w x c (fz (cL (aG bd W w x))) (fz (brd [])) none none) rfl (ak (cw (dI (xC (n:=bd.length) (A_ (i:=0) rfl) (by omega)) lp)) ?_)));show ae (Out.rt (brd ([]++(WD bd.length).map (BD bd W (aG bd W w x) c))))=_;rw[WJ];rfl
theorem A8{ks:List Cell}{ps:List (Option Cell)}(hl:ks.length<4000):d6 [gO ks ps]=ae (jr ks):=by
 have e:∀(xs t:List Cell),t.length+xs.length<4000->forL (putN 2) (bH [2] (d8 1 (dV 2) (dC (.bl true)))) (xs.map cD) [fz (gO ks ps),some (.ow (.dct (t.map keyOf) (aT t))),none]=ae (.nx [fz (gO ks ps),some (.ow (.dct ((xs.foldl b9 t).map keyOf) (aT (xs.foldl b9 t)))),none]):=by
  intro xs;induction xs with
  |nil=>intro t _;rfl
  |cons x xs ih=>
   intro t hk;rw[Wl] at hk;have hle:(b9 t x).length<=t.length+1:=by unfold b9;split<;>simp
   refine(cZ (Z1:=[fz (gO ks ps),some (.ow (.dct (t.map keyOf) (aT t))),fz (cD x)]) (Z2:=[fz (gO ks ps),some (.ow (.dct ((b9 t x).map keyOf) (aT (b9 t x)))),none]) rfl ?_).trans (ih (b9 t x) (by omega));refine(aX (Z':=[fz (gO ks ps),some (.ow (.dct ((b9 t x).map keyOf) (aT (b9 t x)))),fz (cD x)]) ?_).trans rfl;show (match ke (.dct (t.map keyOf) (aT t)) (cD x) (.bl true) with | some c'=>ae (Out.nx [fz (gO ks ps),some (.ow c'),fz (cD x)]) | none=>ah)=_;rw[zT (by rw[cq];omega)]
 refine bg (ak (Z':=[fz (gO ks ps),some (.ow (.dct [] [])),none]) rfl (ak (Z':=[fz (gO ks ps),some (.ow (.dct ((bj ks).map keyOf) (aT (bj ks)))),none]) (cw (dI (ds:=ks.map cD) ?_ (e ks [] (by simpa using hl)))) rfl));show jJ (gO ks ps)=_;exact D8
theorem Df(hg:Brd bd W)(hw:Ways w){x:Cell}(hx:On bd.length W x){δ1 δ2 δ3 δ4:DE}{Z:bo}{c:Nat}(h1:δ1 Z=ae (brd bd))(h2:δ2 Z=ae (cD x))(h3:δ3 Z=ae (.int (w:Int)))(h4:δ4 Z=ae (sg c)):
 aw 3 bA (aC δ1 (aC (aw 3 bF (aC δ1 (aC δ2 (aC δ3 aN)))) (aC δ4 aN))) Z=ae (brd (dj bd W (aG bd W w x) c)):=by
 have hm:bd.length*W<=64:=XM hg.r8 hg.w8;obtain⟨k,ks,ps,q1,q2,q3⟩:=kC hg hw hx;have SR:=jd q1.nd q2;refine(aj (ds:=[brd bd,gO ks ps,sg c]) (a7 h1 (a7 ((aj (ds:=[brd bd,cD x, .int (w:Int)]) (a7 h1 (a7 h2 (a7 h3 rfl))) rfl).trans q3) (a7 h4 rfl))) rfl).trans ?_;exact jO hg (A8 (by omega)) (by simp[aT]) (λy=>dD.trans ((q1.last y).trans (fQ hw hx).symm)) c
theorem zL(hg:Brd bd W)(hw:Ways w){x:Cell}(hx:On bd.length W x){c:Nat}(hc:c∈BX):fL [brd bd,cD x, .int (w:Int),sg c]=ae (brd (dj bd W (aG bd W w x) c)):=
 bg (ak (bL ((aj (ds:=[brd bd,cD x, .int (w:Int),sg c]) rfl rfl).trans (jZ hg hw hx hc))) (a_ (Df hg hw hx rfl rfl rfl rfl)))
noncomputable def zQ(W w:Nat):List Str->List Nat->List Str
 |b,[]=>b
 |b,c::cs=>zQ W w (dj b W (aG b W w (0,0)) c) cs
theorem Fi(hg:Brd bd W):On bd.length W (0,0):=⟨hg.r1,hg.w1⟩
theorem Bb{cs:List Nat}(h:∀c∈cs,c∈BX)(hl:cs.length<=4096):dB [.lst (cs.map sg)]=ae .non:=by
 refine nJ (dr (Fl (p:=false) (q:=false) (iB (b:=true) (eK rfl)) (iB (b:=true) (eK ((yp (enc:=sg) (xs:=cs) (g:=λ_=>true) (NP rfl) (λc hc=>?_) hl).trans ?_)))) rfl)
 ·refine(aj (ds:=[sg c]) rfl rfl).trans ((fW (d:=sg c) trivial).trans ?_);show ae (D.bl (true&&FV ⟨#[c]⟩))=_;rw[(qD c).trans (acB (h c hc))];rfl
 ·rw[W3.mpr λ_ _=>rfl]
theorem GG(hG:Good bd W)(hw:Ways w){cs:List Nat}(h:∀c∈cs,c∈BX)(hl:cs.length<=4096):bD [brd bd, .int (w:Int), .lst (cs.map sg)]=ae (brd (zQ W w bd cs)):=by
 have hg:=hG.brd;have lp:∀(l:List Nat) (b:List Str),Good b W->(∀c∈l,c∈BX)->forL (putN 4) (bH [4] (aW 3 (aw 3 bA (aC (dV 3) (aC (aw 3 bF (aC (dV 3) (aC (dA aZ (aC (dC (.int 0)) (aC (dC (.int 0)) aN))) (aC (dV 1) aN)))) (aC (dV 4) aN)))))) (l.map sg) [fz (brd bd),fz (.int (w:Int)),fz (.lst (cs.map sg)),fz (brd b),none]=ae (.nx [fz (brd bd),fz (.int (w:Int)),fz (.lst (cs.map sg)),fz (brd (zQ W w b l)),none]):=by
  intro l;induction l with
  |nil=>intro b _ _;rfl
  |cons c l ih=>
   intro b hb hc;refine(cZ (Z1:=[fz (brd bd),fz (.int (w:Int)),fz (.lst (cs.map sg)),fz (brd b),fz (sg c)]) (Z2:=[fz (brd bd),fz (.int (w:Int)),fz (.lst (cs.map sg)),fz (brd (dj b W (aG b W w (0,0)) c)),none]) rfl ((aX (aL (Df hb.brd hw (Fi hb.brd) rfl rfl rfl rfl))).trans rfl)).trans (ih _ (oR hb (hc c (Wh ..))) λz hz=>hc z (Wf _ hz))
 refine bg (ak (bL ((aj (ds:=[brd bd]) rfl rfl).trans hg.nb)) (ak (bL ((aj (ds:=[.int (w:Int)]) rfl rfl).trans hw.nw)) (ak (bL ((aj (ds:=[.lst (cs.map sg)]) rfl rfl).trans (Bb h hl))) (ak (Z':=[fz (brd bd),fz (.int (w:Int)),fz (.lst (cs.map sg)),fz (brd bd),none]) rfl (ak (cw (dI (NP rfl) (lp cs bd hG h))) rfl)))))
theorem HM(hg:Brd bd W)(l:List Cell)(c:Nat):Wd (dj bd W l c) W:=⟨by rw[g7];exact hg.r1,by rw[g7];exact hg.r8,hg.w1,hg.w8,λr hr=>⟨wO r hr⟩⟩
def Jh(bd:List Str)(w:Nat)(u8:List Cell)(m:D)(x4 x5 x6:Option Sl):bo:=[fz (brd bd),fz (.int (w:Int)),some (.ow (.lst (u8.map cD))),fz m,x4,x5,x6]
def Tj:DS:=(bH [4,5,6] (az (aW 6 (aw 4 ck (aC (dV 0) (aC (dV 4) (aC (dV 5) (aC (dC (.str "!")) aN)))))) (fU (cE (d2 LO (dA bu (aC (aw 2 aK (aC (dV 6) (aC (dV 1) aN))) aN)) (d2 dw (dV 3) (dC (.int 1))))) (gA 2 (dA aZ (aC (dV 4) (aC (dV 5) aN)))) cG)))
theorem Ji(hg:Brd bd W)(hs:bd.length*W<64)(hw:Ways w){x:Cell}(hx:On bd.length W x){u8:List Cell}(ha:u8.length<4000):
 Tj (Jh bd w u8 (.int ((a5 bd W w).length:Int)) (fz (.int (x.1:Int))) (fz (.int (x.2:Int))) none)=ae (.nx (Jh bd w (u8++if 1<Bx bd W w x then [x] else []) (.int ((a5 bd W w).length:Int)) none none none)):=by
 have jU:∀y,On bd.length W y->lt bd y≠33:=λy hy e=>by
  have:=B1 hg hy.1 hy.2;rw[show at2 bd y.1 y.2=33 from e] at this;revert this
  decide
 have hm:=(Gb hx jU).many hw;have e6:ck [brd bd, .int (x.1:Int), .int (x.2:Int), .str "!"]=ae (brd (dj bd W [x] 33)):=pd hg hx 33;have e7:dA bu (aC (aw 2 aK (aC (dV 6) (aC (dV 1) aN))) aN) (Jh bd w u8 (.int ((a5 bd W w).length:Int)) (fz (.int (x.1:Int))) (fz (.int (x.2:Int))) (fz (brd (dj bd W [x] 33))))=ae (.int ((a5 (dj bd W [x] 33) W w).length:Int)):=by
  refine(cz (a7 ((aj (ds:=[brd (dj bd W [x] 33), .int (w:Int)]) rfl rfl).trans (wN (HM hg _ _) (by rw[g7];exact hs) hw)) rfl)).trans ?_;show ae (D.int (((a5 (dj bd W [x] 33) W w).map cL).length:Int))=_;rw[Wc]
 have QB:cE (d2 LO (dA bu (aC (aw 2 aK (aC (dV 6) (aC (dV 1) aN))) aN)) (d2 dw (dV 3) (dC (.int 1)))) (Jh bd w u8 (.int ((a5 bd W w).length:Int)) (fz (.int (x.1:Int))) (fz (.int (x.2:Int))) (fz (brd (dj bd W [x] 33))))=ae (decide (1<Bx bd W w x)):=by
  refine gj ((aP (y:= .int (((a5 bd W w).length+1:Nat):Int)) e7 rfl).trans ((K3 _ _).trans ?_));congr 2;rw[hm];exact acF.mpr (by omega)
 by_cases h:1<Bx bd W w x
 ·rw[acB h] at QB;rw[acy h];refine(aX (Z':=Jh bd w (u8++[x]) (.int ((a5 bd W w).length:Int)) (fz (.int (x.1:Int))) (fz (.int (x.2:Int))) (fz (brd (dj bd W [x] 33)))) (ak ((aL ((aj (ds:=[brd bd, .int (x.1:Int), .int (x.2:Int), .str "!"]) rfl rfl).trans e6)).trans rfl) (dJ QB ?_))).trans rfl;show (if (u8.map cD).length<lim then ae (Out.nx [fz (brd bd),fz (.int (w:Int)),some (.ow (.lst (u8.map cD++[cD x]))),fz (.int ((a5 bd W w).length:Int)),fz (.int (x.1:Int)),fz (.int (x.2:Int)),fz (brd (dj bd W [x] 33))]) else ah)=_;rw[acy (by rw[Wc,cq];omega),show∀l:List Cell,l.map cD++[cD x]=(l++[x]).map cD from λl=>by simp];rfl
 ·rw[acC h] at QB;rw[acz h,WU];exact(aX (ak ((aL ((aj (ds:=[brd bd, .int (x.1:Int), .int (x.2:Int), .str "!"]) rfl rfl).trans e6)).trans rfl) (dr QB rfl))).trans rfl
theorem Cy(hg:Brd bd W)(hs:bd.length*W<64)(hw:Ways w):∀(l u8:List Cell),(∀x∈l,On bd.length W x)->u8.length+l.length<4000->forL (nE [4,5]) Tj (l.map cD) (Jh bd w u8 (.int ((a5 bd W w).length:Int)) none none none)=ae (.nx (Jh bd w (u8++l.filter λx=>decide (1<Bx bd W w x)) (.int ((a5 bd W w).length:Int)) none none none))
 |[],u8,_,_=>by rw[Yv,WU];rfl
 |x::l,u8,h,hl=>by
  rw[Wl] at hl;refine(cZ (Z1:=Jh bd w u8 (.int ((a5 bd W w).length:Int)) (fz (.int (x.1:Int))) (fz (.int (x.2:Int))) none) rfl (Ji hg hs hw (h x (Wh ..)) (by omega))).trans ((Cy hg hs hw l _ (λz hz=>h z (Wf _ hz)) (by rw[Wj];split<;>simp<;>omega)).trans ?_);rw[Xk,YN];by_cases q:1<Bx bd W w x
  ·rw[acy q,acy (acB q)];rfl
  ·rw[acz q,acz (λz=>q (acD z))];rfl
theorem wK(hg:Brd bd W)(hs:bd.length*W<64)(hw:Ways w):gU [brd bd, .int (w:Int)]=ae (cL (qZ bd W w)):=by
 have lp:=Cy hg hs hw (ax bd.length W) [] (λx hx=>aB.mp hx) (by rw[bw];simp;omega);rw[WJ] at lp;have em:dA bu (aC (aw 2 aK (aC (dV 0) (aC (dV 1) aN))) aN) [fz (brd bd),fz (.int (w:Int)),some (.ow (.lst [])),none,none,none,none]=ae (.int ((a5 bd W w).length:Int)):=by
  refine(cz (a7 ((aj (ds:=[brd bd, .int (w:Int)]) rfl rfl).trans (wN hg.wd hs hw)) rfl)).trans ?_;show ae (D.int (((a5 bd W w).map cL).length:Int))=_;rw[Wc]
 exact bg (ak rfl (ak (Z':=Jh bd w [] (.int ((a5 bd W w).length:Int)) none none none) ((aL em).trans rfl) (ak (cw (dI (NK ((aj (ds:=[brd bd]) rfl rfl).trans (lg hg)) rfl) lp)) rfl)))
end
theorem wC{l:List D}{i:Nat}{d:D}(h:l[i]? =some d):jT (.lst l) (.int (i:Int))=ae d:=by
 show (match L2.atI l (i:Int) with | some x=>ae x | none=>ah)=_;rw[gN h]
theorem CC{n:Nat}{δ:DE}{Z:bo}{d:D}(hn:n<=4096)(h:∀k:Nat,k<n->δ (fz (.int (k:Int))::Z)=ae d):bc 0 (λZ=>(aC (dC (.int (n:Int))) aN) Z>>=d7) bX δ Z=ae (.lst (Wm n d)):=by
 refine bK (xC (n:=n) (δ:=dC (.int (n:Int))) rfl hn) ?_ (by rw[Zg];exact hn);refine(dN (λ(k:Nat)=>D.int (k:Int)) (λ_=>d) (WD n) λk hk=>?_).trans ?_
 ·rw[iA,h k (XW.mp hk)];rfl
 ·rw[List.map_const',Y_]
theorem Ae{b x w t:D}:aA [.int 0,b,x,w,t]=HH (fL [b,x,w,t]):=qL (m:=fL [b,x,w,t]) (Dd (dJ rfl rfl))
theorem Af{b x w t:D}:aA [.int 1,b,x,w,t]=HH (gR [b,x,w,t]):=qL (m:=gR [b,x,w,t]) (Dd (dJ rfl rfl))
theorem HB{b x w t:D}:aA [.int 2,b,x,w,t]=HH (bD [b,w, .lst [t]]):=qL (m:=bD [b,w, .lst [t]]) (ak (dr rfl rfl) rfl)
theorem HC{b x w t:D}:aA [.int 3,b,x,w,t]=HH (jQ [b,w]):=qL (m:=jQ [b,w]) (ak (dr rfl rfl) rfl)
def Gx:List D:=[.str "", .str "g", .non, .str "ab", .int 1]
def Gs:List D:=[.int 0, .int 5, .non, .bl true]
def Dp(R:Nat):List D:=[.tup [.int (R:Int), .int 0], .tup [.int 0, .int (-1)], .non, .lst [.int 0, .int 0]]
theorem Ib{R W:Nat}{b:D}(h:b∈Dp R):Plain2 b/\B7 R W b=false:=by
 unfold Dp at h;simp only[Wu,Xi,or_false] at h;rcases h with rfl | rfl | rfl | rfl
 ·refine⟨λd hd=>?_,?_⟩
  ·simp only[Wu,Xi,or_false] at hd;rcases hd with rfl | rfl<;>exact XH
  ·show ((decide ((0:Int)<=(R:Int))&&decide ((R:Int)<(R:Int)))&&_)=false;rw[acC (Int.lt_irrefl _),aac,abq]
 ·refine⟨λd hd=>?_,?_⟩
  ·simp only[Wu,Xi,or_false] at hd;rcases hd with rfl | rfl<;>exact XH
  ·show (_&&(decide ((0:Int)<= -1)&&_))=false;rw[show decide ((0:Int)<= -1)=false from rfl,abq,aac]
 ·exact⟨XH,rfl⟩
 ·exact⟨XH,rfl⟩
theorem Pa{d:D}(hd:Plain d)(h:tW d=false):dY [d]=a8 3/\dB [.lst [d]]=a8 3:=by
 have e:b_ [d]=ae (.bl false):=(fW hd).trans (by rw[h]);refine⟨dS (dJ (iB (b:=false) (eK ((aj (ds:=[d]) rfl rfl).trans e))) rfl),dS (dJ ((Fl (p:=false) (q:=true) (iB (b:=true) (eK rfl)) (iB (b:=false) (eK ((yp (enc:=id) (xs:=[d]) (g:=λ_=>false) (NP rfl) (λx hx=>?_) (by simp)).trans rfl)))).trans rfl) rfl)⟩;rw[show x=d by simpa using hx];exact(aj (ds:=[d]) rfl rfl).trans e
theorem MD{d:D}(h:d∈Gx):dY [d]=a8 3/\dB [.lst [d]]=a8 3:=by
 unfold Gx at h;simp only[Wu,Xi,or_false] at h;rcases h with rfl | rfl | rfl | rfl | rfl<;>exact Pa trivial (by decide+kernel)
theorem MA{d:D}(h:d∈Gs):c7 [d]=a8 1:=by
 unfold Gs at h;simp only[Wu,Xi,or_false] at h;rcases h with rfl | rfl | rfl | rfl<;>rfl
theorem ny{b x w t:D}{n:Nat}(h:bZ [b,x,w,t]=a8 n):fL [b,x,w,t]=a8 n/\gR [b,x,w,t]=a8 n:=
 ⟨dS (fX (ft ((aj (ds:=[b,x,w,t]) rfl rfl).trans h))),dS (fX (ft ((aj (ds:=[b,x,w,t]) rfl rfl).trans h)))⟩
section
variable{bd:List Str}{W w:Nat}
theorem HG(hg:Brd bd W)(hw:Ways w){x:Cell}(hx:On bd.length W x){t:D}(ht:t∈Gx)(k:Nat)(hk:k<3):aA [.int (k:Int),brd bd,cD x, .int (w:Int),t]=ae (qr 3):=by
 obtain⟨t1,t2⟩:=MD ht;have e:bZ [brd bd,cD x, .int (w:Int),t]=a8 3:=dS (ak (bL ((aj (ds:=[brd bd]) rfl rfl).trans hg.nb)) (ak (bL ((aj (ds:=[brd bd,cD x]) rfl rfl).trans (hg.nc hx))) (ak (bL ((aj (ds:=[.int (w:Int)]) rfl rfl).trans hw.nw)) (ft ((aj (ds:=[t]) rfl rfl).trans t1)))));have e2:bD [brd bd, .int (w:Int), .lst [t]]=a8 3:=dS (ak (bL ((aj (ds:=[brd bd]) rfl rfl).trans hg.nb)) (ak (bL ((aj (ds:=[.int (w:Int)]) rfl rfl).trans hw.nw)) (fX (ft ((aj (ds:=[.lst [t]]) rfl rfl).trans t2)))));obtain⟨p1,p2⟩:=ny e
 match k,hk with
 |0,_=>exact Ae.trans (by rw[p1];rfl)
 |1,_=>exact Af.trans (by rw[p2];rfl)
 |2,_=>exact HB.trans (by rw[e2];rfl)
theorem HF(hg:Brd bd W){x:Cell}(hx:On bd.length W x){o t:D}(ho:o∈Gs)(k:Nat)(hk:k<4):aA [.int (k:Int),brd bd,cD x,o,t]=ae (qr 1):=by
 have o1:=MA ho;have e:bZ [brd bd,cD x,o,t]=a8 1:=dS (ak (bL ((aj (ds:=[brd bd]) rfl rfl).trans hg.nb)) (ak (bL ((aj (ds:=[brd bd,cD x]) rfl rfl).trans (hg.nc hx))) (fX (ft ((aj (ds:=[o]) rfl rfl).trans o1)))));have e2:bD [brd bd,o, .lst [t]]=a8 1:=dS (ak (bL ((aj (ds:=[brd bd]) rfl rfl).trans hg.nb)) (fX (ft ((aj (ds:=[o]) rfl rfl).trans o1))));have e3:jQ [brd bd,o]=a8 1:=dS (ak (bL ((aj (ds:=[brd bd]) rfl rfl).trans hg.nb)) (fX (ft ((aj (ds:=[o]) rfl rfl).trans o1))));obtain⟨p1,p2⟩:=ny e
 match k,hk with
 |0,_=>exact Ae.trans (by rw[p1];rfl)
 |1,_=>exact Af.trans (by rw[p2];rfl)
 |2,_=>exact HB.trans (by rw[e2];rfl)
 |3,_=>exact HC.trans (by rw[e3];rfl)
theorem HD(hg:Brd bd W){y o t:D}(hy:y∈Dp bd.length)(k:Nat)(hk:k<2):aA [.int (k:Int),brd bd,y,o,t]=ae (qr 2):=by
 obtain⟨y1,y2⟩:=Ib (W:=W) hy;have e:bZ [brd bd,y,o,t]=a8 2:=dS (ak (bL ((aj (ds:=[brd bd]) rfl rfl).trans hg.nb)) (fX (ft ((aj (ds:=[brd bd,y]) rfl rfl).trans (wR hg y1 y2)))));obtain⟨p1,p2⟩:=ny e
 match k,hk with
 |0,_=>exact Ae.trans (by rw[p1];rfl)
 |1,_=>exact Af.trans (by rw[p2];rfl)
theorem HE{y o t:D}(k:Nat)(hk:k<4):aA [.int (k:Int), .lst (bd.map D.str),y,o,t]=ae (qr 0):=by
 have n0:cp [.lst (bd.map D.str)]=a8 0:=tY (d:= .lst (bd.map D.str)) XH rfl;have e:bZ [.lst (bd.map D.str),y,o,t]=a8 0:=dS (fX (ft ((aj (ds:=[.lst (bd.map D.str)]) rfl rfl).trans n0)));have e2:bD [.lst (bd.map D.str),o, .lst [t]]=a8 0:=dS (fX (ft ((aj (ds:=[.lst (bd.map D.str)]) rfl rfl).trans n0)));have e3:jQ [.lst (bd.map D.str),o]=a8 0:=dS (fX (ft ((aj (ds:=[.lst (bd.map D.str)]) rfl rfl).trans n0)));obtain⟨p1,p2⟩:=ny e
 match k,hk with
 |0,_=>exact Ae.trans (by rw[p1];rfl)
 |1,_=>exact Af.trans (by rw[p2];rfl)
 |2,_=>exact HB.trans (by rw[e2];rfl)
 |3,_=>exact HC.trans (by rw[e3];rfl)
theorem O7{v:Nat}(h:v<4):∃c∈BX,gn (.str "abcf") (.int (v:Int))=ae (sg c):=by
 match v,h with
 |0,_=>exact⟨97,by decide,rfl⟩
 |1,_=>exact⟨98,by decide,rfl⟩
 |2,_=>exact⟨99,by decide,rfl⟩
 |3,_=>exact⟨102,by decide,rfl⟩
theorem CH(b:List Str):mi (brd b) (brd b)=ae (.bl false):=(v9 Iw (by decide) b b).trans (by rw[acB rfl];rfl)
def qR(s:D)(bd:List Str)(W w:Nat)(x:Cell)(c:Nat)(x6 x7 x8 x9 EY VR VS VT VU VW:Option Sl):bo:=[fz s,fz (brd bd),fz (cL (ax bd.length W)),fz (cD x),fz (.int (w:Int)),fz (sg c),x6,x7,x8,x9,EY,VR,VS,VT,VU,VW]
def TN:DS:=(bH [12] (aW 11 (aw 4 cP (aC (dV 11) (aC (dA aZ (aC (dC (.int 0)) (aC (dC (.int 0)) aN))) (aC (dV 4) (aC (dV 12) aN)))))))
theorem yt(hw:Ways w){s:D}{x:Cell}{c:Nat}{x6 x7 x8 x9 EY:Option Sl}:∀(l:List Nat) (b:List Str),Good b W->b.length*W<64->(∀c∈l,c∈BX)->forL (putN 12) TN (l.map sg) (qR s bd W w x c x6 x7 x8 x9 EY (fz (brd b)) none none none none)=ae (.nx (qR s bd W w x c x6 x7 x8 x9 EY (fz (brd (zQ W w b l))) none none none none))
 |[],b,_,_,_=>rfl
 |d::l,b,hb,hs,hc=>by
  refine(cZ (Z1:=qR s bd W w x c x6 x7 x8 x9 EY (fz (brd b)) (fz (sg d)) none none none) (Z2:=qR s bd W w x c x6 x7 x8 x9 EY (fz (brd (dj b W (aG b W w (0,0)) d))) none none none none) rfl ((aX (aL ((aj (ds:=[brd b,cD (0,0), .int (w:Int),sg d]) rfl rfl).trans (jK hb.brd hs hw (Fi hb.brd) d)))).trans rfl)).trans (yt hw l _ (oR hb (hc d (Wh ..))) (by rw[g7];exact hs) λz hz=>hc z (Wf _ hz))
end
theorem F_(ns:List Int)(hl:ns.length<=63):kJ [.scr ns]=ae (.bl true):=by
 obtain⟨bd,W,hG,eb⟩:=Dq ns hl 0 4 (by decide) (by decide);have hg:=hG.brd;have hs:bd.length*W<64:=aaE (XM hG.r5 hG.w5) (by decide);have h0:0<bd.length*W:=Nat.mul_pos hg.r1 hg.w1;refine bg ?_;refine ak (Z':=[fz (.scr ns),fz (brd bd),none,none,none,none,none,none,none,none,none,none,none,none,none,none]) ((aL (d:=brd bd) ((aj (ds:=[.scr ns, .int 0, .int 4]) rfl rfl).trans eb)).trans rfl) ?_;refine ak (Z':=[fz (.scr ns),fz (brd bd),fz (cL (ax bd.length W)),none,none,none,none,none,none,none,none,none,none,none,none,none]) ((aL (d:=cL (ax bd.length W)) ((aj (ds:=[brd bd]) rfl rfl).trans (lg hg))).trans rfl) ?_;obtain⟨x,hx,ex⟩:=G3 ns hl h0 (i:=2) (s:=0) (k:=50) (δk:=dC (.int 50)) (Z:=[fz (.scr ns),fz (brd bd),fz (cL (ax bd.length W)),none,none,none,none,none,none,none,none,none,none,none,none,none]) rfl rfl rfl;refine ak (Z':=[fz (.scr ns),fz (brd bd),fz (cL (ax bd.length W)),fz (cD x),none,none,none,none,none,none,none,none,none,none,none,none]) ((aL ex).trans rfl) ?_;obtain⟨i,hi,ei⟩:=cY ns hl 51 2 (by decide);obtain⟨w,hw,ew⟩:∃w:Nat,Ways w/\jT (.lst [.int 4, .int 8]) (.int (i:Int))=ae (.int (w:Int)):=by
  match i,hi with
  |0,_=>exact⟨4, .inl rfl,rfl⟩
  |1,_=>exact⟨8, .inr rfl,rfl⟩
 refine ak (Z':=[fz (.scr ns),fz (brd bd),fz (cL (ax bd.length W)),fz (cD x),fz (.int (w:Int)),none,none,none,none,none,none,none,none,none,none,none]) ((aL (d:= .int (w:Int)) ((aP (x:= .lst [.int 4, .int 8]) (y:= .int (i:Int)) rfl ((aj (ds:=[.scr ns, .int 51, .int 2]) rfl rfl).trans ei)).trans ew)).trans rfl) ?_;obtain⟨v,hv,ev⟩:=cY ns hl 52 4 (by decide);obtain⟨c,hc,ec⟩:=O7 hv;refine ak (Z':=qR (.scr ns) bd W w x c none none none none none none none none none none) ((aL (d:=sg c) ((aP (x:= .str "abcf") (y:= .int (v:Int)) rfl ((aj (ds:=[.scr ns, .int 52, .int 4]) rfl rfl).trans ev)).trans ec)).trans rfl) ?_;have t0:aA [.int 0,brd bd,cD x, .int (w:Int),sg c]=ae (brd (dj bd W (aG bd W w x) c)):=Ae.trans (by rw[zL hg hw hx hc];rfl);refine ak (dr (gj ((aP ((aj (ds:=[.int 0,brd bd,cD x, .int (w:Int),sg c]) rfl rfl).trans t0) ((aj (ds:=[brd bd,cD x, .int (w:Int),sg c]) rfl rfl).trans (jK hg hs hw hx c))).trans (CH _))) rfl) ?_;refine ak (Z':=qR (.scr ns) bd W w x c (fz (.int (x.1:Int))) (fz (.int (x.2:Int))) none none none none none none none none) rfl ?_;refine ak (Z':=qR (.scr ns) bd W w x c (fz (.int (x.1:Int))) (fz (.int (x.2:Int))) (fz (brd (dj bd W [x] c))) none none none none none none none) ((aL ((aj (ds:=[brd bd, .int (x.1:Int), .int (x.2:Int),sg c]) rfl rfl).trans (pd hg hx c))).trans rfl) ?_;have ln:∀{b:List Str}{δ:DE}{Z:bo},Wd b W->b.length*W<64->δ Z=ae (brd b)->dV 4 Z=ae (.int (w:Int))->dA bu (aC (aw 2 aK (aC δ (aC (dV 4) aN))) aN) Z=ae (.int ((a5 b W w).length:Int)):=λ{b δ Z} hb Uo h1 h2=>by
  refine(cz (a7 ((aj (ds:=[brd b, .int (w:Int)]) (a7 h1 (a7 h2 rfl)) rfl).trans (wN hb Uo hw)) rfl)).trans ?_;show ae (D.int (((a5 b W w).map cL).length:Int))=_;rw[Wc]
 refine ak (Z':=qR (.scr ns) bd W w x c (fz (.int (x.1:Int))) (fz (.int (x.2:Int))) (fz (brd (dj bd W [x] c))) (fz (.int (((a5 (dj bd W [x] c) W w).length:Int) - ((a5 bd W w).length:Int)))) none none none none none none) ((aL ((aP (ln (HM hg _ _) (by rw[g7];exact hs) rfl rfl) (ln hg.wd hs rfl rfl)).trans rfl)).trans rfl) ?_;have t1:aA [.int 1,brd bd,cD x, .int (w:Int),sg c]=ae (.int (((a5 (dj bd W [x] c) W w).length:Int) - ((a5 bd W w).length:Int))):=Af.trans (by rw[AL hG hs hw hx hc];rfl);refine ak (dr (gj ((aP (y:= .int (((a5 (dj bd W [x] c) W w).length:Int) - ((a5 bd W w).length:Int))) ((aj (ds:=[.int 1,brd bd,cD x, .int (w:Int),sg c]) rfl rfl).trans t1) rfl).trans ((v9 Iy (by decide) _ _).trans (by rw[acB rfl];rfl)))) rfl) ?_;have t3:aA [.int 3,brd bd,cD x, .int (w:Int), .non]=ae (cL (qZ bd W w)):=HC.trans (by rw[Fj hg hs hw];rfl);refine ak (dr (gj ((aP ((aj (ds:=[.int 3,brd bd,cD x, .int (w:Int), .non]) rfl rfl).trans t3) ((aj (ds:=[brd bd, .int (w:Int)]) rfl rfl).trans (wK hg hs hw))).trans ((O_ _ _).trans (by simp)))) rfl) ?_;obtain⟨m,hm,em⟩:=cY ns hl 53 5 (by decide);have LR:∀k:Nat,∃d,d∈BX/\d2 gn (dC (.str "abcf")) (aw 3 aD (aC (dV 1) (aC (d2 dw (dC (.int 60)) (dV 0)) (aC (dC (.int 4)) aN)))) (fz (.int (k:Int))::qR (.scr ns) bd W w x c (fz (.int (x.1:Int))) (fz (.int (x.2:Int))) (fz (brd (dj bd W [x] c))) (fz (.int (((a5 (dj bd W [x] c) W w).length:Int) - ((a5 bd W w).length:Int)))) none none none none none none)=ae (sg d):=λk=>by
  obtain⟨u,hu,eu⟩:=cY ns hl (60+k) 4 (by decide);obtain⟨d,hd,ed⟩:=O7 hu;exact⟨d,hd,(aP (x:= .str "abcf") (y:= .int (u:Int)) rfl ((aj (ds:=[.scr ns, .int ((60+k:Nat):Int), .int 4]) rfl rfl).trans eu)).trans ed⟩
 obtain⟨cs,HX⟩:=Classical.axiomOfChoice LR;refine ak (Z':=qR (.scr ns) bd W w x c (fz (.int (x.1:Int))) (fz (.int (x.2:Int))) (fz (brd (dj bd W [x] c))) (fz (.int (((a5 (dj bd W [x] c) W w).length:Int) - ((a5 bd W w).length:Int)))) (fz (.lst (((WD m).map cs).map sg))) none none none none none) ((aL (bK (xC (n:=m) ((aj (ds:=[.scr ns, .int 53, .int 5]) rfl rfl).trans em) (by omega)) (ys:=((WD m).map cs).map sg) ?_ (by simp[cq];omega))).trans rfl) ?_
 ·rw[W7];refine dN (λ(k:Nat)=>D.int (k:Int)) _ _ λk _=>?_;rw[iA];exact NK (HX k).2 rfl
 have SW:∀z∈(WD m).map cs,z∈BX:=λz hz=>by
  obtain⟨k,_,rfl⟩:=WC.mp hz;exact(HX k).1
 refine ak (Z':=qR (.scr ns) bd W w x c (fz (.int (x.1:Int))) (fz (.int (x.2:Int))) (fz (brd (dj bd W [x] c))) (fz (.int (((a5 (dj bd W [x] c) W w).length:Int) - ((a5 bd W w).length:Int)))) (fz (.lst (((WD m).map cs).map sg))) (fz (brd bd)) none none none none) rfl ?_;refine ak (cw (dI (NP rfl) (yt hw ((WD m).map cs) bd hG hs SW))) ?_;refine ak (dr (gj ((aP (y:=brd (zQ W w bd ((WD m).map cs))) ((aj (ds:=[brd bd, .int (w:Int), .lst (((WD m).map cs).map sg)]) rfl rfl).trans (GG hG hw SW (by simp;omega))) rfl).trans (CH _))) rfl) ?_;obtain⟨z,hz,ez⟩:=cY ns hl 54 5 (by decide);obtain⟨d,hd⟩:∃d,Gx[z]? =some d:=⟨_,Wi (show z<5 from hz)⟩
 refine ak ((aL (d:=d) ((aP (x:= .lst Gx) (y:= .int (z:Int)) rfl ((aj (ds:=[.scr ns, .int 54, .int 5]) rfl rfl).trans ez)).trans (wC hd))).trans rfl) ?_;refine ak (dr (gj ((aP (x:= .lst (Wm 3 (qr 3))) (y:= .lst (Wm 3 (qr 3))) (CC (n:=3) (by decide) λk hk=>(aj (ds:=[.int (k:Int),brd bd,cD x, .int (w:Int),d]) rfl rfl).trans (HG hg hw hx (Xu hd) k hk)) rfl).trans rfl)) rfl) ?_;obtain⟨y,hy,ey⟩:=cY ns hl 55 4 (by decide);obtain⟨o,ho⟩:∃o,Gs[y]? =some o:=⟨_,Wi (show y<4 from hy)⟩
 refine ak ((aL (d:=o) ((aP (x:= .lst Gs) (y:= .int (y:Int)) rfl ((aj (ds:=[.scr ns, .int 55, .int 4]) rfl rfl).trans ey)).trans (wC ho))).trans rfl) ?_;refine ak (dr (gj ((aP (x:= .lst (Wm 4 (qr 1))) (y:= .lst (Wm 4 (qr 1))) (CC (n:=4) (by decide) λk hk=>(aj (ds:=[.int (k:Int),brd bd,cD x,o,d]) rfl rfl).trans (HF hg hx (Xu ho) k hk)) rfl).trans rfl)) rfl) ?_;obtain⟨u,hu,eu⟩:=cY ns hl 56 4 (by decide);obtain⟨q,hq⟩:∃q,(Dp bd.length)[u]? =some q:=⟨_,Wi (show u<4 from hu)⟩
 refine ak ((aL (d:=q) ((aP (x:= .lst (Dp bd.length)) (y:= .int (u:Int)) ((cz (xs:=Dp bd.length) (a7 ((cz (xs:=[.int (bd.length:Int), .int 0]) (a7 (A_ rfl) rfl)).trans rfl) rfl)).trans rfl) ((aj (ds:=[.scr ns, .int 56, .int 4]) rfl rfl).trans eu)).trans (wC hq))).trans rfl) ?_;refine ak (dr (gj ((aP (x:= .lst (Wm 2 (qr 2))) (y:= .lst (Wm 2 (qr 2))) (CC (n:=2) (by decide) λk hk=>(aj (ds:=[.int (k:Int),brd bd,q,o,d]) rfl rfl).trans (HD (W:=W) hg (Xu hq) k hk)) rfl).trans rfl)) rfl) ?_;exact a_ ((aP (x:= .lst (Wm 4 (qr 0))) (y:= .lst (Wm 4 (qr 0))) (CC (n:=4) (by decide) λk hk=>(aj (ds:=[.int (k:Int), .lst (bd.map D.str),q,o,d]) rfl rfl).trans (HE k hk)) rfl).trans rfl)
end K1
namespace K1
open PySem PySem.Spec L2 L3
open PyProof.Rows hiding St
def O8(c0 c1 c2 c3 c4 c5 c6:Addr):Nat->Addr
 |0=>c0
 |1=>c1
 |2=>c2
 |3=>c3
 |4=>c4
 |5=>c5
 |_=>c6
def DF(K:Wn)(x:Str)(s:Stmt):Prop:=∃(f:Addr) (oc:Value) (od an:Option Addr) (sl:Array (Option Value)) (kV dc pm cd ct:Value),WR K WH x=some (some (.ref f))/\K.lookup f=some ⟨oc,od, .func (XA x x (fb s) (aV s) (ai s) .none kV dc pm an cd ct),sl⟩/\YD K cd x=true/\XF K (.ref f)=true
theorem DF.mk{K:Wn}{x:Str}{s:Stmt}{f:Addr}{oc:Value}{od an:Option Addr}{sl:Array (Option Value)}{kV dc pm cd ct:Value}(a:WR K WH x=some (some (.ref f)))(l:K.lookup f=some ⟨oc,od, .func (XA x x (fb s) (aV s) (ai s) .none kV dc pm an cd ct),sl⟩)(c:YD K cd x=true)(k:XF K (.ref f)=true):DF K x s:=⟨f,oc,od,an,sl,kV,dc,pm,cd,ct,a,l,c,k⟩
theorem DF.at{K:Wn}{x:Str}{s:Stmt}{h:Heap}{mg:Str->Option Value}(X:K.In h)(G:h.Ns WH mg)(d:DF K x s):∃f,bJ K mg x s f:=by
 obtain⟨f,oc,od,an,sl,kV,dc,pm,cd,ct,a,l,c,k⟩:=d;exact⟨f,Xx X G a,_,Fy (st:=s) l c k⟩
theorem all_mk{P:WQ}{w:World}{K:Wn}{h:Heap}{mg:Str->Option Value}{fa:Addr}(X:K.In h)(G:h.Ns WH mg)(Uw:mg "law"=some (.ref fa))
 {lS:Addr}{Bo qN:Option Addr}{BI:Array (Option Value)}{Bn rE q_ sL lO qY:Value}
 {EF:Tok}
 {Ad:Tok}
 {tq:Tok}
 {C0 C1 C2 C3 C4 C5 C6 Cp:Addr}{r0:ClassData}{r1:ClassData}{r2:ClassData}{r3:ClassData}
 (d_is_whole:DF K "is_whole" l_)
 (d_is_letter:DF K "is_letter" km)
 (d_cells_of_row:DF K "cells_of_row" fB)
 (d_letter_of:DF K "letter_of" kr)
 (d_are_next:DF K "are_next" l9)
 (d_keyed:DF K "keyed" xE)
 (d_distances:DF K "distances" kl)
 (d_law_cell:DF K "_law_cell" ma)
 (d_law_cells:DF K "_law_cells" iy)
 (d_law_beside:DF K "_law_beside" jy)
 (d_law_refused:DF K "_law_refused" iL)
 (d_law_changed:DF K "_law_changed" iJ)
 (d_is_row:DF K "is_row" nK)
 (d_is_cell:DF K "is_cell" o3)
 (d_need_letter:DF K "need_letter" iN)
 (d_need_letters:DF K "need_letters" fC)
 (d_need_ways:DF K "need_ways" kx)
 (d_all_cells:DF K "all_cells" kj)
 (d_next_cells:DF K "next_cells" jB)
 (d_with_letters:DF K "with_letters" fE)
 (d_law_drawn:DF K "_law_drawn" kq)
 (d_law_labels_v2:DF K "_law_labels" eT)
 (d_is_board:DF K "is_board" g8)
 (d_need_cell:DF K "need_cell" ku)
 (d_like_cells:DF K "like_cells" gB)
 (d_near_among:DF K "near_among" gD)
 (d_law_board:DF K "_law_board" ix)
 (d_law_patches_v2:DF K "_law_patches" eE)
 (d_need_board:DF K "need_board" jz)
 (d_steps_back:DF K "steps_back" jC)
 (d_parts_of:DF K "parts_of" me)
 (d_law_painted:DF K "_law_painted" eQ)
 (d_law_cuts:DF K "_law_cuts" md)
 (d_all_patches:DF K "all_patches" iI)
 (d_need_paint:DF K "need_paint" jA)
 (d_holds_together:DF K "holds_together" eD)
 (d_paints_over:DF K "paints_over" iO)
 (d_painted:DF K "painted" o4)
 (d_change:DF K "change" sW)
 (d_cuts:DF K "cuts" xD)
 (d_law_told_v7:DF K "_law_told" iM)
 (a_law_k40:WR K WH "law"=some (some (.ref lS)))(l_law_k40:K.lookup lS=some ⟨Bn,Bo, .func (XA "law" "law" (fb aq) (aV aq) (ai aq) .none rE q_ sL qN lO qY),BI⟩)(c_law_k40:YD K lO "law"=true)(k_law_k40:XF K (.ref lS)=true)
 (z_len:WR K WH "len"=some none)
 (z_isinstance:WR K WH "isinstance"=some none)
 (z_all:WR K WH "all"=some none)
 (z_abs:WR K WH "abs"=some none)
 (z_max:WR K WH "max"=some none)
 (z_min:WR K WH "min"=some none)
 (z_range:WR K WH "range"=some none)
 (z_str:WR K WH "str"=some none)
 (z_int:WR K WH "int"=some none)
 (z_bool:WR K WH "bool"=some none)
 (z_tuple:WR K WH "tuple"=some none)
 (z_list:WR K WH "list"=some none)
 (z_dict:WR K WH "dict"=some none)
 (z_sorted:WR K WH "sorted"=some none)
 (z_ValueError:WR K WH "ValueError"=some none)
 (y_LETTERS:WR K WH "LETTERS"=some (some (.str "abcdef" EF)))
 (y_MOST_ROWS:WR K WH "MOST_ROWS"=some (some (.int 8 Ad)))
 (y_MOST_COLUMNS:WR K WH "MOST_COLUMNS"=some (some (.int 8 tq)))
 (e0:WR K WH "NoBoard"=some (some (.ref C0)))
 (e1:WR K WH "NoWays"=some (some (.ref C1)))
 (e2:WR K WH "NoCell"=some (some (.ref C2)))
 (e3:WR K WH "NoLetter"=some (some (.ref C3)))
 (e4:WR K WH "NoNumber"=some (some (.ref C4)))
 (e5:WR K WH "NoFit"=some (some (.ref C5)))
 (e6:WR K WH "Nothing"=some (some (.ref C6)))
 (ep:WR K WH "PatchError"=some (some (.ref Cp)))
 (sp:PySem.W.subIn K (.ref Cp) (.type "BaseException")=some true)
 (q0:Zh K C0 [.type "ValueError", .type "Exception", .type "BaseException", .type "object"] "ValueError.__new__"=true)
 (ga0:Xn K (.ref C0) "__getattribute__"=some (some (.builtin "BaseException.__getattribute__")))(gt0:Xn K (.ref C0) "__getattr__"=some none)(ca0:Xn K (.ref C0) "__class__"=some (some (.builtin "object.__class__")))(mo0:Yh K C0 (.type "object")=some true)(mb0:Yh K C0 (.type "BaseException")=some true)(cl0:YO K C0=some r0)
 (kp0:Ws K (.ref C0) (.ref Cp)=some true)(kv0:Ws K (.ref C0) (.type "ValueError")=some true)(np0:((WT C0)==(WT Cp))=false)
 (k00:Ws K (.ref C0) (.ref C0)=some true)
 (k01:Ws K (.ref C0) (.ref C1)=some false)
 (k02:Ws K (.ref C0) (.ref C2)=some false)
 (k03:Ws K (.ref C0) (.ref C3)=some false)
 (k04:Ws K (.ref C0) (.ref C4)=some false)
 (k05:Ws K (.ref C0) (.ref C5)=some false)
 (k06:Ws K (.ref C0) (.ref C6)=some false)
 (q1:Zh K C1 [.type "ValueError", .type "Exception", .type "BaseException", .type "object"] "ValueError.__new__"=true)
 (ga1:Xn K (.ref C1) "__getattribute__"=some (some (.builtin "BaseException.__getattribute__")))(gt1:Xn K (.ref C1) "__getattr__"=some none)(ca1:Xn K (.ref C1) "__class__"=some (some (.builtin "object.__class__")))(mo1:Yh K C1 (.type "object")=some true)(mb1:Yh K C1 (.type "BaseException")=some true)(cl1:YO K C1=some r1)
 (kp1:Ws K (.ref C1) (.ref Cp)=some true)(kv1:Ws K (.ref C1) (.type "ValueError")=some true)(np1:((WT C1)==(WT Cp))=false)
 (k10:Ws K (.ref C1) (.ref C0)=some false)
 (k11:Ws K (.ref C1) (.ref C1)=some true)
 (k12:Ws K (.ref C1) (.ref C2)=some false)
 (k13:Ws K (.ref C1) (.ref C3)=some false)
 (k14:Ws K (.ref C1) (.ref C4)=some false)
 (k15:Ws K (.ref C1) (.ref C5)=some false)
 (k16:Ws K (.ref C1) (.ref C6)=some false)
 (q2:Zh K C2 [.type "ValueError", .type "Exception", .type "BaseException", .type "object"] "ValueError.__new__"=true)
 (ga2:Xn K (.ref C2) "__getattribute__"=some (some (.builtin "BaseException.__getattribute__")))(gt2:Xn K (.ref C2) "__getattr__"=some none)(ca2:Xn K (.ref C2) "__class__"=some (some (.builtin "object.__class__")))(mo2:Yh K C2 (.type "object")=some true)(mb2:Yh K C2 (.type "BaseException")=some true)(cl2:YO K C2=some r2)
 (kp2:Ws K (.ref C2) (.ref Cp)=some true)(kv2:Ws K (.ref C2) (.type "ValueError")=some true)(np2:((WT C2)==(WT Cp))=false)
 (k20:Ws K (.ref C2) (.ref C0)=some false)
 (k21:Ws K (.ref C2) (.ref C1)=some false)
 (k22:Ws K (.ref C2) (.ref C2)=some true)
 (k23:Ws K (.ref C2) (.ref C3)=some false)
 (k24:Ws K (.ref C2) (.ref C4)=some false)
 (k25:Ws K (.ref C2) (.ref C5)=some false)
 (k26:Ws K (.ref C2) (.ref C6)=some false)
 (q3:Zh K C3 [.type "ValueError", .type "Exception", .type "BaseException", .type "object"] "ValueError.__new__"=true)
 (ga3:Xn K (.ref C3) "__getattribute__"=some (some (.builtin "BaseException.__getattribute__")))(gt3:Xn K (.ref C3) "__getattr__"=some none)(ca3:Xn K (.ref C3) "__class__"=some (some (.builtin "object.__class__")))(mo3:Yh K C3 (.type "object")=some true)(mb3:Yh K C3 (.type "BaseException")=some true)(cl3:YO K C3=some r3)
 (kp3:Ws K (.ref C3) (.ref Cp)=some true)(kv3:Ws K (.ref C3) (.type "ValueError")=some true)(np3:((WT C3)==(WT Cp))=false)
 (k30:Ws K (.ref C3) (.ref C0)=some false)
 (k31:Ws K (.ref C3) (.ref C1)=some false)
 (k32:Ws K (.ref C3) (.ref C2)=some false)
 (k33:Ws K (.ref C3) (.ref C3)=some true)
 (k34:Ws K (.ref C3) (.ref C4)=some false)
 (k35:Ws K (.ref C3) (.ref C5)=some false)
 (k36:Ws K (.ref C3) (.ref C6)=some false):
 ∃(cv:Nat->Value) (fd:Yk),(∀(s:We) (u:Value),abP s fd ⟨[u],[]⟩ [("_law_script",u)])/\∀base:Heap,K.In base->base.Ns WH mg->FnOk P w K mg base (df P w cv) 8 fa fd ["_law_script"] (EW K cv 1 kJ):=by
 have ea:=Uw.symm.trans (Xx X G a_law_k40);cases ea;refine⟨λn=> .ref (cB (O8 C0 C1 C2 C3 C4 C5 C6) n),XA "law" "law" (fb aq) (aV aq) (ai aq) .none rE q_ sL qN lO qY,λs v=> .of_eq rfl,λbase KB GB=>?_⟩;have B:Bl K mg base (λn=> .ref (cB (O8 C0 C1 C2 C3 C4 C5 C6) n)) (O8 C0 C1 C2 C3 C4 C5 C6) Cp:=by
  refine⟨W0 X G z_len,W0 X G z_isinstance,W0 X G z_all,W0 X G z_abs,W0 X G z_max,W0 X G z_min,W0 X G z_range,W0 X G z_str,W0 X G z_int,W0 X G z_bool,W0 X G z_tuple,W0 X G z_list,W0 X G z_dict,W0 X G z_sorted,W0 X G z_ValueError,⟨_,Xx X G y_LETTERS⟩,⟨_,Xx X G y_MOST_ROWS⟩,⟨_,Xx X G y_MOST_COLUMNS⟩,?cls,xf KB GB e0 q0,xf KB GB e1 q1,xf KB GB e2 q2,xf KB GB e3 q3,λ_=>rfl,Xx X G ep,?exm,?exs,?kit,?kitV⟩
  case cls=>
   intro n x e
   match n,e with
   |0,e=>cases e;exact Xx X G e0
   |1,e=>cases e;exact Xx X G e1
   |2,e=>cases e;exact Xx X G e2
   |3,e=>cases e;exact Xx X G e3
   |4,e=>cases e;exact Xx X G e4
   |5,e=>cases e;exact Xx X G e5
   |6,e=>cases e;exact Xx X G e6
   |n+7,e=>cases e
  case exm=>
   intro n;have h:∀m,m∈[0,1,2,3]->Zt K (.ref ((O8 C0 C1 C2 C3 C4 C5 C6) m)) (.ref Cp)=some true:=by
    intro m hm;simp only[Wu,Xi,or_false] at hm;rcases hm with rfl | rfl | rfl | rfl
    ·exact wg sp kp0 np0
    ·exact wg sp kp1 np1
    ·exact wg sp kp2 np2
    ·exact wg sp kp3 np3
   exact h (NU n) (C_ n)
  case exs=>
   intro C hC;simp only[vT,O8,Wu,Xi,or_false] at hC;rcases hC with e | e | e | e<;>subst e
   ·exact⟨ga0,gt0,ca0,mo0,mb0,by rw[cl0];rfl⟩
   ·exact⟨ga1,gt1,ca1,mo1,mb1,by rw[cl1];rfl⟩
   ·exact⟨ga2,gt2,ca2,mo2,mb2,by rw[cl2];rfl⟩
   ·exact⟨ga3,gt3,ca3,mo3,mb3,by rw[cl3];rfl⟩
  case kit=>
   intro n m hn hm;simp only[Wu,Xi,or_false] at hn;rcases hn with rfl | rfl | rfl | rfl
   ·match m,hm with
    |0,_=>exact k00
    |1,_=>exact k01
    |2,_=>exact k02
    |3,_=>exact k03
    |4,_=>exact k04
    |5,_=>exact k05
    |6,_=>exact k06
    |m+7,hm=>exact acE hm (by omega)
   ·match m,hm with
    |0,_=>exact k10
    |1,_=>exact k11
    |2,_=>exact k12
    |3,_=>exact k13
    |4,_=>exact k14
    |5,_=>exact k15
    |6,_=>exact k16
    |m+7,hm=>exact acE hm (by omega)
   ·match m,hm with
    |0,_=>exact k20
    |1,_=>exact k21
    |2,_=>exact k22
    |3,_=>exact k23
    |4,_=>exact k24
    |5,_=>exact k25
    |6,_=>exact k26
    |m+7,hm=>exact acE hm (by omega)
   ·match m,hm with
    |0,_=>exact k30
    |1,_=>exact k31
    |2,_=>exact k32
    |3,_=>exact k33
    |4,_=>exact k34
    |5,_=>exact k35
    |6,_=>exact k36
    |m+7,hm=>exact acE hm (by omega)
  case kitV=>
   intro n hn;simp only[Wu,Xi,or_false] at hn;rcases hn with rfl | rfl | rfl | rfl
   ·exact kv0
   ·exact kv1
   ·exact kv2
   ·exact kv3
 have r_:=(DF.at X G d_is_whole).elim λ_ t=>zD (P:=P) (w:=w) B t;have j2:=(DF.at X G d_is_letter).elim λ_ t=>wZ (P:=P) (w:=w) B t;have j1:=(DF.at X G d_cells_of_row).elim λ_ t=>qm (P:=P) (w:=w) B t;have pJ:=(DF.at X G d_letter_of).elim λ_ t=>w_ (P:=P) (w:=w) B t;have Bg:=(DF.at X G d_are_next).elim λ_ t=>zB (P:=P) (w:=w) B t;have qF:=(DF.at X G d_keyed).elim λ_ t=>GA (P:=P) (w:=w) B t;have zw:=(DF.at X G d_distances).elim λ_ t=>wY (P:=P) (w:=w) B t;have Bi:=(DF.at X G d_law_cell).elim λ_ t=>zE (P:=P) (w:=w) B t;have iq:=(DF.at X G d_law_cells).elim λ_ t=>w6 (P:=P) (w:=w) B t;have wU:=(DF.at X G d_law_beside).elim λ_ t=>t8 (P:=P) (w:=w) B t;have t5:=(DF.at X G d_law_refused).elim λ_ t=>sj (P:=P) (w:=w) B t;have ly:=(DF.at X G d_law_changed).elim λ_ t=>sf (P:=P) (w:=w) B t;have Gw:=(DF.at X G d_is_row).elim λ_ t=>Ep (P:=P) (w:=w) B j2 t;have El:=(DF.at X G d_is_cell).elim λ_ t=>Bp (P:=P) (w:=w) B r_ t;have t7:=(DF.at X G d_need_letter).elim λ_ t=>sm (P:=P) (w:=w) B j2 t;have sd:=(DF.at X G d_need_letters).elim λ_ t=>qo (P:=P) (w:=w) B j2 t;have j3:=(DF.at X G d_need_ways).elim λ_ t=>xb (P:=P) (w:=w) B r_ t;have zv:=(DF.at X G d_all_cells).elim λ_ t=>wX (P:=P) (w:=w) B j1 t;have m7:=(DF.at X G d_next_cells).elim λ_ t=>uc (P:=P) (w:=w) B Bg t;have gZ:=(DF.at X G d_with_letters).elim λ_ t=>qp (P:=P) (w:=w) B qF j1 pJ t;have pI:=(DF.at X G d_law_drawn).elim λ_ t=>w9 (P:=P) (w:=w) B Bi t;have ql:=(DF.at X G d_law_labels_v2).elim λ_ t=>oG (P:=P) (w:=w) B iq wU t;have Bh:=(DF.at X G d_is_board).elim λ_ t=>zC (P:=P) (w:=w) B Gw t;have zy:=(DF.at X G d_need_cell).elim λ_ t=>xa (P:=P) (w:=w) B El t;have wV:=(DF.at X G d_like_cells).elim λ_ t=>t9 (P:=P) (w:=w) B pJ m7 t;have wW:=(DF.at X G d_near_among).elim λ_ t=>t_ (P:=P) (w:=w) B qF m7 t;have zx:=(DF.at X G d_law_board).elim λ_ t=>w4 (P:=P) (w:=w) B pI t;have fS:=(DF.at X G d_law_patches_v2).elim λ_ t=>m9 (P:=P) (w:=w) B ql iq t;have jv:=(DF.at X G d_need_board).elim λ_ t=>ua (P:=P) (w:=w) B Bh t;have jw:=(DF.at X G d_steps_back).elim λ_ t=>ud (P:=P) (w:=w) B wV t;have Bm:=(DF.at X G d_parts_of).elim λ_ t=>zG (P:=P) (w:=w) B wW zw qF t;have tZ:=(DF.at X G d_law_painted).elim λ_ t=>si (P:=P) (w:=w) B fS t;have Bj:=(DF.at X G d_law_cuts).elim λ_ t=>zF (P:=P) (w:=w) B iq fS ly t;have lx:=(DF.at X G d_all_patches).elim λ_ t=>se (P:=P) (w:=w) B zv jw qF t;have m6:=(DF.at X G d_need_paint).elim λ_ t=>ub (P:=P) (w:=w) B jv zy j3 t7 t;have oF:=(DF.at X G d_holds_together).elim λ_ t=>m8 (P:=P) (w:=w) B Bm t;have lz:=(DF.at X G d_paints_over).elim λ_ t=>sq (P:=P) (w:=w) B jv j3 sd gZ jw t;have Em:=(DF.at X G d_painted).elim λ_ t=>Bq (P:=P) (w:=w) B m6 gZ jw t;have Gv:=(DF.at X G d_change).elim λ_ t=>Eo (P:=P) (w:=w) B m6 gZ lx t;have MC:=(DF.at X G d_cuts).elim λ_ t=>Js (P:=P) (w:=w) B jv j3 lx oF t;have t6:=(DF.at X G d_law_told_v7).elim λ_ t=>sk (P:=P) (w:=w) B lz MC t5 Em Gv t;exact zA B zx iq ly pI t6 tZ Bj lz fS (Fy (st:=aq) l_law_k40 c_law_k40 k_law_k40)
end K1
open PySem PySem.W PyProof.Rows
theorem PySem.Challenge.cw_cellpatches_k40_painting_holds : PySem.Challenge.rw_cellpatches_k40_painting.Holds := by
 w_on;refine holds_law (by kernel_rfl) λVC=>?_
 refine holds_open (q:=K1.p3) (loose:=[]) (Xt:=λs=>xlAt K1.p3 [] s&&recOk (RowW.records (OpenRow.toRowW _)) s) (XP:=XL K1.p3 []) (Yf:=Hook.obs (kHook K1.mE K1.mD (λ_=>by kernel_rfl))) (Ya:=Hook.val (kHook K1.mE K1.mD (λ_=>by kernel_rfl))) (YP:=Hook.says (kHook K1.mE K1.mD (λ_=>by kernel_rfl))) (N:=6136) ?hl (Hook.of (kHook K1.mE K1.mD (λ_=>by kernel_rfl))) (Hook.keeps (kHook K1.mE K1.mD (λ_=>by kernel_rfl))) (λs e=>xl_of s (ab2.mp e).1) XL.keeps (by rfl) (by rfl) (by rfl) (λs e=>recFacts_of (ab2.mp e).2) (by rfl) (by first | assumption | decide+kernel) (by decide+kernel) ⟨rfl,rfl,rfl,rfl,rfl,by decide+kernel⟩ ?hw ?hc
 case hl=>exact K1.OG
 (case hw=>w_witness2)
 k_fill
 refine L3.Qb (l:=PySem.Challenge.rw_cellpatches_k40_painting) (k:=8) (n:=63) (x:="_law_script") (g:=K1.kJ) rfl (by decide) rfl ⟨rfl,by decide,by decide⟩ (λw h Y=>PySem.W.kIn_of Y) K1.F_ ?F
 case F=>
  intro w mg fa h KX G LX;refine' K1.all_mk KX G LX ?d_is_whole ?d_is_letter ?d_cells_of_row ?d_letter_of ?d_are_next ?d_keyed ?d_distances ?d_law_cell ?d_law_cells ?d_law_beside ?d_law_refused ?d_law_changed ?d_is_row ?d_is_cell ?d_need_letter ?d_need_letters ?d_need_ways ?d_all_cells ?d_next_cells ?d_with_letters ?d_law_drawn ?d_law_labels_v2 ?d_is_board ?d_need_cell ?d_like_cells ?d_near_among ?d_law_board ?d_law_patches_v2 ?d_need_board ?d_steps_back ?d_parts_of ?d_law_painted ?d_law_cuts ?d_all_patches ?d_need_paint ?d_holds_together ?d_paints_over ?d_painted ?d_change ?d_cuts ?d_law_told_v7 ?a_law_k40 ?l_law_k40 ?c_law_k40 ?k_law_k40 ?z_len ?z_isinstance ?z_all ?z_abs ?z_max ?z_min ?z_range ?z_str ?z_int ?z_bool ?z_tuple ?z_list ?z_dict ?z_sorted ?z_ValueError ?y_LETTERS ?y_MOST_ROWS ?y_MOST_COLUMNS ?e0 ?e1 ?e2 ?e3 ?e4 ?e5 ?e6 ?ep ?sp ?q0 ?ga0 ?gt0 ?ca0 ?mo0 ?mb0 ?cl0 ?kp0 ?kv0 ?np0 ?k00 ?k01 ?k02 ?k03 ?k04 ?k05 ?k06 ?q1 ?ga1 ?gt1 ?ca1 ?mo1 ?mb1 ?cl1 ?kp1 ?kv1 ?np1 ?k10 ?k11 ?k12 ?k13 ?k14 ?k15 ?k16 ?q2 ?ga2 ?gt2 ?ca2 ?mo2 ?mb2 ?cl2 ?kp2 ?kv2 ?np2 ?k20 ?k21 ?k22 ?k23 ?k24 ?k25 ?k26 ?q3 ?ga3 ?gt3 ?ca3 ?mo3 ?mb3 ?cl3 ?kp3 ?kv3 ?np3 ?k30 ?k31 ?k32 ?k33 ?k34 ?k35 ?k36
  any_goals (refine' K1.DF.mk ?a ?l ?c ?k;(case a=>k_is);(case l=>k_is);(case c=>k_is);(case k=>k_is))
  any_goals first | k_is | kit_is | k_exc | rfl
