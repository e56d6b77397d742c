import PyProof.Rows.All
import KE.KDictOf
import KE.KDictSum
import KE.KSortTup
import KE.KTryMore
import KE.RegKIsAll
import Lean
import PySem.Challenge.RW_cellpatches_k72_maps
open List renaming length_map->XS,mem_cons_of_mem->XT,mem_cons_self->XU,getElem?_eq_getElem->XW,mem_cons->XY,getElem?_eq_some_iff->X0,getElem?_set_ne->X2,map_cons->X3,getElem?_map->X6,length_cons->X7,length_append->X8,mem_map->X9,getElem?_set_self->X_,mem_singleton->Yb,replicate->Ye,size_toArray->Yh,mem_of_getElem?->Yi,all_eq_true->Yn,range->Yp,getD_eq_getElem?_getD->Yq,mem_append->Yr,map_map->Yu,nil_append->Yw,map_append->Yx,nodup_cons->Yz,getElem?_append_left->YA,mem_append_right->YE,getElem?_cons_zero->YG,getElem?_append_right->YL,length_range->YO,mem_range->YQ,append_nil->YR,getElem?_cons_succ->YS,nodup_append->YT,pairwise_cons->YU,range'->YW,mem_filter->YZ,length_nil->Y0,not_mem_nil->Y3,zip_cons_cons->Y4,map_congr_left->Y9,getElem_of_mem->Y_,getElem?_replicate->Za,Nodup->Zb,length_filter_le->Zp,toArray->ZA,nodup_nil->ZC,flatMap_cons->ZD,replicate_succ->ZG,length_pos_of_mem->ZH,lookup_cons->ZN,getElem_mem->ZO,cons_append->ZP,map_nil->ZT,length_replicate->ZU,mem_iff_getElem->ZZ,mem_append_left->Z4,sum_cons->aac,set_cons_zero->aak,set_cons_succ->aal,mem_zipIdx_iff_getElem?->aam,mem_iff_getElem?->aaq,length_zip->aar,getElem?_concat_length->aas,flatten_cons->aay,pairwise_iff_getElem->aaI,mem_flatMap->aaJ,find?_cons->aaP,all_cons->aaQ,pairwise_map->aaU,append_assoc->aaV,all_map->aaZ,range'_succ->aa2,map_flatMap->aa3,drop_length->aa4,any_cons->aa9,of_mem_zip->aba,foldl_cons->abb,getElem?_zip_eq_some->abl,getElem?_eq_none_iff->abm,drop_eq_getElem_cons->abn,length_erase_of_mem->abu,getElem?_inj->abv,length_eq_zero_iff->abz,filter_cons_of_pos->abA,filter_cons_of_neg->abB,getElem_map->abE,zip_append->abQ,getElem?_eq_none->abR,filter_nil->abS,length->ab7,filterMap_cons->ab8,mem_filterMap->ack,length_range'->acm,take_length->acE,length_take->acF,filter_cons->acG,forIn_cons->acQ,idxOf_lt_length_iff->adn,range_succ_eq_map->adE,not_of_lt_findIdx->adF,range_eq_range'->adU,pairwise_append->adV,mem_erase_of_ne->adW,getElem?_mapIdx->adX,length_flatMap->ad2,getElem?_range->ad3,getElem_idxOf->aek,filter_append->ael,mem_range'_1->aet,foldl_append->aeu,foldl->aev,ext_getElem?->aew
open PySem renaming wpAny_bind->XX,Shared->X1,wpAny_pure->Yc,starEach->Yg,sizeLine->Yl,mainGlobals->Ys,Program->YK,bootBuiltins->YN,Around->YX,wpAny_mono->Y2,compareOp->Y8,behindInMarks->Zf,mem_of_lookup->Zj,wpAny_truthy_bool->Zr,sysModules->Zu,attributeBase->Zx,backTo->ZI,wpAny_dictEntries->ZJ,sizeLine_eq->ZM,wpAny_holding->ZY,wpAny_newObj_type->aad,foldedSetIterable->aae,Keyword->aaf,keywordEach->aaj,wpAny_typeNameOfWhole_keyiter->aao,tupleKind->aap,tupleKind_room_in1->aax,FuncData->aaz,wpAny_passesOwn->aaE,wpAny_call_entry->aaN,wpAny_typeNameOf_keyiter->aaS,wpAny_Call_Name_kw->aaW,swapsWith->aaX,codeAny_builtin->aaY,codeAny->aa5,binaryOp->aa6,storedH->abc,plainId_quiet->abf,backToKw->abg,call_meets->abj,wpAny_execs_nil->abp,wpAny_dictEpoch->abq,NameKind->aby,wpAny_tryCatch->abC,wpAny_comprehension_free->abI,wpAny_assign_Name->abJ,wpAny_Call_method->abK,assignEach->abL,DictEntry->abP,Builtin->ab3,wpAny_notOrdered_dict->ab9,pyNext->ab_,letOwnedTupleGo->aca,call_meetsIn->acb,wpAny_seqItems->acu,recursionLimit->acv,Paired->acx,swapsWithSole->acH,rawInt->acI,dictSetHashed->acJ,wpAny_pyIter_list->acU,wpAny_loadPart_at->acV,typeLookup->acW,callerA->acX,codeAny_mono->ac_,wpAny_forIn_list->adg,noFill_tuple_add->adh,wpAny_updateSeq->adq,wpAny_specialOf->ads,wpAny_letGo->adt,valueAt->adu,size_of_entries->adv,richCompare->adw,cellsFrom->adx,PassesOwn->adD,BindsTo->adH,wpAny_newFunctionEnv_cells->adJ,entryOfKey->adZ,IsTupleKey->ad4,wpAny_standAt->ad6,wpAny_newList->ad7,wpAny_callSpecial?_slot->ad8,seq_tuple_add->ad_,notedBy->aea,compEnvC->aeb,argBest->aec,call->aef,codeAny_compStart_list->aep
open PySem.Heap renaming get?_push_of_some->XZ,lt_size->Yd,get?_push_size->Yj,get?_update_self->Zq,size_push->ZV,SameBut->Z_,get?_update_other->abH,get?_none_of_le->ab5
open Nat renaming le_refl->X4,ne_of_lt->Ym,le_trans->Yy,zero_le->YC,lt_of_lt_of_le->YD,lt_irrefl->YV,le_of_lt->YY,min_eq_left->Ze,lt_trans->Zg,lt_succ_of_lt->ZF,min_eq_right->ZQ,max_eq_right->ZR,lt_succ_self->ZS,mul_le_mul->ZW,max_eq_left->Z8,ne_of_gt->aab,le_antisymm->aau,le_total->aa1,mul_le_mul_right->aa8,lt_of_le_of_lt->abk,le_max_right->abG,zero_add->abY,le_max_left->abZ,add_comm->ab0,lt_or_gt_of_ne->acp,le_succ->ac4,add_le_add->adm,mod_lt->ado,div_div_eq_div_mul->adN,succ_pos->adR,mul_comm->adS,min_self->adT,one_mul->aeh,le_zero->aei,add_mul->aej,add_right_comm->aer
open PySem.W renaming Frag->X5,kitOne->Yt,nsIn->YH,mg_none_of->YM,kia_one->Y7,fnOf->Zh,findIn->Zk,keepIn->Zz,mg_of->ZK,codeIn->aaC,mroIn->aaK,clsIn->aa0,exmOne->abd,excIn->abr,cellsFrom_some->abw,hideAll->abD,looks_findIn->abM,methodObj->acd,instObj->acz,lookIn->acK,looks_mroIn->adA,kdu_collect->adB,hideAll_get->adC,of_hideAll->adK,codeRec_of->adL,callWith_K->adM,kitx_list->adP,kitx_dict->adQ,plainGet->ad0,kdl_dict->ad1,OpenLaw->aeg
open PySem.PassesOwn renaming never->Yk
open Bool renaming and_eq_true->Yo,false_ne_true->Yv,false_eq_true->Y5,and_eq_true_iff->Z5,eq_false_iff->aaA,eq_iff_iff->abV,true_and->acn,not_false->ade,and_false->adf,and_true->adp
open Array renaming length_toList->YB,getElem?_toList->Zn,getElem?_eq_getElem->aaH,append_assoc->acg,isEmpty_iff->aen
open PySem.Value renaming ref->YF,none->Zv,bool->aag,builtin->aaM,type->aco,str->ady,int->adz
open Option.some renaming inj->YI
open Ne renaming symm->YJ
open PySem.Heap.SameBut renaming update->Y1,refl->ada
open Option renaming isSome_iff_exists->Y6,map_eq_some_iff->aaR,isSome_map->acj
open ForInStep renaming yield->Zd
open False renaming elim->Zi
open PyProof.Rows renaming IntsAre->Zl,envOfC->ZE,callWith_type1->aaa,seqObj->aaF,callWith_builtin1->abW,kindOf->ab4,AllBare->ach,lt_int->acP,subscriptTail_builtinR->aeo
open PySem.Calls renaming spliced_cons->Zw,evalArgs_plain->ZX,callWith_builtin->aah,spliced_nil->aav,Name_function_global->acT,call_function_entry->ac9
open PySem.F renaming plainAttrs_list->Zy,slot_dict_get->ZL,plainAttrs_dict->Z7,plain_min_loop->aan,slot_dict_keyiterator_next->aat,entry_dict_get->aaO,excBase_ValueError->aa_,args_tuple_add_2->abh,entry_tuple_add->abt,slot_tuple_add->abx,slot_dict_setdefault->acw,type_list_append->acL,slot_list_append->acM,slot_dict_values->acN,slot_dict_update->acO,args_dict_keyiterator_next_1->acS,type_list_index->acZ,slot_list_index->ac0,args_dict_get_3->ac1,args_dict_get_2->ac2,entry_min_loop->ac6,entry_dict_keyiterator_next->ac7,type_dict_get->adl,typeOf_object_class->aem
open True renaming intro->Z6
open PySem.Paired renaming length->Z9
open PySem.Obj renaming mapSeq->aai,data_mapDictKeys->aa7,isFreed_of_dict->ace,data_mapFields->aeq
open PySem.Builtin.List renaming listTooLong->aaw
open PySem.Around renaming under_plainId->aaB,frames_deeper->adI
open PySem.Builtin.Dict renaming updateFrom->aaD,showsAll->abo,entriesForEmpty->ab6,selfAndRest->acr,addKeywords->acs,pairItems->acC,mergeDict->acD
open PySem.Builtin.Str renaming occurrences->aaG
open PySem.Str renaming ofString->aaL
open PUnit renaming unit->aaT
open Int renaming toNat_of_nonneg->abe,le_antisymm->ab1,emod_lt_of_pos->acq,toNat_natCast->acB,emod_nonneg->ac5,le_trans->adY
open Int.ofNat renaming inj->abi
open PySem.Builtin.Dict_items renaming ownsTuple->abF
open List.Pairwise renaming nil->abN,imp->abO
open PySem.Data renaming dict->abT,fields->ad5
open PySem.Builtin.Builtins renaming bindParams->abU
open Prod renaming ext->abX
open Iff renaming rfl->ab2
open PySem.Builtin.Tuple renaming tupleHashOf->acf
open ToString renaming toString->aci
open Sum renaming inl->acy,inr->acY
open List.Perm renaming refl->acA
open Function renaming comp->acR
open Prod.mk renaming injEq->ac3
open Classical renaming choose_spec->ac8,not_forall->adb,not_imp->adG,choose->adO
open PySem.SeqAt.EqAt renaming str_int->adi,int_str->adj,int_int->adk
open MonadExcept renaming tryCatch->ad9
open PySem.Value.ref renaming inj->aed
open PySem.SeqAt renaming EqAt->aee
open PySem.NameKind renaming free->aes
set_option maxHeartbeats 0
set_option compiler.extract_closed false
set_option Elab.async false
set_option linter.all false
set_option maxRecDepth 100000
abbrev aex:=@if_pos
abbrev aey:=@if_neg
abbrev aez:=@decide_eq_true_eq
abbrev aeA:=@decide_eq_true
abbrev aeB:=@absurd
abbrev aeC:=@of_decide_eq_true
abbrev aeD:=@decide_eq_false
abbrev aeE:=@congrArg
abbrev aeF:=@beq_eq_false_iff_ne
abbrev aeG:=@decide_eq_decide
namespace L2
open PySem
def eB(s:Stmt):Arguments:=match s with
 | .FunctionDef _ a _ _ _ _ _ _ _ _=>a
 |_=>{posonlyargs:=[],args:=[],vararg:=none,kwonlyargs:=[],kw_defaults:=[],kwarg:=none,defaults:=[]}
def aV(s:Stmt):List Stmt:=match s with
 | .FunctionDef _ _ b _ _ _ _ _ _ _=>b
 |_=>[]
def ai(s:Stmt):Scope:=match s with
 | .FunctionDef _ _ _ _ _ _ sc _ _ _=>sc
 |_=>{kind:= .function,names:=[],isGenerator:=false,isCoroutine:=false}
end L2
namespace K1
open PySem PySem.Spec
def top(i:Nat):Stmt:=PySem.Challenge.pw_cellpatches_k72_maps.main.body.getD i (.Pass ⟨0,0,0,0⟩)
abbrev hS(s:String)(t:Tok):Value:= .str (aaL s) t
abbrev hE(P:Params)(s:String)(t:Tok)(v:Value):abP:={hash:=PyData.keyHash P (aaL s),key:=hS s t,val:=v}
abbrev hT(xs:Array Value):Obj:={cls:= .type "tuple",data:=Data.seq xs}
abbrev hF(s:String)(t:Stmt)(m:Value)(c:Addr):Obj:={cls:= .type "function",data:=Data.func {name:=aaL s,qualname:=aaL s,params:=L2.eB t,body:=FuncBody.stmts (L2.aV t),scope:=L2.ai t,globals:=3,closure:=[],defaults:= .none,kwdefaults:= .none,pyModule:=m,code:= .ref c} }
abbrev jw(s:String)(t1 t2 t3:Tok)(l n f:Int)(a:Addr)(v:Int)(b:Addr)(x y:Value)(d:Addr)(p:Int)(t4:Tok):Obj:={cls:= .type "code",data:=ad5 #[hS s t1,hS s t2,hS "/claim/cut.py" t3, .int l 0, .int n 0, .int 0 0, .int 0 0, .int f 0, .ref a, .bool true, .int v 0, .ref b, .none,x,y, .ref d, .int p 0, .int l 0,hS "/claim/cut.py" t4]}
abbrev DC:Value:=hS "law_cellpatches_k72_maps" 477
abbrev EN:Value:=hS "cellpatches.boards" 255
abbrev Oh:Value:=hS "cellpatches.patches" 358
abbrev Rf:Value:=hS "cellpatches.errors" 187
abbrev Rg:Value:=hS "cellpatches.maps" 440
abbrev R_(n:String)(b a ns r:Addr)(t1 t2:Tok):Obj:={cls:= .type "type",data:=Data.cls {name:=aaL n,bases:=[.ref b],mro:=[.ref a, .ref b, .type "ValueError", .type "Exception", .type "BaseException", .type "object"],ns:=ns,qualname:=aaL n},slots:= #[some (.ref r),none,some (hS n t1),some (hS n t2),some (.builtin "ValueError.__new__"),some (.bool true)]}
def qX:Params->X5:=λP=>(nat_lit 2,{cls:= .none,data:=abT #[]})::
 (nat_lit 3,{cls:= .type "dict",data:=abT #[hE P "__name__" 165 DC,hE P "__doc__" 166 .none,hE P "__package__" 167 .none,hE P "__loader__" 168 (.builtin "__main__.__loader__#opaque"),hE P "__spec__" 169 .none,hE P "__annotations__" 170 (.ref 6),hE P "__builtins__" 171 (.ref 4),hE P "__file__" 173 (hS "/claim/cut.py" 172),hE P "__cached__" 174 .none,hE P "PatchError" 206 (.ref 24),hE P "NoBoard" 222 (.ref 37),hE P "NoWays" 238 (.ref 49),hE P "NoNumber" 254 (.ref 61),hE P "LETTERS" 258 (hS "abcdef" 257),hE P "MOST_ROWS" 260 (.int 8 259),hE P "MOST_COLUMNS" 262 (.int 8 261),hE P "is_whole" 269 (.ref 70),hE P "is_letter" 276 (.ref 77),hE P "is_row" 282 (.ref 82),hE P "is_board" 288 (.ref 87),hE P "need_board" 295 (.ref 94),hE P "need_ways" 302 (.ref 101),hE P "cells_of_row" 308 (.ref 106),hE P "all_cells" 317 (.ref 113),hE P "letter_of" 325 (.ref 120),hE P "are_next" 336 (.ref 127),hE P "next_cells" 348 (.ref 134),hE P "keyed" 357 (.ref 141),hE P "like_cells" 365 (.ref 146),hE P "steps_back" 379 (.ref 153),hE P "all_patches" 391 (.ref 160),hE P "numbers_of" 402 (.ref 167),hE P "near_numbers" 416 (.ref 174),hE P "distances" 429 (.ref 181),hE P "need_number" 439 (.ref 188),hE P "map_of" 449 (.ref 195),hE P "neighbours" 459 (.ref 202),hE P "borders" 470 (.ref 209),hE P "middle" 476 (.ref 214),hE P "_law_cell" 486 (.ref 221),hE P "_law_drawn" 496 (.ref 228),hE P "_law_board" 502 (.ref 233),hE P "_law_cells" 508 (.ref 238),hE P "_law_beside" 523 (.ref 245),hE P "_law_labels" 529 (.ref 250),hE P "_law_patches" 535 (.ref 255),hE P "_law_touching" 541 (.ref 260),hE P "_law_fars" 553 (.ref 267),hE P "_law_refused" 561 (.ref 274),hE P "_law_told" 573 (.ref 281),hE P "law" 579 (.ref 286)] 51})::
 (nat_lit 15,hT #[.type "ValueError"])::
 (nat_lit 22,hT #[])::
 (nat_lit 23,{cls:= .type "dict",data:=abT #[hE P "__module__" 196 Rf,hE P "__firstlineno__" 200 (.int 2 199),hE P "__static_attributes__" 201 (.ref 22),hE P "__weakref__" 203 (.ref 25),hE P "__doc__" 204 .none] 3})::
 (nat_lit 24,{cls:= .type "type",data:=Data.cls {name:=aaL "PatchError",bases:=[.type "ValueError"],mro:=[.ref 24, .type "ValueError", .type "Exception", .type "BaseException", .type "object"],ns:=23,qualname:=aaL "PatchError",subclasses:=[.ref 37, .ref 49, .ref 61]},slots:= #[some (.ref 15),none,some (hS "PatchError" 189),some (hS "PatchError" 197),some (.builtin "ValueError.__new__"),some (.bool true)]})::
 (nat_lit 25,{cls:= .type "getset_descriptor",data:=ad5 #[hS "__weakref__" 202, .ref 24, .builtin "ExceptionGroup.__weakref__", .none]})::
 (nat_lit 28,hT #[.ref 24])::
 (nat_lit 35,hT #[])::
 (nat_lit 36,{cls:= .type "dict",data:=abT #[hE P "__module__" 214 Rf,hE P "__firstlineno__" 218 (.int 4 217),hE P "__static_attributes__" 219 (.ref 35),hE P "__doc__" 220 .none] 2})::
 (nat_lit 37,R_ "NoBoard" 24 37 36 28 207 215)::
 (nat_lit 40,hT #[.ref 24])::
 (nat_lit 47,hT #[])::
 (nat_lit 48,{cls:= .type "dict",data:=abT #[hE P "__module__" 230 Rf,hE P "__firstlineno__" 234 (.int 6 233),hE P "__static_attributes__" 235 (.ref 47),hE P "__doc__" 236 .none] 2})::
 (nat_lit 49,R_ "NoWays" 24 49 48 40 223 231)::
 (nat_lit 52,hT #[.ref 24])::
 (nat_lit 59,hT #[])::
 (nat_lit 60,{cls:= .type "dict",data:=abT #[hE P "__module__" 246 Rf,hE P "__firstlineno__" 250 (.int 8 249),hE P "__static_attributes__" 251 (.ref 59),hE P "__doc__" 252 .none] 2})::
 (nat_lit 61,R_ "NoNumber" 24 61 60 52 239 247)::
 (nat_lit 64,hT #[])::
 (nat_lit 66,hT #[hS "thing" 266])::
 (nat_lit 67,hT #[])::
 (nat_lit 69,jw "is_whole" 263 264 265 14 1 3 64 181 65 (.ref 66) (.ref 67) 68 267 268)::
 (nat_lit 70,hF "is_whole" (top 9) EN 69)::
 (nat_lit 71,hT #[])::
 (nat_lit 73,hT #[hS "thing" 273])::
 (nat_lit 74,hT #[])::
 (nat_lit 76,jw "is_letter" 270 271 272 16 1 3 71 181 72 (.ref 73) (.ref 74) 75 274 275)::
 (nat_lit 77,hF "is_letter" (top 10) EN 76)::
 (nat_lit 78,hT #[])::
 (nat_lit 81,jw "is_row" 277 278 279 18 1 3 78 181 79 .none .none 80 280 281)::
 (nat_lit 82,hF "is_row" (top 11) EN 81)::
 (nat_lit 83,hT #[])::
 (nat_lit 86,jw "is_board" 283 284 285 22 1 3 83 181 84 .none .none 85 286 287)::
 (nat_lit 87,hF "is_board" (top 12) EN 86)::
 (nat_lit 88,hT #[])::
 (nat_lit 90,hT #[hS "thing" 292])::
 (nat_lit 91,hT #[])::
 (nat_lit 93,jw "need_board" 289 290 291 28 1 3 88 181 89 (.ref 90) (.ref 91) 92 293 294)::
 (nat_lit 94,hF "need_board" (top 13) EN 93)::
 (nat_lit 95,hT #[])::
 (nat_lit 97,hT #[hS "thing" 299])::
 (nat_lit 98,hT #[])::
 (nat_lit 100,jw "need_ways" 296 297 298 31 1 3 95 181 96 (.ref 97) (.ref 98) 99 300 301)::
 (nat_lit 101,hF "need_ways" (top 14) EN 100)::
 (nat_lit 102,hT #[])::
 (nat_lit 105,jw "cells_of_row" 303 304 305 34 2 3 102 181 103 .none .none 104 306 307)::
 (nat_lit 106,hF "cells_of_row" (top 15) EN 105)::
 (nat_lit 107,hT #[])::
 (nat_lit 109,hT #[hS "board" 312,hS "found" 313,hS "row" 314])::
 (nat_lit 110,hT #[])::
 (nat_lit 112,jw "all_cells" 309 310 311 36 1 3 107 181 108 (.ref 109) (.ref 110) 111 315 316)::
 (nat_lit 113,hF "all_cells" (top 16) EN 112)::
 (nat_lit 114,hT #[])::
 (nat_lit 116,hT #[hS "board" 321,hS "cell" 322])::
 (nat_lit 117,hT #[])::
 (nat_lit 119,jw "letter_of" 318 319 320 41 2 3 114 181 115 (.ref 116) (.ref 117) 118 323 324)::
 (nat_lit 120,hF "letter_of" (top 17) EN 119)::
 (nat_lit 121,hT #[])::
 (nat_lit 123,hT #[hS "one" 329,hS "other" 330,hS "ways" 331,hS "down" 332,hS "along" 333])::
 (nat_lit 124,hT #[])::
 (nat_lit 126,jw "are_next" 326 327 328 43 3 3 121 181 122 (.ref 123) (.ref 124) 125 334 335)::
 (nat_lit 127,hF "are_next" (top 18) EN 126)::
 (nat_lit 128,hT #[])::
 (nat_lit 130,hT #[hS "board" 340,hS "cell" 341,hS "ways" 342,hS "found" 343,hS "row" 344,hS "column" 345])::
 (nat_lit 131,hT #[])::
 (nat_lit 133,jw "next_cells" 337 338 339 49 3 3 128 181 129 (.ref 130) (.ref 131) 132 346 347)::
 (nat_lit 134,hF "next_cells" (top 19) EN 133)::
 (nat_lit 135,hT #[])::
 (nat_lit 137,hT #[hS "things" 352,hS "found" 353,hS "thing" 354])::
 (nat_lit 138,hT #[])::
 (nat_lit 140,jw "keyed" 349 350 351 56 1 3 135 181 136 (.ref 137) (.ref 138) 139 355 356)::
 (nat_lit 141,hF "keyed" (top 20) EN 140)::
 (nat_lit 142,hT #[])::
 (nat_lit 145,jw "like_cells" 360 361 362 62 3 3 142 181 143 .none .none 144 363 364)::
 (nat_lit 146,hF "like_cells" (top 22) Oh 145)::
 (nat_lit 147,hT #[])::
 (nat_lit 149,hT #[hS "board" 369,hS "start" 370,hS "ways" 371,hS "back" 372,hS "ring" 373,hS "further" 374,hS "cell" 375,hS "near" 376])::
 (nat_lit 150,hT #[])::
 (nat_lit 152,jw "steps_back" 366 367 368 65 3 3 147 181 148 (.ref 149) (.ref 150) 151 377 378)::
 (nat_lit 153,hF "steps_back" (top 23) Oh 152)::
 (nat_lit 154,hT #[])::
 (nat_lit 156,hT #[hS "board" 383,hS "ways" 384,hS "found" 385,hS "seen" 386,hS "cell" 387,hS "patch" 388])::
 (nat_lit 157,hT #[])::
 (nat_lit 159,jw "all_patches" 380 381 382 77 2 3 154 181 155 (.ref 156) (.ref 157) 158 389 390)::
 (nat_lit 160,hF "all_patches" (top 24) Oh 159)::
 (nat_lit 161,hT #[])::
 (nat_lit 163,hT #[hS "found" 395,hS "numbers" 396,hS "number" 397,hS "patch" 398,hS "cell" 399])::
 (nat_lit 164,hT #[])::
 (nat_lit 166,jw "numbers_of" 392 393 394 86 1 3 161 181 162 (.ref 163) (.ref 164) 165 400 401)::
 (nat_lit 167,hF "numbers_of" (top 25) Oh 166)::
 (nat_lit 168,hT #[])::
 (nat_lit 170,hT #[hS "board" 406,hS "ways" 407,hS "found" 408,hS "numbers" 409,hS "near" 410,hS "cell" 411,hS "mine" 412,hS "other" 413])::
 (nat_lit 171,hT #[])::
 (nat_lit 173,jw "near_numbers" 403 404 405 92 3 3 168 181 169 (.ref 170) (.ref 171) 172 414 415)::
 (nat_lit 174,hF "near_numbers" (top 26) Oh 173)::
 (nat_lit 175,hT #[])::
 (nat_lit 177,hT #[hS "near" 420,hS "start" 421,hS "far" 422,hS "ring" 423,hS "further" 424,hS "thing" 425,hS "other" 426])::
 (nat_lit 178,hT #[])::
 (nat_lit 180,jw "distances" 417 418 419 101 2 3 175 181 176 (.ref 177) (.ref 178) 179 427 428)::
 (nat_lit 181,hF "distances" (top 27) Oh 180)::
 (nat_lit 182,hT #[])::
 (nat_lit 184,hT #[hS "many" 435,hS "thing" 436])::
 (nat_lit 185,hT #[])::
 (nat_lit 187,jw "need_number" 432 433 434 114 2 3 182 181 183 (.ref 184) (.ref 185) 186 437 438)::
 (nat_lit 188,hF "need_number" (top 29) (hS "cellpatches.measures" 430) 187)::
 (nat_lit 189,hT #[])::
 (nat_lit 191,hT #[hS "board" 445,hS "ways" 446])::
 (nat_lit 192,hT #[])::
 (nat_lit 194,jw "map_of" 442 443 444 118 2 3 189 181 190 (.ref 191) (.ref 192) 193 447 448)::
 (nat_lit 195,hF "map_of" (top 31) Rg 194)::
 (nat_lit 196,hT #[])::
 (nat_lit 198,hT #[hS "board" 453,hS "ways" 454,hS "number" 455,hS "near" 456])::
 (nat_lit 199,hT #[])::
 (nat_lit 201,jw "neighbours" 450 451 452 122 3 3 196 181 197 (.ref 198) (.ref 199) 200 457 458)::
 (nat_lit 202,hF "neighbours" (top 32) Rg 201)::
 (nat_lit 203,hT #[])::
 (nat_lit 205,hT #[hS "board" 463,hS "ways" 464,hS "one" 465,hS "other" 466,hS "near" 467])::
 (nat_lit 206,hT #[])::
 (nat_lit 208,jw "borders" 460 461 462 126 4 3 203 181 204 (.ref 205) (.ref 206) 207 468 469)::
 (nat_lit 209,hF "borders" (top 33) Rg 208)::
 (nat_lit 210,hT #[])::
 (nat_lit 213,jw "middle" 471 472 473 131 2 3 210 181 211 .none .none 212 474 475)::
 (nat_lit 214,hF "middle" (top 34) Rg 213)::
 (nat_lit 215,hT #[])::
 (nat_lit 217,hT #[hS "_law_script" 482,hS "_law_k" 483])::
 (nat_lit 218,hT #[])::
 (nat_lit 220,jw "_law_cell" 479 480 481 136 2 3 215 181 216 (.ref 217) (.ref 218) 219 484 485)::
 (nat_lit 221,hF "_law_cell" (top 36) DC 220)::
 (nat_lit 222,hT #[])::
 (nat_lit 224,hT #[hS "_law_script" 490,hS "_law_k" 491,hS "_law_many" 492,hS "_law_cell_here" 493])::
 (nat_lit 225,hT #[])::
 (nat_lit 227,jw "_law_drawn" 487 488 489 140 3 3 222 181 223 (.ref 224) (.ref 225) 226 494 495)::
 (nat_lit 228,hF "_law_drawn" (top 37) DC 227)::
 (nat_lit 229,hT #[])::
 (nat_lit 232,jw "_law_board" 497 498 499 144 3 3 229 181 230 .none .none 231 500 501)::
 (nat_lit 233,hF "_law_board" (top 38) DC 232)::
 (nat_lit 234,hT #[])::
 (nat_lit 237,jw "_law_cells" 503 504 505 153 1 3 234 181 235 .none .none 236 506 507)::
 (nat_lit 238,hF "_law_cells" (top 39) DC 237)::
 (nat_lit 239,hT #[])::
 (nat_lit 241,hT #[hS "_law_board_here" 512,hS "_law_cell_here" 513,hS "_law_ways" 514,hS "_law_found" 515,hS "_law_down" 516,hS "_law_right" 517,hS "_law_row" 518,hS "_law_column" 519,hS "_law_inside" 520])::
 (nat_lit 242,hT #[])::
 (nat_lit 244,jw "_law_beside" 509 510 511 158 3 3 239 181 240 (.ref 241) (.ref 242) 243 521 522)::
 (nat_lit 245,hF "_law_beside" (top 40) DC 244)::
 (nat_lit 246,hT #[])::
 (nat_lit 249,jw "_law_labels" 524 525 526 168 2 3 246 181 247 .none .none 248 527 528)::
 (nat_lit 250,hF "_law_labels" (top 41) DC 249)::
 (nat_lit 251,hT #[])::
 (nat_lit 254,jw "_law_patches" 530 531 532 186 2 3 251 181 252 .none .none 253 533 534)::
 (nat_lit 255,hF "_law_patches" (top 42) DC 254)::
 (nat_lit 256,hT #[])::
 (nat_lit 259,jw "_law_touching" 536 537 538 192 2 3 256 181 257 .none .none 258 539 540)::
 (nat_lit 260,hF "_law_touching" (top 43) DC 259)::
 (nat_lit 261,hT #[])::
 (nat_lit 263,hT #[hS "_law_rows" 545,hS "_law_start" 546,hS "_law_found" 547,hS "_law_turn" 548,hS "_law_one" 549,hS "_law_other" 550])::
 (nat_lit 264,hT #[])::
 (nat_lit 266,jw "_law_fars" 542 543 544 204 2 3 261 181 262 (.ref 263) (.ref 264) 265 551 552)::
 (nat_lit 267,hF "_law_fars" (top 44) DC 266)::
 (nat_lit 268,hT #[])::
 (nat_lit 270,hT #[hS "_law_e" 557,hS "_law_flags" 558])::
 (nat_lit 271,hT #[])::
 (nat_lit 273,jw "_law_refused" 554 555 556 211 1 3 268 181 269 (.ref 270) (.ref 271) 272 559 560)::
 (nat_lit 274,hF "_law_refused" (top 45) DC 273)::
 (nat_lit 275,hT #[])::
 (nat_lit 277,hT #[hS "_law_kind" 565,hS "_law_board_here" 566,hS "_law_ways" 567,hS "_law_one" 568,hS "_law_other" 569,hS "_law_e" 570])::
 (nat_lit 278,hT #[])::
 (nat_lit 280,jw "_law_told" 562 563 564 216 5 3 275 181 276 (.ref 277) (.ref 278) 279 571 572)::
 (nat_lit 281,hF "_law_told" (top 46) DC 280)::
 (nat_lit 282,hT #[])::
 (nat_lit 285,jw "law" 574 575 576 223 1 3 282 181 283 .none .none 284 577 578)::
 (nat_lit 286,hF "law" (top 47) DC 285)::[]
def qW:List Nat:=[2,3,15,22,23,24,25,28,35,36,37,40,47,48,49,52,59,60,61,64,66,67,69,70,71,73,74,76,77,78,81,82,83,86,87,88,90,91,93,94,95,97,98,100,101,102,105,106,107,109,110,112,113,114,116,117,119,120,121,123,124,126,127,128,130,131,133,134,135,137,138,140,141,142,145,146,147,149,150,152,153,154,156,157,159,160,161,163,164,166,167,168,170,171,173,174,175,177,178,180,181,182,184,185,187,188,189,191,192,194,195,196,198,199,201,202,203,205,206,208,209,210,213,214,215,217,218,220,221,222,224,225,227,228,229,232,233,234,237,238,239,241,242,244,245,246,249,250,251,254,255,256,259,260,261,263,264,266,267,268,270,271,273,274,275,277,278,280,281,282,285,286]
def z3:YK:={PySem.Challenge.pw_cellpatches_k72_maps with main:={PySem.Challenge.pw_cellpatches_k72_maps.main with body:=[top 1,top 2,top 3,top 4,top 6,top 7,top 8,top 9,top 10,top 11,top 12,top 13,top 14,top 15,top 16,top 17,top 18,top 19,top 20,top 22,top 23,top 24,top 25,top 26,top 27,top 29,top 31,top 32,top 33,top 34,top 36,top 37,top 38,top 39,top 40,top 41,top 42,top 43,top 44,top 45,top 46,top 47]} }
open PySem.W PyProof.Rows in
def Pn:LeftO PySem.Challenge.rw_cellpatches_k72_maps.row.prog z3 [] (λs=>xlAt z3 [] s&&recOk PySem.Challenge.rw_cellpatches_k72_maps.row.records s) (kHook qX qW (λ_=>by kernel_rfl)).obs (kHook qX qW (λ_=>by kernel_rfl)).val 4052:=λw=>by kernel_rfl
end K1
namespace L2
open PySem PySem.Spec PyProof.Rows
abbrev Key:=Sum Int Str
def md:Key->Value->Bool
 | .inl k,v=>Value.isInt k v
 | .inr x,v=>Value.isStrOf x v
def P8(w:World):Key->Int
 | .inl k=>hashInt k
 | .inr x=>hashStr w x
def bC:∀{k:Key}{v:Value},md k v=true->(∃i t,k=acy i/\v=adz i t)\/(∃x t,k=acY x/\v=ady x t)
 | .inl i,v,h=>by
   obtain⟨t,e⟩:=Value.isInt_shape (k:=i) (v:=v) h;exact .inl ⟨i,t,rfl,e⟩
 | .inr x,v,h=>by
   obtain⟨t,e⟩:=Value.isStrOf_shape (x:=x) (v:=v) h;exact .inr ⟨x,t,rfl,e⟩
def DW(i:Int)(t:Tok):md (.inl i) (.int i t)=true:=by simp[md,Value.isInt]
def DX(x:Str)(t:Tok):md (.inr x) (.str x t)=true:=by simp[md,Value.isStrOf]
def MT(a b:Int):decide ((acy a:Key)=acy b)=(a==b):=by
 by_cases e:a=b
 ·subst e;simp
 ·have h:¬(acy a:Key)=acy b:=λq=>e (Sum.inl.inj q);rw[aeD h];exact(aeF.mpr e).symm
def MW(a b:Str):decide ((acY a:Key)=acY b)=decide (a=b):=by
 by_cases e:a=b
 ·subst e;simp
 ·have h:¬(acY a:Key)=acY b:=λq=>e (Sum.inr.inj q);rw[aeD h,aeD e]
def MU(a:Int)(b:Str):decide ((acy a:Key)=acY b)=false:=aeD (λq=>nomatch q)
def MV(a:Str)(b:Int):decide ((acY a:Key)=acy b)=false:=aeD (λq=>nomatch q)
def aU(prog:YK)(w:World):PySem.KeyKind prog w Key where
 is:=md
 hash:=P8 w
 inj:=λv a b ha hb=>by
  rcases bC ha with⟨i,t,rfl,rfl⟩ | ⟨x,t,rfl,rfl⟩
  ·rcases bC hb with⟨j,u,rfl,e⟩ | ⟨y,u,rfl,e⟩
   ·injection e with e1 _;rw[e1]
   ·exact nomatch e
  ·rcases bC hb with⟨j,u,rfl,e⟩ | ⟨y,u,rfl,e⟩
   ·exact nomatch e
   ·injection e with e1 _;rw[e1]
 byValue:=λk v h=>by
  rcases bC h with⟨i,t,rfl,rfl⟩ | ⟨x,t,rfl,rfl⟩<;>rfl
 pyHash:=λhv h=>by
  rcases bC hv with⟨i,t,rfl,rfl⟩ | ⟨x,t,rfl,rfl⟩
  ·exact wpAny_pyHash_int h
  ·exact wpAny_pyHash_str h
 eqBool:=λhu hv h=>by
  rcases bC hu with⟨i,t,rfl,rfl⟩ | ⟨x,t,rfl,rfl⟩
  ·rcases bC hv with⟨j,u,rfl,rfl⟩ | ⟨y,u,rfl,rfl⟩
   ·rw[MT] at h;exact wpAny_eqBool_int h
   ·rw[MU] at h;exact adj i t y u _ _ _ _ h
  ·rcases bC hv with⟨j,u,rfl,rfl⟩ | ⟨y,u,rfl,rfl⟩
   ·rw[MV] at h;exact adi x t j u _ _ _ _ h
   ·rw[MW] at h;exact wpAny_eqBool_str h
 «strs» :=λk x t v h=>by
  rcases bC h with⟨i,u,rfl,e⟩ | ⟨y,u,rfl,e⟩
  ·exact nomatch e
  ·injection e with e1 _
   subst e1;cases v<;>rfl
def y7(prog:YK)(w:World)(i:Int)(t:Tok):(aU prog w).is (.inl i) (.int i t)=true:=DW i t
def y8(prog:YK)(w:World)(x:Str)(t:Tok):(aU prog w).is (.inr x) (.str x t)=true:=DX x t
inductive V where
 |non | bl (b:Bool) | int (i:Int) | str (x:Str) | byt (b:Array UInt8) | flt (b:UInt64) | ref (a:Addr) | ty (n:String)
 deriving DecidableEq
def RelV:V->Value->Prop
 | .non,u=>u=Zv
 | .bl b,u=>u=aag b
 | .int i,u=>∃t,u=adz i t
 | .str x,u=>∃t,u=ady x t
 | .byt b,u=>∃t,u=Value.bytes b t
 | .flt b,u=>∃t,u=Value.float b t
 | .ref a,u=>u=YF a
 | .ty n,u=>u=aco n
abbrev Vals:List V->List Value->Prop:=acx RelV
def Vals.length{xs:List V}{us:List Value}(r:Vals xs us):xs.length=us.length:=Z9 r
def Vals.get:∀{xs:List V}{us:List Value}{i:Nat}{x:V},Vals xs us->xs[i]? =some x->∃u,us[i]? =some u/\RelV x u
 |_,_,_,_, .nil,e=>by simp at e
 |_,_,0,_, .cons r _,e=>by simp at e;subst e;exact⟨_,rfl,r⟩
 |_,_,i+1,x, .cons _ t,e=>by
  obtain⟨u,h1,h2⟩:=Vals.get (i:=i) (x:=x) t (by simpa using e);exact⟨u,by simpa using h1,h2⟩
def Vals.append:∀{xs ys:List V}{us ws:List Value},Vals xs us->Vals ys ws->Vals (xs++ys) (us++ws)
 |_,_,_,_, .nil,s=>s
 |_,_,_,_, .cons r t,s=> .cons r (Vals.append t s)
def Vals.take:∀{xs:List V}{us:List Value}(n:Nat),Vals xs us->Vals (xs.take n) (us.take n)
 |_,_,0,_=> .nil
 |_,_,_+1, .nil=> .nil
 |_,_,n+1, .cons r t=> .cons r (Vals.take n t)
def RelO:Option V->Option Value->Prop
 |some v,some u=>RelV v u
 |none,none=>True
 |_,_=>False
def KV{κ:Type}:List (κ×V)->List (κ×Value)->Prop:=acx λ(p:κ×V) (q:κ×Value)=>p.1=q.1/\RelV p.2 q.2
def kV:Key->V
 | .inl i=> .int i
 | .inr x=> .str x
inductive HO where
 |lst (xs:List V)
 |tup (xs:List V)
 |dK (kvs:List (Key×V)) | dT (kvs:List (List Key×V))
 |set (S:Int->Bool) (n:Nat)
 |ins (C dx:Addr) (fs:List (Str×V))
 |own (x:Addr)
 |xd (fs:List (Str×V))
 |met (f x:Addr)
 |rng (lo hi:Int)
 |frz (o:Obj) (u:HO)
 |tbl (ps:Array Value)
 |ext (φ:Heap->Prop)
abbrev Hp:=Addr->Option HO
def upd(H:Hp)(a:Addr)(o:HO):Hp:=λb=>if b=a then some o else H b
def aB{H:Hp}{a:Addr}{o:HO}:upd H a o a=some o:=by unfold upd;rw[aex rfl]
def av{H:Hp}{a b:Addr}{o:HO}(h:b≠a):upd H a o b=H b:=by unfold upd;rw[aey h]
def Gs{H:Hp}{a b:Addr}{o u:HO}(h:H a=some o)(h':H b=some u)(d:o≠u):a≠b:=by
 intro e;subst e;rw[h] at h';exact d (YI h')
def a_{H:Hp}{a b:Addr}{o:HO}(h:H a=some o)(h':H b=none):a≠b:=by
 intro e;subst e;rw[h] at h';cases h'
section
variable(P:YK)(w:World)
def ObjOk(H:Hp)(h:Heap)(a:Addr):HO->Prop
 | .lst xs=>xs.length<=Yl/\∃(aT:List Value) (n:Nat),Vals xs aT/\h.get? a=some {cls:= .type "list",data:= .seq aT.toArray n}
 | .tup xs=>xs.length<=Yl/\∃aT:List Value,Vals xs aT/\IsTup h a aT.toArray
 | .dK kvs=>kvs.length<=Yl/\(a==Zu)=false/\∃vs,KV kvs vs/\h.DictOf (aU P w) a vs
 | .dT kvs=>kvs.length<=Yl/\(a==Zu)=false/\∃xs:List (List Key×Addr×Value),
    acx (λ(p:List Key×V) (q:List Key×Addr×Value)=>p.1=q.1/\H q.2.1=some (.tup (p.1.map kV))/\RelV p.2 q.2.2) kvs xs/\
    ∃o es ep,h.get? a=some o/\o.ExactDict/\o.data= .dict es ep/\es.toList=xs.map (adZ (aap (aU P w)))/\(xs.map (·.1)).Nodup
 | .set S n=>h.SetOf (intKind P w) a S n
 | .ins C dx fs=>H dx=some (.own a)/\fs.length<=1000/\dx≠a/\h.get? a=some (acz C dx)/\
    ∃mA,h.Ns1 dx mA/\(∀f,RelO (fs.lookup f) (mA f))/\PySem.Within mA (fs.map (·.1))
 | .own _=>∃o,h.get? a=some o
 | .xd fs=>∃mA,h.Ns1 a mA/\∀f,RelO (fs.lookup f) (mA f)
 | .rng lo hi=>∃t u v,h.get? a=some {cls:= .type "range",data:= .fields #[.int lo t, .int hi u, .int 1 v]}
 | .frz o u=>h.get? a=some o/\ObjOk H h a u
 | .tbl ps=>h.get? a=some {cls:= .none,data:= .fields ps}
 | .met f x=>h.get? a=some (acd (.ref f) (.ref x))
 | .ext φ=>φ h/\(∃o,h.get? a=some o)/\∀h1 h2:Heap,φ h1->(∀o,h1.get? a=some o->h2.get? a=some o)->φ h2
def HOk(H:Hp)(h:Heap):Prop:=∀a o,H a=some o->ObjOk P w H h a o
end
section
variable{P:YK}{w:World}{H H':Hp}{h h':Heap}{a:Addr}{o:HO}
def ObjOk.lt(x:ObjOk P w H h a o):a<h.objs.size:=by
 cases o with
 |lst xs=>obtain⟨_,_,_,_,e⟩:=x;exact Yd e
 |tup xs=>obtain⟨_,_,_,p⟩:=x;exact p.lt
 |dK kvs=>obtain⟨_,_,_,_,o,_,_,e,_⟩:=x;exact Yd e
 |dT kvs=>obtain⟨_,_,_,_,o,_,_,e,_⟩:=x;exact Yd e
 |set S n=>obtain⟨o,_,_,_,e,_⟩:=x;exact Yd e
 |ins C dx fs=>obtain⟨_,_,_,e,_⟩:=x;exact Yd e
 |own y=>obtain⟨_,e⟩:=x;exact Yd e
 |xd fs=>obtain⟨_,⟨_,_,_,e,_⟩,_⟩:=x;exact Yd e
 |rng lo hi=>obtain⟨_,_,_,e⟩:=x;exact Yd e
 |frz ob u=>obtain⟨e,_⟩:=x;exact Yd e
 |tbl ps=>exact Yd (show h.get? a=some _ from x)
 |met f y=>exact Yd (show h.get? a=some _ from x)
 |ext φ=>obtain⟨_,⟨_,e⟩,_⟩:=x;exact Yd e
def Paired.mapP{α β:Type}{F G:α->β->Prop}:∀{l₁:List α}{l₂:List β},acx F l₁ l₂->(∀a b,F a b->G a b)->acx G l₁ l₂
 |_,_, .nil,_=> .nil
 |_,_, .cons r t,f=> .cons (f _ _ r) (Paired.mapP t f)
def ObjOk.stay(x:ObjOk P w H h a o)(k:∀b u,(b=a\/H b=some (.own a))->h.get? b=some u->h'.get? b=some u)
 (ho:∀b,H b=some (.own a)->H' b=some (.own a))(ht:∀b xs,H b=some (.tup xs)->H' b=some (.tup xs)):ObjOk P w H' h' a o:=by
 induction o with
 |lst xs=>obtain⟨z,aT,n,r,e⟩:=x;exact⟨z,aT,n,r,k _ _ (.inl rfl) e⟩
 |tup xs=>obtain⟨z,aT,r,ob,e,c⟩:=x;exact⟨z,aT,r,ob,k _ _ (.inl rfl) e,c⟩
 |dK kvs=>obtain⟨z,y,vs,r,ob,es,ep,e,c⟩:=x;exact⟨z,y,vs,r,ob,es,ep,k _ _ (.inl rfl) e,c⟩
 |dT kvs=>
  obtain⟨z,y,xs,r,ob,es,ep,e,c⟩:=x;exact⟨z,y,xs,Paired.mapP r λp q z=>⟨z.1,ht _ _ z.2.1,z.2.2⟩,ob,es,ep,k _ _ (.inl rfl) e,c⟩
 |set S n=>obtain⟨ob,es,ep,t,e,c⟩:=x;exact⟨ob,es,ep,t,k _ _ (.inl rfl) e,c⟩
 |ins C dx fs=>
  obtain⟨d,z,ne,e,mA,⟨od,es,ep,e2,c⟩,r⟩:=x;exact⟨ho _ d,z,ne,k _ _ (.inl rfl) e,mA,⟨od,es,ep,k _ _ (.inr d) e2,c⟩,r⟩
 |own y=>obtain⟨ob,e⟩:=x;exact⟨ob,k _ _ (.inl rfl) e⟩
 |xd fs=>obtain⟨mA,⟨od,es,ep,e,c⟩,r⟩:=x;exact⟨mA,⟨od,es,ep,k _ _ (.inl rfl) e,c⟩,r⟩
 |rng lo hi=>obtain⟨t,u,v,e⟩:=x;exact⟨t,u,v,k _ _ (.inl rfl) e⟩
 |frz ob u ih=>obtain⟨e,q⟩:=x;exact⟨k _ _ (.inl rfl) e,ih q⟩
 |tbl ps=>
  have e:h.get? a=some {cls:= .none,data:= .fields ps}:=x;show h'.get? a=some {cls:= .none,data:= .fields ps};exact k a _ (.inl rfl) e
 |met f y=>
  have e:h.get? a=some (acd (.ref f) (.ref y)):=x;show h'.get? a=some (acd (.ref f) (.ref y));exact k a _ (.inl rfl) e
 |ext φ=>obtain⟨p,⟨o,e⟩,st⟩:=x;exact⟨st _ _ p λo q=>k _ _ (.inl rfl) q,⟨o,k _ _ (.inl rfl) e⟩,st⟩
def HOk.lt(x:HOk P w H h)(e:H a=some o):a<h.objs.size:=(x a o e).lt
def HOk.fresh(x:HOk P w H h)(e:h.objs.size<=a):H a=none:=by
 cases q:H a with
 |none=>rfl
 |some u=>exact aeB (YD (x.lt q) e) (YV _)
def HOk.kept(x:HOk P w H h)(k:∀b u,h.get? b=some u->h'.get? b=some u):HOk P w H h':=λa o e=>
 (x a o e).stay (λb u _ q=>k b u q) (λ_ q=>q) λ_ _ q=>q
def HOk.laid(x:HOk P w H h)(k:∀b u,h.get? b=some u->h'.get? b=some u)(hp:h.objs.size<=a)(new:ObjOk P w (upd H a o) h' a o):HOk P w (upd H a o) h':=λb u e=>by
 have hn:=x.fresh hp;by_cases hb:b=a
 ·subst hb;rw[aB] at e;cases e;exact new
 ·rw[av hb] at e;exact(x b u e).stay (λc v _ q=>k c v q) (λc q=>by rw[av (a_ q hn)];exact q) λc xs q=>by rw[av (a_ q hn)];exact q
end
def Rd(H:Hp)(a:Addr)(u:HO):Prop:=H a=some u\/∃o,H a=some (.frz o u)
def Rd.ok{P:YK}{w:World}{H:Hp}{h:Heap}{a:Addr}{u:HO}(r:Rd H a u)(x:HOk P w H h):ObjOk P w H h a u:=by
 rcases r with r | ⟨o,r⟩
 ·exact x a u r
 ·obtain⟨_,q⟩:=x a _ r;exact q
def OI:Option HO->Prop
 |some (.lst _)=>True
 |some (.dK _)=>True
 |some (.dT _)=>True
 |some (.set _ _)=>True
 |some (.ins _ _ _)=>True
 |some (.ext _)=>True
 |_=>False
section
variable{P:YK}{w:World}{H:Hp}{h h':Heap}{x e:Addr}{o':HO}
def HOk.write(ok:HOk P w H h)(mu:OI (H x))(he:e=x\/H e=some (.own x))(k:∀b u,b≠e->h.get? b=some u->h'.get? b=some u)(EO:∃u,h'.get? e=some u)
 (new:ObjOk P w (upd H x o') h' x o'):HOk P w (upd H x o') h':=λb u q=>by
 have Qj:∀c y,H c=some (.own y)->c≠x:=λc y r z=>by subst z;rw[r] at mu;exact mu
 have Ts:∀c xs,H c=some (.tup xs)->c≠x:=λc xs r z=>by subst z;rw[r] at mu;exact mu
 by_cases hb:b=x
 ·subst hb;rw[aB] at q;cases q;exact new
 ·rw[av hb] at q;by_cases Ib:b=e
  ·have q':H b=some (.own x):=by
    rcases he with z | z
    ·exact aeB (Ib.trans z) hb
    ·rw[Ib];exact z
   rw[q] at q';cases q';obtain⟨v,hv⟩:=EO;exact⟨v,by rw[Ib];exact hv⟩
  ·refine(ok b u q).stay (λc v hc r=>k c v ?_ r) (λc r=>by rw[av (Qj c b r)];exact r) λc xs r=>by rw[av (Ts c xs r)];exact r
   rcases hc with rfl | hc
   ·exact Ib
   ·rintro rfl;rcases he with z | z
    ·exact Qj c b hc z
    ·rw[hc] at z;cases z;exact hb rfl
end
structure Un (fs ex:List Addr) (H H':Hp) (h h':Heap):Prop where
 keep:∀b o,h.get? b=some o->H b=none->b∉fs->b∉ex->h'.get? b=some o
 slot:∀b o,h.get? b=some o->H b=none->b∈fs->b∉ex->∃sl,h'.get? b=some {o with slots:=sl}
 free:∀b o,h.get? b=some o->H b=none->b∉ex->H' b=none
 there:∀b o,h.get? b=some o->b∉ex->∃o',h'.get? b=some o'
 tups:∀b xs,H b=some (.tup xs)->H' b=some (.tup xs)
 frzs:∀b o u,H b=some (.frz o u)->H' b=some (.frz o u)
 tbls:∀b ps,H b=some (.tbl ps)->∃more,H' b=some (.tbl (ps++more))
section
variable{fs Us ex qg:List Addr}{H H1 H2:Hp}{h h1 h2 h':Heap}{a x e:Addr}{o:HO}
def Un.any(u:Un fs ex H H1 h h1){b:Addr}{ob:Obj}(q:h.get? b=some ob)(n:H b=none)(hx:b∉ex):∃sl,h1.get? b=some {ob with slots:=sl}:=by
 by_cases hb:b∈fs
 ·exact u.slot b ob q n hb hx
 ·exact⟨ob.slots,u.keep b ob q n hb hx⟩
def Un.trans(a:Un fs ex H H1 h h1)(b:Un fs ex H1 H2 h1 h2):Un fs ex H H2 h h2 where
 keep:=λc ob q n hc hx=>b.keep c ob (a.keep c ob q n hc hx) (a.free c ob q n hx) hc hx
 slot:=λc ob q n hc hx=>by
  obtain⟨sl,e1⟩:=a.slot c ob q n hc hx;obtain⟨Ku,e2⟩:=b.slot c _ e1 (a.free c ob q n hx) hc hx;exact⟨Ku,e2⟩
 free:=λc ob q n hx=>by
  obtain⟨o',e1⟩:=a.there c ob q hx;exact b.free c o' e1 (a.free c ob q n hx) hx
 there:=λc ob q hx=>by
  obtain⟨o',e1⟩:=a.there c ob q hx;exact b.there c o' e1 hx
 tups:=λc xs q=>b.tups c xs (a.tups c xs q)
 frzs:=λc ob xs q=>b.frzs c ob xs (a.frzs c ob xs q)
 tbls:=λc ps q=>by
  obtain⟨m1,e1⟩:=a.tbls c ps q;obtain⟨m2,e2⟩:=b.tbls c _ e1;exact⟨m1++m2,by rw[e2,acg]⟩
def Un.kept(k:∀b u,h.get? b=some u->h'.get? b=some u):Un fs ex H H h h':=
 ⟨λb ob q _ _ _=>k b ob q,λb ob q _ _ _=>⟨ob.slots,k b ob q⟩,λ_ _ _ n _=>n,λb ob q _=>⟨ob,k b ob q⟩,λ_ _ q=>q,λ_ _ _ q=>q,λ_ ps q=>⟨#[],by rw[q];simp⟩⟩
def Un.refl:Un fs ex H H h h:=Un.kept λ_ _ q=>q
def Un.laid(k:∀b u,h.get? b=some u->h'.get? b=some u)(hp:h.objs.size<=a)(hn:H a=none):Un fs ex H (upd H a o) h h' where
 keep:=λb u q _ _ _=>k b u q
 slot:=λb u q _ _ _=>⟨u.slots,k b u q⟩
 free:=λb u q n _=>by rw[av (Ym (YD (Yd q) hp))];exact n
 there:=λb u q _=>⟨u,k b u q⟩
 tups:=λb xs q=>by rw[av (a_ q hn)];exact q
 frzs:=λb u xs q=>by rw[av (a_ q hn)];exact q
 tbls:=λb ps q=>⟨#[],by rw[av (a_ q hn),q];simp⟩
def Un.write(mu:OI (H x))(he:e=x\/H e=some (.own x))(k:∀b u,b≠e->h.get? b=some u->h'.get? b=some u)(EO:∃u,h'.get? e=some u):Un fs ex H (upd H x o) h h':=by
 have hx:∀b,H b=none->b≠x:=λb n z=>by subst z;rw[n] at mu;exact mu
 have hb:∀b,H b=none->b≠e:=λb n z=>by
  subst z;rcases he with r | r
  ·exact hx b n r
  ·rw[n] at r;cases r
 have hm:∀b u,H b=some u->¬OI (some u)->b≠x:=λb u q nm z=>by subst z;rw[q] at mu;exact nm mu
 refine⟨λb u q n _ _=>k b u (hb b n) q,λb u q n _ _=>⟨u.slots,k b u (hb b n) q⟩,λb u q n _=>by rw[av (hx b n)];exact n,λb u q _=>?_,
  λb xs q=>by rw[av (hm b _ q λz=>z)];exact q,λb u xs q=>by rw[av (hm b _ q λz=>z)];exact q,λb ps q=>⟨#[],by rw[av (hm b _ q λz=>z),q];simp⟩⟩
 by_cases Ib:b=e
 ·subst Ib;exact EO
 ·exact⟨u,k b u Ib q⟩
def Un.mono(u:Un fs ex H H1 h h1)(hs:∀b∈fs,b∈Us)(hx:∀b∈ex,b∈qg):Un Us qg H H1 h h1:=
 ⟨λb ob q n hb he=>u.keep b ob q n (λz=>hb (hs b z)) λz=>he (hx b z),λ_ _ q n _ he=>u.any q n λz=>he (hx _ z),λb ob q n he=>u.free b ob q n λz=>he (hx b z),λb ob q he=>u.there b ob q λz=>he (hx b z),u.tups,u.frzs,u.tbls⟩
end
def RG(h:Heap)(H:Hp):List Addr:=(Yp h.objs.size).filter λa=>(H a).isSome
def vR(h:Heap)(H:Hp):Heap:=abD h (RG h H)
def DJ(h:Heap)(H:Hp):(vR h H).objs.size=h.objs.size:=PySem.W.hideAll_size _ _
def FT{h:Heap}{H:Hp}{b:Addr}{o:Obj}(e:h.get? b=some o)(n:H b=none):(vR h H).get? b=some o:=
 adC _ e λhm=>by
  have q:(H b).isSome=true:=(YZ.mp hm).2;rw[n] at q;simp at q
def JF{h:Heap}{H:Hp}{b:Addr}{o:Obj}(e:(vR h H).get? b=some o):h.get? b=some o/\H b=none:=by
 have e':h.get? b=some o:=adK (RG h H) e;refine⟨e',?_⟩;cases q:H b with
 |none=>rfl
 |some x=>
  have hm:b∈RG h H:=YZ.mpr ⟨YQ.mpr (Yd e'),by simp[q]⟩;have z:(vR h H).get? b=none:=PySem.W.hideAll_none (RG h H) hm;rw[z] at e;cases e
def Im(g h:Heap)(L:Addr):List (Addr×Obj):=(Yp h.objs.size).filterMap λa=>if a=L\/(g.get? a).isSome=true then none else(h.get? a).map λo=>(a,o)
def rest(g h:Heap)(L d:Addr):List (Addr×Obj):=(Im g h L).filter λp=>decide (p.1≠d)
structure Mod (K:X5) (mg:Str->Option Value) (base:Heap):Prop where
 kin:K.In base
 glob:base.Ns Ys mg
 blt:∃mb,base.Ns builtinsNs mb/\∀x:Str,x≠"__name__"->mb x=YN x
 nolimit:base.NoLimit
structure Cx where
 prog:YK
 w:World
 K:X5
 mg:Str->Option Value
 base:Heap
 A:YX
 N:List Str
 aeI:X1
 aeH:Hp
 env:Env
 outer:List Env
 stack:List Env
 ex:List Addr
 fn:Str->Bool
 calm:Bool
 pn:List (Addr×Obj)
 xe:Value->X1->Prop
def gV(l:List Env):List Addr:=l.filterMap (·.frame)
abbrev Cx.fs(X:Cx):List Addr:=gV X.outer
def RS(sc:Scope)(x:Str):Prop:=sc.names.lookup x=some .local\/sc.names.lookup x=some .cell\/sc.names.lookup x=some .free
def Loc(sc:Scope)(x:Str):Prop:=sc.names.lookup x=some .local\/sc.names.lookup x=some .cell
def Look(env:Env)(h:Heap)(m:Str->Option Value)(x:Str)(u:Value):Prop:=
 (env.kindOf x=some .local/\m x=some u)\/((env.kindOf x=some .cell\/env.kindOf x=some .free)/\∃c,env.cells.lookup x=some c/\h.IsCell c (some u))
structure Cx.Ok (X:Cx):Prop where
 mod:Mod X.K X.mg X.base
 kind:X.env.scope.kind= .function
 glob:X.env.globals=Ys
 blt:X.env.builtins=builtinsNs
 above:X.aeI.heap.objs.size<=X.env.locals
 inj:∀x y c,X.env.cells.lookup x=some c->X.env.cells.lookup y=some c->x=y
 has:∀x,(X.env.kindOf x=some .cell\/X.env.kindOf x=some .free)->∃c,X.env.cells.lookup x=some c
 cab:∀x c,X.fn x=true->X.env.cells.lookup x=some c->X.aeI.heap.objs.size<=c
 hd:X.calm=true->X.A.handled=none
 frames:X.A.frames=some X.stack
 stk:X.stack=X.outer\/(X.stack=X.env::X.outer/\X.env.frame=some X.env.locals)
 exf:∀b∈X.ex,b≠X.env.locals/\∀x c,X.env.cells.lookup x=some c->c≠b
 bs:∀b o,X.base.get? b=some o->X.aeI.heap.get? b=some o/\X.aeH b=none
 bsz:X.base.objs.size<=X.aeI.heap.objs.size
 noex:∀b o,X.base.get? b=some o->b∉X.ex
 exfs:∀b∈X.ex,b∉X.fs
 funs:X.aeI.heap.FunFrames X.base X.outer
 frf:∀b∈X.fs,X.aeH b=none
structure Inv (X:Cx) (f8:List (Addr×Obj)) (σ:List (Option V)) (H:Hp) (s:X1):Prop where
 ok:X.Ok
 os:s.os=X.aeI.os
 bare:ach s.gens
 base:Un X.fs X.ex X.aeH H X.aeI.heap s.heap
 loc:∃m,s.heap.Ns X.env.locals m/\∀(i:Nat) (x:Str) (v:V),X.N[i]? =some x->σ[i]? =some (some v)->RS X.env.scope x->∃u,RelV v u/\Look X.env s.heap m x u
 cell:∀x c,X.env.cells.lookup x=some c->∃v,s.heap.IsCell c v
 free:H X.env.locals=none
 freeC:∀x c,X.env.cells.lookup x=some c->H c=none
 pin:∀p∈X.pn++f8,s.heap.get? p.1=some p.2/\H p.1=none/\p.1≠X.env.locals/\p.1∉X.fs/\∀v,p.2.data≠ .cell v
 hok:HOk X.prog X.w H s.heap
 len:σ.length=X.N.length
section
variable{X:Cx}{f8:List (Addr×Obj)}{σ:List (Option V)}{H H':Hp}{s:X1}{h':Heap}
def Cx.Ok.nofr(ok:X.Ok){b:Addr}{o:Obj}(e:X.base.get? b=some o):b∉X.fs:=λhb=>by
 have:=(ok.funs.mem hb).1;rw[e] at this;cases this
def Inv.bs(I:Inv X f8 σ H s):∀b o,X.base.get? b=some o->s.heap.get? b=some o/\H b=none:=λb o e=>
 ⟨I.base.keep b o (I.ok.bs b o e).1 (I.ok.bs b o e).2 (I.ok.nofr e) (I.ok.noex b o e),I.base.free b o (I.ok.bs b o e).1 (I.ok.bs b o e).2 (I.ok.noex b o e)⟩
def Inv.bk(I:Inv X f8 σ H s):∀b o,X.base.get? b=some o->s.heap.get? b=some o:=λb o e=>(I.bs b o e).1
def Inv.mod(I:Inv X f8 σ H s):Mod X.K X.mg X.base:=I.ok.mod
def Inv.kIn(I:Inv X f8 σ H s):X.K.In s.heap:=I.ok.mod.kin.keeps I.bk
def Inv.nolimit(I:Inv X f8 σ H s):s.heap.NoLimit:=I.ok.mod.nolimit.keeps I.bk
def Inv.lt(I:Inv X f8 σ H s):X.env.locals<s.heap.objs.size:=let ⟨_,hn,_⟩:=I.loc;hn.lt
def Inv.sz(I:Inv X f8 σ H s):X.aeI.heap.objs.size<=s.heap.objs.size:=Yy I.ok.above (YY I.lt)
def Inv.nofs(I:Inv X f8 σ H s){a:Addr}(h:s.heap.objs.size<=a):a∉X.fs:=λhb=>by
 obtain⟨_,o,ho,_⟩:=I.ok.funs.mem hb;exact aeB (YD (Yd ho) (Yy I.sz h)) (YV _)
def Inv.cne(I:Inv X f8 σ H s):∀x c,X.env.cells.lookup x=some c->c≠X.env.locals:=λx c e z=>by
 obtain⟨v,o,ho,hd⟩:=I.cell x c e;obtain⟨m,⟨o',es,ep,l7,qj,_⟩,_⟩:=I.loc;rw[z,l7] at ho;cases ho;rw[qj] at hd;cases hd
def Inv.funs(I:Inv X f8 σ H s):s.heap.FunFrames X.base X.outer:=by
 have all:∀(l:List Env),(∀b∈gV l,b∈X.fs)->X.aeI.heap.FunFrames X.base l->s.heap.FunFrames X.base l:=by
  intro l;induction l with
  |nil=>intro _ _;trivial
  |cons env r ih=>
   intro hs hl;obtain⟨hk,⟨L,o,hf,hn,ho,hd⟩,hr⟩:=hl;have hL:L∈X.fs:=hs L (by unfold gV;rw[ab8,hf];exact XU);obtain⟨sl,e⟩:=I.base.slot L o ho (I.ok.frf L hL) hL λz=>I.ok.exfs L z hL;exact⟨hk,⟨L,_,hf,hn,e,hd⟩,ih (λb hb=>hs b (by unfold gV;rw[ab8,hf];exact XT _ hb)) hr⟩
 exact all X.outer (λ_ hb=>hb) I.ok.funs
def Inv.stack(I:Inv X f8 σ H s):s.heap.FunFrames X.base X.stack:=by
 rcases I.ok.stk with e | ⟨e,hf⟩
 ·rw[e];exact I.funs
 ·rw[e];obtain⟨m,hn,_⟩:=I.loc;refine .cons (by rw[I.ok.kind];decide) hf hn ?_ I.funs;exact ab5 (Yy I.ok.bsz I.ok.above)
def Inv.stkSub(I:Inv X f8 σ H s):∀b∈gV X.stack,b∈X.env.locals::X.fs:=λb hb=>by
 rcases I.ok.stk with e | ⟨e,hf⟩
 ·rw[e] at hb;exact XT _ hb
 ·rw[e] at hb;unfold gV at hb;rw[ab8,hf] at hb;exact hb
def Inv.stkFree(I:Inv X f8 σ H s):∀b∈gV X.stack,H b=none:=λb hb=>by
 rcases XY.mp (I.stkSub b hb) with e | hb
 ·rw[e];exact I.free
 ·obtain⟨_,o,ho,_⟩:=I.ok.funs.mem hb;exact I.base.free b o ho (I.ok.frf b hb) λz=>I.ok.exfs b z hb
def Inv.step{g':Array GenState}{t':Nat}{d':Drawn}{ch:List Addr}(I:Inv X f8 σ H s)
 (Ic:∀b∈ch,(b∈X.ex\/X.aeI.heap.objs.size<=b)/\b≠X.env.locals/\(∀x c,X.env.cells.lookup x=some c->c≠b)/\∀p∈X.pn++f8,p.1≠b)
 (keep:∀b o,b≠X.env.locals->b∉X.fs->b∉ch->s.heap.get? b=some o->H b=none->h'.get? b=some o)
 (slot:∀b o,b≠X.env.locals->b∈X.fs->b∉ch->s.heap.get? b=some o->H b=none->∃sl,h'.get? b=some {o with slots:=sl})(free:∀b o,b∉ch->s.heap.get? b=some o->H b=none->H' b=none)
 (there:∀b o,b∉ch->s.heap.get? b=some o->∃o',h'.get? b=some o')
 (tups:∀b xs,H b=some (.tup xs)->H' b=some (.tup xs))(frzs:∀b o u,H b=some (.frz o u)->H' b=some (.frz o u))(tbls:∀b ps,H b=some (.tbl ps)->∃more,H' b=some (.tbl (ps++more)))
 (ns:∀m,s.heap.Ns X.env.locals m->h'.Ns X.env.locals m)(hok:HOk X.prog X.w H' h')(hg:ach g'):
 Inv X f8 σ H' {s with heap:=h',gens:=g',drawn:=d',toks:=t'}:=by
 have Oz:∀b o,X.aeI.heap.get? b=some o->b≠X.env.locals:=λb o e=>Ym (YD (Yd e) I.ok.above);have Rx:∀b o,X.aeI.heap.get? b=some o->b∉X.ex->b∉ch:=λb o e hx hb=>by
  rcases(Ic b hb).1 with z | z
  ·exact hx z
  ·exact aeB (YD (Yd e) z) (YV _)
 have cellK:∀x c,X.env.cells.lookup x=some c->∀v,s.heap.IsCell c v->h'.IsCell c v:=λx c e v ⟨o,ho,hd⟩=>by
  have Qf:c∉ch:=λz=>(Ic c z).2.2.1 x c e rfl;by_cases hc:c∈X.fs
  ·obtain⟨sl,q⟩:=slot c o (I.cne x c e) hc Qf ho (I.freeC x c e);exact⟨_,q,hd⟩
  ·exact⟨o,keep c o (I.cne x c e) hc Qf ho (I.freeC x c e),hd⟩
 refine⟨I.ok,I.os,hg,⟨λb o e n hb hx=>?_,λb o e n hb hx=>?_,λb o e n hx=>?_,λb o e hx=>?_,λb xs e=>tups b xs (I.base.tups b xs e),λb o xs e=>frzs b o xs (I.base.frzs b o xs e),λb ps e=>?_⟩,?_,λx c e=>?_,?_,λx c e=>?_,λp hp=>?_,hok,I.len⟩
 ·exact keep b o (Oz b o e) hb (Rx b o e hx) (I.base.keep b o e n hb hx) (I.base.free b o e n hx)
 ·obtain⟨sl,e1⟩:=I.base.slot b o e n hb hx;obtain⟨Ku,e2⟩:=slot b _ (Oz b o e) hb (Rx b o e hx) e1 (I.base.free b o e n hx);exact⟨Ku,e2⟩
 ·obtain⟨o',e1⟩:=I.base.there b o e hx;exact free b o' (Rx b o e hx) e1 (I.base.free b o e n hx)
 ·obtain⟨o',e1⟩:=I.base.there b o e hx;exact there b o' (Rx b o e hx) e1
 ·obtain⟨m1,e1⟩:=I.base.tbls b ps e;obtain⟨m2,e2⟩:=tbls b _ e1;exact⟨m1++m2,by rw[e2,acg]⟩
 ·obtain⟨m,hn,hl⟩:=I.loc;refine⟨m,ns m hn,λi x v e1 e2 e3=>?_⟩;obtain⟨u,r,l⟩:=hl i x v e1 e2 e3;refine⟨u,r,?_⟩;rcases l with l | ⟨k,c,e,z⟩
  ·exact .inl l
  ·exact .inr ⟨k,c,e,cellK x c e _ z⟩
 ·obtain⟨v,z⟩:=I.cell x c e;exact⟨v,cellK x c e v z⟩
 ·obtain⟨m,⟨o,_,_,ho,_⟩,_⟩:=I.loc;exact free _ o (λz=>(Ic _ z).2.1 rfl) ho I.free
 ·obtain⟨v,o,ho,hd⟩:=I.cell x c e;exact free c o (λz=>(Ic c z).2.2.1 x c e rfl) ho (I.freeC x c e)
 ·obtain⟨e,n,ne,nf,d⟩:=I.pin p hp;have Qf:p.1∉ch:=λz=>(Ic p.1 z).2.2.2 p hp rfl;exact⟨keep p.1 p.2 ne nf Qf e n,free p.1 p.2 Qf e n,ne,nf,d⟩
def Inv.un{t':Nat}(I:Inv X f8 σ H s)(u:Un X.fs [] H H' s.heap h')(hok:HOk X.prog X.w H' h'):Inv X f8 σ H' {s with heap:=h',toks:=t'}:=by
 obtain⟨m,⟨o,es,ep,ho,r⟩,_⟩:=id I.loc;obtain⟨sl,hL⟩:=u.any ho I.free (by simp);exact I.step (g':=s.gens) (d':=s.drawn) (ch:=[]) (λ_ z=>nomatch z) (λb o _ hb _ e n=>u.keep b o e n hb (by simp)) (λb o _ hb _ e n=>u.slot b o e n hb (by simp)) (λb o _ e n=>u.free b o e n (by simp)) (λb o _ e=>u.there b o e (by simp)) u.tups u.frzs u.tbls (λm' hm=>by
  obtain⟨o',Mc,IG,l7,r'⟩:=hm;rw[ho] at l7;cases l7;exact⟨_,Mc,IG,hL,r'⟩) hok I.bare
def Inv.call{g':Array GenState}{t':Nat}{d':Drawn}{ch:List Addr}(I:Inv X f8 σ H s)(u:Un (gV X.stack) ch H H' s.heap h')(hok:HOk X.prog X.w H' h')(hg:ach g')
 (Ic:∀b∈ch,(b∈X.ex\/X.aeI.heap.objs.size<=b)/\b≠X.env.locals/\(∀x c,X.env.cells.lookup x=some c->c≠b)/\∀p∈X.pn++f8,p.1≠b):
 Inv X f8 σ H' {s with heap:=h',gens:=g',drawn:=d',toks:=t'}:=by
 obtain⟨m,⟨o,es,ep,ho,r⟩,_⟩:=id I.loc;obtain⟨sl,hL⟩:=u.any ho I.free λz=>(Ic _ z).2.1 rfl;exact I.step (ch:=ch) Ic (λb o hL hb hc e n=>u.keep b o e n (λz=>(XY.mp (I.stkSub b z)).elim hL hb) hc) (λb o _ _ hc e n=>u.any e n hc) (λb o hc e n=>u.free b o e n hc) (λb o hc e=>u.there b o e hc) u.tups u.frzs u.tbls (λm' hm=>by
  obtain⟨o',Mc,IG,l7,r'⟩:=hm;rw[ho] at l7;cases l7;exact⟨_,Mc,IG,hL,r'⟩) hok hg
def Inv.turned{t':Nat}{it:Addr}(I:Inv X f8 σ H s)(k:∀b o,b≠it->s.heap.get? b=some o->h'.get? b=some o)(hn:H it=none)(hL:it≠X.env.locals)
 (h1:it∈X.ex\/X.aeI.heap.objs.size<=it)(h2:∀x c,X.env.cells.lookup x=some c->c≠it)(h3:∀p∈X.pn++f8,p.1≠it):Inv X f8 σ H {s with heap:=h',toks:=t'}:=by
 have Lh:∀b u,H b=some u->b≠it:=λb u e z=>by rw[z,hn] at e;cases e
 refine I.step (g':=s.gens) (d':=s.drawn) (ch:=[it]) (λb hb=>?_) (λb o _ _ hc e _=>k b o (λz=>hc (by simp[z])) e) (λb o _ _ hc e _=>⟨o.slots,k b o (λz=>hc (by simp[z])) e⟩) (λ_ _ _ _ n=>n)
  (λb o hc e=>⟨o,k b o (λz=>hc (by simp[z])) e⟩) (λ_ _ e=>e) (λ_ _ _ e=>e) (λb ps e=>⟨#[],by rw[e];simp⟩) (λm hm=>?_) (λb u e=>?_) I.bare
 ·have e:b=it:=by simpa using hb
  subst e;exact⟨h1,hL,h2,h3⟩
 ·obtain⟨o,es,ep,ho,r⟩:=hm;exact⟨o,es,ep,k _ o (YJ hL) ho,r⟩
 ·refine(I.hok b u e).stay (λc v hc q=>k c v ?_ q) (λ_ q=>q) λ_ _ q=>q;rcases hc with z | z
  ·rw[z];exact Lh b u e
  ·exact Lh c _ z
def Inv.tok(I:Inv X f8 σ H s)(t:Nat):Inv X f8 σ H {s with toks:=t}:=I.un (h':=s.heap) (t':=t) Un.refl I.hok
def Inv.kept{t':Nat}(I:Inv X f8 σ H s)(k:∀b u,s.heap.get? b=some u->h'.get? b=some u):Inv X f8 σ H {s with heap:=h',toks:=t'}:=I.un (Un.kept k) (I.hok.kept k)
def Inv.laid{a:Addr}{o:HO}{t':Nat}(I:Inv X f8 σ H s)(k:∀b u,s.heap.get? b=some u->h'.get? b=some u)(hp:s.heap.objs.size<=a)(new:ObjOk X.prog X.w (upd H a o) h' a o):
 Inv X f8 σ (upd H a o) {s with heap:=h',toks:=t'}:=I.un (Un.laid k hp (I.hok.fresh hp)) (I.hok.laid k hp new)
def Inv.write{x e:Addr}{o:HO}{t':Nat}(I:Inv X f8 σ H s)(mu:OI (H x))(he:e=x\/H e=some (.own x))(k:∀b u,b≠e->s.heap.get? b=some u->h'.get? b=some u)(EO:∃u,h'.get? e=some u)
 (new:ObjOk X.prog X.w (upd H x o) h' x o):Inv X f8 σ (upd H x o) {s with heap:=h',toks:=t'}:=I.un (Un.write mu he k EO) (I.hok.write mu he k EO new)
def Inv.pins_of{CI:List (Addr×Obj)}(I:Inv X f8 σ H s)(h:∀p∈CI,s.heap.get? p.1=some p.2/\H p.1=none/\p.1≠X.env.locals/\p.1∉X.fs/\∀v,p.2.data≠ .cell v):Inv X CI σ H s:=
 ⟨I.ok,I.os,I.bare,I.base,I.loc,I.cell,I.free,I.freeC,λp hp=>(Yr.mp hp).elim (λz=>I.pin p (Z4 _ z)) (h p),I.hok,I.len⟩
def zb{N:List Str}(hN:N.Nodup){i j:Nat}{x:Str}(a:N[i]? =some x)(b:N[j]? =some x):i=j:=by
 obtain⟨h1,e1⟩:=X0.mp a;obtain⟨h2,e2⟩:=X0.mp b;exact(List.getElem_inj hN).mp (e1.trans e2.symm)
def kC{M:Model}{A:YX}{E:Value->X1->Prop}{i:Nat}{x:Str}{v:V}{u:Value}{Q:Unit->X1->Prop}(I:Inv X f8 σ H s)(hN:X.N.Nodup)(hi:X.N[i]? =some x)(hx:Loc X.env.scope x)(r:RelV v u)
 (h:∀s',Inv X f8 (σ.set i (some v)) H s'->(∃a,Z_ a s.heap s'.heap/\(a=X.env.locals\/X.env.cells.lookup x=some a))->Q () s')(hf:X.fn x=true\/X.env.scope.names.lookup x=some .local:=by first | exact .inl rfl | exact .inr rfl | assumption):wpAny M A (storeName X.env x u) Q E s:=by
 obtain⟨m,hn,hl⟩:=id I.loc;have Sh:(X.env.scope.kind== .class||(X.env.scope.kind== .module&&X.env.locals !=X.env.globals))=false:=by rw[I.ok.kind];rfl
 have UP:i<σ.length:=by rw[I.len];exact(X0.mp hi).1
 have cne:=I.cne;have tracked:∀{a:Addr}{h':Heap},(∃o,s.heap.get? a=some o/\H a=none)->Z_ a s.heap h'->HOk X.prog X.w H h':=λ{a h'} ha hs b ob e=>by
  obtain⟨_,_,K6⟩:=ha;refine(I.hok b ob e).stay (λc w' hc q=>(hs.2 c ?_).trans q) (λ_ q=>q) λ_ _ q=>q;rintro rfl;rcases hc with rfl | hc
  ·rw[K6] at e;cases e
  ·rw[K6] at hc;cases hc
 rcases hx with hk | hk
 ·refine wpAny_storeName_local hk hn (λh' K8 hs=>?_) Sh;obtain⟨oL,_,_,K9,_⟩:=id hn;refine h _ ⟨I.ok,I.os,I.bare,⟨λb o e n hb hx=>?_,λb o e n hb hx=>?_,I.base.free,λb o e hx=>?_,I.base.tups,I.base.frzs,I.base.tbls⟩,⟨_,K8,λj y v' e1 e2 e3=>?_⟩,λy c e=>?_,I.free,I.freeC,λp hp=>?_,tracked ⟨oL,K9,I.free⟩ hs,by simpa using I.len⟩ ⟨_,hs, .inl rfl⟩
  ·exact(hs.2 b (Ym (YD (Yd e) I.ok.above))).trans (I.base.keep b o e n hb hx)
  ·obtain⟨sl,e1⟩:=I.base.slot b o e n hb hx;exact⟨sl,(hs.2 b (Ym (YD (Yd e) I.ok.above))).trans e1⟩
  ·obtain⟨o',e1⟩:=I.base.there b o e hx;exact⟨o',(hs.2 b (Ym (YD (Yd e) I.ok.above))).trans e1⟩
  ·by_cases hj:j=i
   ·subst hj;rw[hi] at e1;cases e1;rw[X_ UP] at e2;cases e2;exact⟨u,r, .inl ⟨hk,by simp⟩⟩
   ·rw[X2 (YJ hj)] at e2;obtain⟨u',r',q⟩:=hl j y v' e1 e2 e3;refine⟨u',r',?_⟩;rcases q with⟨k,e⟩ | ⟨k,c,e,z⟩
    ·refine .inl ⟨k,?_⟩;have:y≠x:=λe=>hj (zb hN e1 (e▸hi));simp[this,e]
    ·exact .inr ⟨k,c,e,z.sameBut hs (cne y c e)⟩
  ·obtain⟨w',z⟩:=I.cell y c e;exact⟨w',z.sameBut hs (cne y c e)⟩
  ·obtain⟨e,n,ne,nf,d⟩:=I.pin p hp;exact⟨(hs.2 p.1 ne).trans e,n,ne,nf,d⟩
 ·have Sr:X.fn x=true:=by
   rcases hf with z | z
   ·exact z
   ·rw[z] at hk;cases hk
  obtain⟨c,hc⟩:=I.ok.has x (.inl hk);obtain⟨w',z⟩:=I.cell x c hc;refine wpAny_storeName_cell I.ok.kind hk hc z (λh' xS hs=>?_);obtain⟨oc,Mz,SH⟩:=id z;refine h {s with heap:=h'} ⟨I.ok,I.os,I.bare,⟨λb o e n hb hx=>?_,λb o e n hb hx=>?_,I.base.free,λb o e hx=>?_,I.base.tups,I.base.frzs,I.base.tbls⟩,⟨m,hn.sameBut hs (YJ (cne x c hc)),λj y v' e1 e2 e3=>?_⟩,λy c' e=>?_,I.free,I.freeC,λp hp=>?_,tracked ⟨oc,Mz,I.freeC x c hc⟩ hs,by simpa using I.len⟩ ⟨c,hs, .inr hc⟩
  ·exact(hs.2 b (Ym (YD (Yd e) (I.ok.cab x c Sr hc)))).trans (I.base.keep b o e n hb hx)
  ·obtain⟨sl,e1⟩:=I.base.slot b o e n hb hx;exact⟨sl,(hs.2 b (Ym (YD (Yd e) (I.ok.cab x c Sr hc)))).trans e1⟩
  ·obtain⟨o',e1⟩:=I.base.there b o e hx;exact⟨o',(hs.2 b (Ym (YD (Yd e) (I.ok.cab x c Sr hc)))).trans e1⟩
  ·by_cases hj:j=i
   ·subst hj;rw[hi] at e1;cases e1;rw[X_ UP] at e2;cases e2;exact⟨u,r, .inr ⟨.inl hk,c,hc,xS⟩⟩
   ·rw[X2 (YJ hj)] at e2;obtain⟨u',r',q⟩:=hl j y v' e1 e2 e3;refine⟨u',r',?_⟩;rcases q with q | ⟨k,c',e,z'⟩
    ·exact .inl q
    ·refine .inr ⟨k,c',e,z'.sameBut hs ?_⟩;rintro rfl;exact hj (zb hN e1 (I.ok.inj _ _ _ e hc▸hi))
  ·by_cases Oi:c'=c
   ·subst Oi;exact⟨_,xS⟩
   ·obtain⟨w2,z2⟩:=I.cell y c' e;exact⟨w2,z2.sameBut hs Oi⟩
  ·obtain⟨e,n,ne,nf,d⟩:=I.pin p hp;refine⟨(hs.2 p.1 ?_).trans e,n,ne,nf,d⟩;intro q;rw[q,Mz] at e;have q':oc=p.2:=YI e;exact d w' (by rw[<-q'];exact SH)
def zX{M:Model}{A:YX}{E:Value->X1->Prop}{i:Nat}{x:Str}{v:V}{u:Value}{Q:Unit->X1->Prop}(I:Inv X f8 σ H s)(hN:X.N.Nodup)(hi:X.N[i]? =some x)(hx:Loc X.env.scope x)(r:RelV v u)
 (h:∀s',Inv X f8 (σ.set i (some v)) H s'->Q () s')(hf:X.fn x=true\/X.env.scope.names.lookup x=some .local:=by first | exact .inl rfl | exact .inr rfl | assumption):wpAny M A (storeName X.env x u) Q E s:=
 kC I hN hi hx r (λs' I' _=>h s' I') hf
def Inv.call'{s':X1}{ch:List Addr}(I:Inv X f8 σ H s)(ho:s'.os=s.os)(u:Un (gV X.stack) ch H H' s.heap s'.heap)(hok:HOk X.prog X.w H' s'.heap)(hg:ach s'.gens)
 (Ic:∀b∈ch,(b∈X.ex\/X.aeI.heap.objs.size<=b)/\b≠X.env.locals/\(∀x c,X.env.cells.lookup x=some c->c≠b)/\∀p∈X.pn++f8,p.1≠b):Inv X f8 σ H' s':=by
 obtain⟨h',g',d',t',o'⟩:=s';have e:o'=s.os:=ho;subst e;exact I.call (g':=g') (t':=t') (d':=d') u hok hg Ic
end
abbrev XK:=Value->Option Addr->Hp->Prop
abbrev St:=List (Option V)
abbrev VK:=V->Hp->Prop
abbrev TE:=St->Hp->VK->Prop
abbrev TT:=St->Hp->(Bool->Hp->Prop)->Prop
abbrev TA:=St->Hp->(List V->Hp->Prop)->Prop
structure Ends where
 nx:St->Hp->Prop
 rt:VK
 bk:St->Hp->Prop:=λ_ _=>False
 ct:St->Hp->Prop:=λ_ _=>False
abbrev TS:=Ends->St->Hp->Prop
def EP(X:Cx)(f8:List (Addr×Obj))(σ:St)(Q:VK)(u:Value)(s':X1):Prop:=∃v H',Inv X f8 σ H' s'/\RelV v u/\Q v H'
def TP(X:Cx)(f8:List (Addr×Obj))(σ:St)(Q:Bool->Hp->Prop)(b:Bool)(s':X1):Prop:=∃H',Inv X f8 σ H' s'/\Q b H'
def AP(X:Cx)(f8:List (Addr×Obj))(σ:St)(Q:List V->Hp->Prop)(us:List Value)(s':X1):Prop:=∃vs H',Inv X f8 σ H' s'/\Vals vs us/\Q vs H'
def SP(X:Cx)(f8:List (Addr×Obj))(D:Ends)(f:Flow)(s':X1):Prop:=
 match f with
 | .next=>∃σ' H',Inv X f8 σ' H' s'/\D.nx σ' H'
 | .brk=>∃σ' H',Inv X f8 σ' H' s'/\D.bk σ' H'
 | .cont=>∃σ' H',Inv X f8 σ' H' s'/\D.ct σ' H'
 | .ret u=>∃v σ' H',Inv X f8 σ' H' s'/\RelV v u/\D.rt v H'
def PE(X:Cx)(e:Expr)(t:TE):Prop:=
 ∀(f8:List (Addr×Obj)) (s:X1) (σ:St) (H:Hp) (Q:VK),Inv X f8 σ H s->t σ H Q->wpAny (model X.prog X.w) X.A (eval e X.env) (EP X f8 σ Q) X.xe s
def PT(X:Cx)(e:Expr)(t:TT):Prop:=
 ∀(f8:List (Addr×Obj)) (s:X1) (σ:St) (H:Hp) (Q:Bool->Hp->Prop),Inv X f8 σ H s->t σ H Q->wpAny (model X.prog X.w) X.A (isTrue e X.env (eval e X.env)) (TP X f8 σ Q) X.xe s
def PW(X:Cx)(e:Expr)(t:TT):Prop:=
 ∀(whole:Sem Value) (f8:List (Addr×Obj)) (s:X1) (σ:St) (H:Hp) (Q:Bool->Hp->Prop),Inv X f8 σ H s->t σ H Q->wpAny (model X.prog X.w) X.A (isTrue e X.env whole) (TP X f8 σ Q) X.xe s
def PW.pt{X:Cx}{e:Expr}{t:TT}(h:PW X e t):PT X e t:=h _
def PA(X:Cx)(es:List Expr)(t:TA):Prop:=
 ∀(pos:Pos) (f8:List (Addr×Obj)) (s:X1) (σ:St) (H:Hp) (Q:List V->Hp->Prop),Inv X f8 σ H s->t σ H Q->wpAny (model X.prog X.w) X.A (spliced (ZI pos (Yg es X.env))) (AP X f8 σ Q) X.xe s
def PS(X:Cx)(st:Stmt)(t:TS):Prop:=
 ∀(f8:List (Addr×Obj)) (s:X1) (σ:St) (H:Hp) (D:Ends),Inv X f8 σ H s->t D σ H->wpAny (model X.prog X.w) X.A (exec st X.env) (SP X f8 D) X.xe s
def PSs(X:Cx)(st:List Stmt)(t:TS):Prop:=
 ∀(f8:List (Addr×Obj)) (s:X1) (σ:St) (H:Hp) (D:Ends),Inv X f8 σ H s->t D σ H->wpAny (model X.prog X.w) X.A (execs st X.env) (SP X f8 D) X.xe s
def bX{α:Type}{t:Sem α}{Q Q':α->X1->Prop}{M:Model}{A:YX}{E:Value->X1->Prop}{s:X1}(h:wpAny M A t Q E s)(hQ:∀a s,Q a s->Q' a s):wpAny M A t Q' E s:=Y2 h hQ λ_ _ x=>x
section
variable{X:Cx}
def bin{a b:Expr}{ta tb:TE}(ha:PE X a ta)(hb:PE X b tb){f8:List (Addr×Obj)}{s:X1}{σ:St}{H:Hp}{R:V->V->Hp->Prop}(I:Inv X f8 σ H s)(h:ta σ H λx H1=>tb σ H1 λy H2=>R x y H2)
 {α:Type}{Q:α->X1->Prop}{f:Value->Value->Sem α}
 (hf:∀v u s2 x y H2,Inv X f8 σ H2 s2->RelV x v->RelV y u->R x y H2->wpAny (model X.prog X.w) X.A (f v u) Q X.xe s2):
 wpAny (model X.prog X.w) X.A (eval a X.env) (λv T0=>wpAny (model X.prog X.w) X.A (eval b X.env) (λu v4=>wpAny (model X.prog X.w) X.A (f v u) Q X.xe v4) X.xe T0) X.xe s:=by
 refine bX (ha f8 s σ H _ I h) λv s1 ⟨x,H1,I1,r1,q1⟩=>?_;refine bX (hb f8 s1 σ H1 _ I1 q1) λu s2 ⟨y,H2,I2,r2,q2⟩=>?_;exact hf v u s2 x y H2 I2 r1 r2 q2
def g7(i:Nat):TE:=λσ H Q=>∃v,σ[i]? =some (some v)/\Q v H
def tC(v:V):TE:=λ_ H Q=>Q v H
def NH{i:Nat}{x:Str}{pos:Pos}(hN:X.N[i]? =some x)(hv:RS X.env.scope x)(hd:(x==("__debug__":Str))=false:=by decide)(uI:(x==("__classdict__":Str))=false:=by decide):PE X (.Name x pos) (g7 i):=by
 intro f8 s σ H Q I h;obtain⟨v,e,h⟩:=h;obtain⟨m,hn,hl⟩:=I.loc;obtain⟨u,r,l⟩:=hl i x v hN e hv;have fin:EP X f8 σ Q u s:=⟨v,H,I,r,h⟩
 rcases l with⟨hk,hm⟩ | ⟨hk,c,hc,K3⟩
 ·exact wpAny_Name (wpAny_loadName_local I.ok.kind hk hn hm fin) hd
 ·rcases hk with hk | hk
  ·exact wpAny_Name (wpAny_loadName_cell I.ok.kind hk hc K3 fin) hd
  ·exact wpAny_Name (wpAny_loadName_free I.ok.kind hk hc K3 fin uI) hd
def Nz{i j pos}:PE X (.Constant (.int i) j pos) (tC (.int i)):=λ_ _ _ H _ I h=>wpAny_Constant_int ⟨.int i,H,I.tok _,⟨_,rfl⟩,h⟩
def Lk{b j pos}:PE X (.Constant (.bool b) j pos) (tC (.bl b)):=λ_ _ _ H _ I h=>Constant_bool ⟨.bl b,H,I,rfl,h⟩
def NA{j pos}:PE X (.Constant .none j pos) (tC .non):=λ_ _ _ H _ I h=>Constant_none ⟨.non,H,I,rfl,h⟩
def ND{x j pos}:PE X (.Constant (.str x) j pos) (tC (.str x)):=λ_ _ _ H _ I h=>Calls.Constant_str ⟨.str x,H,I.tok _,⟨_,rfl⟩,h⟩
def Gl(X:Cx)(x:Str):Prop:=X.env.kindOf x=some .globalImplicit
def me{E:Value->X1->Prop}{f8:List (Addr×Obj)}{s:X1}{σ:St}{H:Hp}{x:Str}{u:Value}{pos:Pos}{Q:Value->X1->Prop}(I:Inv X f8 σ H s)(hg:Gl X x)(hm:X.mg x=some u)(h:Q u s)
 (hd:(x==("__debug__":Str))=false:=by decide):wpAny (model X.prog X.w) X.A (eval (.Name x pos) X.env) Q E s:=
 acT I.ok.kind hg (Calls.loadGlobal_global (by rw[I.ok.glob];exact I.mod.glob.keeps I.bk) hm h) hd
def lB{E:Value->X1->Prop}{f8:List (Addr×Obj)}{s:X1}{σ:St}{H:Hp}{x:Str}{u:Value}{pos:Pos}{Q:Value->X1->Prop}(I:Inv X f8 σ H s)(hg:Gl X x)(hm:X.mg x=none)(hv:YN x=some u)(h:Q u s)
 (hn:x≠"__name__":=by decide)(hd:(x==("__debug__":Str))=false:=by decide):wpAny (model X.prog X.w) X.A (eval (.Name x pos) X.env) Q E s:=by
 obtain⟨mb,h1,h2⟩:=I.mod.blt;exact acT I.ok.kind hg (Calls.loadGlobal_builtin (by rw[I.ok.glob];exact I.mod.glob.keeps I.bk) hm (by rw[I.ok.blt];exact h1.keeps I.bk) ((h2 x hn).trans hv) h) hd
def J8{x:Str}{v:V}{u:Value}{pos:Pos}(hg:Gl X x)(hm:X.mg x=some u)(r:RelV v u)(hd:(x==("__debug__":Str))=false:=by decide):PE X (.Name x pos) (tC v):=
 λ_ _ _ H _ I h=>me I hg hm ⟨v,H,I,r,h⟩ hd
def J1{x:Str}{v:V}{u:Value}{pos:Pos}(hg:Gl X x)(hm:X.mg x=none)(hv:YN x=some u)(r:RelV v u)(hn:x≠"__name__":=by decide)(hd:(x==("__debug__":Str))=false:=by decide):PE X (.Name x pos) (tC v):=
 λ_ _ _ H _ I h=>lB I hg hm hv ⟨v,H,I,r,h⟩ hn hd
def Xl(ta tb:TE)(k:Int->Int->Hp->Prop):St->Hp->Prop:=λσ H=>ta σ H λx H1=>tb σ H1 λy H2=>∃i j,x= .int i/\y= .int j/\k i j H2
def HJ(ta tb:TE):TE:=λσ H Q=>Xl ta tb (λi j H2=>Q (.int (i+j)) H2) σ H
variable{a b:Expr}{ta tb:TE}{pos:Pos}
def PC(X:Cx)(op:CmpOp)(a b:Expr)(t:TE):Prop:=
 ∀(f8:List (Addr×Obj)) (s:X1) (σ:St) (H:Hp) (Q:VK),Inv X f8 σ H s->t σ H Q->
  wpAny (model X.prog X.w) X.A (eval a X.env) (λv T0=>wpAny (model X.prog X.w) X.A (eval b X.env) (λu v4=>wpAny (model X.prog X.w) X.A (Y8 op v u) (EP X f8 σ Q) X.xe v4) X.xe T0) X.xe s
def Gx(b:Expr){op:CmpOp}(h:op≠ .In)(h2:op≠ .NotIn):Zf op b=false:=by
 have e1:(op==CmpOp.In)=false:=by cases op<;>first | rfl | exact aeB rfl h
 have e2:(op==CmpOp.NotIn)=false:=by cases op<;>first | rfl | exact aeB rfl h2
 cases b<;>simp[Zf,e1,e2]
def Ny{op:CmpOp}{t:TE}(h:PC X op a b t)(h1:Zf op b=false:=by first | exact Gx _ (by decide) (by decide) | rfl):PE X (.Compare a [op] [b] pos) t:=λf8 s σ H Q I hw=>wpAny_Compare1 (h f8 s σ H Q I hw) h1
variable{tA dH:TT}{rest:List Expr}
def TX(t u:TT):TT:=λσ H Q=>t σ H λc H1=>if c=true then u σ H1 Q else Q false H1
def Xo(t u:TT):TT:=λσ H Q=>t σ H λc H1=>if c=true then Q true H1 else u σ H1 Q
def T3(t:TT):TT:=λσ H Q=>t σ H λc H1=>Q (!c) H1
def Kj(ha:PT X a tA):PW X (.BoolOp .And [a] pos) tA:=by
 intro wh f8 s σ H Q I h;refine isTrue_and (bX (ha f8 s σ H Q I h) λc s1 e=>?_);cases c with
 |true=>exact isTrue_and_nil e
 |false=>exact e
def NR(ha:PT X a tA):PW X (.BoolOp .Or [a] pos) tA:=by
 intro wh f8 s σ H Q I h;refine isTrue_or (bX (ha f8 s σ H Q I h) λc s1 e=>?_);cases c with
 |false=>exact isTrue_or_nil e
 |true=>exact e
def NQ(ha:PT X a tA)(hb:PW X (.BoolOp .And (b::rest) pos) dH):PW X (.BoolOp .And (a::b::rest) pos) (TX tA dH):=by
 intro wh f8 s σ H Q I h;refine isTrue_and (bX (ha f8 s σ H _ I h) λc s1 ⟨H1,I1,q1⟩=>?_);cases c with
 |true=>exact hb wh f8 s1 σ H1 Q I1 q1
 |false=>exact⟨H1,I1,q1⟩
def Qw(ha:PT X a tA)(hb:PW X (.BoolOp .Or (b::rest) pos) dH):PW X (.BoolOp .Or (a::b::rest) pos) (Xo tA dH):=by
 intro wh f8 s σ H Q I h;refine isTrue_or (bX (ha f8 s σ H _ I h) λc s1 ⟨H1,I1,q1⟩=>?_);cases c with
 |true=>exact⟨H1,I1,q1⟩
 |false=>exact hb wh f8 s1 σ H1 Q I1 q1
def NO(ha:PT X a tA):PT X (.UnaryOp .Not a pos) (T3 tA):=by
 intro f8 s σ H Q I h;exact isTrue_not (ha f8 s σ H (λc H1=>Q (!c) H1) I h)
def QR(ta tb:TE):TE:=λσ H Q=>ta σ H λx H1=>∃c,x= .bl c/\if c=true then tb σ H1 Q else Q (.bl false) H1
def QW(ta:TE):TE:=λσ H Q=>ta σ H λx H1=>∃c,x= .bl c/\Q (.bl (!c)) H1
def NC{op}{t:TE}(h:PE X a t):PE X (.BoolOp op [a] pos) t:=λf8 s σ H Q I hw=>BoolOp_one (h f8 s σ H Q I hw)
def Nw(ha:PE X a ta)(hb:PE X (.BoolOp .And (b::rest) pos) tb):PE X (.BoolOp .And (a::b::rest) pos) (QR ta tb):=by
 intro f8 s σ H Q I h;refine BoolOp_and (bX (ha f8 s σ H _ I h) λv s1 ⟨x,H1,I1,r1,q1⟩=>?_);obtain⟨c,rfl,q1⟩:=q1;cases r1;refine Zr ?_;cases c with
 |true=>exact hb f8 s1 σ H1 Q I1 q1
 |false=>exact⟨.bl false,H1,I1,rfl,q1⟩
def NB(ha:PE X a ta):PE X (.UnaryOp .Not a pos) (QW ta):=by
 intro f8 s σ H Q I h;refine UnaryOp_ (bX (ha f8 s σ H _ I h) λv s1 ⟨x,H1,I1,r1,q1⟩=>?_);obtain⟨c,rfl,q1⟩:=q1;cases r1;exact not_of (Zr ⟨.bl (!c),H1,I1,rfl,q1⟩)
def Xn(t:TT)(ta tb:TE):TE:=λσ H Q=>t σ H λc H1=>if c=true then ta σ H1 Q else tb σ H1 Q
def Hb{c:Expr}(hc:PT X c tA)(ha:PE X a ta)(hb:PE X b tb):PE X (.IfExp c a b pos) (Xn tA ta tb):=by
 intro f8 s σ H Q I h;refine wpAny_IfExp (bX (hc f8 s σ H _ I h) λd s1 ⟨H1,I1,q1⟩=>?_);cases d with
 |true=>exact ha f8 s1 σ H1 Q I1 q1
 |false=>exact hb f8 s1 σ H1 Q I1 q1
end
def SqL(K:X5)(H:Hp)(a:Addr)(xs:List V):Prop:=
 Rd H a (.lst xs)\/
  ∃(o:Obj) (aT:Array Value) (n:Nat),K.lookup a=some o/\o.cls= .type "list"/\o.dict=none/\o.data= .seq aT n/\aT.size<=Yl/\Vals xs aT.toList
def SqT(K:X5)(H:Hp)(a:Addr)(xs:List V):Prop:=
 Rd H a (.tup xs)\/
  ∃(o:Obj) (aT:Array Value) (n:Nat),K.lookup a=some o/\o.cls= .type "tuple"/\o.data= .seq aT n/\aT.size<=Yl/\Vals xs aT.toList
def RT:Value->Option V
 | .none=>some .non
 | .bool b=>some (.bl b)
 | .int i _=>some (.int i)
 | .str x _=>some (.str x)
 | .bytes b _=>some (.byt b)
 | .float b _=>some (.flt b)
 | .ref a=>some (.ref a)
 | .type n=>some (.ty n)
 |_=>none
def RelV.abs{x:V}{u:Value}(r:RelV x u):RT u=some x:=by
 cases x with
 |non=>cases r;rfl
 |bl _=>cases r;rfl
 |int _=>obtain⟨t,rfl⟩:=r;rfl
 |str _=>obtain⟨t,rfl⟩:=r;rfl
 |byt _=>obtain⟨t,rfl⟩:=r;rfl
 |flt _=>obtain⟨t,rfl⟩:=r;rfl
 |ref _=>cases r;rfl
 |ty _=>cases r;rfl
def RelV.inj{x y:V}{u:Value}(r:RelV x u)(q:RelV y u):x=y:=YI (r.abs.symm.trans q.abs)
def Vals.inj:∀{xs ys:List V}{us:List Value},Vals xs us->Vals ys us->xs=ys
 |_,_,_, .nil, .nil=>rfl
 |_,_,_, .cons r t, .cons r' t'=>by rw[r.inj r',Vals.inj t t']
section
variable{X:Cx}{f8:List (Addr×Obj)}{σ:St}{H:Hp}{s:X1}{a:Addr}{xs ys:List V}
def SqL.of{K:X5}(h:H a=some (.lst xs)):SqL K H a xs:= .inl (.inl h)
def SqT.of{K:X5}(h:H a=some (.tup xs)):SqT K H a xs:= .inl (.inl h)
def Inv.list(I:Inv X f8 σ H s)(h:SqL X.K H a xs):∃aT:List Value,Vals xs aT/\PlainL s.heap a aT.toArray/\xs.length<=Yl:=by
 rcases h with h | ⟨o,aT,n,hk,hc,hd,hs,hz,r⟩
 ·obtain⟨z,aT,n,r,e⟩:=h.ok I.hok;exact⟨aT,r,⟨_,n,e,rfl,rfl,rfl⟩,z⟩
 ·refine⟨aT.toList,r,⟨o,n,I.kIn a o hk,hc,hd,by simpa using hs⟩,?_⟩;have e:=r.length;simp only[YB] at e;omega
def Inv.tuple(I:Inv X f8 σ H s)(h:SqT X.K H a xs):∃aT:List Value,Vals xs aT/\IsTup s.heap a aT.toArray/\xs.length<=Yl:=by
 rcases h with h | ⟨o,aT,n,hk,hc,hs,hz,r⟩
 ·obtain⟨z,aT,r,p⟩:=h.ok I.hok;exact⟨aT,r,p,z⟩
 ·refine⟨aT.toList,r,⟨o,I.kIn a o hk,hc,n,by simpa using hs⟩,?_⟩;have e:=r.length;simp only[YB] at e;omega
def Inv.list_inj(I:Inv X f8 σ H s)(h:SqL X.K H a xs)(h':SqL X.K H a ys):xs=ys:=by
 obtain⟨aT,r,⟨o,n,e,_,_,d⟩,_⟩:=I.list h;obtain⟨its',r',⟨o',n',e',_,_,d'⟩,_⟩:=I.list h';rw[e] at e';cases e';rw[d] at d';injection d' with d1 _
 have:aT=its':=by simpa using aeE Array.toList d1
 subst this;exact r.inj r'
def Inv.tuple_inj(I:Inv X f8 σ H s)(h:SqT X.K H a xs)(h':SqT X.K H a ys):xs=ys:=by
 obtain⟨aT,r,⟨o,e,_,n,d⟩,_⟩:=I.tuple h;obtain⟨its',r',⟨o',e',_,n',d'⟩,_⟩:=I.tuple h';rw[e] at e';cases e';rw[d] at d';injection d' with d1 _
 have:aT=its':=by simpa using aeE Array.toList d1
 subst this;exact r.inj r'
end
abbrev Cx.wish(X:Cx)(E:Value->X1->Prop):Cx:={X with xe:=E}
abbrev Cx.nox(X:Cx):Cx:=X.wish λ_ _=>False
def Cx.Ok.wish{X:Cx}(ok:X.Ok)(E:Value->X1->Prop):(X.wish E).Ok:=
 ⟨ok.mod,ok.kind,ok.glob,ok.blt,ok.above,ok.inj,ok.has,ok.cab,ok.hd,ok.frames,ok.stk,ok.exf,ok.bs,ok.bsz,ok.noex,ok.exfs,ok.funs,ok.frf⟩
def Cx.Ok.unwish{X:Cx}{E:Value->X1->Prop}(ok:(X.wish E).Ok):X.Ok:=
 ⟨ok.mod,ok.kind,ok.glob,ok.blt,ok.above,ok.inj,ok.has,ok.cab,ok.hd,ok.frames,ok.stk,ok.exf,ok.bs,ok.bsz,ok.noex,ok.exfs,ok.funs,ok.frf⟩
section
variable{X:Cx}{f8:List (Addr×Obj)}{σ:St}{H:Hp}{s:X1}{E:Value->X1->Prop}
def Inv.wish(I:Inv X f8 σ H s)(E:Value->X1->Prop):Inv (X.wish E) f8 σ H s:=⟨I.ok.wish E,I.os,I.bare,I.base,I.loc,I.cell,I.free,I.freeC,I.pin,I.hok,I.len⟩
def Inv.unwish(I:Inv (X.wish E) f8 σ H s):Inv X f8 σ H s:=⟨I.ok.unwish,I.os,I.bare,I.base,I.loc,I.cell,I.free,I.freeC,I.pin,I.hok,I.len⟩
def SP.unwish{D:Ends}{f:Flow}{s':X1}(h:SP (X.wish E) f8 D f s'):SP X f8 D f s':=by
 cases f with
 |next=>obtain⟨σ',H',I,q⟩:=h;exact⟨σ',H',I.unwish,q⟩
 |brk=>obtain⟨σ',H',I,q⟩:=h;exact⟨σ',H',I.unwish,q⟩
 |cont=>obtain⟨σ',H',I,q⟩:=h;exact⟨σ',H',I.unwish,q⟩
 |ret u=>obtain⟨v,σ',H',I,r,q⟩:=h;exact⟨v,σ',H',I.unwish,r,q⟩
def PE.nox{e:Expr}{t:TE}(h:PE X.nox e t):PE X e t:=λf8 s σ H Q I hw=>
 Y2 (h f8 s σ H Q (I.wish _) hw) (λ_ _ ⟨v,H',I',r,q⟩=>⟨v,H',I'.unwish,r,q⟩) λ_ _ z=>Zi z
def PT.nox{e:Expr}{t:TT}(h:PT X.nox e t):PT X e t:=λf8 s σ H Q I hw=>
 Y2 (h f8 s σ H Q (I.wish _) hw) (λ_ _ ⟨H',I',q⟩=>⟨H',I'.unwish,q⟩) λ_ _ z=>Zi z
def PSs.nox{st:List Stmt}{t:TS}(h:PSs X.nox st t):PSs X st t:=λf8 s σ H D I hw=>
 Y2 (h f8 s σ H D (I.wish _) hw) (λ_ _ q=>q.unwish) λ_ _ z=>Zi z
end
section
variable{X:Cx}{st:Stmt}{rest:List Stmt}{t u:TS}{e:Expr}{te:TE}{pos:Pos}
def Lv:TS:=λD σ H=>D.nx σ H
def N7(t u:TS):TS:=λD σ H=>t {D with nx:=u D} σ H
def CM:PSs X [] Lv:=λ_ _ σ H _ I h=>abp ⟨σ,H,I,h⟩
def jS(h1:PS X st t)(h2:PSs X rest u):PSs X (st::rest) (N7 t u):=by
 intro f8 s σ H D I h;refine wpAny_execs_cons (bX (h1 f8 s σ H {D with nx:=u D} I h) λf s1 q=>?_);cases f with
 |next=>
  obtain⟨σ',H',I',q⟩:=q;exact h2 f8 s1 σ' H' D I' q
 |ret v=>exact q
 |brk=>exact q
 |cont=>exact q
def mU(h1:PS X st t):PSs X [st] t:=by
 intro f8 s σ H D I h;refine wpAny_execs_cons (bX (h1 f8 s σ H D I h) λf s1 q=>?_);cases f with
 |next=>exact abp q
 |ret v=>exact q
 |brk=>exact q
 |cont=>exact q
def Inv.quiet{f8:List (Addr×Obj)}{σ:St}{H:Hp}{s:X1}(I:Inv X f8 σ H s):interactive X.env=false:=by simp[interactive,I.ok.kind]
def CY(te:TE):TS:=λD σ H=>te σ H λ_ H1=>D.nx σ H1
def mQ(he:PE X e te)(hs:aaX e none pos.line X.env=pure false:=by rfl):PS X (.Expr e pos) (CY te):=by
 intro f8 s σ H D I h;exact wpAny_Expr_any (bX (he f8 s σ H _ I h) λv s1 ⟨x,H1,I1,r1,q1⟩=>⟨σ,H1,I1,q1⟩) I.quiet hs
def T5(te:TE):TS:=λD σ H=>te σ H D.rt
def NL(he:PE X e te):PS X (.Return (some e) pos) (T5 te):=by
 intro f8 s σ H D I h;exact wpAny_Return_some (bX (he f8 s σ H _ I h) λv s1 ⟨x,H1,I1,r1,q1⟩=>⟨x,σ,H1,I1,r1,q1⟩)
def QV(c:TT)(t u:TS):TS:=λD σ H=>c σ H λb H1=>if b=true then t D σ H1 else u D σ H1
def Lm{c:Expr}{a b:List Stmt}{tc:TT}(hc:PT X c tc)(ha:PSs X a t)(hb:PSs X b u):PS X (.If c a b pos) (QV tc t u):=by
 intro f8 s σ H D I h;refine wpAny_If (bX (hc f8 s σ H _ I h) λd s1 ⟨H1,I1,q1⟩=>?_);cases d with
 |true=>exact ha f8 s1 σ H1 D I1 q1
 |false=>exact hb f8 s1 σ H1 D I1 q1
end
abbrev TG:=V->St->Hp->(St->Hp->Prop)->Prop
abbrev KL:=List V->St->Hp->(St->Hp->Prop)->Prop
def PG(X:Cx)(target:Expr)(t:TG):Prop:=
 ∀(f8:List (Addr×Obj)) (s:X1) (σ:St) (H:Hp) (v:V) (u:Value) (Q:St->Hp->Prop),Inv X f8 σ H s->RelV v u->t v σ H Q->
  wpAny (model X.prog X.w) X.A (assign target X.env u) (λ_ s'=>∃σ' H',Inv X f8 σ' H' s'/\Q σ' H') X.xe s
def Q9(X:Cx)(ts:List Expr)(t:KL):Prop:=
 ∀(f8:List (Addr×Obj)) (s:X1) (σ:St) (H:Hp) (vs:List V) (us:List Value) (Q:St->Hp->Prop),Inv X f8 σ H s->Vals vs us->t vs σ H Q->
  wpAny (model X.prog X.w) X.A (assignInOrder ((abL ts X.env).map (·.2)) us) (λ_ s'=>∃σ' H',Inv X f8 σ' H' s'/\Q σ' H') X.xe s
abbrev RO:=V->V->V->Hp->(Hp->Prop)->Prop
section
variable{X:Cx}{pos:Pos}
def ib(i:Nat):TG:=λv σ H Q=>Q (σ.set i (some v)) H
def aL{i:Nat}{x:Str}(hN:X.N.Nodup)(hi:X.N[i]? =some x)(hx:Loc X.env.scope x)(hf:X.fn x=true\/X.env.scope.names.lookup x=some .local:=by first | exact .inl rfl | exact .inr rfl | assumption):PG X (.Name x pos) (ib i):=by
 intro f8 s σ H v u Q I r h;exact abJ (zX I hN hi hx r (λs' I'=>⟨_,H,I',h⟩) hf)
def IQ:KL:=λvs σ H Q=>vs=[]/\Q σ H
def uG(t:TG)(u:KL):KL:=λvs σ H Q=>∃v r,vs=v::r/\t v σ H λσ' H'=>u r σ' H' Q
def mO:Q9 X [] IQ:=by
 intro f8 s σ H vs us Q I r h;obtain⟨e,h⟩:=h;subst e;cases r;exact assignInOrder_nil ⟨σ,H,I,h⟩
def dX{e:Expr}{es:List Expr}{t:TG}{u:KL}(h1:PG X e t)(h2:Q9 X es u)
 (hs:(abL (e::es) X.env).map (·.2)=assign e X.env::(abL es X.env).map (·.2):=by rfl):Q9 X (e::es) (uG t u):=by
 intro f8 s σ H vs us Q I r h;obtain⟨v,vr,e1,h⟩:=h;subst e1;cases r with
 |cons r rr=>
  rw[hs];refine assignInOrder_cons (bX (h1 f8 s σ H _ _ _ I r h) λ_ s1 ⟨σ1,H1,I1,q1⟩=>?_);exact h2 f8 s1 σ1 H1 _ _ Q I1 rr q1
def IT(K:X5)(n:Nat)(t:KL):TG:=λv σ H Q=>∃a xs,v= .ref a/\SqT K H a xs/\xs.length=n/\t xs σ H Q
def sF{es:List Expr}{k:Nat}{t:KL}{n:Nat}(hc:X.calm=true)(h:Q9 X es t)
 (hn:(abL es X.env).length=n:=by rfl)(uJ:(abL es X.env).findIdx? (·.1)=none:=by rfl):PG X (.Tuple es k pos) (IT X.K n t):=by
 intro f8 s σ H v u Q I r hw;obtain⟨a,xs,e1,hq,hl,hw⟩:=hw;subst e1;cases r;obtain⟨aT,rv,ht,hz⟩:=I.tuple hq;refine assign_Tuple_tuple (I.ok.hd hc) ht (by simp[hn,<-hl,rv.length]) uJ λh' hx=>?_;have I1:Inv X f8 σ H {s with heap:=h'}:=I.kept (t':=s.toks) λb o e=>hx b o (Ym (Yd e)) e;exact h f8 _ σ H xs _ Q I1 (by simpa using rv) hw
def AK(to ti:TE)(t:RO):TG:=λv σ H Q=>to σ H λo H1=>ti σ H1 λi H2=>t o i v H2 λH3=>Q σ H3
def QS(te:TE)(g:TG):TS:=λD σ H=>te σ H λx H1=>g x σ H1 D.nx
def oz{tg e:Expr}{te:TE}{g:TG}(he:PE X e te)(hg:PG X tg g)(hs:acH [tg] e pos.line X.env=pure false:=by rfl)(hw:swappedStores [tg] e X.env=pure none:=by rfl)
 (h1:(abL [tg] X.env).map (·.2)=[assign tg X.env]:=by rfl):PS X (.Assign [tg] e pos) (QS te g):=by
 intro f8 s σ H D I h;refine wpAny_Assign_stores (bX (he f8 s σ H _ I h) λv s1 ⟨x,H1,I1,r1,q1⟩=>?_) hs hw;rw[h1];exact bX (hg f8 s1 σ H1 x v _ I1 r1 q1) λ_ s2 q=>q
end
section
variable{X:Cx}{pos:Pos}
def N8(c:TT)(tb:TS):TS:=λD σ H=>∃W:Nat->St->Hp->Prop,(∃m,W m σ H)/\∀m σ H,W m σ H->
 c σ H λb H1=>if b=true then∃N:St->Hp->Prop,(∀σ' H',N σ' H'->∃m',m'<m/\W m' σ' H')/\tb {D with nx:=N,ct:=N,bk:=D.nx} σ H1 else D.nx σ H1
def Hf{c:Expr}{body:List Stmt}{tc:TT}{tb:TS}(hp:adD (model X.prog X.w) X.A X.env X.xe)(hc:PT X c tc)(hb:PSs X body tb):PS X (.While c body [] pos) (N8 tc tb):=by
 intro f8 s σ H D I h;obtain⟨W,⟨m0,w0⟩,turn⟩:=h;refine wpAny_While (codeAny_whileLoop (λn s'=>∃σ' H',Inv X f8 σ' H' s'/\W n σ' H') ?_ m0 ⟨σ,H,I,w0⟩);rintro n s1 ⟨σ1,H1,I1,w1⟩;refine aaE hp (bX (hc f8 s1 σ1 H1 _ I1 (turn n σ1 H1 w1)) λb s2 ⟨H2,I2,q2⟩=>?_);cases b with
 |true=>
  obtain⟨N,hN,q2⟩:=q2;rw[aex rfl];refine aaE hp (bX (hb f8 s2 σ1 H2 _ I2 q2) λf s3 q3=>?_);cases f with
  |next=>
   obtain⟨σ3,H3,I3,n3⟩:=q3;obtain⟨m',hm,w3⟩:=hN σ3 H3 n3;exact⟨m',hm,σ3,H3,I3,w3⟩
  |cont=>
   obtain⟨σ3,H3,I3,n3⟩:=q3;obtain⟨m',hm,w3⟩:=hN σ3 H3 n3;exact⟨m',hm,σ3,H3,I3,w3⟩
  |brk=>exact q3
  |ret v=>exact q3
 |false=>
  rw[aey Yv];exact abp ⟨σ1,H2,I2,q2⟩
end
structure It where
 go:Nat->Hp->Prop
 yld:Nat->Hp->V->Hp->Prop
 stop:Nat->Hp->Prop
def qy(X:Cx)(f8:List (Addr×Obj))(H:Hp)(b:Addr):Prop:=
 H b=none/\b≠X.env.locals/\b∉X.fs/\(b∈X.ex\/X.aeI.heap.objs.size<=b)/\(∀x c,X.env.cells.lookup x=some c->c≠b)/\∀p∈X.pn++f8,p.1≠b
def Inv.fpOk{X:Cx}{f8:List (Addr×Obj)}{σ:St}{H H':Hp}{s:X1}{b:Addr}(I:Inv X f8 σ H s)(hb:s.heap.objs.size<=b)(hn:H' b=none):qy X f8 H' b:=by
 refine⟨hn,aab (YD I.lt hb),I.nofs hb, .inr (Yy I.sz hb),λx c e z=>?_,λp hp z=>?_⟩
 ·obtain⟨v,q⟩:=I.cell x c e;exact aeB (YD q.lt (by rw[z];exact hb)) (YV _)
 ·exact aeB (YD (Yd (I.pin p hp).1) (by rw[z];exact hb)) (YV _)
structure Turn (P:YK) (w:World) (K:X5) (tg:Expr) (J:It) (fp:List Addr) (it:Addr) (tn:Nat->Heap->Prop):Prop where
 mem:it∈fp
 obj:∀i h,tn i h->∀b∈fp,∃o,h.get? b=some o/\∀v,o.data≠ .cell v
 keep:∀i h h',tn i h->(∀b∈fp,∀o,h.get? b=some o->h'.get? b=some o)->tn i h'
 item:∀(X:Cx),X.prog=P->X.w=w->X.K=K->X.calm=true->∀(i:Nat) (f8:List (Addr×Obj)) (s:X1) (σ:St) (H:Hp) (E:Value->X1->Prop),Inv X f8 σ H s->(∀b∈fp,qy X f8 H b)->tn i s.heap->J.go i H->
  wpAny (model P w) X.A (ab_ (.ref it)) (λr s1=>∃u,r=some u/\
   wpAny (model P w) X.A (aca tg (.ref it) u) (λ_ s2=>∃x H',Inv X f8 σ H' s2/\RelV x u/\J.yld i H x H'/\tn (i+1) s2.heap/\∀b∈fp,H' b=none) E s1) E s
 done:∀(X:Cx),X.prog=P->X.w=w->X.K=K->X.calm=true->∀(i:Nat) (f8:List (Addr×Obj)) (s:X1) (σ:St) (H:Hp) (E:Value->X1->Prop),Inv X f8 σ H s->(∀b∈fp,qy X f8 H b)->tn i s.heap->J.stop i H->
  wpAny (model P w) X.A (ab_ (.ref it)) (λr s1=>r=none/\Inv X f8 σ H s1) E s
 self:∀(A:YX) (i:Nat) (s:X1) (Q:Value->X1->Prop) (E:Value->X1->Prop),tn i s.heap->Q (.ref it) s->wpAny (model P w) A (pyIter (.ref it)) Q E s
abbrev TI:=St->Hp->(It->Hp->Prop)->Prop
def Ui(X:Cx)(f8:List (Addr×Obj))(σ:St)(tg:Expr)(R:It->Hp->Prop)(U5:Value)(s2:X1):Prop:=
 ∃(it:Addr) (fp:List Addr) (tn:Nat->Heap->Prop) (J:It) (H':Hp),U5= .ref it/\Inv X f8 σ H' s2/\Turn X.prog X.w X.K tg J fp it tn/\tn 0 s2.heap/\(∀b∈fp,qy X f8 H' b)/\R J H'
def PI(X:Cx)(tg iter:Expr)(wi:TI):Prop:=
 ∀(f8:List (Addr×Obj)) (s:X1) (σ:St) (H:Hp) (R:It->Hp->Prop),Inv X f8 σ H s->wi σ H R->
  wpAny (model X.prog X.w) X.A (eval iter X.env) (λv s1=>wpAny (model X.prog X.w) X.A (pyIter v) (Ui X f8 σ tg R) X.xe s1) X.xe s
def uH{M:Model}{A:YX}{E:Value->X1->Prop}{s:X1}{tg:Expr}{it:Addr}{u:Value}{o:Obj}{n:String}{vs:Array Value}{Q:Unit->X1->Prop}(ho:s.heap.get? it=some o)(hc:o.cls= .type n)(hd:o.data= .fields vs)
 (hn:["enumerate","zip","dict_itemiterator","dict_reverseitemiterator","odict_iterator","itertools.zip_longest","itertools.pairwise"].contains n=false)(hQ:Q () s):wpAny M A (aca tg (.ref it) u) Q E s:=by
 unfold aca;cases tg<;>first
  |exact Yc hQ
  |(cases u<;>first
    |exact Yc hQ
    |(refine XX (wpAny_load ho ?_)
      rw[hc,hd];show wpAny M A (if (["enumerate","zip","dict_itemiterator","dict_reverseitemiterator","odict_iterator","itertools.zip_longest","itertools.pairwise"].contains n&&vs[0]? ==some (acI _))=true then _ else _) Q E s;rw[aey (by intro h;rw[hn,Bool.false_and] at h;cases h)];exact Yc hQ))
def RK(K:X5)(a:Addr):It:=
 ⟨λi H=>∃xs x,SqL K H a xs/\xs[i]? =some x,λi H x H'=>H'=H/\∀xs,SqL K H a xs->xs[i]? =some x,λi H=>∃xs,SqL K H a xs/\xs.length<=i⟩
def RL(K:X5)(a:Addr):It:=
 ⟨λi H=>∃xs x,SqT K H a xs/\xs[i]? =some x,λi H x H'=>H'=H/\∀xs,SqT K H a xs->xs[i]? =some x,λi H=>∃xs,SqT K H a xs/\xs.length<=i⟩
def OG(lo:Int)(n:Nat):It:=⟨λi _=>i<n,λi H x H'=>H'=H/\x= .int (lo+i),λi _=>n<=i⟩
def EI{P:YK}{w:World}{K:X5}{tg:Expr}(a it:Addr):Turn P w K tg (RK K a) [it] it (λi h=>h.IsListIter it a i) where
 mem:=by simp
 obj:=λi h st b hb=>by
  have e:b=it:=by simpa using hb
  subst e;obtain⟨o,e,c,d⟩:=st;exact⟨o,e,λv z=>by rw[d] at z;cases z⟩
 keep:=λi h h' st k=>st.at λo e=>k it (by simp) o e
 item:=by
  intro X hP hw hK hc i f8 s σ H E I hf st hg;subst hP hw hK;obtain⟨xs,x,hq,hx⟩:=hg;obtain⟨aT,rv,p,hz⟩:=I.list hq;obtain⟨u,hu,ru⟩:=rv.get hx;obtain⟨f0,f1,f2,f3,f4,f5⟩:=hf it (by simp);refine wpAny_pyNext_list_item st p.isList (x:=u) (by simpa using hu) λh' pG sb=>?_;have I1:Inv X f8 σ H {s with heap:=h'}:=I.turned (t':=s.toks) (λb o hb e=>(sb.2 b hb).trans e) f0 f1 f3 f4 f5;obtain⟨o,e,c,d⟩:=id pG;exact⟨u,rfl,uH (s:={s with heap:=h'}) e c d (by decide) ⟨x,H,I1,ru,⟨rfl,λys hy=>by rw[I.list_inj hy hq];exact hx⟩,pG,λb hb=>(hf b hb).1⟩⟩
 done:=by
  intro X hP hw hK hc i f8 s σ H E I hf st hg;subst hP hw hK;obtain⟨xs,hq,hx⟩:=hg;obtain⟨aT,rv,p,hz⟩:=I.list hq;obtain⟨f0,f1,f2,f3,f4,f5⟩:=hf it (by simp);have hl:=rv.length;exact wpAny_pyNext_list_end (I.ok.hd hc) st p.isList (by simp;omega) λh' eb=>⟨rfl,I.turned (t':=s.toks) (λb o hb e=>eb b o hb e) f0 f1 f3 f4 f5⟩
 self:=λ_ _ _ _ _ st h=>wpAny_pyIter_listiter st h
def By{P:YK}{w:World}{K:X5}{tg:Expr}(a it:Addr):Turn P w K tg (RL K a) [it] it (λi h=>h.IsTupleIter it a i) where
 mem:=by simp
 obj:=λi h st b hb=>by
  have e:b=it:=by simpa using hb
  subst e;obtain⟨o,e,c,d⟩:=st;exact⟨o,e,λv z=>by rw[d] at z;cases z⟩
 keep:=λi h h' st k=>st.at λo e=>k it (by simp) o e
 item:=by
  intro X hP hw hK hc i f8 s σ H E I hf st hg;subst hP hw hK;obtain⟨xs,x,hq,hx⟩:=hg;obtain⟨aT,rv,p,hz⟩:=I.tuple hq;obtain⟨u,hu,ru⟩:=rv.get hx;obtain⟨f0,f1,f2,f3,f4,f5⟩:=hf it (by simp);refine wpAny_pyNext_tuple_item st (show s.heap.IsTuple a aT.toArray from p) (x:=u) (by simpa using hu) λh' pG sb=>?_;have I1:Inv X f8 σ H {s with heap:=h'}:=I.turned (t':=s.toks) (λb o hb e=>(sb.2 b hb).trans e) f0 f1 f3 f4 f5;obtain⟨o,e,c,d⟩:=id pG;exact⟨u,rfl,uH (s:={s with heap:=h'}) e c d (by decide) ⟨x,H,I1,ru,⟨rfl,λys hy=>by rw[I.tuple_inj hy hq];exact hx⟩,pG,λb hb=>(hf b hb).1⟩⟩
 done:=by
  intro X hP hw hK hc i f8 s σ H E I hf st hg;subst hP hw hK;obtain⟨xs,hq,hx⟩:=hg;obtain⟨aT,rv,p,hz⟩:=I.tuple hq;obtain⟨f0,f1,f2,f3,f4,f5⟩:=hf it (by simp);have hl:=rv.length;exact wpAny_pyNext_tuple_end (I.ok.hd hc) st (show s.heap.IsTuple a aT.toArray from p) (by simp;omega) λh' eb=>⟨rfl,I.turned (t':=s.toks) (λb o hb e=>eb b o hb e) f0 f1 f3 f4 f5⟩
 self:=λ_ _ _ _ _ st h=>wpAny_pyIter_tupleiter st h
def Bx{P:YK}{w:World}{K:X5}{tg:Expr}(it:Addr)(lo:Int)(n:Nat):Turn P w K tg (OG lo n) [it] it (λi h=>IsRangeIter h it (lo+(i:Nat)*1) ((n:Int) - (i:Nat)) 1) where
 mem:=by simp
 obj:=λi h st b hb=>by
  have e:b=it:=by simpa using hb
  subst e;exact⟨_,st,λv z=>by
   have z':ad5 _=Data.cell v:=z;cases z'⟩
 keep:=λi h h' st k=>k it (by simp) _ st
 item:=by
  intro X hP hw hK hc i f8 s σ H E I hf st hg;subst hP hw hK;obtain⟨f0,f1,f2,f3,f4,f5⟩:=hf it (by simp);have W:=Walks.range (prog:=X.prog) (w:=X.w) (I.ok.hd hc) it lo 1 n;refine W.item i s _ _ hg st λv h' tk hv pG kk=>?_;obtain⟨t,rfl⟩:=hv;have I1:Inv X f8 σ H {s with heap:=h',toks:=tk}:=I.turned (λb o hb e=>kk b o (by simpa using hb) e) f0 f1 f3 f4 f5;refine⟨_,rfl,uH (s:={s with heap:=h',toks:=tk}) (n:="range_iterator") pG rfl rfl (by decide) ⟨.int (lo+i),H,I1,⟨t,?_⟩,⟨rfl,rfl⟩,pG,λb hb=>(hf b hb).1⟩⟩;rw[Int.mul_one]
 done:=by
  intro X hP hw hK hc i f8 s σ H E I hf st hg;subst hP hw hK;obtain⟨f0,f1,f2,f3,f4,f5⟩:=hf it (by simp);exact wpAny_pyNext_range_end (I.ok.hd hc) st (by have:n<=i:=hg;omega) λh' eb=>⟨rfl,I.turned (t':=s.toks) (λb o hb e=>eb b o hb e) f0 f1 f3 f4 f5⟩
 self:=λ_ _ _ _ _ st h=>wpAny_pyIter_rangeiter st h
section
variable{X:Cx}{tg:Expr}
def P2(K:X5)(tl:TE):TI:=λσ H R=>tl σ H λx H1=>∃a,x= .ref a/\(∃xs,SqL K H1 a xs)/\R (RK K a) H1
def Tc(K:X5)(tl:TE):TI:=λσ H R=>tl σ H λx H1=>∃a,x= .ref a/\(∃xs,SqT K H1 a xs)/\R (RL K a) H1
def J_{l:Expr}{tl:TE}(hl:PE X l tl):PI X tg l (P2 X.K tl):=by
 intro f8 s σ H R I h;refine bX (hl f8 s σ H _ I h) λv s1 ⟨x,H1,I1,r1,q1⟩=>?_;obtain⟨a,e,⟨xs,hq⟩,q⟩:=q1;subst e;cases r1;obtain⟨aT,rv,p,hz⟩:=I1.list hq;refine acU p.isList ?_;refine⟨s1.heap.objs.size,[s1.heap.objs.size],_,_,H1,rfl,I1.kept (t':=s1.toks) λb o e=>XZ _ e,EI a _,⟨_,Yj _ rfl,rfl,rfl⟩,λb hb=>?_,q⟩;have e:b=s1.heap.objs.size:=by simpa using hb
 subst e;exact I1.fpOk (X4 _) (I1.hok.fresh (X4 _))
def NJ{l:Expr}{tl:TE}(hl:PE X l tl):PI X tg l (Tc X.K tl):=by
 intro f8 s σ H R I h;refine bX (hl f8 s σ H _ I h) λv s1 ⟨x,H1,I1,r1,q1⟩=>?_;obtain⟨a,e,⟨xs,hq⟩,q⟩:=q1;subst e;cases r1;obtain⟨aT,rv,p,hz⟩:=I1.tuple hq;refine wpAny_pyIter_tuple (show s1.heap.IsTuple a aT.toArray from p) ?_;refine⟨s1.heap.objs.size,[s1.heap.objs.size],_,_,H1,rfl,I1.kept (t':=s1.toks) λb o e=>XZ _ e,By a _,⟨_,Yj _ rfl,rfl,rfl⟩,λb hb=>?_,q⟩;have e:b=s1.heap.objs.size:=by simpa using hb
 subst e;exact I1.fpOk (X4 _) (I1.hok.fresh (X4 _))
def zB{f8:List (Addr×Obj)}{σ:St}{H:Hp}{s:X1}{R:It->Hp->Prop}{E:Value->X1->Prop}{lo hi:Int}{t u v:Tok}{tk:Nat}(I:Inv X f8 σ H s)(h1: -(2 ^ 62)<=lo)(h2:lo<2 ^ 62)(h3: -(2 ^ 62)<=hi)(h4:hi<2 ^ 62)
 (q:R (OG lo (hi - lo).toNat) H):wpAny (model X.prog X.w) X.A (pyIter (.ref s.heap.objs.size)) (Ui X f8 σ tg R) E {s with heap:=s.heap.push {cls:= .type "range",data:= .fields #[.int lo t, .int hi u, .int 1 v]},toks:=tk}:=by
 refine wpAny_pyIter_range (IsRange.new ..) (small_one h1 h2 h3 h4) ?_;have I1:Inv X f8 σ H {s with heap:=s.heap.push {cls:= .type "range",data:= .fields #[.int lo t, .int hi u, .int 1 v]},toks:=tk}:=I.kept λb o e=>XZ _ e;refine⟨(s.heap.push {cls:= .type "range",data:= .fields #[.int lo t, .int hi u, .int 1 v]}).objs.size,[(s.heap.push {cls:= .type "range",data:= .fields #[.int lo t, .int hi u, .int 1 v]}).objs.size],_,_,H,rfl,
  I1.kept (t':=tk) λb o e=>XZ _ e,Bx _ lo (hi - lo).toNat,?_,λb hb=>?_,q⟩
 ·have e1:lo+((0:Nat):Int)*1=lo:=by simp
  have e2:(((hi - lo).toNat:Nat):Int) - ((0:Nat):Int)=Builtin.Range.rangeSize lo hi 1:=by rw[rangeSize_one];split<;>omega
  show IsRangeIter _ _ (lo+((0:Nat):Int)*1) ((((hi - lo).toNat:Nat):Int) - ((0:Nat):Int)) 1;rw[e1,e2];exact Yj _ rfl
 ·have e:b=(s.heap.push {cls:= .type "range",data:= .fields #[.int lo t, .int hi u, .int 1 v]}).objs.size:=by simpa using hb
  subst e;exact I1.fpOk (X4 _) (I1.hok.fresh (X4 _))
def P4(ta:TA):TI:=λσ H R=>ta σ H λvs H1=>∃j:Int,vs=[.int j]/\ -(2 ^ 62)<=j/\j<2 ^ 62/\R (OG 0 j.toNat) H1
def P5(ta:TA):TI:=λσ H R=>ta σ H λvs H1=>∃i j:Int,vs=[.int i, .int j]/\(-(2 ^ 62)<=i/\i<2 ^ 62/\ -(2 ^ 62)<=j/\j<2 ^ 62)/\R (OG i (j - i).toNat) H1
def En{a:Expr}{ta:TA}{p pos:Pos}(hg:Gl X "range")(hm:X.mg "range"=none)(ha:PA X [a] ta)(hs:Yg [a] X.env=[(false,eval a X.env)]:=by rfl):PI X tg (.Call (.Name "range" p) [a] [] pos) (P4 ta):=by
 intro f8 s σ H R I h;refine Call_ (lB I hg hm boot_range (aaa (bX (ha pos f8 s σ H _ I h) λus s1 ⟨vs,H1,I1,r1,q1⟩=>?_) hs rfl));obtain⟨j,e,q1,q2,q⟩:=q1;subst e;cases r1 with
 |cons r rr=>
  cases rr;obtain⟨t,rfl⟩:=r;exact call_range_1 (zB I1 (by omega) (by omega) q1 q2 (by simpa using q))
def Eo{a b:Expr}{ta:TA}{p pos:Pos}(hg:Gl X "range")(hm:X.mg "range"=none)(ha:PA X [a,b] ta)(hs:Yg [a,b] X.env=[(false,eval a X.env),(false,eval b X.env)]:=by rfl)(Jg:Yg [b] X.env=[(false,eval b X.env)]:=by rfl):
 PI X tg (.Call (.Name "range" p) [a,b] [] pos) (P5 ta):=by
 intro f8 s σ H R I h;refine Call_ (lB I hg hm boot_range (aaa (bX (ha pos f8 s σ H _ I h) λus s1 ⟨vs,H1,I1,r1,q1⟩=>?_) (by rw[hs,Jg]) (by rw[Jg];rfl)));obtain⟨i,j,e,⟨q1,q2,q3,q4⟩,q⟩:=q1;subst e;cases r1 with
 |cons r rr=>
  cases rr with
  |cons r' rr=>
   cases rr;obtain⟨t,rfl⟩:=r;obtain⟨t',rfl⟩:=r';exact call_range_2 (zB I1 q1 q2 q3 q4 q)
def N6(wi:TI)(g:TG)(tb:TS):TS:=λD σ H=>wi σ H λJ H1=>∃W:Nat->Nat->St->Hp->Prop,(∃m,W 0 m σ H1)/\∀i m σ H,W i m σ H->
 (J.stop i H/\D.nx σ H)\/(J.go i H/\∃N:St->Hp->Prop,(∀σ' H',N σ' H'->∃m',m'<m/\W (i+1) m' σ' H')/\∀x H',J.yld i H x H'->g x σ H' λσ2 H2=>tb {D with nx:=N,ct:=N,bk:=D.nx} σ2 H2)
def ou(fp:List Addr)(h:Heap):List (Addr×Obj):=fp.filterMap λb=>(h.get? b).map λo=>(b,o)
def fc{fp:List Addr}{h:Heap}{b:Addr}{o:Obj}(hb:b∈fp)(e:h.get? b=some o):(b,o)∈ou fp h:=ack.mpr ⟨b,hb,by rw[e];rfl⟩
def Eb{fp:List Addr}{h:Heap}{p:Addr×Obj}(hp:p∈ou fp h):p.1∈fp/\h.get? p.1=some p.2:=by
 obtain⟨b,hb,e⟩:=ack.mp hp;cases q:h.get? b with
 |none=>rw[q] at e;cases e
 |some o=>
  rw[q] at e;have e':(b,o)=p:=YI e;subst e';exact⟨hb,q⟩
def Inv.pinned{f8:List (Addr×Obj)}{σ:St}{H:Hp}{s:X1}{fp:List Addr}(I:Inv X f8 σ H s)(hf:∀b∈fp,qy X f8 H b)(ho:∀b∈fp,∃o,s.heap.get? b=some o/\∀v,o.data≠ .cell v):Inv X (f8++ou fp s.heap) σ H s:=
 I.pins_of λp hp=>(Yr.mp hp).elim (λz=>I.pin p (YE _ z)) λz=>by
  obtain⟨hb,e⟩:=Eb z;obtain⟨f0,f1,f2,_⟩:=hf p.1 hb;obtain⟨o,e',d⟩:=ho p.1 hb;rw[e] at e';cases e';exact⟨e,f0,f1,f2,d⟩
def Inv.unpinned{f8 pl:List (Addr×Obj)}{σ:St}{H:Hp}{s:X1}(I:Inv X (f8++pl) σ H s):Inv X f8 σ H s:=I.pins_of λp hp=>I.pin p (YE _ (Z4 _ hp))
def w6{iter:Expr}{body:List Stmt}{wi:TI}{g:TG}{tb:TS}{pos:Pos}(hp:adD (model X.prog X.w) X.A X.env X.xe)(hc:X.calm=true)(hi:PI X tg iter wi)(hg:PG X tg g)(hb:PSs X body tb)
 (hs:∀x,aae iter X.env x=pure x:=by intro _;rfl):PS X (.For tg iter body [] pos) (N6 wi g tb):=by
 intro f8 s σ H D I h;refine wpAny_For (bX (hi f8 s σ H _ I h) λv s1 h1=>bX h1 λU5 s2 h2=>?_) hs;obtain⟨it,fp,tn,J,H2,e,I2,T,tG,f2,W,⟨m0,w0⟩,turn⟩:=h2;subst e;have N2:∀{H':Hp},(∀b∈fp,H' b=none)->∀b∈fp,qy X f8 H' b:=λhn b hb=>⟨hn b hb,(f2 b hb).2⟩
 refine codeAny_forLoop_any (λn s'=>∃i σ' H',Inv X f8 σ' H' s'/\tn i s'.heap/\(∀b∈fp,H' b=none)/\W i n σ' H') ?_ m0 ⟨0,σ,H2,I2,tG,λb hb=>(f2 b hb).1,w0⟩;rintro n s3 ⟨i,σ3,H3,I3,EZ,Og,w3⟩;rcases turn i n σ3 H3 w3 with⟨stop,qn⟩ | ⟨go,N,hN,step⟩
 ·refine aaE hp (bX (T.done X rfl rfl rfl hc i f8 s3 σ3 H3 X.xe I3 (N2 Og) EZ stop) λr s4 ⟨hr,I4⟩=>?_);subst hr;exact abp ⟨σ3,H3,I4,qn⟩
 ·refine aaE hp (bX (T.item X rfl rfl rfl hc i f8 s3 σ3 H3 X.xe I3 (N2 Og) EZ go) λr s4 ⟨u,hr,h4⟩=>?_);subst hr;refine aaE hp (bX h4 λ_ s5 ⟨x,H5,I5,r5,y5,TV,VF⟩=>?_);have I5':=I5.pinned (N2 VF) (T.obj _ _ TV);refine aaE hp (bX (hg _ s5 σ3 H5 x u _ I5' r5 (step x H5 y5)) λ_ s6 ⟨σ6,H6,I6,q6⟩=>?_);refine aaE hp (bX (hb _ s6 σ6 H6 _ I6 q6) λf s7 q7=>?_);have again:∀{σ7:St}{H7:Hp},Inv X (f8++ou fp s5.heap) σ7 H7 s7->N σ7 H7->∃m,m<n/\∃i σ' H',Inv X f8 σ' H' s7/\tn i s7.heap/\(∀b∈fp,H' b=none)/\W i m σ' H':=λ{σ7 H7} I7 n7=>by
   obtain⟨m',hm,w7⟩:=hN σ7 H7 n7;refine⟨m',hm,i+1,σ7,H7,I7.unpinned,T.keep _ _ _ TV λb hb o e=>(I7.pin (b,o) (YE _ (YE _ (fc hb e)))).1,λb hb=>?_,w7⟩;obtain⟨o,e,d⟩:=T.obj _ _ TV b hb;exact(I7.pin (b,o) (YE _ (YE _ (fc hb e)))).2.1
  cases f with
  |next=>obtain⟨σ7,H7,I7,n7⟩:=q7;exact again I7 n7
  |cont=>obtain⟨σ7,H7,I7,n7⟩:=q7;exact again I7 n7
  |brk=>obtain⟨σ7,H7,I7,q7⟩:=q7;exact⟨σ7,H7,I7.unpinned,q7⟩
  |ret v=>obtain⟨x7,σ7,H7,I7,r7,q7⟩:=q7;exact⟨x7,σ7,H7,I7.unpinned,r7,q7⟩
end
abbrev R2:=V->V->Hp->VK->Prop
def OpR(X:Cx)(f:Value->Value->Sem Value)(r:R2):Prop:=
 ∀(f8:List (Addr×Obj)) (s:X1) (σ:St) (H:Hp) (x y:V) (v u:Value) (Q:VK),Inv X f8 σ H s->RelV x v->RelV y u->r x y H Q->
  wpAny (model X.prog X.w) X.A (f v u) (EP X f8 σ Q) X.xe s
def RQ(X:Cx)(f:Value->Sem Value)(r:V->Hp->VK->Prop):Prop:=
 ∀(f8:List (Addr×Obj)) (s:X1) (σ:St) (H:Hp) (x:V) (v:Value) (Q:VK),Inv X f8 σ H s->RelV x v->r x H Q->
  wpAny (model X.prog X.w) X.A (f v) (EP X f8 σ Q) X.xe s
def CallR(X:Cx)(f:Value)(r:List V->Hp->VK->Prop):Prop:=
 ∀(f8:List (Addr×Obj)) (s:X1) (σ:St) (H:Hp) (xs:List V) (us:List Value) (Q:VK),Inv X f8 σ H s->Vals xs us->r xs H Q->
  wpAny (model X.prog X.w) X.A (call f us) (EP X f8 σ Q) X.xe s
def RP(X:Cx)(r:V->Hp->(Bool->Hp->Prop)->Prop):Prop:=
 ∀(f8:List (Addr×Obj)) (s:X1) (σ:St) (H:Hp) (x:V) (v:Value) (Q:Bool->Hp->Prop),Inv X f8 σ H s->RelV x v->r x H Q->
  wpAny (model X.prog X.w) X.A (truthy v) (TP X f8 σ Q) X.xe s
def OC(r:R2)(ta tb:TE):TE:=λσ H Q=>ta σ H λx H1=>tb σ H1 λy H2=>r x y H2 Q
def Xq(r:V->Hp->VK->Prop)(ta:TE):TE:=λσ H Q=>ta σ H λx H1=>r x H1 Q
def rI(C:Int->Int->Prop)(g:Int->Int->V):R2:=λx y H Q=>∃i j,x= .int i/\y= .int j/\C i j/\Q (g i j) H
def Et(g:Int->Int->V):R2:=λx y H Q=>∃i j,x= .int i/\y= .int j/\Q (g i j) H
def rU(g:Int->V):V->Hp->VK->Prop:=λx H Q=>∃i,x= .int i/\Q (g i) H
section
variable{X:Cx}{a b:Expr}{ta tb:TE}{pos:Pos}
def LP(ha:PE X a ta)(hb:PE X b tb){f8:List (Addr×Obj)}{s:X1}{σ:St}{H:Hp}{R:V->V->Hp->Prop}(I:Inv X f8 σ H s)
 (h:ta σ H λx H1=>tb σ H1 λy H2=>R x y H2){Q:Value->X1->Prop}{f:Value->Value->Sem Value}
 (hf:∀v u s2 x y H2,Inv X f8 σ H2 s2->RelV x v->RelV y u->R x y H2->wpAny (model X.prog X.w) X.A (f v u) Q X.xe s2):
 wpAny (model X.prog X.w) X.A (eval a X.env) (λv T0=>wpAny (model X.prog X.w) X.A (eval b X.env) (λu v4=>wpAny (model X.prog X.w) X.A (f v u) Q X.xe v4) X.xe T0) X.xe s:=by
 refine bX (ha f8 s σ H _ I h) λv s1 ⟨x,H1,I1,r1,q1⟩=>?_;refine bX (hb f8 s1 σ H1 _ I1 q1) λu s2 ⟨y,H2,I2,r2,q2⟩=>?_;exact hf v u s2 x y H2 I2 r1 r2 q2
def Qt{op:Operator}{r:R2}(ho:OpR X (aa6 op) r)(ha:PE X a ta)(hb:PE X b tb):PE X (.BinOp a op b pos) (OC r ta tb):=by
 intro f8 s σ H Q I h;exact wpAny_BinOp (LP ha hb I h λv u s2 x y H2 I2 rx ry q=>ho f8 s2 σ H2 x y v u Q I2 rx ry q)
def Qu{op:UnaryOp}{r:V->Hp->VK->Prop}(ho:RQ X (unaryOp op) r)(ha:PE X a ta):PE X (.UnaryOp op a pos) (Xq r ta):=by
 intro f8 s σ H Q I h;exact UnaryOp_ (bX (ha f8 s σ H _ I h) λv s1 ⟨x,H1,I1,r1,q1⟩=>ho f8 s1 σ H1 x v Q I1 r1 q1)
def Tv{f:Value->Value->Sem Value}{C:Int->Int->Prop}{g:Int->Int->Int}
 (rule:∀(i j:Int) (t u:Tok) (s:X1) (Q:Value->X1->Prop) (E:Value->X1->Prop),C i j->Q (.int (g i j) s.toks) {s with toks:=s.toks+1}->wpAny (model X.prog X.w) X.A (f (.int i t) (.int j u)) Q E s):
 OpR X f (rI C λi j=> .int (g i j)):=by
 intro f8 s σ H x y v u Q I rx ry h;obtain⟨i,j,rfl,rfl,hc,q⟩:=h;obtain⟨t,rfl⟩:=rx;obtain⟨t',rfl⟩:=ry;exact rule i j t t' s _ _ hc ⟨.int (g i j),H,I.tok _,⟨_,rfl⟩,q⟩
def Qo{f:Value->Value->Sem Value}{g:Int->Int->Int}
 (rule:∀(i j:Int) (t u:Tok) (s:X1) (Q:Value->X1->Prop) (E:Value->X1->Prop),Q (.int (g i j) s.toks) {s with toks:=s.toks+1}->wpAny (model X.prog X.w) X.A (f (.int i t) (.int j u)) Q E s):
 OpR X f (Et λi j=> .int (g i j)):=by
 intro f8 s σ H x y v u Q I rx ry h;obtain⟨i,j,rfl,rfl,q⟩:=h;obtain⟨t,rfl⟩:=rx;obtain⟨t',rfl⟩:=ry;exact rule i j t t' s _ _ ⟨.int (g i j),H,I.tok _,⟨_,rfl⟩,q⟩
def Qn{f:Value->Value->Sem Value}{g:Int->Int->Bool}
 (rule:∀(i j:Int) (t u:Tok) (s:X1) (Q:Value->X1->Prop) (E:Value->X1->Prop),Q (.bool (g i j)) s->wpAny (model X.prog X.w) X.A (f (.int i t) (.int j u)) Q E s):
 OpR X f (Et λi j=> .bl (g i j)):=by
 intro f8 s σ H x y v u Q I rx ry h;obtain⟨i,j,rfl,rfl,q⟩:=h;obtain⟨t,rfl⟩:=rx;obtain⟨t',rfl⟩:=ry;exact rule i j t t' s _ _ ⟨.bl (g i j),H,I,rfl,q⟩
def OD(i j:Int):Prop:=0<j/\j<1073741824
def CMul(i j:Int):Prop:=(-(2 ^ 64)<i/\i<2 ^ 64)\/(-(2 ^ 64)<j/\j<2 ^ 64)
def CMul.ok{i j:Int}(h:CMul i j):IntMulOk i j:=by
 rcases h with⟨h1,h2⟩ | ⟨h1,h2⟩
 ·exact .of_left (intBits_le_64 h1 h2)
 ·exact .of_right (intBits_le_64 h1 h2)
def Na:OpR X (aa6 .Add) (Et λi j=> .int (i+j)):=Qo λ_ _ _ _ _ _ _ q=>add_int q
def Nj:OpR X (aa6 .Sub) (Et λi j=> .int (i - j)):=Qo λ_ _ _ _ _ _ _ q=>sub_int q
def Ng:OpR X (aa6 .Mult) (rI CMul λi j=> .int (i*j)):=Tv λ_ _ _ _ _ _ _ hc q=>mul_int q hc.ok
def JJ:OpR X (aa6 .FloorDiv) (rI OD λi j=> .int (i / j)):=Tv λi j _ _ _ _ _ hc q=>by
 have h1:(0:Int)<j:=hc.1;have h2:j<1073741824:=hc.2;exact floordiv_int (by omega) (by rw[Int.fdiv_eq_ediv_of_nonneg i (by omega)];exact q) (.inl (PyProof.noPylong_small (by omega)))
def Nf:OpR X (aa6 .Mod) (rI (λ_ j=>0<j) λi j=> .int (i % j)):=Tv λi j _ _ _ _ _ hc q=>by
 have h1:(0:Int)<j:=hc;exact mod_int' (by omega) (by rw[Int.fmod_eq_emod_of_nonneg i (by omega)];exact q)
def Xs{f:Value->Sem Value}{g:Int->Int}
 (rule:∀(i:Int) (t:Tok) (s:X1) (Q:Value->X1->Prop) (E:Value->X1->Prop),Q (.int (g i) s.toks) {s with toks:=s.toks+1}->wpAny (model X.prog X.w) X.A (f (.int i t)) Q E s):
 RQ X f (rU λi=> .int (g i)):=by
 intro f8 s σ H x v Q I rx h;obtain⟨i,rfl,q⟩:=h;obtain⟨t,rfl⟩:=rx;exact rule i t s _ _ ⟨.int (g i),H,I.tok _,⟨_,rfl⟩,q⟩
def Oa:RQ X (unaryOp .USub) (rU λi=> .int (-i)):=Xs λ_ _ _ _ _ q=>neg_int q
end
section
variable{X:Cx}{a b c:Expr}{ta tb tc:TE}{pos:Pos}
def Mg{f8:List (Addr×Obj)}{σ:St}{H:Hp}{s:X1}{Q:VK}{k k':Bool}(I:Inv X f8 σ H s)(q:Q (.bl k) H)(e:k=k'):EP X f8 σ Q (.bool k') s:=by
 subst e;exact⟨.bl k,H,I,rfl,q⟩
def GU:OpR X (Y8 .Lt) (Et λi j=> .bl (decide (i<j))):=Qn λ_ _ _ _ _ _ _ q=>lt_int q
def sk:OpR X (Y8 .LtE) (Et λi j=> .bl (decide (i<=j))):=Qn λ_ _ _ _ _ _ _ q=>le_int q
def Ei:OpR X (Y8 .In) (λx y H Q=>∃i j,x= .str i/\y= .str j/\Q (.bl (!(aaG j i 0 j.length 1).isEmpty)) H):=by
 intro f8 s σ H x y v u Q I rx ry h;obtain⟨i,j,rfl,rfl,q⟩:=h;obtain⟨t,rfl⟩:=rx;obtain⟨t',rfl⟩:=ry;exact in_str (Mg I q rfl)
def OpR.or{f:Value->Value->Sem Value}{r r':R2}(h:OpR X f r)(h':OpR X f r'):OpR X f (λx y H Q=>r x y H Q\/r' x y H Q):=by
 intro f8 s σ H x y v u Q I rx ry q;rcases q with q | q
 ·exact h f8 s σ H x y v u Q I rx ry q
 ·exact h' f8 s σ H x y v u Q I rx ry q
def GA(b:Expr){op:CmpOp}(h:op≠ .In:=by decide)(h2:op≠ .NotIn:=by decide):Zf op b=false:=by
 have e1:(op==CmpOp.In)=false:=by cases op<;>first | rfl | exact aeB rfl h
 have e2:(op==CmpOp.NotIn)=false:=by cases op<;>first | rfl | exact aeB rfl h2
 cases b<;>simp[Zf,e1,e2]
def J3{op:CmpOp}{r:R2}(ho:OpR X (Y8 op) r)(ha:PE X a ta)(hb:PE X b tb)(hm:Zf op b=false):PE X (.Compare a [op] [b] pos) (OC r ta tb):=by
 intro f8 s σ H Q I h;exact wpAny_Compare1 (LP ha hb I h λv u s2 x y H2 I2 rx ry q=>ho f8 s2 σ H2 x y v u Q I2 rx ry q) hm
def Lx(t:TE):TT:=λσ H Q=>t σ H λx H'=>∃k,x= .bl k/\Q k H'
def Kh{op:CmpOp}{r:R2}(ho:OpR X (Y8 op) r)(ha:PE X a ta)(hb:PE X b tb)(hm:Zf op b=false):PT X (.Compare a [op] [b] pos) (Lx (OC r ta tb)):=by
 intro f8 s σ H Q I h;refine wpAny_isTrue_Compare1 (bX (ha f8 s σ H _ I h) λv s1 ⟨x,H1,I1,r1,q1⟩=>bX (hb f8 s1 σ H1 _ I1 q1) λu s2 ⟨y,H2,I2,r2,q2⟩=>
  bX (ho f8 s2 σ H2 x y v u _ I2 r1 r2 q2) λc s3 ⟨z,H3,I3,r3,k,e,q3⟩=>?_) hm
 subst e;cases r3;exact Zr ⟨H3,I3,q3⟩
def Bu(r r':R2)(ta tb tc:TE):TE:=λσ H Q=>ta σ H λx H1=>tb σ H1 λy H2=>r x y H2 λz H3=>∃k,z= .bl k/\
 (if k=true then tc σ H3 λw' H4=>r' y w' H4 Q else Q (.bl false) H3)
def G8{op Eh:CmpOp}{r r':R2}(ho:OpR X (Y8 op) r)(l7:OpR X (Y8 Eh) r')(ha:PE X a ta)(hb:PE X b tb)(hc:PE X c tc)
 (hm:lastMarks [op,Eh] [b,c]=false:=by with_unfolding_all rfl):PE X (.Compare a [op,Eh] [b,c] pos) (Bu r r' ta tb tc):=by
 intro f8 s σ H Q I h;refine Compare_chain (bX (ha f8 s σ H _ I h) λv s1 ⟨x,H1,I1,r1,q1⟩=>chain_link (bX (hb f8 s1 σ H1 _ I1 q1) λu s2 ⟨y,H2,I2,r2,q2⟩=>
  bX (ho f8 s2 σ H2 x y v u _ I2 r1 r2 q2) λd s3 ⟨z,H3,I3,r3,k,e,q3⟩=>?_)) hm
 subst e;cases r3;refine Zr ?_;cases k with
 |false=>exact ite_ff ⟨.bl false,H3,I3,rfl,q3⟩
 |true=>exact ite_tt (chain_last (bX (hc f8 s3 σ H3 _ I3 q3) λw' s4 ⟨z',H4,I4,r4,q4⟩=>l7 f8 s4 σ H4 y z' u w' Q I4 r2 r4 q4))
def Hj{op Eh:CmpOp}{r r':R2}(ho:OpR X (Y8 op) r)(l7:OpR X (Y8 Eh) r')(ha:PE X a ta)(hb:PE X b tb)(hc:PE X c tc)
 (hm:lastMarks [op,Eh] [b,c]=false:=by with_unfolding_all rfl):PT X (.Compare a [op,Eh] [b,c] pos) (Lx (Bu r r' ta tb tc)):=by
 intro f8 s σ H Q I h;refine isTrue_chain (bX (ha f8 s σ H _ I h) λv s1 ⟨x,H1,I1,r1,q1⟩=>test_link (bX (hb f8 s1 σ H1 _ I1 q1) λu s2 ⟨y,H2,I2,r2,q2⟩=>
  bX (ho f8 s2 σ H2 x y v u _ I2 r1 r2 q2) λd s3 ⟨z,H3,I3,r3,k,e,q3⟩=>?_)) hm
 subst e;cases r3;refine Zr ?_;cases k with
 |false=>
  obtain⟨k',e',q'⟩:=q3;cases e';exact ite_ff ⟨H3,I3,q'⟩
 |true=>
  refine ite_tt (test_last (bX (hc f8 s3 σ H3 _ I3 q3) λw' s4 ⟨z',H4,I4,r4,q4⟩=>bX (l7 f8 s4 σ H4 y z' u w' _ I4 r2 r4 q4) λd' s5 ⟨z2,H5,I5,r5,k2,e2,q5⟩=>?_));subst e2;cases r5;exact Zr ⟨H5,I5,q5⟩
def OJ(K:X5)(x:V)(H:Hp)(k:Bool):Prop:=
 match x with
 | .non=>k=false
 | .bl b=>k=b
 | .int i=>k=(i !=0)
 | .str y=>y.length<=Yl/\k=((y.length:Int) !=0)
 | .byt y=>y.size<=Yl/\k=((y.size:Int) !=0)
 | .ref p=>(∃xs,SqL K H p xs/\k=!xs.isEmpty)\/(∃xs,SqT K H p xs/\k=!xs.isEmpty)\/∃kvs,H p=some (.dK kvs)/\k=!kvs.isEmpty
 |_=>False
def AV{κ:Type}{kvs:List (κ×V)}{vs:List (κ×Value)}(r:KV kvs vs):(!vs.isEmpty)=!kvs.isEmpty:=by
 cases r<;>rfl
def ri{xs:List V}{aT:List Value}(r:Vals xs aT):(!aT.toArray.isEmpty)=!xs.isEmpty:=by
 cases r<;>simp
def nW:(Yl:Nat)<2 ^ 63:=by rw[ZM];decide
def N9:RP X (λx H Q=>∃k,OJ X.K x H k/\Q k H):=by
 intro f8 s σ H x v Q I rx h;obtain⟨k,e,q⟩:=h;have hl:=nW;have hs:Yl=16777216:=ZM;cases x with
 |non=>
  cases rx;have e':k=false:=e;subst e';exact truthy_none ⟨H,I,q⟩
 |bl b=>
  cases rx;have e':k=b:=e;subst e';exact Zr ⟨H,I,q⟩
 |int i=>
  obtain⟨t,rfl⟩:=rx;have e':k=(i !=0):=e;subst e';exact PySem.P.truthy_int ⟨H,I,q⟩
 |str y=>
  obtain⟨t,rfl⟩:=rx;obtain⟨hy,e'⟩:y.length<=Yl/\k=((y.length:Int) !=0):=e;subst e';exact PySem.P.truthy_str (by omega) ⟨H,I.tok _,q⟩
 |byt y=>
  obtain⟨t,rfl⟩:=rx;obtain⟨hy,e'⟩:y.size<=Yl/\k=((y.size:Int) !=0):=e;subst e';exact PySem.W.truthy_bytes (by omega) ⟨H,I.tok _,q⟩
 |ref p=>
  cases rx;have e':(∃xs,SqL X.K H p xs/\k=!xs.isEmpty)\/(∃xs,SqT X.K H p xs/\k=!xs.isEmpty)\/∃kvs,H p=some (.dK kvs)/\k=!kvs.isEmpty:=e;rcases e' with⟨xs,hx,e'⟩ | ⟨xs,hx,e'⟩ | ⟨kvs,hx,e'⟩
  ·subst e';obtain⟨aT,r,pl,hz⟩:=I.list hx;have hlen:=r.length;exact wpAny_truthy_list pl.isList (by simp only[Yh];omega) ⟨H,I.tok _,by rw[ri r];exact q⟩
  ·subst e';obtain⟨aT,r,pl,hz⟩:=I.tuple hx;have hlen:=r.length;exact truthy_tuple pl (by simp only[Yh];omega) ⟨H,I.tok _,by rw[ri r];exact q⟩
  ·subst e';obtain⟨hz,hS,vs,r,m⟩:kvs.length<=Yl/\(p==Zu)=false/\∃vs,KV kvs vs/\s.heap.DictOf (aU X.prog X.w) p vs:=I.hok p _ hx;have hlen:kvs.length=vs.length:=Z9 r;exact wpAny_truthy_dict hS m (by omega) ⟨H,I.tok _,by rw[AV r];exact q⟩
 |_=>exact(show False from e).elim
def Hk(ha:PE X a ta)(he:∀whole,isTrue a X.env whole=(do let v<-whole;standAt a.pos;holding [v] (truthy v))):
 PT X a (λσ H Q=>ta σ H λx H'=>∃k,OJ X.K x H' k/\Q k H'):=by
 intro f8 s σ H Q I h;exact isTrue_plain (bX (ha f8 s σ H _ I h) λv s1 ⟨x,H1,I1,r1,q1⟩=>N9 f8 s1 σ H1 x v Q I1 r1 q1) (he _)
def vals1{x:V}{us:List Value}(r:Vals [x] us):∃u,us=[u]/\RelV x u:=by
 cases r with
 |cons r1 r2=>cases r2;exact⟨_,rfl,r1⟩
def vals2{x y:V}{us:List Value}(r:Vals [x,y] us):∃u w',us=[u,w']/\RelV x u/\RelV y w':=by
 cases r with
 |cons r1 r2=>
  cases r2 with
  |cons r3 r4=>cases r4;exact⟨_,_,rfl,r1,r3⟩
def Ff:CallR X (.builtin "abs") (λxs H Q=>∃i,xs=[.int i]/\Q (.int (if i<0 then -i else i)) H):=by
 intro f8 s σ H xs us Q I r h;obtain⟨i,rfl,q⟩:=h;obtain⟨u,rfl,t,rfl⟩:=vals1 r;exact call_abs_int λu tk=>⟨.int (if i<0 then -i else i),H,I.tok _,⟨_,rfl⟩,q⟩
def Dh(hc:X.calm=true):CallR X (.builtin "max") (λxs H Q=>∃i j,xs=[.int i, .int j]/\Q (.int (if j>i then j else i)) H):=by
 intro f8 s σ H xs us Q I r h;obtain⟨i,j,rfl,q⟩:=h;obtain⟨u,w',rfl,⟨t,rfl⟩,⟨t',rfl⟩⟩:=vals2 r;refine max_two_ints (I.ok.hd hc) λh' tk k=>⟨_,H,I.kept k,?_,q⟩
 by_cases hj:j>i
 ·rw[aex hj,aex hj];exact⟨_,rfl⟩
 ·rw[aey hj,aey hj];exact⟨_,rfl⟩
def Dj(hc:X.calm=true):CallR X (.builtin "min") (λxs H Q=>∃i j,xs=[.int i, .int j]/\Q (.int (if j<i then j else i)) H):=by
 intro f8 s σ H xs us Q I r h;obtain⟨i,j,rfl,q⟩:=h;obtain⟨u,w',rfl,⟨t,rfl⟩,⟨t',rfl⟩⟩:=vals2 r;refine min_two_ints (I.ok.hd hc) λh' tk k=>⟨_,H,I.kept k,?_,q⟩
 by_cases hj:j<i
 ·rw[aex hj,aex hj];exact⟨_,rfl⟩
 ·rw[aey hj,aey hj];exact⟨_,rfl⟩
end
structure ObjM (h:Heap) (x dx C:Addr) (mA:Str->Option Value):Prop where
 obj:h.get? x=some (acz C dx)
 ns:h.Ns1 dx mA
 ne:dx≠x
def D5{h:Heap}{dx:Addr}{mA:Str->Option Value}(n:h.Ns1 dx mA):∃od,h.get? dx=some od/\∀name,acK name od=some (mA name):=by
 obtain⟨o,es,ep,ho,hd,hk,_,hm⟩:=n;refine⟨o,ho,λname=>?_⟩;have e:=hm name;unfold nsFind findBy at e;rw[<-Array.find?_toList] at e;unfold acK;rw[hd]
 dsimp only
 split
 ·rename_i y q;rw[q] at e;exact aeE some e
 ·rename_i q;rw[q] at e;have a:es.toList.any (·.refKey)=false:=by
   rw[List.any_eq_false];intro y hy;obtain⟨z,t,Jb⟩:=hk y (Array.mem_toList_iff.mp hy);simp[DictEntry.refKey,Jb]
  have a':¬es.toList.any (·.refKey)=true:=by rw[a];exact Yv
  rw[aey a'];exact aeE some e
def ObjM.look{h:Heap}{x dx C:Addr}{mA:Str->Option Value}(I:ObjM h x dx C mA):∃od,PySem.W.InstAt h x (acz C dx) C (some od)/\∀name,acK name od=some (mA name):=
 let ⟨od,ho,hl⟩:=D5 I.ns
 ⟨od,⟨I.obj,rfl,rfl,ho⟩,hl⟩
def RelO.some_of{v:V}{o:Option Value}(r:RelO (some v) o):∃u,o=some u/\RelV v u:=by
 cases o with
 |none=>exact(show False from r).elim
 |some u=>exact⟨u,rfl,r⟩
def RelO.none_of{o:Option Value}(r:RelO none o):o=none:=by
 cases o with
 |none=>rfl
 |some u=>exact(show False from r).elim
section
variable{P:YK}{w:World}{H:Hp}{h:Heap}{a C dx:Addr}{fs:List (Str×V)}
def Jj(hok:HOk P w H h)(e:H a=some (.ins C dx fs)):∃mA,ObjM h a dx C mA/\(∀f,RelO (fs.lookup f) (mA f))/\PySem.Within mA (fs.map (·.1))/\fs.length<=1000/\H dx=some (.own a):=by
 obtain⟨d,z,ne,ob,mA,n,r,q⟩:=(show ObjOk P w H h a (.ins C dx fs) from hok a _ e)
 exact⟨mA,⟨ob,n,ne⟩,r,q,z,d⟩
end
structure Cls (K:X5) (C:Addr):Prop where
 pg:ad0 K C Str.empty=true
 hd:PySem.W.hasDictIn K C=true
 po:PySem.W.plainOver K C=true
 sa:Zk K (.ref C) "__setattr__"=some (some (.builtin "object.__setattr__"))
def Cls.get{K:X5}{C:Addr}(c:Cls K C)(f:Str):ad0 K C f=true:=c.pg
section
variable{X:Cx}{f8:List (Addr×Obj)}{σ:St}{H:Hp}{s:X1}{A:YX}{E:Value->X1->Prop}{Q:Value->X1->Prop}{c:Value}{b:Bool}
inductive TyOf (K:X5) (H:Hp):V->Value->Prop where
 |non:TyOf K H .non (.type "NoneType")
 |bl (x:Bool):TyOf K H (.bl x) (.type "bool")
 |int (i:Int):TyOf K H (.int i) (.type "int")
 |str (x:Str):TyOf K H (.str x) (.type "str")
 |flt (x:UInt64):TyOf K H (.flt x) (.type "float")
 |lst {a:Addr}{xs:List V}(e:H a=some (.lst xs)):TyOf K H (.ref a) (.type "list")
 |frz {a:Addr}{o:Obj}{xs:List V}(e:H a=some (.frz o (.lst xs))):TyOf K H (.ref a) (.type "list")
 |tup {a:Addr}{xs:List V}(e:H a=some (.tup xs)):TyOf K H (.ref a) (.type "tuple")
 |dK {a:Addr}{kvs:List (Key×V)}(e:H a=some (.dK kvs)):TyOf K H (.ref a) (.type "dict")
 |dT {a:Addr}{kvs:List (List Key×V)}(e:H a=some (.dT kvs)):TyOf K H (.ref a) (.type "dict")
 |ins {a C dx:Addr}{fs:List (Str×V)}(e:H a=some (.ins C dx fs)) (cl:Cls K C) (ha:Zk K (.ref C) "__class__"=some (some (.builtin "object.__class__")))
   (hn:PySem.W.specialIn K (.builtin "object.__class__") "__get__"=some (some (.builtin "getset_descriptor.__get__"))) (UZ:PySem.W.takesIn K (.builtin "object.__class__")=some true)
   (hm:aaK K C (.type "object")=some true):TyOf K H (.ref a) (.ref C)
def DQ{x:V}{u t:Value}(I:Inv X f8 σ H s)(rx:RelV x u)(ty:TyOf X.K H x t)(e:Yt X.K t c=some b)(h:∀tk,Q (.bool b) {s with toks:=tk}):
 wpAny (model X.prog X.w) A (call (.builtin "isinstance") [u,c]) Q E s:=by
 cases ty with
 |non=>cases (show u=Zv from rx);exact Y7 PySem.W.kitx_none I.kIn Z6 e (λz=>nomatch z) h
 |bl y=>cases (show u=aag y from rx);exact Y7 PySem.W.kitx_bool I.kIn Z6 e (λz=>nomatch z) h
 |int i=>obtain⟨t,q⟩:=(show∃t,u=adz i t from rx);cases q;exact Y7 PySem.W.kitx_int I.kIn Z6 e (λz=>nomatch z) h
 |str y=>obtain⟨t,q⟩:=(show∃t,u=ady y t from rx);cases q;exact Y7 PySem.W.kitx_str I.kIn Z6 e (λz=>nomatch z) h
 |flt y=>obtain⟨t,q⟩:=(show∃t,u=Value.float y t from rx);cases q;exact Y7 PySem.W.kitx_float I.kIn Z6 e (λz=>nomatch z) h
 | @lst a xs ea=>
   cases (show u=YF a from rx);obtain⟨_,_,n,_,h1⟩:=(show ObjOk X.prog X.w H s.heap a (.lst xs) from I.hok a _ ea)
   exact Y7 adP I.kIn ⟨_,h1,rfl⟩ e (λz=>nomatch z) h
 | @frz a ob xs ea=>
   cases (show u=YF a from rx);obtain⟨_,_,_,n,_,h1⟩:=(show ObjOk X.prog X.w H s.heap a (.frz ob (.lst xs)) from I.hok a _ ea)
   exact Y7 adP I.kIn ⟨_,h1,rfl⟩ e (λz=>nomatch z) h
 | @tup a xs ea=>
   cases (show u=YF a from rx);obtain⟨_,_,_,p⟩:=(show ObjOk X.prog X.w H s.heap a (.tup xs) from I.hok a _ ea)
   obtain⟨o,h1,h2,_⟩:=p;exact Y7 PySem.W.kitx_tuple I.kIn ⟨o,h1,h2⟩ e (λz=>nomatch z) h
 | @dK a kvs ea=>
   cases (show u=YF a from rx);obtain⟨_,_,vs,_,p⟩:=(show ObjOk X.prog X.w H s.heap a (.dK kvs) from I.hok a _ ea)
   obtain⟨o,es,ep,h1,h2,_⟩:=p;exact Y7 adQ I.kIn ⟨o,h1,h2.1⟩ e (λz=>nomatch z) h
 | @dT a kvs ea=>
   cases (show u=YF a from rx);obtain⟨_,_,xs,_,o,es,ep,h1,h2,_⟩:=(show ObjOk X.prog X.w H s.heap a (.dT kvs) from I.hok a _ ea)
   exact Y7 adQ I.kIn ⟨o,h1,h2.1⟩ e (λz=>nomatch z) h
 | @ins a C dx fs ea cl ha hn UZ hm=>
   cases (show u=YF a from rx);obtain⟨mA,O,_⟩:=Jj I.hok ea;obtain⟨od,J,_⟩:=O.look;exact Y7 (PySem.W.kitx_own (cl.get _) cl.hd ha hn UZ hm) I.kIn J e (λz=>nomatch z) h
end
structure Room (k:Nat) (A:YX):Prop where
 hd:A.handled=none
 dp:A.depth+3*k+5<acv
 un:A.units+16*k+200<cLine
def Room.mono{j k:Nat}{A:YX}(r:Room k A)(h:j<=k):Room j A:=⟨r.hd,by have:=r.dp;omega,by have:=r.un;omega⟩
def Room.deeper{k:Nat}{A:YX}(r:Room (k+1) A)(env:Env):Room k (A.deeper env):=
 ⟨r.hd,by have:=r.dp;show A.depth+1+3*k+5<_;omega,by have:=r.un;show A.units+3+16*k+200<_;omega⟩
def Room.depth{k:Nat}{A:YX}(r:Room k A):A.depth<acv:=by have:=r.dp;omega
def Room.units{k:Nat}{A:YX}(r:Room k A):A.units+64<cLine:=by have:=r.un;omega
def Kz:TA:=λ_ H Q=>Q [] H
def CW(ta:TE)(tr:TA):TA:=λσ H Q=>ta σ H λx H1=>tr σ H1 λxs H2=>Q (x::xs) H2
section
variable{X:Cx}{e:Expr}{es:List Expr}{te:TE}{t:TA}{pos:Pos}
def oj:PA X [] Kz:=λ_ _ _ _ H Q I h=>aav ⟨[],H,I, .nil,h⟩
def qr(ha:PE X e te)(hr:PA X es t)(hs:Yg (e::es) X.env=(false,eval e X.env)::Yg es X.env:=by rfl):PA X (e::es) (CW te t):=by
 intro pos f8 s σ H Q I h;rw[hs];show wpAny _ _ (spliced ((false,eval e X.env)::ZI pos (Yg es X.env))) _ _ s;refine Zw (bX (ha f8 s σ H _ I h) λu s1 ⟨x,H1,I1,r1,q1⟩=>?_);exact bX (hr pos f8 s1 σ H1 _ I1 q1) λus s2 ⟨xs,H2,I2,r2,q2⟩=>⟨x::xs,H2,I2, .cons r1 r2,q2⟩
def T6(t:TA):TE:=λσ H Q=>t σ H λxs H1=>xs.length<=Yl/\∀p,H1 p=none->Q (.ref p) (upd H1 p (.tup xs))
def T2(t:TA):TE:=λσ H Q=>t σ H λxs H1=>xs.length<=Yl/\∀p,H1 p=none->Q (.ref p) (upd H1 p (.lst xs))
def NF{x1}(h:PA X es t):PE X (.Tuple es x1 pos) (T6 t):=by
 intro f8 s σ H Q I hq;refine wpAny_Tuple_spliced (bX (h pos f8 s σ H _ I hq) λus s1 ⟨xs,H1,I1,r,z,q⟩=>⟨by rw[<-r.length];exact z,?_⟩);have hf:H1 s1.heap.objs.size=none:=I1.hok.fresh (X4 _);refine⟨.ref s1.heap.objs.size,upd H1 s1.heap.objs.size (.tup xs),I1.laid (t':=s1.toks) (λb u e=>XZ _ e) (X4 _) ?_,rfl,q _ hf⟩;exact⟨z,us,r,⟨_,Yj _ rfl,rfl,_,rfl⟩⟩
def Bj(h:PA X es t):PE X (.List es pos) (T2 t):=by
 intro f8 s σ H Q I hq;refine wpAny_List_spliced (bX (h pos f8 s σ H _ I hq) λus s1 ⟨xs,H1,I1,r,z,q⟩=>⟨by rw[<-r.length];exact z,?_⟩);have hf:H1 s1.heap.objs.size=none:=I1.hok.fresh (X4 _);refine⟨.ref s1.heap.objs.size,upd H1 s1.heap.objs.size (.lst xs),I1.laid (t':=s1.toks) (λb u e=>XZ _ e) (X4 _) ?_,rfl,q _ hf⟩;exact⟨z,us,0,r,Yj _ rfl⟩
end
abbrev Sp:=List V->Hp->VK->XK->Prop
abbrev BE:=List Env->Hp->X1->XK->Value->X1->Prop
structure Env0 (P:YK) (w:World) (K:X5) (mg:Str->Option Value) (base:Heap) (A:YX) (outer:List Env) (s:X1) (H:Hp):Prop where
 frames:A.frames=some outer
 mod:Mod K mg base
 bs:∀b o,base.get? b=some o->s.heap.get? b=some o/\H b=none
 bsz:base.objs.size<=s.heap.objs.size
 funs:s.heap.FunFrames base outer
 frf:∀b∈gV outer,H b=none
 hok:HOk P w H s.heap
 bare:ach s.gens
def CE(outer:List Env)(P:YK)(w:World)(H:Hp)(s:X1)(Q:VK)(u:Value)(s':X1):Prop:=
 ∃v H',s'.os=s.os/\ach s'.gens/\Un (gV outer) [] H H' s.heap s'.heap/\HOk P w H' s'.heap/\RelV v u/\Q v H'
def CR(CX:BE)(outer:List Env)(P:YK)(w:World)(H:Hp)(s:X1)(Q:VK)(E:XK)(r:Result)(s':X1):Prop:=
 match r with
 | .ok (.ret u)=>CE outer P w H s Q u s'
 | .ok _=>False
 | .error e=>CX outer H s E e s'
structure FnOk (P:YK) (w:World) (K:X5) (mg:Str->Option Value) (base:Heap) (CX:BE) (k:Nat) (f:Addr) (fd:aaz) (ps:List Str) (sp:Sp):Prop where
 len:∀vs H Q E,sp vs H Q E->vs.length=ps.length
 run:∀(A:YX) (outer:List Env) (s:X1) (H:Hp) (args:Args) (us:List Value) (vs:List V) (Q:VK) (E:XK),Room k A->Env0 P w K mg base A outer s H->adH s fd args (ps.zip us)->Vals vs us->sp vs H Q E->
  aa5 (model P w) A (.call (.ref f) args) (CR CX outer P w H s Q E) s
def FnOk.mono{P:YK}{w:World}{K:X5}{mg:Str->Option Value}{base:Heap}{CX:BE}{j k:Nat}{f:Addr}{fd:aaz}{ps:List Str}{sp:Sp}(F:FnOk P w K mg base CX j f fd ps sp)(h:j<=k):
 FnOk P w K mg base CX k f fd ps sp:=⟨F.len,λA outer s H args us vs Q E hr=>F.run A outer s H args us vs Q E (hr.mono h)⟩
section
variable{X:Cx}{f8:List (Addr×Obj)}{σ:St}{H:Hp}{s s':X1}
def Inv.env0(I:Inv X f8 σ H s):Env0 X.prog X.w X.K X.mg X.base X.A X.stack s H:=
 ⟨I.ok.frames,I.ok.mod,I.bs,Yy I.ok.bsz I.sz,I.stack,I.stkFree,I.hok,I.bare⟩
def Inv.after{Q:VK}{u:Value}(I:Inv X f8 σ H s)(h:CE X.stack X.prog X.w H s Q u s'):EP X f8 σ Q u s':=by
 obtain⟨v,H',os,bare,un,hok,r,q⟩:=h;obtain⟨hh,g,d,t,Xe⟩:=s';obtain rfl:Xe=s.os:=os;exact⟨v,H',I.call (h':=hh) (g':=g) (d':=d) (t':=t) (ch:=[]) un hok bare (λb z=>aeB z (by simp)),r,q⟩
end
def QT(sp:Sp)(KU:List V)(E:XK)(t:TA):TE:=λσ H Q=>t σ H λvs H1=>sp (vs++KU) H1 Q E
def Binds(K:X5)(fd:aaz)(ps:List Str)(ds:List Value):Prop:=
 ∀(s:X1) (us:List Value),K.In s.heap->(us++ds).length=ps.length->adH s fd ⟨us,[]⟩ (ps.zip (us++ds))
def Binds.all{K:X5}{fd:aaz}{ps:List Str}(h:∀us:List Value,us.length=ps.length->bindArgs fd ⟨us,[]⟩=pure (ps.zip us)):Binds K fd ps []:=λs us _ hl=>by
 rw[YR] at hl⊢;exact .of_eq (h us hl)
def Passes(CX:BE)(X:Cx)(E:XK):Prop:=∀(f8:List (Addr×Obj)) (σ:St) (H:Hp) (s:X1) (e:Value) (s':X1),Inv X f8 σ H s->CX X.stack H s E e s'->X.xe e s'
section
variable{X:Cx}{CX:BE}{k:Nat}{f:Addr}{fd:aaz}{ps:List Str}{sp:Sp}{KU:List V}{ds:List Value}{E:XK}{x:Str}{p pos:Pos}{e:Expr}{es:List Expr}{t:TA}
def NW{f8:List (Addr×Obj)}{σ:St}{H:Hp}{s:X1}{Q:VK}{us:List Value}{vs:List V}(F:FnOk X.prog X.w X.K X.mg X.base CX k f fd ps sp)(hr:Room k X.A)(hb:Binds X.K fd ps ds)(hd:Vals KU ds)(hx:Passes CX X E)
 (I:Inv X f8 σ H s)(r:Vals vs us)(h:sp (vs++KU) H Q E):wpAny (model X.prog X.w) X.A (call (.ref f) us) (EP X f8 σ Q) X.xe s:=by
 have r2:Vals (vs++KU) (us++ds):=r.append hd;have hl:(us++ds).length=ps.length:=by rw[<-r2.length];exact F.len _ _ _ _ h
 refine wpAny_call (ac_ (F.run X.A X.stack s H ⟨us,[]⟩ (us++ds) (vs++KU) Q E hr I.env0 (hb s us I.kIn hl) r2 h) λr s' hq=>?_);cases r with
 |error e=>exact hx f8 σ H s e s' I hq
 |ok fl=>
  cases fl with
  |ret u=>exact I.after hq
  |next=>exact Zi hq
  |brk=>exact Zi hq
  |cont=>exact Zi hq
def J2(F:FnOk X.prog X.w X.K X.mg X.base CX k f fd ps sp)(hr:Room k X.A)(hg:Gl X x)(hm:X.mg x=some (.ref f))(hk:Zz X.K (.ref f)=true)(hb:Binds X.K fd ps ds)(hd:Vals KU ds)(hx:Passes CX X E)
 (ha:PA X (e::es) t)(l6:(x==("__debug__":Str))=false:=by decide)(he:Yg (e::es) X.env=(false,eval e X.env)::Yg es X.env:=by rfl)(kG:(ZI pos (Yg es X.env)).any (·.1)=false:=by rfl):
 PE X (.Call (.Name x p) (e::es) [] pos) (QT sp KU E t):=by
 intro f8 s σ H Q I h;refine aaW (me I hg hm ?_ l6);refine adM (h₀:=X.base) I.ok.mod.kin hk (bX (ha pos f8 s σ H _ I h) λus s1 ⟨vs,H1,I1,r,q⟩=>⟨I1.kIn,?_⟩) he kG;exact NW F hr hb hd hx I1 r q
end
section
variable{ks:List Str}
end
structure FnScope (N P:List Str) (sc:Scope):Prop where
 kind:sc.kind= .function
 co:sc.isCoroutine=false
 gen:sc.isGenerator=false
 nd:N.Nodup
 pre:N.take P.length=P
 par:∀x∈P,sc.names.lookup x=some .local\/sc.names.lookup x=some .cell
 nofree:∀y∈sc.names,y.2≠ .free
def ux{ab4:Str->Option aby}{x:Str}:∀{binds:List (Str×Value)}{m:Str->Option Value},(∀v,(x,v)∉binds)->bindL ab4 binds m x=m x
 |[],_,_=>rfl
 |(n,v)::r,m,h=>by
  unfold bindL;rw[ux λw hw=>h w (XT _ hw)];split
  ·have:x≠n:=by rintro rfl;exact h v XU
   simp[this]
  ·rfl
def uv{ab4:Str->Option aby}{x:Str}:∀{binds:List (Str×Value)}{m:Str->Option Value},(∀v,(x,v)∉binds)->bindC ab4 binds m x=m x
 |[],_,_=>rfl
 |(n,v)::r,m,h=>by
  unfold bindC;rw[uv λw hw=>h w (XT _ hw)];split
  ·rfl
  ·have:x≠n:=by rintro rfl;exact h v XU
   simp[this]
def uw{ab4:Str->Option aby}{x:Str}{v:Value}:∀{P:List Str}{vs:List Value}{i:Nat}{m:Str->Option Value},P.Nodup->P[i]? =some x->vs[i]? =some v->ab4 x=some .local->
 bindL ab4 (P.zip vs) m x=some v
 |[],_,_,_,_,h,_,_=>by simp at h
 |_::_,[],_,_,_,_,h,_=>by simp at h
 |p::P,w::vs,0,m,nd,h1,h2,hk=>by
  simp at h1 h2;subst h1;subst h2;show bindL ab4 ((p,w)::P.zip vs) m p=_;unfold bindL;rw[ux λv hv=>(Yz.mp nd).1 (aba hv).1,aex hk];simp
 |p::P,w::vs,i+1,m,nd,h1,h2,hk=>by
  show bindL ab4 ((p,w)::P.zip vs) m x=_;unfold bindL;exact uw (i:=i) (Yz.mp nd).2 (by simpa using h1) (by simpa using h2) hk
def uu{ab4:Str->Option aby}{x:Str}{v:Value}:∀{P:List Str}{vs:List Value}{i:Nat}{m:Str->Option Value},P.Nodup->P[i]? =some x->vs[i]? =some v->ab4 x≠some .local->
 bindC ab4 (P.zip vs) m x=some v
 |[],_,_,_,_,h,_,_=>by simp at h
 |_::_,[],_,_,_,_,h,_=>by simp at h
 |p::P,w::vs,0,m,nd,h1,h2,hk=>by
  simp at h1 h2;subst h1;subst h2;show bindC ab4 ((p,w)::P.zip vs) m p=_;unfold bindC;rw[uv λv hv=>(Yz.mp nd).1 (aba hv).1,aey hk];simp
 |p::P,w::vs,i+1,m,nd,h1,h2,hk=>by
  show bindC ab4 ((p,w)::P.zip vs) m x=_;unfold bindC;exact uu (i:=i) (Yz.mp nd).2 (by simpa using h1) (by simpa using h2) hk
def start(N:List Str)(vs:List V):St:=vs.map some++Ye (N.length - vs.length) none
def aY(CX:BE)(P:YK)(w:World)(K:X5)(mg:Str->Option Value)(base:Heap)(N:List Str)(qual:Str)(scope:Scope)(f:Addr)(cd:Value)(A:YX)(outer:List Env)(s:X1)(H:Hp)(E:XK):Cx where
 prog:=P
 w:=w
 K:=K
 mg:=mg
 base:=base
 A:=A.deeper (ZE qual scope s.heap.objs.size f cd)
 N:=N
 aeI:=s
 aeH:=H
 env:=ZE qual scope s.heap.objs.size f cd
 outer:=outer
 stack:=ZE qual scope s.heap.objs.size f cd::outer
 ex:=[]
 calm:=true
 fn:=λ_=>true
 pn:=[]
 xe:=λe s'=>wpAny (model P w) (A.deeper (ZE qual scope s.heap.objs.size f cd)) (leaving (ZE qual scope s.heap.objs.size f cd) e) (λ_ TQ=>CX outer H s E e TQ) (λe' TQ=>CX outer H s E e' TQ) s'
def yk{sc:Scope}{n:Nat}{x:Str}(h:sc.names.lookup x=some .cell):∃c,(adx n sc.names []).lookup x=some c:=by
 have q:=abw sc.names n [] (.inl h);exact Y6.mp q
def uM{CX:BE}{P:YK}{w:World}{K:X5}{mg:Str->Option Value}{base:Heap}{N ps:List Str}{qual:Str}{scope:Scope}{f:Addr}{cd:Value}{A:YX}{outer:List Env}{s s1:X1}{H:Hp}{E:XK}{us:List Value}{vs:List V}
 (S:FnScope N ps scope)(hd:A.handled=none)(e0:Env0 P w K mg base A outer s H)(hl:vs.length=ps.length)(r:Vals vs us)
 (x:InCallC s s.heap.objs.size (bindL (ZE qual scope s.heap.objs.size f cd).kindOf (ps.zip us) λ_=>none) (adx (s.heap.objs.size+1) scope.names []) (bindC (ZE qual scope s.heap.objs.size f cd).kindOf (ps.zip us) λ_=>none) s1):
 Inv (aY CX P w K mg base N qual scope f cd A outer s H E) [] (start N vs) H s1:=by
 have kG:ps.length<=N.length:=by have:=aeE ab7 S.pre;rw[acF] at this;omega
 obtain⟨h1,tk,rfl,hk⟩:=x.done;have Qi:∀b:Addr,b∉(aY CX P w K mg base N qual scope f cd A outer s H E).ex:=λb z=>aeB (show b∈([]:List Addr) from z) (by simp);refine⟨⟨e0.mod,S.kind,rfl,rfl,X4 _,λy z c h1 h2=>?_,λy hy=>?_,λy c _ h=>?_,λ_=>hd,adI e0.frames, .inr ⟨rfl,rfl⟩,λb z=>aeB z (Qi b),e0.bs,e0.bsz,λb _ _=>Qi b,λb z=>aeB z (Qi b),e0.funs,e0.frf⟩,
  rfl,e0.bare,Un.kept hk,⟨_,x.toInCall.ns,λi y v h1 h2 h3=>?_⟩,λy c h=>⟨_,x.cell y c h⟩,e0.hok.fresh (X4 _),λy c h=>?_,λp hp=>aeB (show p∈([]:List (Addr×Obj)) from hp) (by simp),e0.hok.kept hk,?_⟩
 ·exact name_of_addr x.apart (Zj h1) (Zj h2)
 ·have hy:scope.names.lookup y=some .cell\/scope.names.lookup y=some .free:=hy;rcases hy with hy | hy
  ·exact yk hy
  ·exact aeB rfl (S.nofree _ (Zj hy))
 ·exact YY (x.above y c (Zj h))
 ·have hi:i<vs.length:=by
   unfold start at h2;by_cases hi:i<vs.length
   ·exact hi
   ·rw[YL (by simpa using hi)] at h2;rw[Za] at h2;split at h2<;>cases h2
  have ha:vs[i]? =some v:=by
   unfold start at h2;rw[YA (by simpa using hi),X6] at h2;cases e:vs[i]? with
   |none=>rw[e] at h2;cases h2
   |some a=>rw[e] at h2;cases h2;rfl
  obtain⟨u,hu,rv⟩:=r.get ha;have hp:ps[i]? =some y:=by
   rw[<-S.pre,List.getElem?_take_of_lt (by omega)];exact h1
  have Ve:ps.Nodup:=by rw[<-S.pre];exact S.nd.sublist (List.take_sublist _ _)
  refine⟨u,rv,?_⟩;rcases S.par y (Yi hp) with k | k
  ·exact .inl ⟨k,uw Ve hp hu k⟩
  ·obtain⟨c,e⟩:=yk (n:=s.heap.objs.size+1) k;refine .inr ⟨.inl k,c,e,?_⟩;have q:=x.cell y c e;rw[uu Ve hp hu (by show scope.names.lookup y≠_;rw[k];decide)] at q;exact q
 ·exact e0.hok.fresh (YY (x.above y c (Zj h)))
 ·unfold start;show _=N.length;rw[X8,XS,ZU];omega
def KZ{CX:BE}{P:YK}{w:World}{K:X5}{mg:Str->Option Value}{base:Heap}{k:Nat}{f:Addr}{name qual:Str}{params:Arguments}{body:List Stmt}{scope:Scope}{dV kV doc pm b9 ct oc:Value}{an od:Option Addr}
 {GX:Array (Option Value)}{N ps:List Str}{sp:Sp}(lk:K.lookup f=some ⟨oc,od, .func (Zh name qual params body scope dV kV doc pm an b9 ct),GX⟩)(uI:aaC K b9 qual=true)(S:FnScope N ps scope)
 (len:∀vs H Q E,sp vs H Q E->vs.length=ps.length)
 (ie:∀(A:YX) (outer:List Env) (s:X1) (H:Hp) (vs:List V) (Q:VK) (E:XK),Room k (A.deeper (ZE qual scope s.heap.objs.size f b9))->sp vs H Q E->
  ∃t,PSs (aY CX P w K mg base N qual scope f b9 A outer s H E) body t/\t {nx:=λ_ H'=>Q .non H',rt:=Q} (start N vs) H):
 FnOk P w K mg base CX (k+1) f (Zh name qual params body scope dV kV doc pm an b9 ct) ps sp:=by
 refine⟨len,λA outer s H args us vs Q E hr e0 hb r xU=>?_⟩;have hl:=len _ _ _ _ xU;have KX:K.In s.heap:=e0.mod.kin.keeps λb o e=>(e0.bs b o e).1;have lim:s.heap.NoLimit:=e0.mod.nolimit.keeps λb o e=>(e0.bs b o e).1;have FU:∀y∈ps.zip us,scope.names.lookup y.1=some .local\/(scope.names.lookup y.1=some .cell/\((adx (s.heap.objs.size+1) scope.names []).lookup y.1).isSome=true):=λ⟨n,v⟩ hy=>by
  rcases S.par n (aba hy).1 with q | q
  ·exact .inl q
  ·exact .inr ⟨q,abw _ _ _ (.inl q)⟩
 refine codeAny_call_function hr.depth (KX _ _ lk) rfl S.co S.gen rfl (adL KX uI) (hb _ _ _ _ ?_);refine adJ S.kind FU λenv he s1 x=>?_;subst he;refine⟨lim.keeps x.toInCall.keep,codeAny_func ?_⟩;obtain⟨t,ht,hq⟩:=ie A outer s H vs Q E (hr.deeper _) xU;have I:Inv (aY CX P w K mg base N qual scope f b9 A outer s H E) [] (start N vs) H s1:=uM S hr.hd e0 hl r x;refine Y2 (ht [] s1 (start N vs) H _ I hq) (λfl s' hs=>?_) λe s' hs=>hs;have fin:∀{σ':St}{H':Hp}{v:V}{u:Value},Inv (aY CX P w K mg base N qual scope f b9 A outer s H E) [] σ' H' s'->RelV v u->Q v H'->CE outer P w H s Q u s':=
  λ{σ' H' v u} J rv q=>⟨v,H',J.os,J.bare,J.base,J.hok,rv,q⟩
 cases fl with
 |ret u=>
  obtain⟨v,σ',H',J,rv,q⟩:=hs;exact fin J rv q
 |next=>
  obtain⟨σ',H',J,q⟩:=hs;exact fin (v:=V.non) (u:=Zv) J rfl q
 |brk=>
  obtain⟨_,_,_,q⟩:=hs;exact Zi q
 |cont=>
  obtain⟨_,_,_,q⟩:=hs;exact Zi q
section
variable{X:Cx}{x:Str}{p pos:Pos}{e:Expr}{es:List Expr}{t:TA}{id T:String}{r:List V->Hp->VK->Prop}
def TY(r:List V->Hp->VK->Prop)(t:TA):TE:=λσ H Q=>t σ H λvs H1=>r vs H1 Q
def G7(hc:CallR X (.builtin id) r)(hg:Gl X x)(hm:X.mg x=none)(hv:YN x=some (.builtin id))(ha:PA X (e::es) t)(hn:x≠"__name__":=by decide)(l6:(x==("__debug__":Str))=false:=by decide)
 (he:Yg (e::es) X.env=(false,eval e X.env)::Yg es X.env:=by rfl)(kG:(ZI pos (Yg es X.env)).any (·.1)=false:=by rfl):PE X (.Call (.Name x p) (e::es) [] pos) (TY r t):=by
 intro f8 s σ H Q I h;refine aaW (lB I hg hm hv ?_ hn l6);exact abW (bX (ha pos f8 s σ H _ I h) λus s1 ⟨vs,H1,I1,r1,q1⟩=>hc f8 s1 σ H1 vs us Q I1 r1 q1) he kG
def va(hc:CallR X (.type T) r)(hg:Gl X x)(hm:X.mg x=none)(hv:YN x=some (.type T))(ha:PA X (e::es) t)(hn:x≠"__name__":=by decide)(l6:(x==("__debug__":Str))=false:=by decide)
 (he:Yg (e::es) X.env=(false,eval e X.env)::Yg es X.env:=by rfl)(kG:(ZI pos (Yg es X.env)).any (·.1)=false:=by rfl):PE X (.Call (.Name x p) (e::es) [] pos) (TY r t):=by
 intro f8 s σ H Q I h;refine aaW (lB I hg hm hv ?_ hn l6);exact aaa (bX (ha pos f8 s σ H _ I h) λus s1 ⟨vs,H1,I1,r1,q1⟩=>hc f8 s1 σ H1 vs us Q I1 r1 q1) he kG
end
end L2
namespace HT
open PySem PyProof.Rows
def lexLt:List Int->List Int->Bool
 |[],[]=>false
 |[],_::_=>true
 |_::_,[]=>false
 |x::xs,y::ys=>if x=y then lexLt xs ys else decide (x<y)
def lexLt_cons(x y:Int)(xs ys:List Int):lexLt (x::xs) (y::ys)=if x=y then lexLt xs ys else decide (x<y):=rfl
def lexLt_nil_nil:lexLt [] []=false:=rfl
def lexLt_nil_cons(y:Int)(ys:List Int):lexLt [] (y::ys)=true:=rfl
def lexLt_cons_nil(x:Int)(xs:List Int):lexLt (x::xs) []=false:=rfl
def eqAt_int(A:YX)(s:X1)(a:Int)(t:Tok)(c:Int)(u:Tok):∃e,aee A s (.int a t) (.int c u) e/\(e=true↔a=c):=
 ⟨(a==c),adk a t c u,by simp⟩
def rcLt_int(A:YX)(s:X1)(a:Int)(t:Tok)(c:Int)(u:Tok)(prog:YK)(w:World)(E:Value->X1->Prop)(Q:Value->X1->Prop)(h:Q (.bool (decide (a<c))) s):
 wpAny (model prog w) A (adw .Lt (.int a t) (.int c u)) Q E s:=
 (acP h:wpAny (model prog w) A (Y8 .Lt (.int a t) (.int c u)) Q E s)
section
open PySem.SeqAt
open PySem.AutoSeq1 (wpAny_loadPart')
open PySem.MeetsSeq PySem.MeetsSeq2 PySem.MeetsSeq3
def tuple_lt_ints(l b:Addr)(items gW:Array Value)(n n2:Nat)(dd Ag:Option Addr)(sl Lr:Array (Option Value))(ns ms:List Int)(hi:Zl items.toList ns)(hj:Zl gW.toList ms):
 Meets (ab3.«tuple.__lt__» ⟨[.ref l, .ref b],[]⟩)
  (λ_ R s=>s.heap.get? l=some {cls:= .type "tuple",dict:=dd,data:= .seq items n,slots:=sl}/\s.heap.get? b=some {cls:= .type "tuple",dict:=Ag,data:= .seq gW n2,slots:=Lr}/\
   R (.ok (.ret (.bool (lexLt ns ms)))) s):=
 .of_wp λprog w A R s h=>by
  obtain⟨hp,g,d,tk,os⟩:=s;obtain⟨hl,hb,h⟩:=h;have f2:=AutoSeq1.sub_tuple_tuple;have z1:items.size=ns.length:=by rw[<-hi.length];simp
  have z2:gW.size=ms.length:=by rw[<-hj.length];simp
  wp_walk using wpAny_loadPart' hl,wpAny_loadPart' hb,adg _ (λrest b s'=>b.1=none/\s'=⟨hp,g,d,tk,os⟩/\∃(vs ws:List Value) (Ii Ox:List Int),rest=vs.zip ws/\
   Zl vs Ii/\Zl ws Ox/\Ii.length+gW.size=Ox.length+items.size/\R (.ok (.ret (.bool (lexLt Ii Ox)))) ⟨hp,g,d,tk,os⟩) _
  case turn=>
   rintro⟨y,x⟩ rest b s' ⟨B9,rfl,vs,ws,Ii,Ox,hz,SX,Rt,hlen,hR⟩;cases SX with
   |nil=>rw[List.zip_nil_left] at hz;cases hz
   |cons a t SY=>
    cases Rt with
    |nil=>rw[List.zip_nil_right] at hz;cases hz
    |cons c u S5=>
     rw[Y4] at hz;injection hz with W0 PK
     injection W0 with hy hx
     subst hy hx;rw[lexLt_cons] at hR;simp only[X7] at hlen;obtain⟨e,he,Pk⟩:=eqAt_int A.in1 ⟨hp,g,d,tk,os⟩ a t c u;refine XX (he prog w _ _ ?_);cases e with
     |true=>
      rw[aex (Pk.mp rfl)] at hR
      wp_walk
      exact⟨rfl,rfl,_,_,_,_,PK,SY,S5,by omega,hR⟩
     |false=>
      rw[aey (λq=>aeB (Pk.mpr q) Yv)] at hR;have WJ:=rcLt_int A.in1 ⟨hp,g,d,tk,os⟩ a t c u prog w
      wp_walk using WJ
      exact⟨_,rfl,by simpa using hR⟩
  case fin=>
   rintro⟨b1,b2⟩ s' ⟨B9,rfl,vs,ws,Ii,Ox,hz,SX,Rt,hlen,hR⟩;simp only at B9;subst B9;have hv:lexLt Ii Ox=decide (items.size<gW.size):=by
    cases SX with
    |nil=>
     cases Rt with
     |nil=>
      simp only[Y0] at hlen;rw[lexLt_nil_nil];exact(aeD (by omega)).symm
     |cons c u hw=>
      simp only[Y0,X7] at hlen;rw[lexLt_nil_cons];exact(aeA (by omega)).symm
    |cons a t hv=>
     cases Rt with
     |nil=>
      simp only[Y0,X7] at hlen;rw[lexLt_cons_nil];exact(aeD (by omega)).symm
     |cons c u hw=>
      rw[Y4] at hz;cases hz
   rw[hv] at hR
   wp_walk
   exact⟨_,rfl,by simpa[Builtin.Tuple.tupleCompareSizes] using hR⟩
  case h=>
   exact⟨rfl,rfl,items.toList,gW.toList,ns,ms,rfl,hi,hj,by omega,h⟩
end
section
variable{prog:YK}{w:World}{A:YX}{E:Value->X1->Prop}{s:X1}
def lt_tupInts{l b:Addr}{items gW:Array Value}{ns ms:List Int}{Q:Value->X1->Prop}(hl:IsTup s.heap l items)(hb:IsTup s.heap b gW)(hi:Zl items.toList ns)(hj:Zl gW.toList ms)
 (hu:A.units<cLine)(h:Q (.bool (lexLt ns ms)) s):wpAny (model prog w) A (Y8 .Lt (.ref l) (.ref b)) Q E s:=by
 obtain⟨⟨cls,dd,data,sl⟩,ho,hc,n,hd⟩:=id hl;obtain⟨⟨OM,Ag,data2,Lr⟩,Ie,DD,n2,hd2⟩:=id hb;simp only at hc hd DD hd2;subst hc hd DD hd2;exact richCompare_meets_room (op:= .Lt) ⟨_,ho,rfl⟩ ⟨_,Ie,rfl⟩ PySem.F.slot_tuple_lt PySem.F.entry_tuple_lt (PySem.F.args_tuple_lt_2 _ _) (tuple_lt_ints l b items gW n n2 dd Ag sl Lr ns ms hi hj)
  ⟨ho,Ie,show aag (lexLt ns ms)≠Value.notImplemented/\Q (.bool (lexLt ns ms)) s from⟨(λx=>nomatch x),h⟩⟩ hu
def cat_tup{t b:Addr}{vs ws:List Value}{Q:Value->X1->Prop}(ht:IsTup s.heap t vs.toArray)(hb:IsTup s.heap b ws.toArray)(hv:vs≠[])
 (h1:ws=[]->Q (.ref t) s)(h2:ws≠[]->Q (.ref s.heap.objs.size) {s with heap:=s.heap.push {cls:= .type "tuple",data:= .seq (vs++ws).toArray} })
 (hsz:vs.length+ws.length<=Yl):wpAny (model prog w) A (aa6 .Add (.ref t) (.ref b)) Q E s:=by
 obtain⟨⟨cls,dd,data,sl⟩,ho,hc,n,hd⟩:=id ht;obtain⟨⟨OM,Ag,data2,Lr⟩,Ie,DD,n2,hd2⟩:=id hb;simp only at hc hd DD hd2;subst hc hd DD hd2;have e:vs.toArray++ws.toArray=(vs++ws).toArray:=by simp
 by_cases hw:ws=[]
 ·exact concat_meets ⟨_,ho,rfl⟩ ⟨_,Ie,rfl⟩ adh ad_ abx abt (abh _ _)
   (tuple_addW1 t b vs.toArray ws.toArray n n2 dd Ag sl Lr (by simpa using hv) (by simp[hw])) ⟨ho,Ie,h1 hw⟩
 ·refine concat_meets ⟨_,ho,rfl⟩ ⟨_,Ie,rfl⟩ adh ad_ abx abt (abh _ _)
   (tuple_addW2 t b vs.toArray ws.toArray n n2 dd Ag sl Lr (by simpa using hv) (by simpa using hw) (by rw[Yh,Yh];exact hsz)) ⟨ho,Ie,?_⟩
  rw[e];exact h2 hw
end
end HT
namespace L2
open PySem PySem.Spec PyProof.Rows
abbrev TO:=St->Hp->(Option Int->Hp->Prop)->Prop
def intsAre_of{ns:List Int}:∀{us:List Value},Vals (ns.map V.int) us->Zl us ns:=by
 induction ns with
 |nil=>intro us r;rw[ZT] at r;cases r;exact .nil
 |cons n ns ih=>
  intro us r;rw[X3] at r;cases r with
  |cons r1 r2=>
   obtain⟨t,e⟩:=r1;subst e;exact .cons n t (ih r2)
section
variable{X:Cx}{p2:Pos}
def QG(K:X5):R2:=λx y H Q=>∃a b ns ms,x= .ref a/\y= .ref b/\SqT K H a (ns.map V.int)/\SqT K H b (ms.map V.int)/\Q (.bl (HT.lexLt ns ms)) H
def Nd(hu:X.A.units<cLine):OpR X (Y8 .Lt) (QG X.K):=by
 intro f8 s σ H x y v u Q I rx ry h;obtain⟨a,b,ns,ms,rfl,rfl,ha,hb,q⟩:=h;cases rx;cases ry;obtain⟨aT,r1,p1,_⟩:=I.tuple ha;obtain⟨fR,r2,p2,_⟩:=I.tuple hb;have i1:Zl aT.toArray.toList ns:=intsAre_of r1;have i2:Zl fR.toArray.toList ms:=intsAre_of r2;exact HT.lt_tupInts p1 p2 i1 i2 hu ⟨.bl (HT.lexLt ns ms),H,I,rfl,q⟩
def Qy(K:X5):R2:=λx y H Q=>∃a b xs ys,x= .ref a/\y= .ref b/\SqT K H a xs/\SqT K H b ys/\xs≠[]/\xs.length+ys.length<=Yl/\
 (ys=[]->Q (.ref a) H)/\(ys≠[]->∀p,H p=none->Q (.ref p) (upd H p (.tup (xs++ys))))
def Vals.nil_iff{xs:List V}{us:List Value}(r:Vals xs us):us=[]↔xs=[]:=by
 cases r with
 |nil=>simp
 |cons _ _=>simp
def JI:OpR X (aa6 .Add) (Qy X.K):=by
 intro f8 s σ H x y v u Q I rx ry h;obtain⟨a,b,xs,ys,rfl,rfl,ha,hb,hx,hz,q1,q2⟩:=h;cases rx;cases ry;obtain⟨aT,r1,p1,_⟩:=I.tuple ha;obtain⟨fR,r2,p2,_⟩:=I.tuple hb;refine HT.cat_tup p1 p2 (λz=>hx (r1.nil_iff.mp z)) (λz=>⟨.ref a,H,I,rfl,q1 (r2.nil_iff.mp z)⟩) (λz=>?_) (by rw[<-r1.length,<-r2.length];exact hz);refine⟨.ref s.heap.objs.size,_,I.laid (t':=s.toks) (o:= .tup (xs++ys)) (λb ob q=>XZ _ q) (X4 _) ?_,rfl,q2 (λw=>z (r2.nil_iff.mpr w)) _ (I.hok.fresh (X4 _))⟩;exact⟨by rw[X8];exact hz,_,r1.append r2,IsTup.new _ _⟩
end
def Jo(n:Nat)(i:Int):Option Nat:=if 0<=i then(if i<n then some i.toNat else none) else if -(n:Int)<=i then some (i+n).toNat else none
def atI{α:Type}(xs:List α)(i:Int):Option α:=(Jo xs.length i).bind λj=>xs[j]?
def Jp{n:Nat}{i:Int}{j:Nat}(h:Jo n i=some j):seqIndex? i n=some j/\j<n/\ -(n:Int)<=i/\i<n:=by
 unfold Jo at h;by_cases h0:0<=i
 ·rw[aex h0] at h;by_cases h1:i<n
  ·rw[aex h1] at h;have e:i.toNat=j:=YI h;exact⟨by rw[seqIndex_of h0 h1,e],by omega,by omega,h1⟩
  ·rw[aey h1] at h;cases h
 ·rw[aey h0] at h;by_cases h1: -(n:Int)<=i
  ·rw[aex h1] at h;have e:(i+n).toNat=j:=YI h;exact⟨by rw[seqIndex_neg (by omega) h1,e],by omega,h1,by omega⟩
  ·rw[aey h1] at h;cases h
def vA{α:Type}{xs:List α}{i:Int}{v:α}(h:atI xs i=some v):∃j,seqIndex? i xs.length=some j/\xs[j]? =some v/\j<xs.length/\ -(xs.length:Int)<=i/\i<xs.length:=by
 unfold atI at h;cases e:Jo xs.length i with
 |none=>rw[e] at h;cases h
 |some j=>
  rw[e] at h;obtain⟨h1,h2,h3,h4⟩:=Jp e;exact⟨j,h1,h,h2,h3,h4⟩
def Ip{α:Type}{xs:List α}{j:Nat}{v:α}(h:xs[j]? =some v):atI xs (j:Int)=some v:=by
 have hj:j<xs.length:=(X0.mp h).1;have e:Jo xs.length (j:Int)=some j:=by
  unfold Jo;rw[aex (by omega),aex (by omega)];simp
 unfold atI;rw[e];exact h
def j8(b:Expr):Prop:=∀o i,subscripted b false o i=operate [o,i] (getItem o i)
def OH(X:Cx)(r:R2):Prop:=
 ∀(value slice:Expr) (f8:List (Addr×Obj)) (s:X1) (σ:St) (H:Hp) (x y:V) (v u:Value) (Q:VK),Inv X f8 σ H s->RelV x v->RelV y u->r x y H Q->
  subscripted slice false v u=operate [v,u] (getItem v u)->wpAny (model X.prog X.w) X.A (subscriptTail value slice v u) (EP X f8 σ Q) X.xe s
def Oe(X:Cx)(id:String)(r:V->List V->Hp->VK->Prop):Prop:=
 ∀(f8:List (Addr×Obj)) (s:X1) (σ:St) (H:Hp) (x:V) (xs:List V) (v:Value) (us:List Value) (Q:VK),Inv X f8 σ H s->RelV x v->Vals xs us->r x xs H Q->
  wpAny (model X.prog X.w) X.A (call (.builtin id) (v::us)) (EP X f8 σ Q) X.xe s
section
variable{X:Cx}{a b:Expr}{ta tb:TE}{pos:Pos}
def Ll{r:R2}(hr:OH X r)(ha:PE X a ta)(hb:PE X b tb)(hs:j8 b):PE X (.Subscript a b pos) (OC r ta tb):=by
 intro f8 s σ H Q I h;exact Subscript_ (LP ha hb I h λv u s2 x y H2 I2 rx ry q=>hr a b f8 s2 σ H2 x y v u Q I2 rx ry q (hs _ _))
def Kk(K:X5):R2:=λx y H Q=>∃p xs i v,x= .ref p/\y= .int i/\SqL K H p xs/\atI xs i=some v/\Q v H
def QE(K:X5):R2:=λx y H Q=>∃p xs i v,x= .ref p/\y= .int i/\SqT K H p xs/\atI xs i=some v/\Q v H
def QD:R2:=λx y H Q=>∃z i c,x= .str z/\y= .int i/\z.length<=Yl/\atI z.cps.toList i=some c/\Q (.str ⟨#[c]⟩) H
def v_:OH X (Kk X.K):=by
 intro value slice f8 s σ H x y v u Q I rx ry h hs;obtain⟨p,xs,i,z,rfl,rfl,hq,he,q⟩:=h;cases rx;obtain⟨t,rfl⟩:=ry;obtain⟨aT,r,pl,hz⟩:=I.list hq;obtain⟨j,h1,h2,h3,h4,h5⟩:=vA he;obtain⟨w,ew,xW⟩:=r.get h2;have hl:=r.length;have hn:=nW;have fin:EP X f8 σ Q w s:=⟨z,H,I,xW,q⟩
 by_cases h0:0<=i
 ·have hj:i.toNat=j:=by
   rw[seqIndex_of h0 h5] at h1;exact YI h1
  exact item_listR pl.isList h0 (by omega) (by rw[hj];simpa using ew) fin hs
 ·have hj:(i+(aT.toArray.size:Int)).toNat=j:=by
   rw[seqIndex_neg (by omega) h4] at h1;rw[Yh,<-hl];exact YI h1
  exact aeo (x:=w) pl.isList.typeIs slot_list_getitem.lookup
   (wpAny_getItem_list_neg (Q:=λr s'=>r=w/\EP X f8 σ Q r s') pl.isList (by omega) (by rw[Yh]<;>omega) (by omega) (by rw[hj];simpa using ew) ⟨rfl,fin⟩) hs
def MR:OH X (QE X.K):=by
 intro value slice f8 s σ H x y v u Q I rx ry h hs;obtain⟨p,xs,i,z,rfl,rfl,hq,he,q⟩:=h;cases rx;obtain⟨t,rfl⟩:=ry;obtain⟨aT,r,pl,hz⟩:=I.tuple hq;obtain⟨j,h1,h2,h3,h4,h5⟩:=vA he;obtain⟨w,ew,xW⟩:=r.get h2;have hl:=r.length;have hn:=nW;have fin:EP X f8 σ Q w s:=⟨z,H,I,xW,q⟩
 exact aeo (x:=w) pl.typeIs slot_tuple_getitem.lookup
  (getItem_tuple (j:=j) (Q:=λr s'=>r=w/\EP X f8 σ Q r s') pl (by omega) (by omega) (by rw[Yh,<-hl];exact h1) (by simpa using ew) ⟨rfl,fin⟩) hs
def MQ:OH X QD:=by
 intro value slice f8 s σ H x y v u Q I rx ry h hs;obtain⟨z,i,c,rfl,rfl,hz,he,q⟩:=h;obtain⟨t,rfl⟩:=rx;obtain⟨t',rfl⟩:=ry;obtain⟨j,h1,h2,h3,h4,h5⟩:=vA he;have hl:z.cps.toList.length=z.length:=by simp[Str.length]
 rw[hl] at h1 h4 h5;have hn:=nW;exact tail_any (typeIs_str s z t) slot_str_getitem.lookup (getItem_str (c:=c) (by
  have e1:decide (i< -(2 ^ 63:Int))=false:=aeD (by omega);have e2:decide (i>=2 ^ 63)=false:=aeD (by omega);rw[e1,e2,Bool.or_false]) (by rw[h1];simpa using h2) ⟨.str ⟨#[c]⟩,H,I.tok _,⟨_,rfl⟩,q⟩) hs
def oS:V->Bool
 | .non=>true
 | .bl _=>true
 | .int _=>true
 | .str _=>true
 |_=>false
def H_:V->V->Bool
 | .non, .non=>true
 | .bl a, .bl b=>a==b
 | .bl a, .int b=>(if a then 1 else 0)==b
 | .int a, .bl b=>a==(if b then 1 else 0)
 | .int a, .int b=>a==b
 | .str a, .str b=>a==b
 |_,_=>false
def Mb{A:YX}{s:X1}{y x:V}{u v:Value}(ry:RelV y u)(rx:RelV x v)(fy:oS y=true)(fx:oS x=true):aee A s u v (H_ y x):=by
 cases y with
 |non=>
  cases ry;cases x with
  |non=>cases rx;exact SeqAt.EqAt.same _
  |bl b=>cases rx;exact SeqAt.EqAt.none_bool b
  |int b=>obtain⟨t,rfl⟩:=rx;exact SeqAt.EqAt.none_int b t
  |str b=>obtain⟨t,rfl⟩:=rx;exact SeqAt.EqAt.none_str b t
  |_=>exact aeB (show false=true from fx) Yv
 |bl a=>
  cases ry;cases x with
  |non=>cases rx;exact SeqAt.EqAt.bool_none a
  |bl b=>cases rx;exact SeqAt.EqAt.bool_bool a b
  |int b=>obtain⟨t,rfl⟩:=rx;exact SeqAt.EqAt.bool_int a b t
  |str b=>obtain⟨t,rfl⟩:=rx;exact SeqAt.EqAt.bool_str a b t
  |_=>exact aeB (show false=true from fx) Yv
 |int a=>
  obtain⟨t',rfl⟩:=ry;cases x with
  |non=>cases rx;exact SeqAt.EqAt.int_none a t'
  |bl b=>cases rx;exact SeqAt.EqAt.int_bool a t' b
  |int b=>obtain⟨t,rfl⟩:=rx;exact adk a t' b t
  |str b=>obtain⟨t,rfl⟩:=rx;exact adj a t' b t
  |_=>exact aeB (show false=true from fx) Yv
 |str a=>
  obtain⟨t',rfl⟩:=ry;cases x with
  |non=>cases rx;exact SeqAt.EqAt.str_none a t'
  |bl b=>cases rx;exact SeqAt.EqAt.str_bool a t' b
  |int b=>obtain⟨t,rfl⟩:=rx;exact adi a t' b t
  |str b=>obtain⟨t,rfl⟩:=rx;exact SeqAt.EqAt.str_str a t' b t
  |_=>exact aeB (show false=true from fx) Yv
 |_=>exact aeB (show false=true from fy) Yv
def II(x:V)(u:Value):Bool:=match u with
 | .none=>H_ .non x
 | .bool b=>H_ (.bl b) x
 | .int i _=>H_ (.int i) x
 | .str z _=>H_ (.str z) x
 |_=>false
def FE{x y:V}{u:Value}(r:RelV y u)(f:oS y=true):II x u=H_ y x:=by
 cases y with
 |non=>cases r;rfl
 |bl b=>cases r;rfl
 |int i=>obtain⟨t,rfl⟩:=r;rfl
 |str z=>obtain⟨t,rfl⟩:=r;rfl
 |_=>exact aeB (show false=true from f) Yv
def vw{x:V}:∀{xs:List V}{us:List Value},Vals xs us->xs.all oS=true->us.any (II x)=xs.any λy=>H_ y x
 |_,_, .nil,_=>rfl
 |y::xs,u::us, .cons r t,f=>by
  rw[aaQ,Yo] at f;rw[aa9,aa9,FE r f.1,vw t f.2]
def rG{A:YX}{s:X1}{x:V}{v:Value}(rx:RelV x v)(fx:oS x=true):∀{xs:List V}{us:List Value},Vals xs us->xs.all oS=true->∀u∈us,aee A s u v (II x u)
 |_,_, .nil,_=>λu hu=>by cases hu
 |y::xs,u::us, .cons r t,f=>λu' hu=>by
  rw[aaQ,Yo] at f;rcases XY.mp hu with rfl | hu
  ·rw[FE r f.1];exact Mb r rx f.1 fx
  ·exact rG rx fx t f.2 u' hu
def Rv(x:V)(xs:List V):Bool:=xs.any λy=>H_ y x
def Vi(K:X5)(neg:Bool):R2:=λx y H Q=>∃p xs,y= .ref p/\(SqL K H p xs\/SqT K H p xs)/\oS x=true/\xs.all oS=true/\Q (.bl (if neg then !Rv x xs else Rv x xs)) H
def wK:OpR X (Y8 .NotIn) (Vi X.K true):=by
 intro f8 s σ H x y v u Q I rx ry h;obtain⟨p,xs,rfl,hq,fx,fs,q⟩:=h;cases ry;rcases hq with hq | hq
 ·obtain⟨aT,r,pl,hz⟩:=I.list hq;refine SeqAt.notIn_listAt (II x) pl.isList (λw hw=>rG rx fx r fs w (by simpa using hw)) ⟨.bl _,H,I,rfl,?_⟩;rw[show aT.toArray.any (II x)=aT.any (II x) by simp,vw r fs];exact q
 ·obtain⟨aT,r,pl,hz⟩:=I.tuple hq;refine SeqAt.notIn_tupleAt (II x) pl (λw hw=>rG rx fx r fs w (by simpa using hw)) ⟨.bl _,H,I,rfl,?_⟩;rw[show aT.toArray.any (II x)=aT.any (II x) by simp,vw r fs];exact q
def vJ:CallR X (.builtin "len") (λxs H Q=>∃p ys,xs=[.ref p]/\(SqL X.K H p ys\/SqT X.K H p ys)/\Q (.int ys.length) H):=by
 intro f8 s σ H xs us Q I r h;obtain⟨p,ys,rfl,hq,q⟩:=h;obtain⟨u,rfl,rx⟩:=vals1 r;cases rx;have hn:=nW;rcases hq with hq | hq
 ·obtain⟨aT,r',pl,hz⟩:=I.list hq;have hlen:=r'.length;exact Calls.call_len_list pl.isList (by simp only[Yh]<;>omega) ⟨.int ys.length,H,I.tok _,⟨s.toks+1,by rw[Yh,hlen]⟩,q⟩
 ·obtain⟨aT,r',pl,hz⟩:=I.tuple hq;have hlen:=r'.length;exact len_tuple pl (by simp only[Yh]<;>omega) ⟨.int ys.length,H,I.tok _,⟨s.toks+1,by rw[Yh,hlen]⟩,q⟩
def vK:CallR X (.builtin "len") (λxs H Q=>∃z,xs=[.str z]/\z.length<=Yl/\Q (.int z.length) H):=by
 intro f8 s σ H xs us Q I r h;obtain⟨z,rfl,hz,q⟩:=h;obtain⟨u,rfl,t,rfl⟩:=vals1 r;have hn:=nW;exact len_str (by omega) ⟨.int z.length,H,I.tok _,⟨_,rfl⟩,q⟩
def CallR.or{f:Value}{r r':List V->Hp->VK->Prop}(h:CallR X f r)(h':CallR X f r'):CallR X f (λxs H Q=>r xs H Q\/r' xs H Q):=by
 intro f8 s σ H xs us Q I rs q;rcases q with q | q
 ·exact h f8 s σ H xs us Q I rs q
 ·exact h' f8 s σ H xs us Q I rs q
def Q2(K:X5)(T:String)(x:V)(H:Hp):Prop:=match x with
 | .str _=>T="str"
 | .int _=>T="int"
 | .ref p=>(T="list"/\∃xs,SqL K H p xs)\/(T="tuple"/\∃o,K.lookup p=some o/\o.cls= .type "tuple"/\o.dict=none)\/
    (T="dict"/\((∃kvs,H p=some (.dK kvs))\/∃kvs,H p=some (.dT kvs)))\/(T="set"/\∃S n,H p=some (.set S n))
 |_=>False
def N_{f8:List (Addr×Obj)}{σ:St}{H:Hp}{s:X1}{T:String}{x:V}{v:Value}(I:Inv X f8 σ H s)(r:RelV x v)(ty:Q2 X.K T x H):
 s.TypeIs v T/\∀a,v= .ref a->∃ob,s.heap.get? a=some ob/\ob.dict=none:=by
 cases x with
 |str z=>
  obtain⟨t,rfl⟩:=r;cases (show T="str" from ty);exact⟨typeIs_str s z t,λ_ e=>nomatch e⟩
 |int i=>
  obtain⟨t,rfl⟩:=r;cases (show T="int" from ty);exact⟨typeIs_int s i t,λ_ e=>nomatch e⟩
 |ref p=>
  cases r;rcases ty with⟨rfl,xs,hq⟩ | ⟨rfl,o,hk,hc,hd⟩ | ⟨rfl,hk⟩ | ⟨rfl,S,n,hk⟩
  ·obtain⟨aT,_,pl,_⟩:=I.list hq;refine⟨pl.isList.typeIs,λa e=>?_⟩;cases e;obtain⟨o,n,e,c,hd,_⟩:=pl;exact⟨o,e,hd⟩
  ·refine⟨⟨o,I.kIn p o hk,hc⟩,λa e=>?_⟩;cases e;exact⟨o,I.kIn _ o hk,hd⟩
  ·have z:∃o,s.heap.get? p=some o/\o.ExactDict:=by
    rcases hk with⟨kvs,hk⟩ | ⟨kvs,hk⟩
    ·obtain⟨_,_,_,_,o,_,_,e,ex,_⟩:=I.hok p _ hk;exact⟨o,e,ex⟩
    ·obtain⟨_,_,_,_,o,_,_,e,ex,_⟩:=I.hok p _ hk;exact⟨o,e,ex⟩
   obtain⟨o,e,ex⟩:=z;refine⟨⟨o,e,ex.1⟩,λa e2=>?_⟩;cases e2;exact⟨o,e,ex.2.1⟩
  ·obtain⟨o,_,_,_,e,ex,_⟩:=I.hok p _ hk;refine⟨⟨o,e,ex.1⟩,λa e2=>?_⟩;cases e2;exact⟨o,e,ex.2.1⟩
 |_=>exact Zi ty
def RD(K:X5)(T:String)(r:V->List V->Hp->VK->Prop)(to:TE)(t:TA):TE:=λσ H Q=>to σ H λx H1=>Q2 K T x H1/\t σ H1 λxs H2=>r x xs H2 Q
variable{o e:Expr}{es:List Expr}{to:TE}{t:TA}{name:Str}{apos aO:Pos}{T id:String}{r:V->List V->Hp->VK->Prop}
def CH(pa:PlainAttrs T)(slot:Slot T name id)(SW:typeOf (.builtin id)=pure (.type "method_descriptor"))(hm:Oe X id r)(ho:PE X o to)(ha:PA X (e::es) t)
 (eG:Zx o name X.env (eval o X.env)=eval o X.env:=by rfl)
 (jy:((ZI aO (Yg (e::es) X.env)).all (λx=>!x.1)&&(abg aO (aaj [] X.env)).all (λx=>x.1.isSome)
  &&decide ((e::es).length+([]:List aaf).length+(if ([]:List aaf).isEmpty then 0 else 1)<30))=true:=by rfl)
 (eJ:(apos.endLine==aO.line)=true:=by rfl) (hs:Yg (e::es) X.env=(false,eval e X.env)::Yg es X.env:=by rfl) (AQ:(ZI aO (Yg es X.env)).any (·.1)=false:=by rfl):
 PE X (.Call (.Attribute o name apos) (e::es) [] aO) (RD X.K T r to t):=by
 intro f8 s σ H Q I h;refine wpAny_Call_method_late eG jy eJ rfl (bX (ho f8 s σ H _ I h) λv s1 ⟨x,H1,I1,r1,ty,q1⟩=>?_);obtain⟨h1,h2⟩:=N_ I1 r1 ty;refine⟨T,id,pa,slot,SW,h1,h2,?_⟩;have hA:=ha aO f8 s1 σ H1 _ I1 q1;rw[hs] at hA⊢;refine aah (by show (false||(ZI aO (Yg es X.env)).any (·.1))=false;rw[AQ]<;>rfl) (ZX ?_);exact bX hA λus s2 ⟨vs,H2,I2,r2,q2⟩=>hm f8 s2 σ H2 x vs v us Q I2 r1 r2 q2
end
def Uh(X:Cx)(id:String)(r:V->List V->Hp->VK->Prop):Prop:=
 ∀(f8:List (Addr×Obj)) (s:X1) (σ:St) (H:Hp) (x:V) (xs:List V) (v:Value) (us:List Value) (Q:VK),Inv X f8 σ H s->RelV x v->Vals xs us->r x xs H Q->
  wpAny (model X.prog X.w) X.A (call (.builtin id) (v::us)) (EP X f8 σ Q) X.xe s
def Vals.one:∀{x:V}{us:List Value},Vals [x] us->∃u,us=[u]/\RelV x u
 |_,_, .cons r .nil=>⟨_,rfl,r⟩
def Vals.rep{xs:List V}{us:List Value}(h:Vals xs us):∀k:Nat,Vals (Ye k xs).flatten (Ye k us).flatten
 |0=> .nil
 |k+1=>by
  rw[ZG,ZG,aay,aay];exact Vals.append h (Vals.rep h k)
def foldl_rep(aT:List Value):∀(k:Nat) (v6:List Value),
 aev (λx1 x2=>x1++x2) v6.toArray (Ye k aT.toArray)=(v6++(Ye k aT).flatten).toArray
 |0,v6=>by simp
 |k+1,v6=>by
  have e:v6.toArray++aT.toArray=(v6++aT).toArray:=by simp
  have e2:(v6++aT)++(Ye k aT).flatten=v6++(Ye (k+1) aT).flatten:=by
   rw[ZG,aay,aaV]
  rw[<-e2,<-foldl_rep aT k (v6++aT),<-e,ZG,abb]
section
variable{X:Cx}{f8:List (Addr×Obj)}{σ:St}{H:Hp}{s:X1}{l:Addr}{xs ys:List V}
def Inv.lset{aT its':List Value}{n:Nat}{f:Array Value->Array Value}{t':Nat}(I:Inv X f8 σ H s)(hH:H l=some (.lst xs))
 (e:s.heap.get? l=some {cls:= .type "list",data:= .seq aT.toArray n})(hf:f aT.toArray=its'.toArray)(hv:Vals ys its')(hz:ys.length<=Yl):
 Inv X f8 σ (upd H l (.lst ys)) {s with heap:=s.heap.update l (aai f),toks:=t'}:=by
 have q:=PySem.IsL.update e f;rw[hf] at q;refine I.write (x:=l) (e:=l) (by rw[hH];exact trivial) (.inl rfl) (λb' u hb hu=>(abH s.heap (aai f) (YJ hb)).trans hu) ⟨_,q⟩ ?_;exact⟨hz,its',_,hv,q⟩
def Inv.lnew{aT:List Value}{t':Nat}(I:Inv X f8 σ H s)(hv:Vals ys aT)(hz:ys.length<=Yl):
 Inv X f8 σ (upd H s.heap.objs.size (.lst ys)) {s with heap:=s.heap.push {cls:= .type "list",data:= .seq aT.toArray},toks:=t'}:=
 I.laid (λ_ _ q=>XZ _ q) (X4 _) ⟨hz,aT,0,hv,Yj _ rfl⟩
def Inv.fresh(I:Inv X f8 σ H s):H s.heap.objs.size=none:=I.hok.fresh (X4 _)
def Inv.lstM(I:Inv X f8 σ H s)(hH:H l=some (.lst xs)):xs.length<=Yl/\∃(aT:List Value) (n:Nat),Vals xs aT/\xs.length=aT.length/\s.heap.get? l=some {cls:= .type "list",data:= .seq aT.toArray n}:=by
 obtain⟨z,aT,n,r,e⟩:=I.hok l _ hH;exact⟨z,aT,n,r,r.length,e⟩
def zd{n:Nat}(h:n<=Yl):aaw n=false:=by
 unfold aaw;exact aeD (by omega)
end
section
variable{X:Cx}
def xa:V->List V->Hp->VK->Prop:=λx vs H Q=>∃l xs y,x= .ref l/\vs=[y]/\H l=some (.lst xs)/\xs.length<Yl/\Q .non (upd H l (.lst (xs++[y])))
def km:Uh X "list.append" xa:=by
 intro f8 s σ H x vs v us Q I rx rv h;obtain⟨l,xs,y,rfl,rfl,hH,hz,q⟩:=h;cases rx;obtain⟨u,rfl,ru⟩:=rv.one;obtain⟨z,aT,n,r,hl,e⟩:=I.lstM hH;refine abj F.slot_list_append ⟨_,e,rfl⟩ F.entry_list_append (F.args_list_append_2 _ _) (PySem.list_append l aT.toArray n u (by rw[Yh];omega)) ⟨e,?_⟩;refine⟨.non,_,I.lset (its':=aT++[u]) hH e (by simp) (r.append (.cons ru .nil)) ?_,rfl,q⟩;rw[X8,List.length_singleton];omega
def CO:V->List V->Hp->VK->Prop:=λx vs H Q=>∃l b xs zs,x= .ref l/\vs=[.ref b]/\H l=some (.lst xs)/\H b=some (.lst zs)/\xs.length+zs.length<=Yl/\Q .non (upd H l (.lst (xs++zs)))
def D7:Uh X "list.extend" CO:=by
 intro f8 s σ H x vs v us Q I rx rv h;obtain⟨l,b,xs,zs,rfl,rfl,hH,hB,hz,q⟩:=h;cases rx;obtain⟨u,rfl,ru⟩:=rv.one;cases ru;obtain⟨z,aT,n,r,hl,e⟩:=I.lstM hH;obtain⟨z2,fR,n2,r2,FW,e2⟩:=I.lstM hB;have hsz:aT.toArray.size+fR.toArray.size<=Yl:=by rw[Yh,Yh];omega
 have FX:¬(!aT.toArray.isEmpty&&aaw (aT.toArray.size+fR.toArray.size))=true:=by
  rw[zd hsz,adf];exact Yv
 refine abj F.slot_list_extend ⟨_,e,rfl⟩ F.entry_list_extend (F.args_list_extend_2 _ _)
  (AutoSeq1.list_extend_list_list_0 l aT.toArray n b fR.toArray n2 FX (by rw[Yh];omega) (by omega)) ⟨e,e2,?_⟩
 refine⟨.non,_,I.lset (its':=aT++fR) hH e (by simp) (r.append r2) ?_,rfl,q⟩;rw[X8];omega
def TJ:R2:=λx y H Q=>∃l b xs zs,x= .ref l/\y= .ref b/\H l=some (.lst xs)/\H b=some (.lst zs)/\xs.length+zs.length<=Yl/\∀p,H p=none->Q (.ref p) (upd H p (.lst (xs++zs)))
def Nb:OpR X (aa6 .Add) TJ:=by
 intro f8 s σ H x y v u Q I rx ry h;obtain⟨l,b,xs,zs,rfl,rfl,hH,hB,hz,q⟩:=h;cases rx;cases ry;obtain⟨z,aT,n,r,hl,e⟩:=I.lstM hH;obtain⟨z2,fR,n2,r2,FW,e2⟩:=I.lstM hB;refine PySem.P.add_list e e2 ?_ (by rw[Yh,Yh];omega);have ea:aT.toArray++fR.toArray=(aT++fR).toArray:=by simp
 rw[ea];exact⟨.ref _,_,I.lnew (t':=s.toks) (r.append r2) (by rw[X8];omega),rfl,q _ I.fresh⟩
def TN:R2:=λx y H Q=>∃l k xs,x= .ref l/\y= .int k/\H l=some (.lst xs)/\ -(2 ^ 63)<=k/\k<2 ^ 63/\xs.length*k.toNat<=Yl/\
 ∀p,H p=none->Q (.ref p) (upd H p (.lst (Ye k.toNat xs).flatten))
def len_rep{α:Type}(xs:List α)(k:Nat):(Ye k xs).flatten.length=k*xs.length:=by
 induction k with
 |zero=>simp
 |succ k ih=>rw[ZG,aay,X8,ih,Nat.succ_mul,ab0]
def Ni:OpR X (aa6 .Mult) TN:=by
 intro f8 s σ H x y v u Q I rx ry h;obtain⟨l,k,xs,rfl,rfl,hH,h1,h2,hz,q⟩:=h;cases rx;obtain⟨t,rfl⟩:=ry;obtain⟨z,aT,n,r,hl,e⟩:=I.lstM hH;have hlen:aT.toArray.size*k.toNat<=Yl:=by rw[Yh,<-hl];exact hz
 have Sg:¬aT.toArray.size*k.toNat>(2 ^ 63 - 1) / 8:=by
  have:(Yl:Nat)<=(2 ^ 63 - 1) / 8:=by decide
  omega
 have Sq:¬(!Builtin.List.listFitsIndex k)=true:=by
  rw[fitsIndex_both h1 h2];exact Yv
 have FX:¬aaw (aT.toArray.size*k.toNat)=true:=by
  rw[zd hlen];exact Yv
 have qY:aev (λx1 x2=>x1++x2) #[] (Ye (if aT.toArray.isEmpty=true then 0 else k.toNat) aT.toArray)=(Ye k.toNat aT).flatten.toArray:=by
  have f0:∀m:Nat,aev (λx1 x2=>x1++x2) #[] (Ye m aT.toArray)=(Ye m aT).flatten.toArray:=λm=>by
   have:=foldl_rep aT m [];rw[Yw] at this;exact this
  rw[f0];cases aT with
  |nil=>simp
  |cons a r'=>rw[aey (by simp)]
 refine wpAny_binaryOp_repeat_ref (T:="list") (U:="int") (by decide) ⟨_,e,rfl⟩ (λs'=>typeIs_int s' k t) noFill_list_mul F.fills_int_mul F.slot_int_rmul repeat_list F.slot_int_index.lookup
  (abj F.slot_int_rmul (typeIs_int s k t) F.entry_int_rmul (F.args_int_rmul_2 _ _) (int___rmul___int_list k t l aT.toArray n)
   ⟨e,rfl,⟨_,e,rfl⟩,abj F.slot_list_mul ⟨_,e,rfl⟩ F.entry_list_mul (F.args_list_mul_2 _ _) (AutoListH.list___mul___list_int_3 l aT.toArray n k t Sq Sg FX) ⟨e,?_⟩⟩)
 rw[qY];exact⟨.ref _,_,I.lnew (t':=s.toks) (r.rep k.toNat) (by rw[len_rep,adS];exact hz),rfl,q _ I.fresh⟩
end
end L2
namespace Att
open PySem PySem.W PySem.Calls PyProof.Rows
def ints_of_wellAll{P:Params}{h:Heap}:∀(ns:List Int) (vs:List Value),WellAll P h vs (ns.map WData.int)->Zl vs ns:=by
 intro ns;induction ns with
 |nil=>
  intro vs w;rw[ZT] at w;cases w;exact .nil
 |cons n ns ih=>
  intro vs w;rw[X3] at w;cases w with
  |cons a b=>
   cases a;exact .cons _ _ (ih _ b)
def script_of{l:OpenLaw}{n:Nat}(hn:l.most=some n){P:Params}{h:Heap}{args:List WData}{vals:List Value}
 (Jd:l.row.toRowW.claim.pre args=true)(S6:WellAll P h vals args):
 ∃a vs ns,vals=[YF a]/\args=[WData.list (ns.map WData.int)]/\h.get? a=some {cls:= .type "list",data:= .seq vs.toArray}/\Zl vs ns/\ns.length<=n:=by
 have WK:WShape.hasAll [] args [.list .int]=true:=(pre_splitW Jd).1;have hc:l.pre.holds [] {args:=args}=true:=(pre_splitW Jd).2;obtain⟨d,r,rfl,h1,h2⟩:=hasAllW_cons WK;obtain rfl:=hasAllW_nil h2;obtain⟨xs,rfl,h3⟩:=hasW_list h1;obtain⟨ns,rfl⟩:=items_int h3;have hlen:ns.length<=n:=by
  unfold OpenLaw.pre at hc;have h4:(WTm.not (.lt (.lit (.int (n:Int))) (.len (.arg 0)))).holds [] {args:=[.list (ns.map .int)]}=true:=by
   have h4:=(holds_andW hc).1;rw[hn] at h4;exact h4
  have h5:=condW_of h4 (w_not (w_lt w_lit (w_len_list (w_arg rfl))));rw[XS] at h5;refine Nat.le_of_not_lt λq=>?_;have q':(n:Int)<((ns.length:Nat):Int):=by omega
  first
   |(rw [aeA q'] at h5;exact aeB h5 (by decide))
   |(simp at h5;omega)
 cases S6 with
 |cons w1 w2=>
  cases w2;cases w1 with
  |list ho nQ=>exact⟨_,_,ns,rfl,rfl,ho,ints_of_wellAll ns _ nQ,hlen⟩
def post_true(l:OpenLaw)(args:List WData):l.row.toRowW.claim.post args (.bool true) args=true:=
 postW_of (r:=l.row.toRowW) (X:=(true==true))
  (show WShape.has [] (.bool true) .bool=true by first | rfl | decide | simp[WShape.has,WShape.arms,WShape.armsAll])
  (show (WTm.eq .res (.lit (.bool true))).value [] {args:=args,res:=some (.bool true),after:=args}=some (.bool (true==true)) from w_eq_bool (w_res rfl) w_lit) rfl
def attach_call{l:OpenLaw}{n:Nat}{q:YK}{loose:List Str}{XP:(Str->Option Value)->Heap->Prop}{YP:World->Heap->Prop}{d:DefRec}
 (hn:l.most=some n)(Pc:d.params.defaults=[])
 (call:∀(w:World) (aeI T0:X1) (mg mb:Str->Option Value) (fa:Addr) (o:Obj) (pm cd doc:Value) (a:Addr) (vs:List Value) (ns:List Int),
  Ground q loose [] XP w aeI mg mb T0.heap->YP w T0.heap->
  T0.heap.get? fa=some o->o.data= .func (docDef d.name d.params d.body d.scope pm cd doc)->T0.heap.CodeRec cd d.name->mg d.name=some (.ref fa)->
  T0.heap.get? a=some {cls:= .type "list",data:= .seq vs.toArray}->Zl vs ns->ns.length<=n->T0.gens= #[]->
  aa5 (model l.prog w) acX (.call (.ref fa) ⟨[.ref a],[]⟩) (λr s'=>r= .ok (.ret (.bool true))/\OldK T0.heap s'.heap/\s'.os=T0.os/\ach s'.gens) T0):
 WalkO q loose XP YP l.row.toRowW d [] (λf vs=>aef f vs):=by
 intro w aeI T0 mg mb G Y fa o pm cd doc dV kV ho hd uI hD Mw hg args vals as Jd Wk XJ S6 XG;obtain rfl:dV= .none:=Dflts.none hD Pc;obtain rfl:kV= .none:=Dflts.noKw hD;obtain⟨a,vs,ns,rfl,rfl,FY,hints,hlen⟩:=script_of hn Jd S6;refine enter_call (ac_ (call w aeI T0 mg mb fa o pm cd doc a vs ns G Y ho (fd_plain hd) uI Mw FY hints hlen hg) λr s' hq=>?_);obtain⟨rfl,h2,h3,h4⟩:=hq;exact⟨.inl ⟨.bool true, .bool true,[],rfl,λ_=>rfl, .bool true,post_true l _,λ_=>⟨abN,λ_ hm=>(nomatch hm)⟩⟩,h2,h3,h4⟩
def ledger(h:Heap)(L d:Addr):List (Addr×Obj):=(Yp h.objs.size).filterMap λa=>if a=L\/a=d then none else(h.get? a).map λo=>(a,o)
end Att
namespace L2
open PySem PySem.Spec PyProof.Rows
def vo:∀{vs:List Value}{ns:List Int},Zl vs ns->Vals (ns.map V.int) vs
 |_,_, .nil=> .nil
 |_,_, .cons n t h=> .cons ⟨t,rfl⟩ (vo h)
def LD(H:Hp):Prop:=∀b,H b=none\/∃o xs,H b=some (.frz o (.lst xs))
def yS{P:YK}{w:World}{K:X5}{mg mb:Str->Option Value}{CX:BE}{k:Nat}{fa a:Addr}{fd:aaz}{x:Str}{sp:Sp}{T0:X1}{vs:List Value}{ns:List Int}
 (KX:K.In T0.heap)(EU:T0.heap.Ns Ys mg)(hb:T0.heap.Ns builtinsNs mb)(O8:∀x:Str,x≠"__name__"->mb x=YN x)(Mv:T0.heap.NoLimit)(hg:T0.gens= #[])
 (ha:T0.heap.get? a=some {cls:= .type "list",data:= .seq vs.toArray})(hi:Zl vs ns)(hl:ns.length<=Yl)(hr:Room k acX)
 (F:∀base:Heap,K.In base->base.Ns Ys mg->FnOk P w K mg base CX k fa fd [x] sp)(O9:∀(s:X1) (u:Value),adH s fd ⟨[u],[]⟩ [(x,u)])
 (xU:∀H:Hp,LD H->SqL K H a (ns.map V.int)->sp [.ref a] H (λv _=>v= .bl true) λ_ _ _=>False)
 (R4:∀H e s',CX [] H T0 (λ_ _ _=>False) e s'->False):
 aa5 (model P w) acX (.call (.ref fa) ⟨[.ref a],[]⟩) (λr s'=>r= .ok (.ret (.bool true))/\OldK T0.heap s'.heap/\s'.os=T0.os/\ach s'.gens) T0:=by
 have rv:=vo hi;have Tj:=hi.length;have core:∀H:Hp,LD H->SqL K H a (ns.map V.int)->HOk P w H T0.heap->(∀b,H b≠none->b=a)->(H a≠none->K.lookup a=none)->
  aa5 (model P w) acX (.call (.ref fa) ⟨[.ref a],[]⟩) (λr s'=>r= .ok (.ret (.bool true))/\OldK T0.heap s'.heap/\s'.os=T0.os/\ach s'.gens) T0:=by
  intro H hO hS hok hA hK;have BO:∀{b:Addr}{o:Obj},T0.heap.get? b=some o->H b=none->(vR T0.heap H).get? b=some o:=λe n=>FT e n;have Qi:∀{b:Addr}{o:Obj}{es:Array abP}{ep:Nat},T0.heap.get? b=some o->o.data= .dict es ep->H b=none:=λ{b o es ep} e d=>by
   cases q:H b with
   |none=>rfl
   |some u=>
    have e':b=a:=hA b (by rw[q];simp);subst e';rw[ha] at e;cases e;have d':Data.seq vs.toArray _=abT es ep:=d;cases d'
  have Rz:∀{b:Addr}{m:Str->Option Value},T0.heap.Ns b m->(vR T0.heap H).Ns b m:=λ{b m} ⟨o,es,ep,e,d,r⟩=>⟨o,es,ep,BO e (Qi e d),d,r⟩
  have UA:K.In (vR T0.heap H):=λb o e=>BO (KX b o e) (by
   cases q:H b with
   |none=>rfl
   |some u=>
    have e':b=a:=hA b (by rw[q];simp);subst e';rw[hK (by rw[q];simp)] at e;cases e)
  have hM:Mod K mg (vR T0.heap H):=⟨UA,Rz EU,⟨mb,Rz hb,O8⟩,let ⟨mc,h1,h2⟩:=Mv;⟨mc,Rz h1,h2⟩⟩
  have e0:Env0 P w K mg (vR T0.heap H) acX [] T0 H:=⟨rfl,hM,λb o e=>JF e,Nat.le_of_eq (DJ _ _),trivial,λb hb=>aeB (show b∈([]:List Addr) from hb) (by simp),hok, .of_eq hg⟩
  refine ac_ ((F _ UA (Rz EU)).run acX [] T0 H ⟨[.ref a],[]⟩ [.ref a] [.ref a] _ _ hr e0 (O9 T0 (.ref a)) (.cons rfl .nil) (xU H hO hS)) λr s' h=>?_;cases r with
  |error e=>exact(R4 H e s' h).elim
  |ok fl=>
   cases fl with
   |next=>exact Zi h
   |brk=>exact Zi h
   |cont=>exact Zi h
   |ret u=>
    obtain⟨v,H',os,bare,un,SI,r',q⟩:=h;have q':v= .bl true:=q;subst q';obtain rfl:u=aag true:=r';refine⟨rfl,OldK.of_keep λb o e=>?_,os,bare⟩;cases q:H b with
    |none=>exact un.keep b o e q (by intro z;exact aeB (show b∈([]:List Addr) from z) (by simp)) (by simp)
    |some u=>
     rcases hO b with z | ⟨ob,xs,z⟩
     ·rw[q] at z;cases z
     ·have z2:=un.frzs b ob _ z;obtain⟨e1,_⟩:=hok b _ z;obtain⟨e2,_⟩:=SI b _ z2;rw[e] at e1;cases e1;exact e2
 cases hk:K.lookup a with
 |some o=>
  have e:=KX a o hk;rw[ha] at e;cases e;refine core (λ_=>none) (λ_=> .inl rfl) (.inr ⟨_,vs.toArray,_,hk,rfl,rfl,rfl,by rw[Yh,Tj];exact hl,by simpa using rv⟩) (λb u z=>by have z':(none:Option HO)=some u:=z;cases z') (λb z=>aeB rfl z) λz=>aeB rfl z
 |none=>
  refine core (λb=>if b=a then some (.frz {cls:= .type "list",data:= .seq vs.toArray} (.lst (ns.map V.int))) else none) (λb=>?_) (.inl (.inr ⟨{cls:= .type "list",data:= .seq vs.toArray},aex rfl⟩)) (λb u z=>?_) (λb z=>?_) λ_=>hk
  ·by_cases hb:b=a
   ·exact .inr ⟨_,_,aex hb⟩
   ·exact .inl (aey hb)
  ·by_cases hb:b=a
   ·have z':=(aex hb).symm.trans z;cases z';subst hb;exact⟨ha,by rw[XS];exact hl,vs,_,rv,ha⟩
   ·have z':=(aey hb).symm.trans z;cases z'
  ·by_cases hb:b=a
   ·exact hb
   ·exact aeB (aey hb) z
abbrev Xx{K:X5}{h:Heap}(_:K.In h):X5:=K
def RJ{l:aeg}{n k:Nat}{q:YK}{loose:List Str}{XP:(Str->Option Value)->Heap->Prop}{YP:World->Heap->Prop}{d:DefRec}{K:Params->X5}{CX:World->BE}{sp:World->Sp}{x:Str}
 (hn:l.most=some n)(Mx:n<=Yl)(Pc:d.params.defaults=[])(hr:Room k acX)
 (hY:∀(w:World) (h:Heap),YP w h->(K w.params).In h)
 (F:∀(w:World) (mg:Str->Option Value) (fa:Addr) (h:Heap),(K w.params).In h->h.Ns Ys mg->mg d.name=some (.ref fa)->
  ∃fd:aaz,(∀(s:X1) (u:Value),adH s fd ⟨[u],[]⟩ [(x,u)])/\
   ∀base:Heap,(K w.params).In base->base.Ns Ys mg->FnOk l.prog w (K w.params) mg base (CX w) k fa fd [x] (sp w))
 (xU:∀(w:World) (H:Hp) (a:Addr) (ns:List Int),ns.length<=n->LD H->SqL (K w.params) H a (ns.map V.int)->sp w [.ref a] H (λv _=>v= .bl true) λ_ _ _=>False)
 (R4:∀(w:World) (H:Hp) (s:X1) (e:Value) (s':X1),CX w [] H s (λ_ _ _=>False) e s'->False):
 PySem.W.WalkO q loose XP YP l.row.toRowW d [] (λf vs=>aef f vs):=by
 refine Att.attach_call hn Pc λw aeI T0 mg mb fa o pm cd doc a vs ns G Y ho hd uI Mw FY hints hlen hg=>?_;have KX:=hY w _ Y;obtain⟨fd,hb,hF⟩:=F w mg fa _ KX G.T.g Mw;exact yS KX G.T.g G.T.b G.T.builtins G.T.nolimit hg FY hints (Yy hlen Mx) hr hF hb (λH hO hS=>xU w H a ns hlen hO hS) λH e s'=>R4 w H T0 e s'
abbrev OE:BE:=λ_ _ _ _ _ _=>False
abbrev E0:XK:=λ_ _ _=>False
structure Fun (K:X5) (x qual:Str) (st:Stmt) (f:Addr) (fd:aaz):Prop where
 ex:∃(oc:Value) (od:Option Addr) (kV doc pm:Value) (an:Option Addr) (b9 ct:Value) (GX:Array (Option Value)),
  fd=Zh x qual (eB st) (aV st) (ai st) .none kV doc pm an b9 ct/\K.lookup f=some ⟨oc,od, .func fd,GX⟩/\aaC K b9 qual=true
 kp:Zz K (.ref f)=true
section
variable{P:YK}{w:World}{K:X5}{mg:Str->Option Value}{base:Heap}
def Fun.ok{x qual:Str}{st:Stmt}{f:Addr}{fd:aaz}{N ps:List Str}{k:Nat}{sp:Sp}(F:Fun K x qual st f fd)(S:FnScope N ps (ai st))(len:∀vs H Q E,sp vs H Q E->vs.length=ps.length)
 (ie:∀(b9:Value) (A:YX) (outer:List Env) (s:X1) (H:Hp) (vs:List V) (Q:VK) (E:XK),Room k (A.deeper (ZE qual (ai st) s.heap.objs.size f b9))->sp vs H Q E->
  ∃t,PSs (aY OE P w K mg base N qual (ai st) f b9 A outer s H E).nox (aV st) t/\t {nx:=λ_ H'=>Q .non H',rt:=Q} (start N vs) H):FnOk P w K mg base OE (k+1) f fd ps sp:=by
 obtain⟨oc,od,kV,doc,pm,an,b9,ct,GX,rfl,lk,uI⟩:=F.ex;refine KZ lk uI S len λA outer s H vs Q E hr xU=>?_;obtain⟨t,h,q⟩:=ie b9 A outer s H vs Q E hr xU;exact⟨t,h.nox,q⟩
def Fun.binds{x qual:Str}{st:Stmt}{f:Addr}{fd:aaz}{ps:List Str}(F:Fun K x qual st f fd)
 (h:∀(kV doc pm:Value) (an:Option Addr) (b9 ct:Value) (us:List Value),us.length=ps.length->bindArgs (Zh x qual (eB st) (aV st) (ai st) .none kV doc pm an b9 ct) ⟨us,[]⟩=pure (ps.zip us)):Binds K fd ps []:=by
 obtain⟨oc,od,kV,doc,pm,an,b9,ct,GX,rfl,lk,uI⟩:=F.ex;exact .all (h kV doc pm an b9 ct)
def FI{x qual:Str}{st:Stmt}{f:Addr}{oc:Value}{od an:Option Addr}{GX:Array (Option Value)}{kV doc pm b9 ct:Value}(l:K.lookup f=some ⟨oc,od, .func (Zh x qual (eB st) (aV st) (ai st) .none kV doc pm an b9 ct),GX⟩)
 (c:aaC K b9 qual=true)(k:Zz K (.ref f)=true):Fun K x qual st f (Zh x qual (eB st) (aV st) (ai st) .none kV doc pm an b9 ct):=⟨⟨oc,od,kV,doc,pm,an,b9,ct,GX,rfl,l,c⟩,k⟩
end
section
variable{X:Cx}
def pv(i:Nat){x:Str}{pos:Pos}(hN:X.N[i]? =some x:=by rfl)(hv:RS X.env.scope x:=by first | exact Or.inl rfl | exact Or.inr (Or.inl rfl) | exact Or.inr (Or.inr rfl))(hd:(x==("__debug__":Str))=false:=by decide)
 (uI:(x==("__classdict__":Str))=false:=by decide):PE X (.Name x pos) (g7 i):=NH hN hv hd uI
end
def Same(H H':Hp):Prop:=∀b o,H b=some o->H' b=some o
def Same.refl(H:Hp):Same H H:=λ_ _ h=>h
def Same.trans{H H1 H2:Hp}(a:Same H H1)(b:Same H1 H2):Same H H2:=λc o h=>b c o (a c o h)
def Same.free{H H':Hp}(e:Same H H'){l:Addr}(h:H' l=Option.none):H l=Option.none:=by
 cases q:H l with
 |none=>rfl
 |some o=>
  rw[e l o q] at h;cases h
def Same.seq{K:X5}{H H':Hp}{a:Addr}{xs:List V}(e:Same H H')(h:SqL K H a xs):SqL K H' a xs:=by
 rcases h with(h | ⟨o,h⟩) | h
 ·exact .inl (.inl (e _ _ h))
 ·exact .inl (.inr ⟨o,e _ _ h⟩)
 ·exact .inr h
section
variable{κ:Type}[DecidableEq κ]
def fF(kvs:List (κ×V))(k:κ):Option V:=(kvs.find? λkv=>decide (kv.1=k)).map (·.2)
def putK(kvs:List (κ×V))(k:κ)(v:V):List (κ×V):=
 if (kvs.any λkv=>decide (kv.1=k))=true then kvs.map (λkv=>if kv.1=k then(kv.1,v) else kv) else kvs++[(k,v)]
def j7{p:κ×V}{r:List (κ×V)}{k:κ}(e:p.1=k):fF (p::r) k=some p.2:=by simp[fF,aaP,e]
def j6{p:κ×V}{r:List (κ×V)}{k:κ}(e:¬p.1=k):fF (p::r) k=fF r k:=by simp[fF,aaP,e]
def j5(k:κ):∀kvs:List (κ×V),(kvs.any λkv=>decide (kv.1=k))=(fF kvs k).isSome
 |[]=>rfl
 |p::r=>by
  rw[aa9];by_cases e:p.1=k
  ·simp only[j7 e,aeA e,Bool.true_or,Option.isSome_some]
  ·rw[j6 e,aeD e,Bool.false_or];exact j5 k r
def eu(kvs:List (κ×V))(k:κ)(v:V):(putK kvs k v).length<=kvs.length+1:=by
 unfold putK;split
 ·rw[XS];omega
 ·rw[X8,X7,Y0];omega
def zA{kvs:List (κ×V)}{k:κ}(v:V)(h:fF kvs k=none):putK kvs k v=kvs++[(k,v)]:=by
 unfold putK;rw[j5,h];exact aey (by decide)
def RelO.isSome_eq{o:Option V}{u:Option Value}(r:RelO o u):o.isSome=u.isSome:=by
 cases o with
 |none=>cases u with
  |none=>rfl
  |some _=>exact(show False from r).elim
 |some _=>cases u with
  |none=>exact(show False from r).elim
  |some _=>rfl
def RelO.getD{o:Option V}{u:Option Value}{d:V}{d':Value}(r:RelO o u)(rd:RelV d d'):RelV (o.getD d) (u.getD d'):=by
 cases o with
 |none=>cases u with
  |none=>exact rd
  |some _=>exact(show False from r).elim
 |some _=>cases u with
  |none=>exact(show False from r).elim
  |some _=>exact r
def KV.val{kvs:List (κ×V)}{vs:List (κ×Value)}(r:KV kvs vs)(k:κ):RelO (fF kvs k) (adu vs k):=by
 unfold KV at r;induction r with
 |nil=>exact Z6
 | @cons p q ps qs h t ih=>
   obtain⟨h1,h2⟩:=h;by_cases e:p.1=k
   ·have e':q.1=k:=h1.symm.trans e;have b:adu (q::qs) k=some q.2:=by simp[adu,aaP,e']
    rw[j7 e,b];exact h2
   ·have e':¬q.1=k:=λz=>e (h1.trans z);have b:adu (q::qs) k=adu qs k:=by simp[adu,aaP,e']
    rw[j6 e,b];exact ih
def KV.any{kvs:List (κ×V)}{vs:List (κ×Value)}(r:KV kvs vs)(k:κ):(kvs.any λkv=>decide (kv.1=k))=vs.any λkv=>decide (kv.1=k):=by
 unfold KV at r;induction r with
 |nil=>rfl
 |cons h t ih=>rw[aa9,aa9,ih,h.1]
def KV.repl{kvs:List (κ×V)}{vs:List (κ×Value)}(r:KV kvs vs)(k:κ){y:V}{u:Value}(ry:RelV y u):
 KV (kvs.map λkv=>if kv.1=k then(kv.1,y) else kv) (vs.map λkv=>if kv.1=k then(kv.1,u) else kv):=by
 unfold KV at r⊢;induction r with
 |nil=>exact .nil
 | @cons p q ps qs h t ih=>
   rw[X3,X3];refine .cons ?_ ih;obtain⟨h1,h2⟩:=h;by_cases e:p.1=k
   ·rw[aex e,aex (h1.symm.trans e)];exact⟨h1,ry⟩
   ·rw[aey e,aey (λz=>e (h1.trans z))];exact⟨h1,h2⟩
def KV.put{kvs:List (κ×V)}{vs:List (κ×Value)}(r:KV kvs vs)(k:κ){y:V}{u:Value}(ry:RelV y u):KV (putK kvs k y) (stored vs k u):=by
 unfold putK stored;rw[r.any k];by_cases e:(vs.any λkv=>decide (kv.1=k))=true
 ·rw[aex e,aex e];exact r.repl k ry
 ·rw[aey e,aey e];exact Paired.snoc r ⟨rfl,ry⟩
def KV.keys{kvs:List (κ×V)}{vs:List (κ×Value)}(r:KV kvs vs):kvs.map (·.1)=vs.map (·.1):=by
 unfold KV at r;induction r with
 |nil=>rfl
 |cons h t ih=>rw[X3,X3,ih,h.1]
def KV.length{kvs:List (κ×V)}{vs:List (κ×Value)}(r:KV kvs vs):kvs.length=vs.length:=Z9 r
end
def l_{P:YK}{w:World}{k:Key}{u:Value}(r:RelV (kV k) u):(aU P w).is k u=true:=by
 cases k with
 |inl i=>obtain⟨t,e⟩:=(show∃t,u=adz i t from r);subst e;exact y7 P w i t
 |inr x=>obtain⟨t,e⟩:=(show∃t,u=ady x t from r);subst e;exact y8 P w x t
def uO{P:YK}{w:World}:∀{ks:List Key}{us:List Value},Vals (ks.map kV) us->ItemsAre (aU P w) ks us
 |[],_,r=>by rw[ZT] at r;cases r;exact .nil
 |k::ks,_,r=>by
  rw[X3] at r;cases r with
  |cons h t=>exact .cons (l_ h) (uO t)
abbrev KT(H:Hp):List (List Key×V)->List (List Key×Addr×Value)->Prop:=acx λp q=>p.1=q.1/\H q.2.1=some (.tup (p.1.map kV))/\RelV p.2 q.2.2
def KT.val{H:Hp}{kvs:List (List Key×V)}{xs:List (List Key×Addr×Value)}(r:KT H kvs xs)(k:List Key):RelO (fF kvs k) ((atKey xs k).map (·.2)):=by
 induction r with
 |nil=>exact Z6
 | @cons p q ps qs h t ih=>
   obtain⟨h1,_,h2⟩:=h;by_cases e:p.1=k
   ·have e':q.1=k:=h1.symm.trans e;have b:atKey (q::qs) k=some q.2:=by simp[atKey,aaP,e']
    rw[j7 e,b];exact h2
   ·have e':¬q.1=k:=λz=>e (h1.trans z);have b:atKey (q::qs) k=atKey qs k:=by simp[atKey,aaP,e']
    rw[j6 e,b];exact ih
def KT.repl{H:Hp}{kvs:List (List Key×V)}{xs:List (List Key×Addr×Value)}(r:KT H kvs xs)(k:List Key){y:V}{u:Value}(ry:RelV y u):
 KT H (kvs.map λkv=>if kv.1=k then(kv.1,y) else kv) (xs.map (putAt k u)):=by
 induction r with
 |nil=>exact .nil
 | @cons p q ps qs h t ih=>
   rw[X3,X3];refine .cons ?_ ih;obtain⟨h1,h2,h3⟩:=h;unfold putAt;by_cases e:p.1=k
   ·rw[aex e,aex (h1.symm.trans e)];exact⟨h1,h2,ry⟩
   ·rw[aey e,aey (λz=>e (h1.trans z))];exact⟨h1,h2,h3⟩
def KT.put{H:Hp}{kvs:List (List Key×V)}{xs:List (List Key×Addr×Value)}(r:KT H kvs xs)(k:List Key){b:Addr}{y:V}{u:Value}(hb:H b=some (.tup (k.map kV)))(ry:RelV y u):
 KT H (putK kvs k y) (abc xs k b u):=by
 have e:(kvs.any λkv=>decide (kv.1=k))=(atKey xs k).isSome:=by
  rw[j5,(r.val k).isSome_eq,acj]
 unfold putK abc;rw[e];by_cases q:(atKey xs k).isSome=true
 ·rw[aex q,aex q];exact r.repl k ry
 ·rw[aey q,aey q];exact Paired.snoc r ⟨rfl,hb,ry⟩
def KT.keeps{H H':Hp}{kvs:List (List Key×V)}{xs:List (List Key×Addr×Value)}(r:KT H kvs xs)(ht:∀b ys,H b=some (.tup ys)->H' b=some (.tup ys)):KT H' kvs xs:=
 Paired.mapP r λ_ _ z=>⟨z.1,ht _ _ z.2.1,z.2.2⟩
section
variable{P:YK}{w:World}{H:Hp}{h:Heap}{a:Addr}
def Lo{u:HO}(ok:HOk P w H h)(e:Rd H a u):ObjOk P w H h a u:=e.ok ok
def jf{kvs:List (Key×V)}(ok:HOk P w H h)(e:Rd H a (.dK kvs)):kvs.length<=Yl/\(a==Zu)=false/\∃vs,KV kvs vs/\h.DictOf (aU P w) a vs:=
 show ObjOk P w H h a (.dK kvs) from Lo ok e
def Fu{kvs:List (Key×V)}(ok:HOk P w H h)(e:H a=some (.dK kvs)):kvs.length<=Yl/\(a==Zu)=false/\∃vs,KV kvs vs/\h.DictOf (aU P w) a vs:=jf ok (.inl e)
def iR{ks:List Key}(ok:HOk P w H h)(e:H a=some (.tup (ks.map kV))):(aap (aU P w)).is h ks a:=by
 obtain⟨_,aT,r,o,h1,h2,n,h3⟩:=(show ObjOk P w H h a (.tup (ks.map kV)) from ok a _ e)
 exact⟨o,aT.toArray,n,h1,h2,h3,by simpa using uO r⟩
def lV{kvs:List (List Key×V)}(ok:HOk P w H h)(e:Rd H a (.dT kvs)):kvs.length<=Yl/\(a==Zu)=false/\
 ∃xs,KT H kvs xs/\h.DictOfH (aap (aU P w)) a xs:=by
 obtain⟨z,y,xs,r,o,es,ep,h1,h2,h3,h4,h5⟩:=(show ObjOk P w H h a (.dT kvs) from Lo ok e)
 refine⟨z,y,xs,r,o,es,ep,h1,h2,h3,h4,λx hx=>?_,h5⟩;have all:∀{l:List (List Key×V)}{m:List (List Key×Addr×Value)},KT H l m->∀x∈m,(aap (aU P w)).is h x.1 x.2.1:=by
  intro l m q;induction q with
  |nil=>intro x hx;exact nomatch hx
  | @cons p q ps qs hq t ih=>
    intro x hx;rcases XY.mp hx with e | hx
    ·subst e;exact iR ok (by rw[<-hq.1];exact hq.2.1)
    ·exact ih x hx
 exact all r x hx
def Fy{kvs:List (List Key×V)}(ok:HOk P w H h)(e:H a=some (.dT kvs)):kvs.length<=Yl/\(a==Zu)=false/\
 ∃xs,KT H kvs xs/\h.DictOfH (aap (aU P w)) a xs:=lV ok (.inl e)
end
def k8(H:Hp)(a:Addr)(y:V)(r:Option V):Prop:=
 (∃kvs k,Rd H a (.dK kvs)/\y=kV k/\r=fF kvs k)\/∃kvs k b,Rd H a (.dT kvs)/\y= .ref b/\H b=some (.tup (k.map kV))/\r=fF kvs k
def DPut(H:Hp)(a:Addr)(y v:V)(H':Hp):Prop:=
 (∃kvs k,H a=some (.dK kvs)/\y=kV k/\kvs.length<Yl/\H'=upd H a (.dK (putK kvs k v)))\/
 ∃kvs k b,H a=some (.dT kvs)/\y= .ref b/\H b=some (.tup (k.map kV))/\kvs.length<Yl/\H'=upd H a (.dT (putK kvs k v))
def DPut.k{H:Hp}{a:Addr}{kvs:List (Key×V)}{k:Key}{v:V}(e:H a=some (.dK kvs))(hl:kvs.length<Yl):DPut H a (kV k) v (upd H a (.dK (putK kvs k v))):= .inl ⟨kvs,k,e,rfl,hl,rfl⟩
def DPut.t{H:Hp}{a b:Addr}{kvs:List (List Key×V)}{k:List Key}{v:V}(e:H a=some (.dT kvs))(eb:H b=some (.tup (k.map kV)))(hl:kvs.length<Yl):
 DPut H a (.ref b) v (upd H a (.dT (putK kvs k v))):= .inr ⟨kvs,k,b,e,rfl,eb,hl,rfl⟩
section
variable{X:Cx}{f8:List (Addr×Obj)}{σ:St}{H:Hp}{s:X1}{a:Addr}{y v:V}{u r:Value}{o:Option V}{A:YX}{E:Value->X1->Prop}
def Inv.big(I:Inv X f8 σ H s):Zu<s.heap.objs.size:=by
 have h:Ys<s.heap.objs.size:=(I.mod.glob.keeps I.bk).lt;exact Zg (by decide) h
def Dw{Q:Value->X1->Prop}(hu:A.units+1<cLine)(I:Inv X f8 σ H s)(g:k8 H a y (some v))(ry:RelV y u)(h:∀w' s',Inv X f8 σ H s'->RelV v w'->Q w' s'):
 wpAny (model X.prog X.w) A (getItem (.ref a) u) Q E s:=by
 rcases g with⟨kvs,k,e,ey,l⟩ | ⟨kvs,k,b,e,ey,eb,l⟩
 ·subst ey;obtain⟨z,hd,vs,rel,dd⟩:=jf I.hok e;obtain⟨w',hw,xW⟩:=RelO.some_of (v:=v) (o:=adu vs k) (by rw[l];exact rel.val k);exact wpAny_getItem_of (l_ ry) dd.mapOf hw (h w' _ (I.tok _) xW)
 ·subst ey;cases (show u=YF b from ry);obtain⟨z,hd,xs,rel,dd⟩:=lV I.hok e;obtain⟨w',hw,xW⟩:=RelO.some_of (v:=v) (o:=(atKey xs k).map (·.2)) (by rw[l];exact rel.val k);obtain⟨p,hp,PB⟩:=aaR.mp hw;refine wpAny_getItem_heap (aax hu) (iR I.hok eb) dd hp ?_;rw[PB];exact h w' _ (I.tok _) xW
def OP{Q:Value->X1->Prop}(hu:A.units+1<cLine)(I:Inv X f8 σ H s)(g:k8 H a y o)(ry:RelV y u)(h:∀s',Inv X f8 σ H s'->Q (.bool o.isSome) s'):
 wpAny (model X.prog X.w) A (Y8 .In u (.ref a)) Q E s:=by
 rcases g with⟨kvs,k,e,ey,l⟩ | ⟨kvs,k,b,e,ey,eb,l⟩
 ·subst ey;obtain⟨z,hd,vs,rel,dd⟩:=jf I.hok e;refine wpAny_in_of (l_ ry) hd dd.mapOf ?_;rw[<-(rel.val k).isSome_eq,<-l];exact h _ (I.tok _)
 ·subst ey;cases (show u=YF b from ry);obtain⟨z,hd,xs,rel,dd⟩:=lV I.hok e;refine wpAny_in_heap (aax hu) (iR I.hok eb) hd dd ?_;have q:=(rel.val k).isSome_eq;rw[acj] at q;rw[<-q,<-l];exact h _ (I.tok _)
def IB{Q:Value->X1->Prop}(hu:A.units+1<cLine)(I:Inv X f8 σ H s)(g:k8 H a y o)(ry:RelV y u)(h:∀s',Inv X f8 σ H s'->Q (.bool (!o.isSome)) s'):
 wpAny (model X.prog X.w) A (Y8 .NotIn u (.ref a)) Q E s:=by
 rcases g with⟨kvs,k,e,ey,l⟩ | ⟨kvs,k,b,e,ey,eb,l⟩
 ·subst ey;obtain⟨z,hd,vs,rel,dd⟩:=jf I.hok e;refine wpAny_notIn_of (l_ ry) hd dd.mapOf ?_;rw[<-(rel.val k).isSome_eq,<-l];exact h _ (I.tok _)
 ·subst ey;cases (show u=YF b from ry);obtain⟨z,hd,xs,rel,dd⟩:=lV I.hok e;refine wpAny_notIn_heap (aax hu) (iR I.hok eb) hd dd ?_;have q:=(rel.val k).isSome_eq;rw[acj] at q;rw[<-q,<-l];exact h _ (I.tok _)
def kc{h':Heap}{t':Nat}{ob:HO}(I:Inv X f8 σ H s)(mu:OI (H a))(hs:Z_ a s.heap h')(he:∃q,h'.get? a=some q)(new:ObjOk X.prog X.w (upd H a ob) h' a ob):
 Inv X f8 σ (upd H a ob) {s with heap:=h',toks:=t'}:=
 I.write (x:=a) (e:=a) mu (.inl rfl) (λb q hb z=>(hs.2 b hb).trans z) he new
def Ay{P:YK}{w:World}{H':Hp}{h':Heap}{kvs:List (Key×V)}{vs:List (Key×Value)}(z:kvs.length<=Yl)(hd:(a==Zu)=false)(rel:KV kvs vs)(dd:h'.DictOf (aU P w) a vs):
 ObjOk P w H' h' a (.dK kvs):=⟨z,hd,vs,rel,dd⟩
def Dx{H':Hp}{Q:Unit->X1->Prop}(hu:A.units+1<cLine)(I:Inv X f8 σ H s)(g:DPut H a y v H')(ry:RelV y u)(rv:RelV v r)(h:∀s',Inv X f8 σ H' s'->Q () s'):
 wpAny (model X.prog X.w) A (setItem (.ref a) u r) Q E s:=by
 rcases g with⟨kvs,k,e,ey,l,eH⟩ | ⟨kvs,k,b,e,ey,eb,l,eH⟩
 ·subst ey eH;obtain⟨z,hd,vs,rel,dd⟩:=Fu I.hok e;have hz:vs.length<=Yl:=by rw[<-rel.length];exact z
  have hl:(putK kvs k v).length<=Yl:=by have:=eu kvs k v;omega
  refine wpAny_setItem_pairs (hsz:=hz) (l_ ry) dd λh' Af hs=>h _ ?_;have he:∃q,h'.get? a=some q:=let ⟨q,_,_,hq,_⟩:=Af;⟨q,hq⟩
  exact kc I (by rw[e];exact Z6) hs he (Ay hl hd (rel.put k rv) Af)
 ·subst ey eH;cases (show u=YF b from ry);obtain⟨z,hd,xs,rel,dd⟩:=Fy I.hok e;have hz:xs.length<=Yl:=by rw[<-Z9 rel];exact z
  have hl:(putK kvs k v).length<=Yl:=by have:=eu kvs k v;omega
  refine wpAny_setItem_heap (hsz:=hz) (aax hu) (iR I.hok eb) dd λh' Af hs=>h _ ?_;obtain⟨q,es,ep,hq,h2,h3,h4,_,h5⟩:=Af;refine kc I (by rw[e];exact Z6) hs ⟨q,hq⟩ ⟨hl,hd,_,(rel.put k eb rv).keeps λc ys ec=>?_,q,es,ep,hq,h2,h3,h4,h5⟩;rw[av (Gs ec e (λz=>nomatch z))];exact ec
end
section
variable{X:Cx}{f8:List (Addr×Obj)}{σ:St}{H:Hp}{s:X1}{a:Addr}{kvs:List (Key×V)}{A:YX}{E:Value->X1->Prop}
def OQ{Q:Value->X1->Prop}(I:Inv X f8 σ H s)(e:Rd H a (.dK kvs))(h:∀t s',Inv X f8 σ H s'->Q (.int kvs.length t) s'):wpAny (model X.prog X.w) A (call (.builtin "len") [.ref a]) Q E s:=by
 obtain⟨z,hd,vs,rel,dd⟩:=jf I.hok e;refine call_len_dict hd dd (by rw[<-rel.length];rw[ZM] at z;omega) ?_;rw[<-rel.length];exact h _ _ (I.tok _)
end
def LA(i:Expr):Prop:=∀ov iv,subscripted i false ov iv=operate [ov,iv] (getItem ov iv)
def Kw{prog:YK}{w:World}{A:YX}{E:Value->X1->Prop}{s:X1}{env:Env}{value slice:Expr}{pos:Pos}{T id:String}{Q:Value->X1->Prop}
 (hl:acW (.type T) "__getitem__"=pure (some (.builtin id)))(hs:LA slice)
 (h:wpAny (model prog w) A (eval value env) (λo T0=>wpAny (model prog w) A (eval slice env) (λi v4=>v4.TypeIs o T/\wpAny (model prog w) A (getItem o i) Q E v4) E T0) E s):
 wpAny (model prog w) A (eval (.Subscript value slice pos) env) Q E s:=by
 refine Subscript_ (Y2 h (λo T0 h₁=>Y2 h₁ (λi v4 h₂=>?_) λ_ _ x=>x) λ_ _ x=>x);obtain⟨hT,h₂⟩:=h₂;unfold subscriptTail;refine XX ?_;rw[getitemInPython_of_ne hT.not_modules];refine XX (ads hT hl ?_);have fin:wpAny (model prog w) A (subscripted slice false o i) (λr s₃=>wpAny (model prog w) A (letTemporaryGo value o r>>=λ_=>pure r) Q E s₃) E v4:=by
  rw[hs o i];exact wpAny_operating (Y2 h₂ (λr s₃ h₃=>XX (wpAny_letTemporaryGo (Yc h₃))) λ_ _ x=>x)
 first
  |exact Yc (XX fin)
  |exact XX (Yc (XX fin))
  |exact XX fin
def yr{X:Cx}{f8:List (Addr×Obj)}{σ:St}{H:Hp}{s:X1}{a:Addr}{y:V}{o:Option V}(I:Inv X f8 σ H s)(g:k8 H a y o):s.TypeIs (.ref a) "dict":=by
 rcases g with⟨kvs,k,e,_,_⟩ | ⟨kvs,k,b,e,_,_,_⟩
 ·obtain⟨_,_,vs,_,dd⟩:=jf I.hok e;exact dd.typeIs
 ·obtain⟨_,_,xs,_,dd⟩:=lV I.hok e;exact dd.typeIs
def QU(td ty:TE):TE:=λσ H Q=>td σ H λx H1=>ty σ H1 λy H2=>∃a v,x= .ref a/\k8 H2 a y (some v)/\Q v H2
def T1(ty td:TE):TE:=λσ H Q=>ty σ H λy H1=>td σ H1 λx H2=>∃a o,x= .ref a/\k8 H2 a y o/\Q (.bl o.isSome) H2
def Lp(td ty tv:TE):TS:=λD σ H=>tv σ H λv H1=>td σ H1 λx H2=>ty σ H2 λy H3=>∃a H4,x= .ref a/\DPut H3 a y v H4/\D.nx σ H4
section
variable{X:Cx}{o i value:Expr}{pos pos':Pos}{td ty tv:TE}
def J4(hu:X.A.units+1<cLine)(ho:PE X o td)(hi:PE X i ty)(hs:LA i):PE X (.Subscript o i pos) (QU td ty):=by
 intro f8 s σ H Q I h;refine Kw PySem.F.slot_dict_getitem.lookup hs (bX (ho f8 s σ H _ I h) λu s1 ⟨x,H1,I1,rx,q1⟩=>bX (hi f8 s1 σ H1 _ I1 q1) λiv s2 ⟨y,H2,I2,ry,a,v,ex,g,q2⟩=>?_);subst ex;obtain rfl:u=YF a:=rx;exact⟨yr I2 g,Dw hu I2 g ry λw' s3 I3 xW=>⟨v,H2,I3,xW,q2⟩⟩
def Nm(hu:X.A.units+1<cLine)(hi:PE X i ty)(ho:PE X o td):PC X .In i o (T1 ty td):=by
 intro f8 s σ H Q I h;refine bX (hi f8 s σ H _ I h) λiv s1 ⟨y,H1,I1,ry,q1⟩=>bX (ho f8 s1 σ H1 _ I1 q1) λu s2 ⟨x,H2,I2,rx,a,ov,ex,g,q2⟩=>?_;subst ex;obtain rfl:u=YF a:=rx;exact OP hu I2 g ry λs3 I3=>⟨.bl ov.isSome,H2,I3,rfl,q2⟩
def CK(hu:X.A.units+1<cLine)(ho:PE X o td)(hi:PE X i ty)(hv:PE X value tv)(hs:aaX value (some (.Subscript o i pos')) pos.line X.env=pure false):
 PS X (.Assign [.Subscript o i pos'] value pos) (Lp td ty tv):=by
 intro f8 s σ H D I h;refine wpAny_Assign_Subscript (bX (hv f8 s σ H _ I h) λr s1 ⟨v,H1,I1,rv,q1⟩=>bX (ho f8 s1 σ H1 _ I1 q1) λu s2 ⟨x,H2,I2,rx,q2⟩=>bX (hi f8 s2 σ H2 _ I2 q2) λiv s3 ⟨y,H3,I3,ry,a,H4,ex,g,q3⟩=>?_) hs;subst ex;obtain rfl:u=YF a:=rx;exact Dx hu I3 g ry rv λs4 I4=>⟨σ,H4,I4,q3⟩
end
def yw{P:YK}{w:World}{H:Hp}(h:Heap)(hb:Zu<h.objs.size):ObjOk P w H (h.push {cls:= .type "dict",data:= .dict #[]}) h.objs.size (.dK []):=
 ⟨YC _,aeF.mpr (YJ (Ym hb)),[], .nil,Heap.DictOf.new h⟩
def yy{P:YK}{w:World}{H:Hp}(h:Heap)(hb:Zu<h.objs.size):ObjOk P w H (h.push {cls:= .type "dict",data:= .dict #[]}) h.objs.size (.dT []):=
 ⟨YC _,aeF.mpr (YJ (Ym hb)),[], .nil,_,#[],0,Yj _ rfl,⟨rfl,rfl,rfl⟩,rfl,rfl,ZC⟩
def HM:TE:=λ_ H Q=>∀p,H p=none->Q (.ref p) (upd H p (.dK []))
def N5:TE:=λ_ H Q=>∀p,H p=none->Q (.ref p) (upd H p (.dT []))
section
variable{X:Cx}{pos:Pos}
def zx:PE X (.Dict [] [] pos) HM:=λf8 s σ H Q I h=>
 wpAny_Dict_empty ⟨.ref s.heap.objs.size,_,I.laid (a:=s.heap.objs.size) (o:= .dK []) (t':=s.toks) (λ_ _ q=>XZ _ q) (X4 _) (yw s.heap I.big),rfl,h _ (I.hok.fresh (X4 _))⟩
def Ha:PE X (.Dict [] [] pos) N5:=λf8 s σ H Q I h=>
 wpAny_Dict_empty ⟨.ref s.heap.objs.size,_,I.laid (a:=s.heap.objs.size) (o:= .dT []) (t':=s.toks) (λ_ _ q=>XZ _ q) (X4 _) (yy s.heap I.big),rfl,h _ (I.hok.fresh (X4 _))⟩
end
def HN:List (TE×TE)->St->Hp->(List (V×V)->Hp->Prop)->Prop
 |[],_,H,Q=>Q [] H
 |(tk,tv)::r,σ,H,Q=>tk σ H λx H1=>tv σ H1 λy H2=>HN r σ H2 λps H3=>Q ((x,y)::ps) H3
abbrev VV:List (V×V)->List (Value×Value)->Prop:=acx λp q=>RelV p.1 q.1/\RelV p.2 q.2
def RN(X:Cx)(pos:Pos)(keys:List (Option Expr))(values:List Expr)(RH:List (TE×TE)):Prop:=
 ∀(f8:List (Addr×Obj)) (s:X1) (σ:St) (H:Hp) (Q:List (V×V)->Hp->Prop),Inv X f8 σ H s->HN RH σ H Q->
  wpAny (model X.prog X.w) X.A (evalPairs (pairTrees keys values X.env pos)) (λvs s'=>∃ps H',Inv X f8 σ H' s'/\VV ps vs/\Q ps H') X.xe s
def Kb{X:Cx}{pos:Pos}:RN X pos [] [] []:=λf8 s σ H Q I h=>pairTrees_nil_walk ⟨[],H,I, .nil,h⟩
def Hc{X:Cx}{pos:Pos}{k v:Expr}{ks:List (Option Expr)}{vs:List Expr}{tk tv:TE}{RH:List (TE×TE)}(hk:PE X k tk)(hv:PE X v tv)(hr:RN X pos ks vs RH):
 RN X pos (some k::ks) (v::vs) ((tk,tv)::RH):=λf8 s σ H Q I h=>
 pairTrees_cons_walk (bX (hk f8 s σ H _ I h) λu s1 ⟨x,H1,I1,rx,q1⟩=>bX (hv f8 s1 σ H1 _ I1 q1) λw2 s2 ⟨y,H2,I2,ry,q2⟩=>
  bX (hr f8 s2 σ H2 _ I2 q2) λws s3 ⟨ps,H3,I3,rel,q3⟩=>⟨(x,y)::ps,H3,I3, .cons ⟨rx,ry⟩ rel,q3⟩)
structure M1 (X:Cx) (o:Expr) (m:Str) (apos:Pos) (e:Expr) (aO:Pos):Prop where
 base:Zx o m X.env (eval o X.env)=eval o X.env
 few:((ZI aO (Yg [e] X.env)).all (λx=>!x.1)&&(abg aO (aaj [] X.env)).all (λx=>x.1.isSome)
  &&decide (([e]:List Expr).length+([]:List aaf).length+(if ([]:List aaf).isEmpty then 0 else 1)<30))=true
 line:(apos.endLine==aO.line)=true
 trees:ZI aO (Yg [e] X.env)=[(false,eval e X.env)]
structure M2 (X:Cx) (o:Expr) (m:Str) (apos:Pos) (e f:Expr) (aO:Pos):Prop where
 base:Zx o m X.env (eval o X.env)=eval o X.env
 few:((ZI aO (Yg [e,f] X.env)).all (λx=>!x.1)&&(abg aO (aaj [] X.env)).all (λx=>x.1.isSome)
  &&decide (([e,f]:List Expr).length+([]:List aaf).length+(if ([]:List aaf).isEmpty then 0 else 1)<30))=true
 line:(apos.endLine==aO.line)=true
 trees:ZI aO (Yg [e,f] X.env)=[(false,eval e X.env),(false,eval f X.env)]
def Od(H:Hp)(a:Addr):Prop:=(∃kvs,Rd H a (.dK kvs))\/∃kvs,Rd H a (.dT kvs)
def vZ{X:Cx}{f8:List (Addr×Obj)}{σ:St}{H:Hp}{s:X1}{a:Addr}(I:Inv X f8 σ H s)(d:Od H a):
 s.TypeIs (.ref a) "dict"/\(∀b,YF a= .ref b->∃ob,s.heap.get? b=some ob/\ob.dict=none)/\(a==Zu)=false:=by
 rcases d with⟨kvs,e⟩ | ⟨kvs,e⟩
 ·obtain⟨_,hd,vs,_,dd⟩:=jf I.hok e;refine⟨dd.typeIs,λb q=>?_,hd⟩;cases q;obtain⟨ob,_,_,h1,h2,_⟩:=dd;exact⟨ob,h1,h2.2.1⟩
 ·obtain⟨_,hd,xs,_,dd⟩:=lV I.hok e;refine⟨dd.typeIs,λb q=>?_,hd⟩;cases q;obtain⟨ob,_,_,h1,h2,_⟩:=dd;exact⟨ob,h1,h2.2.1⟩
section
variable{X:Cx}{f8:List (Addr×Obj)}{σ:St}{H:Hp}{s:X1}{a:Addr}{y d:V}{u r:Value}{o:Option V}{A:YX}{E:Value->X1->Prop}
def L4{Q:Value->X1->Prop}(hu:A.units+1<cLine)(I:Inv X f8 σ H s)(g:k8 H a y o)(ry:RelV y u)(h:∀w' s',Inv X f8 σ H s'->RelV (o.getD .non) w'->Q w' s'):
 wpAny (model X.prog X.w) A (call (.builtin "dict.get") [.ref a,u]) Q E s:=by
 rcases g with⟨kvs,k,e,ey,l⟩ | ⟨kvs,k,b,e,ey,eb,l⟩
 ·subst ey;obtain⟨z,hd,vs,rel,dd⟩:=jf I.hok e;refine acb ZL dd.typeIs aaO (ac2 _ _) (meets_dict_get (aU X.prog X.w) a (l_ ry) hd) ⟨_,dd.mapOf,h _ _ (I.tok _) ?_⟩;rw[l];exact(rel.val k).getD rfl
 ·subst ey;cases (show u=YF b from ry);obtain⟨z,hd,xs,rel,dd⟩:=lV I.hok e;refine acb ZL dd.typeIs aaO (ac2 _ _) (meetsH_dict_get (aap (aU X.prog X.w)) a b hd) ⟨aax hu,k,xs,iR I.hok eb,dd,h _ _ (I.tok _) ?_⟩;rw[l];exact(rel.val k).getD rfl
def L5{Q:Value->X1->Prop}(hu:A.units+1<cLine)(I:Inv X f8 σ H s)(g:k8 H a y o)(ry:RelV y u)(rd:RelV d r)(h:∀w' s',Inv X f8 σ H s'->RelV (o.getD d) w'->Q w' s'):
 wpAny (model X.prog X.w) A (call (.builtin "dict.get") [.ref a,u,r]) Q E s:=by
 rcases g with⟨kvs,k,e,ey,l⟩ | ⟨kvs,k,b,e,ey,eb,l⟩
 ·subst ey;obtain⟨z,hd,vs,rel,dd⟩:=jf I.hok e;refine acb ZL dd.typeIs aaO (ac1 _ _ _) (meets_dict_get_default (aU X.prog X.w) a (l_ ry) hd r) ⟨_,dd.mapOf,h _ _ (I.tok _) ?_⟩;rw[l];exact(rel.val k).getD rd
 ·subst ey;cases (show u=YF b from ry);obtain⟨z,hd,xs,rel,dd⟩:=lV I.hok e;refine acb ZL dd.typeIs aaO (ac1 _ _ _) (meetsH_dict_get_default (aap (aU X.prog X.w)) a b hd r) ⟨aax hu,k,xs,iR I.hok eb,dd,h _ _ (I.tok _) ?_⟩;rw[l];exact(rel.val k).getD rd
end
def N3(td ty:TE):TE:=λσ H Q=>td σ H λx H1=>∃a,x= .ref a/\Od H1 a/\ty σ H1 λy H2=>∃o,k8 H2 a y o/\Q (o.getD .non) H2
def N4(td ty tx:TE):TE:=λσ H Q=>td σ H λx H1=>∃a,x= .ref a/\Od H1 a/\ty σ H1 λy H2=>tx σ H2 λz H3=>∃o,k8 H3 a y o/\Q (o.getD z) H3
section
variable{X:Cx}{o e f:Expr}{apos aO:Pos}{td ty tx:TE}
def G9(hu:X.A.units+1<cLine)(ho:PE X o td)(he:PE X e ty)(m:M1 X o "get" apos e aO):PE X (.Call (.Attribute o "get" apos) [e] [] aO) (N3 td ty):=by
 intro f8 s σ H Q I h;refine abK m.base m.few m.line Z7 ZL adl (bX (ho f8 s σ H _ I h) λu s1 ⟨x,H1,I1,rx,a,ex,d,q1⟩=>?_);subst ex;obtain rfl:u=YF a:=rx;obtain⟨t1,t2,_⟩:=vZ I1 d;refine⟨t1,t2,?_⟩;rw[m.trees];refine aah rfl (ZX (Zw (bX (he f8 s1 σ H1 _ I1 q1) λiv s2 ⟨y,H2,I2,ry,ov,g,q2⟩=>aav ?_)));exact L4 hu I2 g ry λw' s3 I3 xW=>⟨_,H2,I3,xW,q2⟩
def G_(hu:X.A.units+1<cLine)(ho:PE X o td)(he:PE X e ty)(hf:PE X f tx)(m:M2 X o "get" apos e f aO):PE X (.Call (.Attribute o "get" apos) [e,f] [] aO) (N4 td ty tx):=by
 intro f8 s σ H Q I h;refine abK m.base m.few m.line Z7 ZL adl (bX (ho f8 s σ H _ I h) λu s1 ⟨x,H1,I1,rx,a,ex,d,q1⟩=>?_);subst ex;obtain rfl:u=YF a:=rx;obtain⟨t1,t2,_⟩:=vZ I1 d;refine⟨t1,t2,?_⟩;rw[m.trees];refine aah rfl (ZX (Zw (bX (he f8 s1 σ H1 _ I1 q1) λiv s2 ⟨y,H2,I2,ry,q2⟩=>
  Zw (bX (hf f8 s2 σ H2 _ I2 q2) λfv s3 ⟨z,H3,I3,rz,ov,g,q3⟩=>aav ?_))))
 exact L5 hu I3 g ry rz λw' s4 I4 xW=>⟨_,H3,I4,xW,q3⟩
end
end L2
namespace L3
open PySem PySem.Spec L2
open PyProof.Rows hiding St
inductive Rs (α:Type) where
 |ok (a:α) | ex (n:Nat)
def M(α:Type):=Option (Rs α)
def aa(a:α):M α:=some (.ok a)
def M.bind(m:M α)(k:α->M β):M β:=match m with
 |none=>none
 |some (.ex n)=>some (.ex n)
 |some (.ok a)=>k a
def ag:M α:=none
def bf(n:Nat):M α:=some (.ex n)
instance:Monad M where
 pure:=aa
 bind:=M.bind
@[simp] def aw{α β:Type}(a:α)(k:α->M β):(aa a>>=k)=k a:=rfl
@[simp] def LQ{α β:Type}(a:α)(k:α->M β):((pure a:M α)>>=k)=k a:=rfl
@[simp] def LR{α β:Type}(n:Nat)(k:α->M β):(bf n>>=k)=bf n:=rfl
@[simp] def LS{α β:Type}(k:α->M β):((ag:M α)>>=k)=ag:=rfl
def M.cs(m:M α):m=ag\/(∃n,m=bf n)\/∃a,m=aa a:=by
 match m with
 |none=>exact .inl rfl
 |some (.ex n)=>exact .inr (.inl ⟨n,rfl⟩)
 |some (.ok a)=>exact .inr (.inr ⟨a,rfl⟩)
def d8(h:aa a=aa b):a=b:=by
 have h:some (Rs.ok a)=some (Rs.ok b):=h;cases h;rfl
def cQ(h:ag=aa a):False:=by
 have h:none=some (Rs.ok a):=h;cases h
def Hq(h:bf n=aa a):False:=by
 have h:some (Rs.ex n)=some (Rs.ok a):=h;cases h
def cV(h:(m>>=k)=aa r):∃a,m=aa a/\k a=aa r:=by
 rcases m.cs with e | ⟨n,e⟩ | ⟨a,e⟩
 ·subst e;exact(cQ h).elim
 ·subst e;exact(Hq h).elim
 ·subst e;exact⟨a,rfl,h⟩
def BF(h:Heap)(ea D:Addr):Prop:=∃ox,h.get? ea=some ox/\ox.cls= .ref D
def Lz(ea D:Addr):HO:= .ext λh=>BF h ea D
inductive D where
 |non | bl (b:Bool) | int (i:Int) | str (x:Str) | raw (v:V) | exc (C:Addr) | scr (l:List Int) | tup (l:List D) | lst (l:List D)
 |dct (ks:List (List Key)) (l:List D) | dci (ks:List Key) (l:List D)
instance:Inhabited D:=⟨.non⟩
def lim:Nat:=4096
def cP:lim<Yl:=by rw[ZM];decide
mutual
def Den(K:X5)(F:Hp):D->V->Prop
 | .non,v=>v= .non
 | .bl b,v=>v= .bl b
 | .int i,v=>v= .int i
 | .str x,v=>v= .str x/\x.length<=lim
 | .raw u,v=>v=u
 | .exc C,v=>∃ea,v= .ref ea/\F ea=some (Lz ea C)
 | .scr ns,v=>∃a,v= .ref a/\SqL K F a (ns.map V.int)/\ns.length<=lim
 | .tup ds,v=>∃a vs,v= .ref a/\F a=some (.tup vs)/\DenL K F ds vs/\ds.length<=lim
 | .lst ds,v=>∃a vs,v= .ref a/\F a=some (.lst vs)/\DenL K F ds vs/\ds.length<=lim
 | .dct ks ds,v=>∃a ob vs,v= .ref a/\F a=some (.frz ob (.dT (ks.zip vs)))/\DenL K F ds vs/\ks.length=ds.length/\ds.length<=lim
 | .dci ks ds,v=>∃a ob vs,v= .ref a/\F a=some (.frz ob (.dK (ks.zip vs)))/\DenL K F ds vs/\ks.length=ds.length/\ds.length<=lim
def DenL(K:X5)(F:Hp):List D->List V->Prop
 |[],vs=>vs=[]
 |d::ds,vs=>∃v r,vs=v::r/\Den K F d v/\DenL K F ds r
end
def Same.rd(e:Same H H')(h:Rd H a u):Rd H' a u:=by
 rcases h with h | ⟨o,h⟩
 ·exact .inl (e _ _ h)
 ·exact .inr ⟨o,e _ _ h⟩
def Same.tup{K:X5}(e:Same H H')(h:SqT K H a xs):SqT K H' a xs:=by
 rcases h with h | h
 ·exact .inl (Same.rd e h)
 ·exact .inr h
section
variable{K:X5}{F F':Hp}
mutual
def Den.mono(e:Same F F'):∀{d:D}{v:V},Den K F d v->Den K F' d v
 | .non,_,h=>h
 | .bl _,_,h=>h
 | .int _,_,h=>h
 | .str _,_,h=>h
 | .raw _,_,h=>h
 | .exc _,_,⟨a,h1,h2⟩=>⟨a,h1,e _ _ h2⟩
 | .scr _,_,⟨a,h1,h2,h3⟩=>⟨a,h1,Same.seq e h2,h3⟩
 | .tup _,_,⟨a,vs,h1,h2,h3,h4⟩=>⟨a,vs,h1,e _ _ h2,DenL.mono e h3,h4⟩
 | .lst _,_,⟨a,vs,h1,h2,h3,h4⟩=>⟨a,vs,h1,e _ _ h2,DenL.mono e h3,h4⟩
 | .dct _ _,_,⟨a,ob,vs,h1,h2,h3,h4⟩=>⟨a,ob,vs,h1,e _ _ h2,DenL.mono e h3,h4⟩
 | .dci _ _,_,⟨a,ob,vs,h1,h2,h3,h4⟩=>⟨a,ob,vs,h1,e _ _ h2,DenL.mono e h3,h4⟩
def DenL.mono(e:Same F F'):∀{ds:List D}{vs:List V},DenL K F ds vs->DenL K F' ds vs
 |[],_,h=>h
 |_::_,_,⟨v,r,h1,h2,h3⟩=>⟨v,r,h1,Den.mono e h2,DenL.mono e h3⟩
end
def DenL.nil:DenL K F [] []:=rfl
def DenL.cons(h:Den K F d v)(r:DenL K F ds vs):DenL K F (d::ds) (v::vs):=⟨v,vs,rfl,h,r⟩
def DenL.len:∀{ds:List D}{vs:List V},DenL K F ds vs->ds.length=vs.length
 |[],_,h=>by cases (show _=_ from h);rfl
 |_::ds,_,⟨v,r,h1,_,h3⟩=>by subst h1;rw[X7,X7,DenL.len h3]
def DenL.get:∀{ds:List D}{vs:List V}{i:Nat}{d:D},DenL K F ds vs->ds[i]? =some d->∃v,vs[i]? =some v/\Den K F d v
 |[],_,_,_,_,e=>by simp at e
 |d::ds,_,0,_,⟨v,r,h1,h2,h3⟩,e=>by subst h1;simp at e;subst e;exact⟨v,rfl,h2⟩
 |d::ds,_,i+1,_,⟨v,r,h1,h2,h3⟩,e=>by
  subst h1;obtain⟨w,e1,e2⟩:=DenL.get h3 (by simpa using e);exact⟨w,by simpa using e1,e2⟩
def DenL.at:∀{ds:List D}{vs:List V}{i:Nat}{v:V},DenL K F ds vs->vs[i]? =some v->∃d,ds[i]? =some d/\Den K F d v
 |[],_,_,_,h,e=>by cases (show _=_ from h);simp at e
 |d::ds,_,0,_,⟨v,r,h1,h2,h3⟩,e=>by subst h1;simp at e;subst e;exact⟨d,rfl,h2⟩
 |d::ds,_,i+1,_,⟨v,r,h1,h2,h3⟩,e=>by
  subst h1;obtain⟨w,e1,e2⟩:=DenL.at h3 (by simpa using e);exact⟨w,by simpa using e1,e2⟩
def DenL.append:∀{ds es:List D}{vs ws:List V},DenL K F ds vs->DenL K F es ws->DenL K F (ds++es) (vs++ws)
 |[],_,_,_,h,h'=>by cases (show _=_ from h);exact h'
 |d::ds,_,_,_,⟨v,r,h1,h2,h3⟩,h'=>by subst h1;exact⟨v,_,rfl,h2,DenL.append h3 h'⟩
def DenL.take:∀{ds:List D}{vs:List V}(n:Nat),DenL K F ds vs->DenL K F (ds.take n) (vs.take n)
 |_,_,0,_=>by simp[List.take];rfl
 |[],_,_+1,h=>by cases (show _=_ from h);rfl
 |d::ds,_,n+1,⟨v,r,h1,h2,h3⟩=>by subst h1;exact⟨v,_,rfl,h2,DenL.take n h3⟩
def DenL.ints(ns:List Int):DenL K F (ns.map D.int) (ns.map V.int):=by
 induction ns with
 |nil=>rfl
 |cons n ns ih=>exact .cons rfl ih
end
structure Ext (F H F' H':Hp):Prop where
 hh:Same H H'
 ff:Same F F'
 fh:Same F' H'
 new:∀a,H a≠none->F' a=F a\/∃ts,H a=some (.tup ts)
def Ext.old(e:Ext F H F' H')(h:H a=some o)(hn:∀ts,o≠ .tup ts):F' a=F a:=by
 rcases e.new a (by rw[h];exact λz=>nomatch z) with q | ⟨ts,q⟩
 ·exact q
 ·rw[h] at q;cases q;exact aeB rfl (hn ts)
def Ext.refl(h:Same F H):Ext F H F H:=⟨Same.refl _,Same.refl _,h,λ_ _=> .inl rfl⟩
def Ext.trans(a:Ext F H F' H')(b:Ext F' H' F'' H''):Ext F H F'' H'':=
 ⟨a.hh.trans b.hh,a.ff.trans b.ff,b.fh,λc hc=>by
  have:H' c≠none:=by
   cases q:H c with
   |none=>exact aeB q hc
   |some o=>rw[a.hh c o q];exact λz=>nomatch z
  rcases a.new c hc with p | p
  ·rcases b.new c this with q | ⟨ts,q⟩
   ·exact .inl (q.trans p)
   ·cases z:H c with
    |none=>exact aeB z hc
    |some o=>
     rw[a.hh c o z] at q;exact .inr ⟨ts,q⟩
  ·exact .inr p⟩
def Ext.lay(h:Same F H)(n:H a=none):Ext F H (upd F a o) (upd H a o):=by
 have nf:F a=none:=Same.free h n;refine⟨λb u e=>?_,λb u e=>?_,λb u e=>?_,λb hb=>?_⟩
 ·rw[av (a_ e n)];exact e
 ·rw[av (a_ e nf)];exact e
 ·by_cases q:b=a
  ·subst q;rw[aB] at e⊢;exact e
  ·rw[av q] at e⊢;exact h b u e
 ·exact .inl (av λz=>hb (by rw[z];exact n))
def Ext.free(h:Same F H)(n:H a=none):Ext F H F (upd H a o):=
 ⟨λb u e=>by rw[av (a_ e n)];exact e,Same.refl _,λb u e=>by rw[av (a_ (h b u e) n)];exact h b u e,λ_ _=> .inl rfl⟩
def Ext.tup(h:Same F H)(e:H a=some (.tup ts)):Ext F H (upd F a (.tup ts)) H:=by
 refine⟨Same.refl _,λb u q=>?_,λb u q=>?_,λb hb=>?_⟩
 ·by_cases z:b=a
  ·subst z;rw[aB,<-e];exact h b u q
  ·rw[av z];exact q
 ·by_cases z:b=a
  ·subst z;rw[aB] at q;rw[e];exact q
  ·rw[av z] at q;exact h b u q
 ·by_cases z:b=a
  ·subst z;exact .inr ⟨ts,e⟩
  ·exact .inl (av z)
def WP(K:X5)(Xw:Nat->Hp->Prop)(F H:Hp)(m:M D)(Q:VK):Prop:=
 match m with
 |none=>False
 |some (.ok d)=>∀v H' F',Ext F H F' H'->Den K F' d v->Q v H'
 |some (.ex n)=>∀F' H',Ext F H F' H'->Xw n H'
def WPL(K:X5)(Xw:Nat->Hp->Prop)(F H:Hp)(m:M (List D))(Q:List V->Hp->Prop):Prop:=
 match m with
 |none=>False
 |some (.ok ds)=>∀vs H' F',Ext F H F' H'->DenL K F' ds vs->Q vs H'
 |some (.ex n)=>∀F' H',Ext F H F' H'->Xw n H'
def WPB(Xw:Nat->Hp->Prop)(F H:Hp)(m:M Bool)(Q:Bool->Hp->Prop):Prop:=
 match m with
 |none=>False
 |some (.ok b)=>∀H' F',Ext F H F' H'->Q b H'
 |some (.ex n)=>∀F' H',Ext F H F' H'->Xw n H'
section
variable{K:X5}{Xw:Nat->Hp->Prop}{F F' H H':Hp}{Q:VK}
def WP.ext(e:Ext F H F' H')(h:WP K Xw F H m Q):WP K Xw F' H' m Q:=by
 match m,h with
 |none,h=>exact h
 |some (.ok d),h=>exact λv H2 F2 e2 q=>h v H2 F2 (e.trans e2) q
 |some (.ex n),h=>exact λF2 H2 e2=>h F2 H2 (e.trans e2)
def WPL.ext{Q:List V->Hp->Prop}(e:Ext F H F' H')(h:WPL K Xw F H m Q):WPL K Xw F' H' m Q:=by
 match m,h with
 |none,h=>exact h
 |some (.ok d),h=>exact λv H2 F2 e2 q=>h v H2 F2 (e.trans e2) q
 |some (.ex n),h=>exact λF2 H2 e2=>h F2 H2 (e.trans e2)
def WPB.ext{Q:Bool->Hp->Prop}(e:Ext F H F' H')(h:WPB Xw F H m Q):WPB Xw F' H' m Q:=by
 match m,h with
 |none,h=>exact h
 |some (.ok d),h=>exact λH2 F2 e2=>h H2 F2 (e.trans e2)
 |some (.ex n),h=>exact λF2 H2 e2=>h F2 H2 (e.trans e2)
def WP.fin(h:WP K Xw F H (aa d) Q)(e:Ext F H F' H')(q:Den K F' d v):Q v H':=h v H' F' e q
def WP.now(h:WP K Xw F H (aa d) Q)(s:Same F H)(q:Den K F d v):Q v H:=h v H F (Ext.refl s) q
def WP.bind(h:WP K Xw F H (m>>=k) Q):WP K Xw F H m λv H1=>∃F1 d,Ext F H F1 H1/\Den K F1 d v/\WP K Xw F1 H1 (k d) Q:=by
 match m,h with
 |none,h=>exact h
 |some (.ok d),h=>exact λv H2 F2 e2 q=>⟨F2,d,e2,q,WP.ext e2 (show WP K Xw F H (k d) Q from h)⟩
 |some (.ex n),h=>exact h
def WP.bindL(h:WP K Xw F H (m>>=k) Q):WPL K Xw F H m λvs H1=>∃F1 ds,Ext F H F1 H1/\DenL K F1 ds vs/\WP K Xw F1 H1 (k ds) Q:=by
 match m,h with
 |none,h=>exact h
 |some (.ok d),h=>exact λv H2 F2 e2 q=>⟨F2,d,e2,q,WP.ext e2 (show WP K Xw F H (k d) Q from h)⟩
 |some (.ex n),h=>exact h
def WP.bindB(h:WP K Xw F H (m>>=k) Q):WPB Xw F H m λb H1=>∃F1,Ext F H F1 H1/\WP K Xw F1 H1 (k b) Q:=by
 match m,h with
 |none,h=>exact h
 |some (.ok d),h=>exact λH2 F2 e2=>⟨F2,e2,WP.ext e2 (show WP K Xw F H (k d) Q from h)⟩
 |some (.ex n),h=>exact h
def WPB.bind{Q:Bool->Hp->Prop}(h:WPB Xw F H (m>>=k) Q):WP K Xw F H m λv H1=>∃F1 d,Ext F H F1 H1/\Den K F1 d v/\WPB Xw F1 H1 (k d) Q:=by
 match m,h with
 |none,h=>exact h
 |some (.ok d),h=>exact λv H2 F2 e2 q=>⟨F2,d,e2,q,WPB.ext e2 (show WPB Xw F H (k d) Q from h)⟩
 |some (.ex n),h=>exact h
def WPB.bindB{Q:Bool->Hp->Prop}(h:WPB Xw F H (m>>=k) Q):WPB Xw F H m λb H1=>∃F1,Ext F H F1 H1/\WPB Xw F1 H1 (k b) Q:=by
 match m,h with
 |none,h=>exact h
 |some (.ok d),h=>exact λH2 F2 e2=>⟨F2,e2,WPB.ext e2 (show WPB Xw F H (k d) Q from h)⟩
 |some (.ex n),h=>exact h
def WPL.bind{Q:List V->Hp->Prop}(h:WPL K Xw F H (m>>=k) Q):WP K Xw F H m λv H1=>∃F1 d,Ext F H F1 H1/\Den K F1 d v/\WPL K Xw F1 H1 (k d) Q:=by
 match m,h with
 |none,h=>exact h
 |some (.ok d),h=>exact λv H2 F2 e2 q=>⟨F2,d,e2,q,WPL.ext e2 (show WPL K Xw F H (k d) Q from h)⟩
 |some (.ex n),h=>exact h
def WPL.bindL{Q:List V->Hp->Prop}(h:WPL K Xw F H (m>>=k) Q):WPL K Xw F H m λvs H1=>∃F1 ds,Ext F H F1 H1/\DenL K F1 ds vs/\WPL K Xw F1 H1 (k ds) Q:=by
 match m,h with
 |none,h=>exact h
 |some (.ok d),h=>exact λv H2 F2 e2 q=>⟨F2,d,e2,q,WPL.ext e2 (show WPL K Xw F H (k d) Q from h)⟩
 |some (.ex n),h=>exact h
def WP.mono(h:WP K Xw F H m Q)(k:∀v H',Q v H'->Q' v H'):WP K Xw F H m Q':=by
 match m,h with
 |none,h=>exact h
 |some (.ok d),h=>exact λv H2 F2 e2 q=>k _ _ (h v H2 F2 e2 q)
 |some (.ex n),h=>exact h
def WPL.mono{Q Q':List V->Hp->Prop}(h:WPL K Xw F H m Q)(k:∀v H',Q v H'->Q' v H'):WPL K Xw F H m Q':=by
 match m,h with
 |none,h=>exact h
 |some (.ok d),h=>exact λv H2 F2 e2 q=>k _ _ (h v H2 F2 e2 q)
 |some (.ex n),h=>exact h
def WPB.mono{Q Q':Bool->Hp->Prop}(h:WPB Xw F H m Q)(k:∀v H',Q v H'->Q' v H'):WPB Xw F H m Q':=by
 match m,h with
 |none,h=>exact h
 |some (.ok d),h=>exact λH2 F2 e2=>k _ _ (h H2 F2 e2)
 |some (.ex n),h=>exact h
end
inductive C where
 |lst (l:List D) | dct (ks:List (List Key)) (l:List D) | dci (ks:List Key) (l:List D)
def C.d:C->D
 | .lst ds=> .lst ds
 | .dct ks ds=> .dct ks ds
 | .dci ks ds=> .dci ks ds
inductive Sl where
 |fz (d:D) | ow (c:C)
abbrev bH:=List (Option Sl)
def DenC(K:X5)(F:Hp):C->HO->Prop
 | .lst ds,o=>∃vs,o= .lst vs/\DenL K F ds vs/\ds.length<=lim
 | .dct ks ds,o=>∃vs,o= .dT (ks.zip vs)/\DenL K F ds vs/\ks.length=ds.length/\ds.length<=lim
 | .dci ks ds,o=>∃vs,o= .dK (ks.zip vs)/\DenL K F ds vs/\ks.length=ds.length/\ds.length<=lim
def DenC.mono{K:X5}(e:Same F F'):∀{c:C}{o:HO},DenC K F c o->DenC K F' c o
 | .lst _,_,⟨vs,h1,h2,h3⟩=>⟨vs,h1,DenL.mono e h2,h3⟩
 | .dct _ _,_,⟨vs,h1,h2,h3⟩=>⟨vs,h1,DenL.mono e h2,h3⟩
 | .dci _ _,_,⟨vs,h1,h2,h3⟩=>⟨vs,h1,DenL.mono e h2,h3⟩
def DenC.notup{K:X5}:∀{c:C}{o:HO},DenC K F c o->∀ts,o≠ .tup ts
 | .lst _,_,⟨_,h1,_⟩,ts,z=>by rw[h1] at z;cases z
 | .dct _ _,_,⟨_,h1,_⟩,ts,z=>by rw[h1] at z;cases z
 | .dci _ _,_,⟨_,h1,_⟩,ts,z=>by rw[h1] at z;cases z
def pV(ob:Obj):HO->HO
 | .dT kvs=> .frz ob (.dT kvs)
 | .dK kvs=> .frz ob (.dK kvs)
 |o=>o
def DenC.den{K:X5}:∀{c:C}{o:HO},DenC K F c o->Same F F'->F' a=some (pV ob o)->Den K F' c.d (.ref a)
 | .lst _,_,⟨vs,h1,h2,h3⟩,e,q=>by subst h1;exact⟨a,vs,rfl,q,DenL.mono e h2,h3⟩
 | .dct _ _,_,⟨vs,h1,h2,h3⟩,e,q=>by subst h1;exact⟨a,ob,vs,rfl,q,DenL.mono e h2,h3⟩
 | .dci _ _,_,⟨vs,h1,h2,h3⟩,e,q=>by subst h1;exact⟨a,ob,vs,rfl,q,DenL.mono e h2,h3⟩
def DenO(K:X5)(F H:Hp):Sl->V->Prop
 | .fz d,v=>Den K F d v
 | .ow c,v=>∃a o,v= .ref a/\H a=some o/\F a=none/\DenC K F c o
structure StE (K:X5) (F H:Hp) (σ:St) (Z:bH):Prop where
 fh:Same F H
 den:∀(i:Nat) (sl:Sl),Z[i]? =some (some sl)->∃v,σ[i]? =some (some v)/\DenO K F H sl v
def DenO.ext{K:X5}(e:Ext F H F' H'):∀{sl:Sl}{v:V},DenO K F H sl v->DenO K F' H' sl v
 | .fz _,_,h=>Den.mono e.ff h
 | .ow _,_,⟨a,o,h1,h2,h3,h4⟩=>⟨a,o,h1,e.hh _ _ h2,by rw[e.old h2 h4.notup];exact h3,DenC.mono e.ff h4⟩
def StE.ext{K:X5}(s:StE K F H σ Z)(e:Ext F H F' H'):StE K F' H' σ Z:=
 ⟨e.fh,λi sl q=>let ⟨v,h1,h2⟩:=s.den i sl q;⟨v,h1,h2.ext e⟩⟩
abbrev DE:=bH->M D
abbrev DT:=bH->M Bool
abbrev DA:=bH->M (List D)
def tD(K:X5)(Xw:Nat->Hp->Prop)(δ:DE):TE:=λσ H Q=>∃F Z,StE K F H σ Z/\WP K Xw F H (δ Z) Q
def RE(K:X5)(Xw:Nat->Hp->Prop)(δ:DT):TT:=λσ H Q=>∃F Z,StE K F H σ Z/\WPB Xw F H (δ Z) Q
def Vm(K:X5)(Xw:Nat->Hp->Prop)(δ:DA):TA:=λσ H Q=>∃F Z,StE K F H σ Z/\WPL K Xw F H (δ Z) Q
def PD(X:Cx)(Xw:Nat->Hp->Prop)(e:Expr)(δ:DE):Prop:=PE X e (tD X.K Xw δ)
def qA(X:Cx)(Xw:Nat->Hp->Prop)(e:Expr)(δ:DT):Prop:=PT X e (RE X.K Xw δ)
def jm(X:Cx)(Xw:Nat->Hp->Prop)(es:List Expr)(δ:DA):Prop:=PA X es (Vm X.K Xw δ)
def PE.weak(h:PE X e t)(k:∀σ H Q,t' σ H Q->t σ H Q):PE X e t':=λf8 s σ H Q I w=>h f8 s σ H Q I (k σ H Q w)
def PT.weak(h:PT X e t)(k:∀σ H Q,t' σ H Q->t σ H Q):PT X e t':=λf8 s σ H Q I w=>h f8 s σ H Q I (k σ H Q w)
def PA.weak(h:PA X e t)(k:∀σ H Q,t' σ H Q->t σ H Q):PA X e t':=λpos f8 s σ H Q I w=>h pos f8 s σ H Q I (k σ H Q w)
def dV(i:Nat):DE:=λZ=>match Z[i]? with
 |some (some (.fz d))=>aa d
 |_=>ag
def dC(d:D):DE:=λ_=>aa d
def d1(g:D->M D)(a:DE):DE:=λZ=>a Z>>=g
def d2(g:D->D->M D)(a b:DE):DE:=λZ=>a Z>>=λx=>b Z>>=λy=>g x y
def aN:DA:=λ_=>aa []
def aC(a:DE)(r:DA):DA:=λZ=>a Z>>=λx=>r Z>>=λxs=>aa (x::xs)
def dA(g:List D->M D)(a:DA):DE:=λZ=>a Z>>=g
def E7:D->M Bool
 | .bl b=>aa b
 |_=>ag
def dH(a:DE):DT:=λZ=>a Z>>=E7
def lr(a b:DT):DT:=λZ=>a Z>>=λx=>if x then b Z else aa false
def tJ(a b:DT):DT:=λZ=>a Z>>=λx=>if x then aa true else b Z
def e7(a:DT):DT:=λZ=>a Z>>=λx=>aa (!x)
def Um(c:DT)(a b:DE):DE:=λZ=>c Z>>=λx=>if x then a Z else b Z
def fN(a b:DE):DE:=λZ=>a Z>>=λx=>E7 x>>=λc=>if c then b Z else aa (.bl false)
def KQ(a:DE):DE:=λZ=>a Z>>=λx=>E7 x>>=λc=>aa (.bl (!c))
section
variable{X:Cx}{Xw:Nat->Hp->Prop}{a b:Expr}{δa δb:DE}{pos:Pos}
def af(h:PE X (.Name x pos) (g7 i)):PD X Xw (.Name x pos) (dV i):=PE.weak h λσ H Q ⟨F,Z,s,w⟩=>by
 unfold dV at w;split at w
 ·rename_i d e;obtain⟨v,h1,h2⟩:=s.den i _ e;exact⟨v,h1,WP.now w s.fh h2⟩
 ·exact w.elim
def iz(h:PE X e (tC v))(hd:∀F,Den X.K F d v):PD X Xw e (dC d):=PE.weak h λσ H Q ⟨F,Z,s,w⟩=>WP.now w s.fh (hd F)
def ar:PD X Xw (.Constant (.int i) j pos) (dC (.int i)):=iz Nz λ_=>rfl
def eX:PD X Xw (.Constant (.bool i) j pos) (dC (.bl i)):=iz Lk λ_=>rfl
def fM:PD X Xw (.Constant .none j pos) (dC .non):=iz NA λ_=>rfl
def dh(h:x.length<=lim:=by decide):PD X Xw (.Constant (.str x) j pos) (dC (.str x)):=iz ND λ_=>⟨rfl,h⟩
def Ac(K:X5)(r:R2)(g:D->D->M D):Prop:=∀(Xw:Nat->Hp->Prop) (F H:Hp) (x y:V) (dx dy:D) (Q:VK),Same F H->Den K F dx x->Den K F dy y->WP K Xw F H (g dx dy) Q->r x y H Q
def xB(hg:Ac X.K r g):∀σ H Q,tD X.K Xw (d2 g δa δb) σ H Q->OC r (tD X.K Xw δa) (tD X.K Xw δb) σ H Q:=λσ H Q ⟨F,Z,s,w⟩=>by
 refine⟨F,Z,s,WP.mono (WP.bind w) λv H1 ⟨F1,d,e1,q1,w1⟩=>?_⟩;refine⟨F1,Z,s.ext e1,WP.mono (WP.bind w1) λu H2 ⟨F2,d',e2,q2,w2⟩=>?_⟩;exact hg Xw F2 H2 v u d d' Q e2.fh (Den.mono e2.ff q1) q2 w2
def pw(ho:OpR X (aa6 op) r)(hg:Ac X.K r g)(ha:PD X Xw a δa)(hb:PD X Xw b δb):PD X Xw (.BinOp a op b pos) (d2 g δa δb):=
 PE.weak (Qt ho ha hb) (xB hg)
def G3(ho:OpR X (Y8 op) r)(hg:Ac X.K r g)(ha:PD X Xw a δa)(hb:PD X Xw b δb)(hm:Zf op b=false:=by first | exact GA _ | rfl):PD X Xw (.Compare a [op] [b] pos) (d2 g δa δb):=
 PE.weak (J3 ho ha hb hm) (xB hg)
def kx(ho:OpR X (Y8 op) r)(hg:Ac X.K r g)(ha:PD X Xw a δa)(hb:PD X Xw b δb)(hm:Zf op b=false:=by first | exact GA _ | rfl):qA X Xw (.Compare a [op] [b] pos) (dH (d2 g δa δb)):=
 PT.weak (Kh ho ha hb hm) λσ H Q ⟨F,Z,s,w⟩=>by
  refine xB hg σ H _ ⟨F,Z,s,WP.mono (WPB.bind w) λv H1 ⟨F1,d,e1,q1,w1⟩=>?_⟩;cases d with
  |bl k=>exact⟨k,q1,w1 _ _ (Ext.refl e1.fh)⟩
  |_=>exact w1.elim
def CD(hr:OH X r)(hg:Ac X.K r g)(ha:PD X Xw a δa)(hb:PD X Xw b δb)(hs:j8 b:=by intro _ _;rfl):PD X Xw (.Subscript a b pos) (d2 g δa δb):=
 PE.weak (Ll hr ha hb hs) (xB hg)
def ah:jm X Xw [] aN:=PA.weak oj λσ H Q ⟨F,Z,s,w⟩=>w [] H F (Ext.refl s.fh) rfl
def ae(ha:PD X Xw a δa)(hr:jm X Xw es δs)(hs:Yg (a::es) X.env=(false,eval a X.env)::Yg es X.env:=by rfl):jm X Xw (a::es) (aC δa δs):=
 PA.weak (qr ha hr hs) λσ H Q ⟨F,Z,s,w⟩=>by
  refine⟨F,Z,s,WP.mono (WPL.bind w) λv H1 ⟨F1,d,e1,q1,w1⟩=>?_⟩;refine⟨F1,Z,s.ext e1,WPL.mono (WPL.bindL w1) λvs H2 ⟨F2,ds,e2,q2,w2⟩=>?_⟩;exact w2 _ _ _ (Ext.refl e2.fh) (.cons (Den.mono e2.ff q1) q2)
def a6(ds:List D):M D:=if ds.length<=lim then aa (.tup ds) else ag
def cK(ds:List D):M D:=if ds.length<=lim then aa (.lst ds) else ag
def A1{f:List D->D}(w:WP X.K Xw F H (if ds.length<=lim then aa (f ds) else ag) Q):ds.length<=lim/\WP X.K Xw F H (aa (f ds)) Q:=by
 split at w
 ·rename_i h;exact⟨h,w⟩
 ·exact w.elim
def bG(h:jm X Xw es δs):PD X Xw (.Tuple es x1 pos) (dA a6 δs):=PE.weak (NF h) λσ H Q ⟨F,Z,s,w⟩=>by
 refine⟨F,Z,s,WPL.mono (WP.bindL w) λvs H1 ⟨F1,ds,e1,q1,w1⟩=>?_⟩;obtain⟨hl,w1⟩:=A1 w1;have hv:=q1.len;refine⟨by have:=cP;omega,λp hp=>WP.fin w1 (Ext.lay e1.fh hp) ⟨p,vs,rfl,aB,DenL.mono (Ext.lay e1.fh hp).ff q1,hl⟩⟩
def fL(h:jm X Xw es δs):PD X Xw (.List es pos) (dA cK δs):=PE.weak (Bj h) λσ H Q ⟨F,Z,s,w⟩=>by
 refine⟨F,Z,s,WPL.mono (WP.bindL w) λvs H1 ⟨F1,ds,e1,q1,w1⟩=>?_⟩;obtain⟨hl,w1⟩:=A1 w1;have hv:=q1.len;refine⟨by have:=cP;omega,λp hp=>WP.fin w1 (Ext.lay e1.fh hp) ⟨p,vs,rfl,aB,DenL.mono (Ext.lay e1.fh hp).ff q1,hl⟩⟩
end
def ItD(K:X5)(F:Hp)(J:It)(ds:List D):Prop:=∀(F' H':Hp) (i:Nat),Same F F'->Same F' H'->
 (∀d,ds[i]? =some d->J.go i H'/\∀x H'',J.yld i H' x H''->∃F'',Ext F' H' F'' H''/\Den K F'' d x)/\(ds.length<=i->J.stop i H')
def ItD.mono{K:X5}(h:ItD K F J ds)(e:Same F F1):ItD K F1 J ds:=λF' H' i s1 s2=>h F' H' i (e.trans s1) s2
def WPI(K:X5)(Xw:Nat->Hp->Prop)(F H:Hp)(m:M (List D))(R:It->Hp->Prop):Prop:=
 match m with
 |none=>False
 |some (.ok ds)=>∀J H' F',Ext F H F' H'->ItD K F' J ds->R J H'
 |some (.ex n)=>∀F' H',Ext F H F' H'->Xw n H'
def TZ(K:X5)(Xw:Nat->Hp->Prop)(δ:DA):TI:=λσ H R=>∃F Z,StE K F H σ Z/\WPI K Xw F H (δ Z) R
def xQ(X:Cx)(Xw:Nat->Hp->Prop)(tg iter:Expr)(δ:DA):Prop:=PI X tg iter (TZ X.K Xw δ)
def PI.weak{X:Cx}(h:PI X tg e t)(k:∀σ H Q,t' σ H Q->t σ H Q):PI X tg e t':=λf8 s σ H Q I w=>h f8 s σ H Q I (k σ H Q w)
def WPI.bind{K:X5}(h:WPI K Xw F H (m>>=k) R):
 WP K Xw F H m λv H1=>∃F1 d,Ext F H F1 H1/\Den K F1 d v/\WPI K Xw F1 H1 (k d) R:=by
 match m,h with
 |none,h=>exact h
 |some (.ok d),h=>
  refine λv H2 F2 e2 q=>⟨F2,d,e2,q,?_⟩
  have h:WPI K Xw F H (k d) R:=h;show WPI K Xw F2 H2 (k d) R
  match k d,h with
  |none,h=>exact h
  |some (.ok ds),h=>exact λJ H3 F3 e3 q3=>h J H3 F3 (e2.trans e3) q3
  |some (.ex n),h=>exact λF3 H3 e3=>h F3 H3 (e2.trans e3)
 |some (.ex n),h=>exact h
def WPI.bindL{K:X5}(h:WPI K Xw F H (m>>=k) R):
 WPL K Xw F H m λv H1=>∃F1 d,Ext F H F1 H1/\DenL K F1 d v/\WPI K Xw F1 H1 (k d) R:=by
 match m,h with
 |none,h=>exact h
 |some (.ok d),h=>
  refine λv H2 F2 e2 q=>⟨F2,d,e2,q,?_⟩
  have h:WPI K Xw F H (k d) R:=h;show WPI K Xw F2 H2 (k d) R
  match k d,h with
  |none,h=>exact h
  |some (.ok ds),h=>exact λJ H3 F3 e3 q3=>h J H3 F3 (e2.trans e3) q3
  |some (.ex n),h=>exact λF3 H3 e3=>h F3 H3 (e2.trans e3)
 |some (.ex n),h=>exact h
def lstM:D->M (List D)
 | .lst ds=>aa ds
 |_=>ag
def Ua:D->M (List D)
 | .tup ds=>aa ds
 |_=>ag
def cR(a:DE):DA:=λZ=>a Z>>=lstM
def pU(a:DE):DA:=λZ=>a Z>>=Ua
def Gd{K:X5}(h:SqL K F a vs)(hd:DenL K F ds vs):ItD K F (RK K a) ds:=λF' H' i s1 s2=>by
 have hs:=Same.seq s2 (Same.seq s1 h);refine⟨λd e=>?_,λhl=>⟨vs,hs,by rw[<-hd.len];exact hl⟩⟩;obtain⟨v,e1,q⟩:=hd.get e;refine⟨⟨vs,v,hs,e1⟩,λx H'' y=>?_⟩;obtain⟨e2,y⟩:=y;subst e2;have:=y vs hs;rw[e1] at this;cases this;exact⟨F',Ext.refl s2,Den.mono s1 q⟩
def Jm{K:X5}(h:SqT K F a vs)(hd:DenL K F ds vs):ItD K F (RL K a) ds:=λF' H' i s1 s2=>by
 have hs:=Same.tup s2 (Same.tup s1 h);refine⟨λd e=>?_,λhl=>⟨vs,hs,by rw[<-hd.len];exact hl⟩⟩;obtain⟨v,e1,q⟩:=hd.get e;refine⟨⟨vs,v,hs,e1⟩,λx H'' y=>?_⟩;obtain⟨e2,y⟩:=y;subst e2;have:=y vs hs;rw[e1] at this;cases this;exact⟨F',Ext.refl s2,Den.mono s1 q⟩
def iF(lo:Int)(n:Nat):List D:=(Yp n).map λ(i:Nat)=>D.int (lo+(i:Int))
def uN{K:X5}{F:Hp}(lo:Int)(n:Nat):ItD K F (OG lo n) (iF lo n):=λF' H' i s1 s2=>by
 refine⟨λd e=>?_,λhl=>show n<=i by simpa[iF] using hl⟩;unfold iF at e;rw[X6] at e;have hi:i<n:=by
  by_cases hi:i<n
  ·exact hi
  ·rw[abR (by simpa using hi)] at e;cases e
 rw[ad3 hi] at e;cases e;refine⟨hi,λx H'' y=>?_⟩;obtain⟨e2,y⟩:=y;subst e2 y;exact⟨F',Ext.refl s2,rfl⟩
section
variable{X:Cx}{Xw:Nat->Hp->Prop}{tg l:Expr}{δ:DE}{pos:Pos}
def a7(h:PD X Xw l δ):xQ X Xw tg l (cR δ):=PI.weak (J_ h) λσ H R ⟨F,Z,s,w⟩=>by
 refine⟨F,Z,s,WP.mono (WPI.bind w) λv H1 ⟨F1,d,e1,q1,w1⟩=>?_⟩;cases d with
 |lst ds=>
  obtain⟨a,vs,h1,h2,h3,h4⟩:=q1;exact⟨a,h1,⟨vs,Same.seq e1.fh (SqL.of h2)⟩,w1 _ _ _ (Ext.refl e1.fh) (Gd (SqL.of h2) h3)⟩
 |_=>exact w1.elim
def kr(h:PD X Xw l δ):xQ X Xw tg l (pU δ):=PI.weak (NJ h) λσ H R ⟨F,Z,s,w⟩=>by
 refine⟨F,Z,s,WP.mono (WPI.bind w) λv H1 ⟨F1,d,e1,q1,w1⟩=>?_⟩;cases d with
 |tup ds=>
  obtain⟨a,vs,h1,h2,h3,h4⟩:=q1;exact⟨a,h1,⟨vs,Same.tup e1.fh (SqT.of h2)⟩,w1 _ _ _ (Ext.refl e1.fh) (Jm (SqT.of h2) h3)⟩
 |_=>exact w1.elim
def dQ:List D->M (List D)
 |[.int j]=>if -4096<=j/\j<=4096 then aa (iF 0 j.toNat) else ag
 |_=>ag
def vj:List D->M (List D)
 |[.int i, .int j]=>if (-4096<=i/\i<=4096)/\(-4096<=j/\j<=4096) then aa (iF i (j - i).toNat) else ag
 |_=>ag
def DenL.one{K:X5}(h:DenL K F [d] vs):∃v,vs=[v]/\Den K F d v:=by
 obtain⟨v,r,h1,h2,h3⟩:=h;cases (show r=[] from h3);exact⟨v,h1,h2⟩
def DenL.two{K:X5}(h:DenL K F [d,d'] vs):∃v v',vs=[v,v']/\Den K F d v/\Den K F d' v':=by
 obtain⟨v,r,h1,h2,h3⟩:=h;obtain⟨v',h4,h5⟩:=h3.one;subst h4;exact⟨v,v',h1,h2,h5⟩
def bx{a:Expr}(hg:Gl X "range")(hm:X.mg "range"=none)(ha:jm X Xw [a] δs)(hs:Yg [a] X.env=[(false,eval a X.env)]:=by rfl):xQ X Xw tg (.Call (.Name "range" p) [a] [] pos) (λZ=>δs Z>>=dQ):=
 PI.weak (En hg hm ha hs) λσ H R ⟨F,Z,s,w⟩=>by
  refine⟨F,Z,s,WPL.mono (WPI.bindL w) λvs H1 ⟨F1,ds,e1,q1,w1⟩=>?_⟩;unfold dQ at w1;split at w1
  ·rename_i j;obtain⟨v,h1,h2⟩:=q1.one;cases (show v=_ from h2);split at w1
   ·exact⟨j,h1,by omega,by omega,w1 _ _ _ (Ext.refl e1.fh) (uN 0 _)⟩
   ·exact w1.elim
  ·exact w1.elim
def sD{a b:Expr}(hg:Gl X "range")(hm:X.mg "range"=none)(ha:jm X Xw [a,b] δs)(hs:Yg [a,b] X.env=[(false,eval a X.env),(false,eval b X.env)]:=by rfl)
 (Jg:Yg [b] X.env=[(false,eval b X.env)]:=by rfl):xQ X Xw tg (.Call (.Name "range" p) [a,b] [] pos) (λZ=>δs Z>>=vj):=
 PI.weak (Eo hg hm ha hs Jg) λσ H R ⟨F,Z,s,w⟩=>by
  refine⟨F,Z,s,WPL.mono (WPI.bindL w) λvs H1 ⟨F1,ds,e1,q1,w1⟩=>?_⟩;unfold vj at w1;split at w1
  ·rename_i i j;obtain⟨v,v',h1,h2,h3⟩:=q1.two;cases (show v=_ from h2);cases (show v'=_ from h3);split at w1
   ·exact⟨i,j,h1,⟨by omega,by omega,by omega,by omega⟩,w1 _ _ _ (Ext.refl e1.fh) (uN i _)⟩
   ·exact w1.elim
  ·exact w1.elim
end
def bV(tg N:List Str):List Str:=N.map λy=>if tg.contains y then y++(" ":Str) else y
def fw(X:Cx)(scope:Scope)(tn:List Str)(f8:List (Addr×Obj))(cl:List (Str×Addr))(C:Addr)(fp:List Addr)(v4:X1)(H:Hp):Cx:=
 {X with N:=tn++bV tn X.N,aeI:=v4,aeH:=H,env:=aeb scope cl C X.env,outer:=X.stack,ex:=fp,fn:=λ_=>false,pn:=X.pn++f8,xe:=λ_ _=>False}
structure CompSc (X:Cx) (scope:Scope) (tn:List Str):Prop where
 kind:scope.kind= .function
 nocell:∀y∈scope.names,y.2≠ .cell
 names:∀y∈scope.names,y.2= .local->scope.names.lookup y.1=some .local
 frees:∀y∈scope.names,y.2= .free->X.env.kindOf y.1=some .cell\/X.env.kindOf y.1=some .free
 vis:∀p∈(bV tn X.N).zip X.N,scope.names.lookup p.1=none\/(p.1=p.2/\scope.names.lookup p.1=some .free)
def lj{env:Env}:∀(names:List (Str×aby)) (v6:List (Str×Addr)),(∀y∈names,y.2= .free->∃c,env.cells.lookup y.1=some c)->
 (∀x c,v6.lookup x=some c->env.cells.lookup x=some c)->
 ∃cl,(forIn names v6 (λ(x:Str×aby) (r:List (Str×Addr))=>do
   let __x:=x
   if (__x.2==aes)=true then do let c<-cellOf env __x.1;pure (Zd ((__x.1,c)::r)) else pure (Zd r)):Sem (List (Str×Addr)))=pure cl/\
  (∀x c,cl.lookup x=some c->env.cells.lookup x=some c)/\(∀x c,v6.lookup x=some c->∃c',cl.lookup x=some c')/\(∀x,names.lookup x=some .free->∃c,cl.lookup x=some c)
 |[],v6,_,h2=>⟨v6,rfl,h2,λx c e=>⟨c,e⟩,λx e=>by simp at e⟩
 |(n,k)::r,v6,h1,h2=>by
  by_cases hk:k= .free
  ·subst hk;obtain⟨c,hc⟩:=h1 (n, .free) XU rfl;obtain⟨cl,e,a1,a2,a3⟩:=lj r ((n,c)::v6) (λy hy=>h1 y (XT _ hy)) (λx c' q=>by
    rw[ZN] at q;split at q
    ·rename_i hx;cases q;rw[show x=n from by simpa using hx];exact hc
    ·exact h2 x c' q)
   refine⟨cl,?_,a1,λx c' q=>?_,λx q=>?_⟩
   ·rw[acQ];have:cellOf env n=pure c:=by unfold cellOf;rw[hc]
    simp only[beq_self_eq_true,if_true,this,pure_bind];exact e
   ·by_cases hx:x=n
    ·subst hx;exact a2 x c (by simp[ZN])
    ·exact a2 x c' (by rw[ZN,show (x==n)=false from by simpa using hx];exact q)
   ·rw[ZN] at q;split at q
    ·rename_i hx;exact a2 x c (by rw[ZN,hx])
    ·exact a3 x q
  ·obtain⟨cl,e,a1,a2,a3⟩:=lj r v6 (λy hy=>h1 y (XT _ hy)) h2;refine⟨cl,?_,a1,a2,λx q=>?_⟩
   ·rw[acQ];have:((k==aes)=true)=False:=by simpa using hk
    simp only[this,if_false,pure_bind];exact e
   ·rw[ZN] at q;split at q
    ·cases q;exact aeB rfl hk
    ·exact a3 x q
def ll{scope:Scope}(h:∀y∈scope.names,y.2= .free->∃c,env.cells.lookup y.1=some c):
 ∃cl,closureFor scope env=pure cl/\(∀x c,cl.lookup x=some c->env.cells.lookup x=some c)/\(∀x,scope.names.lookup x=some .free->∃c,cl.lookup x=some c):=by
 obtain⟨cl,e,a1,_,a3⟩:=lj scope.names [] h (λx c q=>by simp at q);refine⟨cl,?_,a1,a3⟩;unfold closureFor;show (forIn scope.names [] _>>=λr=>pure r)=_;rw[bind_pure];exact e
def noex:M α->M α
 |some (.ok a)=>some (.ok a)
 |_=>none
def ei(f:D->M (Option D)):List D->M (List D)
 |[]=>aa []
 |d::ds=>f d>>=λo=>ei f ds>>=λr=>aa (match o with | some y=>y::r | none=>r)
def Vo(n:Nat):D->M (List D):=λd=>match n,d with
 |0,d=>aa [d]
 |n, .tup ds=>if ds.length=n then aa ds else ag
 |_,_=>ag
def je(n:Nat)(δt:DT)(δe:DE)(Z:bH):D->M (Option D):=λd=>
 Vo n d>>=λts=>δt (ts.map (λt=>some (Sl.fz t))++Z)>>=λb=>if b then δe (ts.map (λt=>some (Sl.fz t))++Z)>>=λy=>aa (some y) else aa none
def bB(n:Nat)(δi:DA)(δt:DT)(δe:DE):DE:=λZ=>δi Z>>=λds=>noex (ei (je n δt δe Z) ds)>>=cK
def bQ:DT:=λ_=>aa true
def gg(f:D->M (Option D))(d:D)(ds:List D):ei f (d::ds)=(f d>>=λo=>ei f ds>>=λr=>aa (match o with | some y=>y::r | none=>r)):=rfl
def Ax(hd:ds[i]? =some d)
 (h:ei f ds=(ei f (ds.drop i)>>=λr=>aa (ys++r)))(hR:ei f ds=aa R):
 ∃o,f d=aa o/\ei f ds=(ei f (ds.drop (i+1))>>=λr=>aa ((match o with | some y=>ys++[y] | none=>ys)++r)):=by
 have e:ds.drop i=d::ds.drop (i+1):=by
  obtain⟨hi,e⟩:=X0.mp hd;rw[abn hi,e]
 rw[e,gg] at h;have h':=h.symm.trans hR;obtain⟨r,h1,h2⟩:=cV h';obtain⟨o,h3,h4⟩:=cV h1;refine⟨o,h3,?_⟩;obtain⟨r',h5,h6⟩:=cV h4;rw[h5,hR];rw[<-h2,<-d8 h6];show aa _=aa _;cases o with
 |none=>rfl
 |some y=>simp
def zQ(x:HOk P w H h1)(s:Z_ a h1 h2)(n:H a=none):HOk P w H h2:=λb o e=>by
 refine(x b o e).stay (λc v hc q=>(s.2 c ?_).trans q) (λ_ q=>q) λ_ _ q=>q;rintro rfl;rcases hc with rfl | hc
 ·rw[n] at e;cases e
 ·rw[n] at hc;cases hc
def uB(I:Nat->X1->Prop)
 (turn:∀n s,I n s->wpAny (model prog w) A (ab_ it) (λr T0=>match r with
  |none=>R (.ok .next) T0
  |some v=>wpAny (model prog w) A (aca target it v) (λ_ Vl=>wpAny (model prog w) A (assign target env v) (λ_ v4=>
    wpAny (model prog w) A (forIn ifs true λc r=>if r=true then do let ok<-isTrue c env (eval c env);pure (Zd ok) else pure (Zd r)) (λok s₃=>
     if ok=true then wpAny (model prog w) A (eval elt env) (λx s₄=>
      wpAny (model prog w) A (call (.builtin "list.append") [v6,x]) (λ_ s₅=>∃m,m<n/\I m s₅) (aea (model prog w) A env λe s'=>R (.error e) s') s₄) (aea (model prog w) A env λe s'=>R (.error e) s') s₃
     else∃m,m<n/\I m s₃) (aea (model prog w) A env λe s'=>R (.error e) s') v4) (aea (model prog w) A env λe s'=>R (.error e) s') Vl) (aea (model prog w) A env λe s'=>R (.error e) s') T0) (aea (model prog w) A env λe s'=>R (.error e) s') s)
 (n:Nat) (h:I n s):
 aa5 (model prog w) A (.compLoop (.ListComp elt [⟨target,iter,ifs,0⟩] scope pos) 0 it v6 env) R s:=by
 refine codeAny_loop rfl I (λn s hI=>?_) n h;show wpAny _ A ((compTurn (.ListComp elt [⟨target,iter,ifs,0⟩] scope pos) 0 it v6 env).onRaise (λx=>do noteFrame x env;theTreesLotGoes x)) _ _ s;refine wpAny_noted ?_;rw[compTurn_list];refine XX (ad6 (XX (Y2 (turn n s hI) (λr T0 h₁=>?_) λ_ _ h'=>h')));cases r with
 |none=>exact Yc h₁
 |some v=>
  refine XX (Y2 h₁ (λ_ Vl h₁=>?_) λ_ _ h'=>h');refine XX (Y2 h₁ (λ_ v4 h₂=>XX (Y2 h₂ (λok s₃ h₃=>?_) λ_ _ h'=>h')) λ_ _ h'=>h');cases ok with
  |false=>exact Yc ⟨rfl,h₃⟩
  |true=>
   exact XX (XX (Y2 h₃ (λx s₄ h₄=>XX (Y2 h₄ (λ_ s₅ h₅=>Yc (Yc ⟨rfl,h₅⟩)) λ_ _ h'=>h')) λ_ _ h'=>h'))
def xY(X:Cx)(tg:Expr)(n:Nat)(σ:St):Prop:=∀(f8:List (Addr×Obj)) (s:X1) (σ':St) (F H:Hp) (d:D) (ts:List D) (v:V) (u:Value),Inv X f8 σ' H s->Same F H->σ'.drop (max n 1)=σ->RelV v u->Den X.K F d v->Vo n d=aa ts->
 wpAny (model X.prog X.w) X.A (assign tg X.env u) (λ_ s'=>∃vs,Inv X f8 (vs.map some++σ) H s'/\DenL X.K F ts vs) X.xe s
def iJ(X:Cx)(ifs:List Expr)(δt:DT):Prop:=∀(f8:List (Addr×Obj)) (s:X1) (σ:St) (H:Hp) (Q:Bool->Hp->Prop),Inv X f8 σ H s->RE X.K (λ_ _=>False) δt σ H Q->
 wpAny (model X.prog X.w) X.A (forIn ifs true λc r=>if r=true then do let ok<-isTrue c X.env (eval c X.env);pure (Zd ok) else pure (Zd r)) (TP X f8 σ Q) X.xe s
def bL:iJ X [] bQ:=λf8 s σ H Q I ⟨F,Z,S,w⟩=>wpAny_tests_nil ⟨H,I,w H F (Ext.refl S.fh)⟩
def HQ(h:qA X (λ_ _=>False) c δ):iJ X [c] δ:=λf8 s σ H Q I w=>wpAny_tests_one (h f8 s σ H Q I w)
def StE.cons{K:X5}(s:StE K F H σ Z)(h:DenL K F ts vs):StE K F H (vs.map some++σ) (ts.map (λt=>some (Sl.fz t))++Z):=by
 refine⟨s.fh,λi sl e=>?_⟩;have hl:=h.len;by_cases hi:i<ts.length
 ·rw[YA (by simpa using hi),X6] at e;cases q:ts[i]? with
  |none=>rw[q] at e;cases e
  |some t=>
   rw[q] at e;cases e;obtain⟨v,e1,e2⟩:=h.get q;exact⟨v,by rw[YA (by simp;omega),X6,e1];rfl,e2⟩
 ·rw[YL (by simpa using hi)] at e;obtain⟨v,e1,e2⟩:=s.den _ _ e;refine⟨v,?_,e2⟩;rw[YL (by simp;omega)];simpa[hl] using e1
def WPB.take:WPB Xw F H (aa b) λb' H'=>b'=b/\∃F',Ext F H F' H':=λH' F' e=>⟨rfl,F',e⟩
def WP.take{K:X5}:WP K Xw F H (aa d) λv H'=>∃F',Ext F H F' H'/\Den K F' d v:=λv H' F' e q=>⟨F',e,q⟩
def oD(env:Env)(p:Str×aby):Str×aby:=if (p.2== .free&&env.scope.kind== .function&&env.kindOf p.1==some .cell) then(p.1, .cell) else(p.1,p.2)
def gY(scope:Scope)(env:Env):(relabel scope env).names=scope.names.map (oD env):=rfl
def Hs(env:Env)(p:Str×aby):(oD env p).1=p.1:=by unfold oD;split<;>rfl
def iS(env:Env)(x:Str):∀ns:List (Str×aby),(ns.map (oD env)).lookup x=(ns.lookup x).map λk=>(oD env (x,k)).2
 |[]=>rfl
 |(m,k)::r=>by
  rw[X3,ZN,ZN];have e:oD env (m,k)=(m,(oD env (m,k)).2):=abX (Hs env (m,k)) rfl;rw[e]
  dsimp only
  by_cases hx:(x==m)=true
  ·have hm:x=m:=by simpa using hx
   subst hm;rw[hx];rfl
  ·have hx:(x==m)=false:=by simpa using hx
   rw[hx];exact iS env x r
def mX(h:scope.names.lookup x=none):(relabel scope env).names.lookup x=none:=by
 rw[gY,iS,h];rfl
def mW(hc:∀y∈scope.names,y.2≠ .cell)(h:(relabel scope env).names.lookup x=some .cell\/(relabel scope env).names.lookup x=some .free):scope.names.lookup x=some .free:=by
 rw[gY,iS] at h;cases q:scope.names.lookup x with
 |none=>rw[q] at h;rcases h with h | h<;>cases h
 |some k=>
  rw[q] at h;have hk:k≠ .cell:=hc _ (Zj q);have h:(oD env (x,k)).2= .cell\/(oD env (x,k)).2= .free:=by simpa using h
  by_cases hf:k= .free
  ·rw[hf]
  ·have:(oD env (x,k)).2=k:=by
    unfold oD;rw[aey];simp[hf]
   rw[this] at h;rcases h with h | h
   ·exact aeB h hk
   ·exact aeB h hf
def iE(h:scope.names.lookup x=some .free):¬(relabel scope env).names.lookup x=some .local:=by
 rw[gY,iS,h];intro z;have z:(oD env (x, .free)).2= .local:=by simpa using z
 unfold oD at z;split at z<;>cases z
structure BlockEnd (X:Cx) (f8:List (Addr×Obj)) (C:Addr) (H':Hp) (s1:X1):Prop where
 ns:∃m,s1.heap.Ns C m
 free:H' C=none
 nl:C≠X.env.locals
 nw:X.aeI.heap.objs.size<=C
 nc:∀x c,X.env.cells.lookup x=some c->c≠C
 np:∀p∈X.pn++f8,p.1≠C
def yl{RR:Value->Addr->Result->X1->Prop}
 (sc:CompSc X scope tn)(hn:tn.length=max n 1)(hc:X.calm=true)(hi:xQ X Xw tg iter δi)
 (hg:∀f8 cl C fp v4 H σ,xY (fw X scope tn f8 cl C fp v4 H) tg n σ)
 (ht:∀f8 cl C fp v4 H,iJ (fw X scope tn f8 cl C fp v4 H) ifs δt)
 (he:∀f8 cl C fp v4 H,PD (fw X scope tn f8 cl C fp v4 H) (λ_ _=>False) elt δe)
 (I:Inv X f8 σ H s)(S:StE X.K F H σ Z)(w:WP X.K Xw F H (bB n δi δt δe Z) Q)
 (cl1:∀x c,cl.lookup x=some c->X.env.cells.lookup x=some c)(Fm:∀x,scope.names.lookup x=some .free->∃c,cl.lookup x=some c)
 (Sb:∀(s1:X1) (C D:Addr) (H':Hp),Inv X f8 σ H' s1->Q (.ref D) H'->BlockEnd X f8 C H' s1->RR (.ref D) C (.ok .next) s1):
 wpAny (model X.prog X.w) X.A (eval iter X.env) (λx T0=>wpAny (model X.prog X.w) X.A (pyIter x) (λit v4=>wpAny (model X.prog X.w) X.A (newList []) (λv6 s₃=>
  wpAny (model X.prog X.w) X.A (newFunctionEnv scope X.env.globals cl [] X.env.qual none .none (some X.env)) (λFj s₄=>
   aa5 (model X.prog X.w) X.A (.compStart (.ListComp elt [⟨tg,iter,ifs,0⟩] scope pos) 0 it v6 {Fj with scope:=relabel scope X.env}) (RR v6 Fj.locals) s₄) X.xe s₃) X.xe v4) X.xe T0) X.xe s:=by
 refine bX (hi f8 s σ H (λJ H2=>∃F2 ds,Ext F H F2 H2/\ItD X.K F2 J ds/\WP X.K Xw F2 H2 (noex (ei (je n δt δe Z) ds)>>=cK) Q) I ⟨F,Z,S,?_⟩) λxv T0 h₁=>bX h₁ λit v4 h₂=>?_
 ·unfold bB at w;rcases(δi Z).cs with hq | ⟨m,hq⟩ | ⟨ds,hq⟩
  ·rw[hq] at w;exact w.elim
  ·rw[hq] at w⊢;exact w
  ·rw[hq] at w⊢;exact λJ H' F' e q=>⟨F',ds,e,q,WP.ext e w⟩
 obtain⟨ia,fp,QY,J,H2,rfl,I2,T,tG,f2,F2,ds,e2,P6,w2⟩:=h₂;obtain⟨R,hR,Sd,w2⟩:∃R,ei (je n δt δe Z) ds=aa R/\R.length<=lim/\WP X.K Xw F2 H2 (aa (.lst R)) Q:=by
  rcases(ei (je n δt δe Z) ds).cs with hq | ⟨m,hq⟩ | ⟨R,hq⟩
  ·rw[hq] at w2;exact w2.elim
  ·rw[hq] at w2;exact w2.elim
  ·rw[hq] at w2;obtain⟨h1,h2⟩:=A1 (show WP X.K Xw F2 H2 (cK R) Q from w2);exact⟨R,hq,h1,h2⟩
 refine aad (wpAny_newFunctionEnv sc.nocell (by intro y hy;simp at hy) (λh₁ AO vT=>?_) sc.kind)
 dsimp only at AO vT⊢
 generalize Mm:v4.heap.push {cls:= .type "list",dict:=none,data:= .seq ([]:List Value).toArray}=HL at AO vT⊢;have hC:HL.objs.size=v4.heap.objs.size+1:=by rw[<-Mm,ZV]
 have nO:v4.heap.objs.size<HL.objs.size:=by rw[hC];exact ZS _
 have old:∀b o,v4.heap.get? b=some o->h₁.get? b=some o:=λb o e=>vT.extBut b o (Ym (Zg (Yd e) nO)) (XZ _ (Mm▸XZ _ e));have nP:h₁.get? v4.heap.objs.size=some {cls:= .type "list",data:= .seq ([]:List Value).toArray}:=vT.extBut _ _ (Ym nO) (XZ _ (Mm▸Yj _ rfl));have nD:H2 v4.heap.objs.size=none:=I2.hok.fresh (X4 _);have nC:H2 HL.objs.size=none:=I2.hok.fresh (YY nO);have gC:v4.heap.get? HL.objs.size=none:=ab5 (YY nO);have fl:∀b∈fp,b<v4.heap.objs.size:=λb hb=>by
  obtain⟨o,e,_⟩:=T.obj 0 _ tG b hb;exact Yd e
 generalize jx:fw X scope tn f8 cl HL.objs.size fp v4 H2=X';have Qk:X'.Ok:=by
  subst jx;refine⟨I2.ok.mod,sc.kind,I2.ok.glob,I2.ok.blt,YY nO,λx y c h1 h2=>I2.ok.inj x y c (cl1 _ _ h1) (cl1 _ _ h2),λx hx=>?_,λ_ _ h=>(by cases h),I2.ok.hd,I2.ok.frames, .inl rfl,
   λb hb=>⟨Ym (Zg (fl b hb) nO),λx c h=>(f2 b hb).2.2.2.2.1 x c (cl1 _ _ h)⟩,I2.bs,Yy I2.ok.bsz I2.sz,λb o e hb=>?_,λb hb z=>?_,I2.stack,I2.stkFree⟩
  ·have hx:(relabel scope X.env).names.lookup x=some .cell\/(relabel scope X.env).names.lookup x=some .free:=hx;exact Fm x (mW sc.nocell hx)
  ·rcases(f2 b hb).2.2.2.1 with z | z
   ·exact I2.ok.noex b o e z
   ·exact aeB (YD (Yd (I2.ok.bs b o e).1) z) (YV _)
  ·rcases XY.mp (I2.stkSub b z) with q | q
   ·exact(f2 b hb).2.1 q
   ·exact(f2 b hb).2.2.1 q
 have Oy:∀b o,H2 b=some o->b≠v4.heap.objs.size:=λb o e=>a_ e nD;have AF:∀{H':Hp},(∀b∈fp,H' b=none)->∀b∈fp,qy X' [] H' b:=λPx b hb=>by
  subst jx;refine⟨Px b hb,Ym (Zg (fl b hb) nO),λz=>Qk.exfs b hb z, .inl hb,λx c h=>(f2 b hb).2.2.2.2.1 x c (cl1 _ _ h),λp hp=>?_⟩;rw[YR] at hp;exact(f2 b hb).2.2.2.2.2 p hp
 have I0:Inv X' [] (Ye (max n 1) none++σ) (upd H2 v4.heap.objs.size (.lst [])) {v4 with heap:=h₁,toks:=v4.toks+([]:List (Str×Value)).length}:=by
  subst jx;have MA:HOk X.prog X.w (upd H2 v4.heap.objs.size (.lst [])) h₁:=I2.hok.laid old (X4 _) ⟨YC _,[],_, .nil,nP⟩;refine⟨Qk,rfl,I2.bare,Un.laid old (X4 _) nD,⟨_,AO,λi x v h1 h2 h3=>?_⟩,λx c h=>?_,?_,λx c h=>?_,λp hp=>?_,MA,?_⟩
  ·by_cases hi:i<max n 1
   ·rw[YA (by simpa using hi),Za,aex hi] at h2;cases h2
   ·have IZ:tn.length<=i:=by omega
    have h1:(tn++bV tn X.N)[i]? =some x:=h1;rw[YL IZ] at h1;rw[YL (by simpa using hi),ZU,<-hn] at h2;have hN:∃y,X.N[i - tn.length]? =some y/\(x,y)∈(bV tn X.N).zip X.N:=by
     have dW:=(X0.mp h1).1;have vS:i - tn.length<X.N.length:=by simpa[bV] using dW
     refine⟨X.N[i - tn.length],XW vS,?_⟩;refine aaq.mpr ⟨i - tn.length,?_⟩;rw[abl];exact⟨h1,XW vS⟩
    obtain⟨y,hy,hm⟩:=hN;have hV:(relabel scope X.env).names.lookup x=some .local\/(relabel scope X.env).names.lookup x=some .cell\/(relabel scope X.env).names.lookup x=some .free:=h3;rcases sc.vis _ hm with AN | ⟨MG,xT⟩
    ·have AN:scope.names.lookup x=none:=AN;have:(relabel scope X.env).names.lookup x=none:=mX AN;rw[this] at hV;rcases hV with z | z | z<;>cases z
    ·have MG:x=y:=MG;subst MG;have xT:scope.names.lookup x=some .free:=xT;have hk:=sc.frees (x, .free) (Zj xT) rfl;obtain⟨m,ET,FW⟩:=I2.loc;obtain⟨u,ru,lk⟩:=FW _ x v hy h2 (by rcases hk with z | z;exact .inr (.inl z);exact .inr (.inr z));refine⟨u,ru, .inr ⟨?_,?_⟩⟩
     ·rcases hV with z | z | z
      ·exact aeB z (iE xT)
      ·exact .inl z
      ·exact .inr z
     ·rcases lk with⟨z,_⟩ | ⟨_,c,Rk,DD⟩
      ·rcases hk with q | q
       ·rw[show X.env.kindOf x=some .local from z] at q;cases q
       ·rw[show X.env.kindOf x=some .local from z] at q;cases q
      ·obtain⟨c',xS⟩:=Fm x xT;have:=cl1 _ _ xS;rw[Rk] at this;cases this;obtain⟨o,ho,hd⟩:=DD;exact⟨c,xS,o,old _ _ ho,hd⟩
  ·obtain⟨v,o,ho,hd⟩:=I2.cell x c (cl1 _ _ h);exact⟨v,o,old _ _ ho,hd⟩
  ·show upd H2 v4.heap.objs.size (.lst []) HL.objs.size=none;rw[av (aab nO)];exact nC
  ·have K4:=cl1 _ _ h;obtain⟨v,q⟩:=I2.cell x c K4;rw[av (Ym q.lt)];exact I2.freeC x c K4
  ·rw[YR] at hp;obtain⟨e,nn,ne,nf,d⟩:=I2.pin p hp;have dW:=Yd e;refine⟨old _ _ e,by rw[av (Ym dW)];exact nn,Ym (Zg dW nO),λz=>?_,d⟩;rcases XY.mp (I2.stkSub p.1 z) with q | q
   ·exact ne q
   ·exact nf q
  ·show (Ye (max n 1) none++σ).length=(tn++bV tn X.N).length;rw[X8,X8,ZU,hn,show (bV tn X.N).length=X.N.length from by simp[bV],I2.len]
 have loop:∀s₃:X1,s₃={v4 with heap:=h₁,toks:=v4.toks+([]:List (Str×Value)).length}->
  aa5 (model X.prog X.w) X.A (.compLoop (.ListComp elt [⟨tg,iter,ifs,0⟩] scope pos) 0 (.ref ia) (.ref v4.heap.objs.size) (aeb scope cl HL.objs.size X.env))
   (RR (.ref v4.heap.objs.size) HL.objs.size) s₃:=by
  intro s₃ SS;have qQ:X'.env=aeb scope cl HL.objs.size X.env:=by subst jx;rfl
  have hA:X'.A=X.A:=by subst jx;rfl
  have hP:X'.prog=X.prog:=by subst jx;rfl
  have hw:X'.w=X.w:=by subst jx;rfl
  have hK:X'.K=X.K:=by subst jx;rfl
  have S7:X'.xe=λ_ _=>False:=by subst jx;rfl
  have yJ:X'.calm=true:=by subst jx;exact hc
  have Ss:X'.fs=gV X.stack:=by subst jx;rfl
  have hex:X'.ex=fp:=by subst jx;rfl
  have R9:X'.aeH=H2:=by subst jx;rfl
  have PQ:X'.aeI=v4:=by subst jx;rfl
  have pass:∀{α:Type}{t:Sem α}{P:α->X1->Prop}{E':Value->X1->Prop}{s:X1},wpAny (model X'.prog X'.w) X'.A t P X'.xe s->wpAny (model X.prog X.w) X.A t P E' s:=λ{α t P E' s} h=>by
   rw[hP,hw,hA,S7] at h;exact Y2 h (λ_ _ q=>q) λ_ _ q=>q.elim
  refine uB (λm s'=>∃(i:Nat) (F' H':Hp) (vs:List V) (ys:List D) (σt:St),m=ds.length - i/\i<=ds.length/\σt.length=max n 1/\Inv X' [] (σt++σ) H' s'/\QY i s'.heap/\(∀b∈fp,H' b=none)/\Ext F2 H2 F' H'/\
   H' v4.heap.objs.size=some (.lst vs)/\F' v4.heap.objs.size=none/\DenL X.K F' ys vs/\ei (je n δt δe Z) ds=(ei (je n δt δe Z) (ds.drop i)>>=λr=>aa (ys++r))) ?_ ds.length ?_
  ·rintro m s' ⟨i,F',H',vs,ys,σt,rfl,Pl,Ta,I',pG,O1,qg,hD,fD,Ru,heq⟩;by_cases dW:i<ds.length
   ·
    obtain⟨d,hd⟩:∃d,ds[i]? =some d:=⟨_,XW dW⟩
    obtain⟨FQ,q_⟩:=(P6 F' H' i qg.ff qg.fh).1 d hd;obtain⟨o,ho,Pf⟩:=Ax hd heq hR;have S_:ys.length<=lim:=by
     rw[heq] at hR;obtain⟨r,_,hr⟩:=cV hR;rw[<-d8 hr,X8] at Sd;omega
    obtain⟨ts,SV,ho⟩:=cV ho;refine pass ?_;rw[hP,hw];refine bX (T.item X' hP hw hK yJ i [] s' (σt++σ) H' X'.xe I' (AF O1) pG FQ) ?_;rintro r s1 ⟨u,rfl,h1⟩;refine pass ?_;rw[hP,hw];refine bX h1 ?_;rintro _ s2 ⟨x,H3,I3,rx,y3,EZ,Og⟩;obtain⟨F3,qh,q3⟩:=q_ x H3 y3;have Ux:H3 v4.heap.objs.size=some (.lst vs):=qh.hh _ _ hD;have VE:F3 v4.heap.objs.size=none:=by rw[qh.old hD (λ_ z=>nomatch z)];exact fD
    have I3':=I3.pinned (AF Og) (T.obj _ _ EZ);have rn:∀{σ7:St}{H7:Hp}{s7:X1},Inv X' ([]++ou fp s2.heap) σ7 H7 s7->QY (i+1) s7.heap/\∀b∈fp,H7 b=none:=λ{σ7 H7 s7} I7=>
     ⟨T.keep _ _ _ EZ λb hb o e=>(I7.pin (b,o) (YE _ (YE _ (fc hb e)))).1,λb hb=>by
      obtain⟨o,e,_⟩:=T.obj _ _ EZ b hb;exact(I7.pin (b,o) (YE _ (YE _ (fc hb e)))).2.1⟩
    have Su:xY X' tg n σ:=by subst jx;exact hg _ _ _ _ _ _ _
    have SU:iJ X' ifs δt:=by subst jx;exact ht _ _ _ _ _ _
    have Sn:PD X' (λ_ _=>False) elt δe:=by subst jx;exact he _ _ _ _ _ _
    refine pass ?_;rw[<-qQ];refine bX (Su _ s2 (σt++σ) F3 H3 d ts x u I3' qh.fh (by rw[<-Ta];simp) rx (by rw[hK];exact q3) SV) ?_;rintro _ s4 ⟨vt,I4,dt⟩;rw[hK] at dt;have S4:StE X.K F3 H3 (vt.map some++σ) (ts.map (λt=>some (Sl.fz t))++Z):=StE.cons ((S.ext e2).ext (qg.trans qh)) dt;obtain⟨b,hb,ho⟩:=cV ho;refine pass ?_
    try rw[<-qQ]
    refine bX (SU _ s4 _ H3 (λb' H5=>b'=b/\∃F5,Ext F3 H3 F5 H5) I4 ⟨F3,_,by rw[hK];exact S4,by rw[hb];exact WPB.take⟩) ?_;rintro b' s5 ⟨H5,I5,rfl,F5,Dy⟩;have R7:H5 v4.heap.objs.size=some (.lst vs):=Dy.hh _ _ Ux;have Up:F5 v4.heap.objs.size=none:=by rw[Dy.old Ux (λ_ z=>nomatch z)];exact VE
    cases b' with
    |false=>
     rw[aey Yv] at ho⊢;obtain rfl:=d8 ho;refine⟨ds.length - (i+1),by omega,i+1,F5,H5,vs,ys,vt.map some,rfl,dW,?_,I5.unpinned,(rn I5).1,(rn I5).2,qg.trans (qh.trans Dy),R7,Up,DenL.mono (qh.trans Dy).ff Ru,Pf⟩;have h1:=I5.len;have h2:=I3.len;rw[X8] at h1 h2;omega
    |true=>
     rw[aex rfl] at ho⊢;obtain⟨yv,hy,ho⟩:=cV ho;obtain rfl:=d8 ho;refine pass ?_
     try rw[<-qQ]
     refine bX (Sn _ s5 _ H5 (λv H6=>∃F6,Ext F5 H5 F6 H6/\Den X.K F6 yv v) I5 ⟨F5,_,by rw[hK];exact S4.ext Dy,by rw[hy,hK];exact WP.take⟩) ?_;rintro xv s6 ⟨v,H6,I6,rv,F6,Md,qv⟩;have VI:H6 v4.heap.objs.size=some (.lst vs):=Md.hh _ _ R7;have Uq:F6 v4.heap.objs.size=none:=by rw[Md.old R7 (λ_ z=>nomatch z)];exact Up
     have Ot:vs.length<Yl:=by
      have:=Ru.len;have:=cP;omega
     refine pass ?_;refine bX (km _ s6 _ H6 (.ref v4.heap.objs.size) [v] (.ref v4.heap.objs.size) [xv] (λ_ H7=>H7=upd H6 v4.heap.objs.size (.lst (vs++[v]))) I6 rfl (.cons rv .nil) ⟨_,vs,v,rfl,rfl,VI,Ot,rfl⟩) ?_;rintro _ s7 ⟨_,H7,I7,_,rfl⟩;have VD:Ext F2 H2 F6 (upd H6 v4.heap.objs.size (.lst (vs++[v]))):=by
      have e:=qg.trans (qh.trans (Dy.trans Md));refine⟨λb u q=>?_,e.ff,λb u q=>?_,e.new⟩
      ·rw[av (Oy b u q)];exact e.hh b u q
      ·rw[av (λz=>by rw[z,Uq] at q;cases q)];exact e.fh b u q
     refine⟨ds.length - (i+1),by omega,i+1,F6,_,vs++[v],ys++[yv],vt.map some,rfl,dW,?_,I7.unpinned,(rn I7).1,(rn I7).2,VD,aB,Uq,
      DenL.append (DenL.mono (qh.trans (Dy.trans Md)).ff Ru) (.cons qv .nil),Pf⟩
     have h1:=I5.len;have h2:=I3.len;rw[X8] at h1 h2;omega
   ·
    have hi:i=ds.length:=by omega
    subst hi;rw[aa4] at heq;have VR:R=ys:=by
     rw[heq] at hR;have hR:aa (ys++[])=aa R:=hR;rw[<-d8 hR,YR]
    subst VR;refine pass ?_;rw[hP,hw];refine bX (T.done X' hP hw hK yJ ds.length [] s' (σt++σ) H' X'.xe I' (AF O1) pG ((P6 F' H' ds.length qg.ff qg.fh).2 (X4 _))) ?_;rintro r s1 ⟨rfl,I1⟩;obtain⟨m,hm,_⟩:=I1.loc;rw[qQ] at hm;have R6:H' HL.objs.size=none:=by
     have:=I1.free;rw[qQ] at this;exact this
    have u:=I1.base;rw[Ss,hex,R9,PQ] at u;have Jc:s1.os=v4.os:=by have:=I1.os;rw[PQ] at this;exact this
    have FR:=I1.hok;rw[hP,hw] at FR;refine Sb s1 HL.objs.size v4.heap.objs.size H' (I2.call' Jc u FR I1.bare (λb hb=>⟨(f2 b hb).2.2.2.1,(f2 b hb).2.1,(f2 b hb).2.2.2.2.1,(f2 b hb).2.2.2.2.2⟩)) ?_
     ⟨⟨m,hm⟩,R6,aab (Zg I2.lt nO),Yy I2.sz (YY nO),λx c q z=>?_,λp hp z=>?_⟩
    rotate_left
    ·obtain⟨v,q'⟩:=I2.cell x c q;exact aeB (Zg q'.lt nO) (by rw[z];exact YV _)
    ·exact aeB (Zg (Yd (I2.pin p hp).1) nO) (by rw[z];exact YV _)
    refine WP.fin w2 (F':=upd F' v4.heap.objs.size (.lst vs)) ⟨qg.hh,λb u q=>?_,λb u q=>?_,λa ha=>?_⟩ ⟨_,vs,rfl,aB,DenL.mono (λb u q=>?_) Ru,Sd⟩
    ·rw[av (λz=>by have:=qg.ff b u q;rw[z,fD] at this;cases this)];exact qg.ff b u q
    ·by_cases z:b=v4.heap.objs.size
     ·rw[z,aB] at q;rw[z,hD];exact q
     ·rw[av z] at q;exact qg.fh b u q
    ·rcases qg.new a ha with q | q
     ·exact .inl (by rw[av (λz=>ha (by rw[z];exact nD))];exact q)
     ·exact .inr q
    ·rw[av (λz=>by rw[z,fD] at q;cases q)];exact q
  ·rw[SS];refine⟨0,F2,_,[],[],Ye (max n 1) none,by simp,YC _,by simp,I0,T.keep _ _ _ tG (λb hb o e=>old b o e),λb hb=>?_,⟨λb u q=>?_,Same.refl _,λb u q=>?_,λ_ _=> .inl rfl⟩,aB,Same.free e2.fh nD,rfl,?_⟩
   ·rw[av (Ym (fl b hb))];exact(f2 b hb).1
   ·rw[av (Oy b u q)];exact q
   ·rw[av (Oy b u (e2.fh b u q))];exact e2.fh b u q
   ·rw[List.drop_zero];rcases(ei (je n δt δe Z) ds).cs with hq | ⟨m,hq⟩ | ⟨R,hq⟩<;>rw[hq]<;>rfl
 exact aep (loop _ rfl) (T.self X.A 0 _ _ _ (T.keep _ _ _ tG (λb hb o e=>old b o e)) (loop _ rfl))
def Inv.block{C:Addr}(I:Inv X f8 σ H' s1)(b:BlockEnd X f8 C H' s1)(Ai:Z_ C s1.heap h'):Inv X f8 σ H' {s1 with heap:=h'}:=
 I.turned (λa o ha e=>(Ai.2 a ha).trans e) b.free b.nl (.inr b.nw) b.nc b.np
section
variable{X:Cx}{Xw:Nat->Hp->Prop}{elt iter tg:Expr}{ifs:List Expr}{scope:Scope}{pos:Pos}{tn:List Str}{n:Nat}{δi:DA}{δt:DT}{δe:DE}
def cN(sc:CompSc X scope tn)(hn:tn.length=max n 1)(hc:X.calm=true)(hi:xQ X Xw tg iter δi)
 (hg:∀f8 cl C fp v4 H σ,xY (fw X scope tn f8 cl C fp v4 H) tg n σ)
 (ht:∀f8 cl C fp v4 H,iJ (fw X scope tn f8 cl C fp v4 H) ifs δt)
 (he:∀f8 cl C fp v4 H,PD (fw X scope tn f8 cl C fp v4 H) (λ_ _=>False) elt δe)
 (hs:∀x,aae iter X.env x=pure x:=by intro _;rfl):
 PD X Xw (.ListComp elt [⟨tg,iter,ifs,0⟩] scope pos) (bB n δi δt δe):=by
 intro f8 s σ H Q I ⟨F,Z,S,w⟩;obtain⟨cl,yK,cl1,Fm⟩:=ll λy hy hf=>I.ok.has y.1 (sc.frees y hy hf);rw[eval_ListComp];refine abI rfl hs yK sc.kind sc.names (yl (RR:=λv6 C=>compPost (model X.prog X.w) X.A X.xe none (EP X f8 σ Q) v6 C) sc hn hc hi hg ht he I S w cl1 Fm λs1 C D H' I1 q b=>?_);obtain⟨m,hm⟩:=b.ns;exact⟨m,hm,λh' Ai=>⟨.ref D,H',Inv.block I1 b Ai,rfl,q⟩⟩
end
inductive Out where
 |nx (Z:bH) | rt (d:D)
abbrev DS:=bH->M Out
structure StOk (K:X5) (u8 aeH F H:Hp) (σ:St) (Z:bH):Prop where
 ext:Ext u8 aeH F H
 st:StE K F H σ Z
 len:Z.length=σ.length
 own:∀(i:Nat) (c:C) (a:Addr),Z[i]? =some (some (.ow c))->σ[i]? =some (some (.ref a))->aeH a=none
 sep:∀(i j:Nat) (c c':C) (a:Addr),Z[i]? =some (some (.ow c))->Z[j]? =some (some (.ow c'))->σ[i]? =some (some (.ref a))->σ[j]? =some (some (.ref a))->i=j
def WPS(K:X5)(Xw:Nat->Hp->Prop)(u8 aeH:Hp)(m:M Out)(Dn:Ends):Prop:=
 match m with
 |none=>False
 |some (.ok (.nx Z))=>∀σ F H,StOk K u8 aeH F H σ Z->Dn.nx σ H
 |some (.ok (.rt d))=>∀v F H,Ext u8 aeH F H->Den K F d v->Dn.rt v H
 |some (.ex n)=>∀F H,Ext u8 aeH F H->Xw n H
def tS(K:X5)(Xw:Nat->Hp->Prop)(u8 aeH:Hp)(τ:DS):TS:=λDn σ H=>∃F Z,StOk K u8 aeH F H σ Z/\WPS K Xw u8 aeH (τ Z) Dn
def g8(X:Cx)(Xw:Nat->Hp->Prop)(st:Stmt)(τ:DS):Prop:=∀u8 aeH,PS X st (tS X.K Xw u8 aeH τ)
def PSDs(X:Cx)(Xw:Nat->Hp->Prop)(st:List Stmt)(τ:DS):Prop:=∀u8 aeH,PSs X st (tS X.K Xw u8 aeH τ)
def PS.weak{st:Stmt}(h:PS X st t)(k:∀D σ H,t' D σ H->t D σ H):PS X st t':=λf8 s σ H D I w=>h f8 s σ H D I (k D σ H w)
def PSs.weak{st:List Stmt}(h:PSs X st t)(k:∀D σ H,t' D σ H->t D σ H):PSs X st t':=λf8 s σ H D I w=>h f8 s σ H D I (k D σ H w)
section
variable{K:X5}{u8 aeH F H F' H':Hp}{σ:St}{Z:bH}
def StOk.ext'(s:StOk K u8 aeH F H σ Z)(e:Ext F H F' H'):StOk K u8 aeH F' H' σ Z:=⟨s.ext.trans e,s.st.ext e,s.len,s.own,s.sep⟩
def StOk.set(s:StOk K u8 aeH F H σ Z){d:D}(h:Den K F d v):StOk K u8 aeH F H (σ.set i (some v)) (Z.set i (some (.fz d))):=by
 have hl:=s.len;have get:∀(j:Nat) (sl:Sl),(Z.set i (some (.fz d)))[j]? =some (some sl)->(j=i/\i<Z.length/\sl= .fz d)\/(j≠i/\Z[j]? =some (some sl)):=λj sl e=>by
  by_cases hj:j=i
  ·subst hj;have hi:j<Z.length:=by
    have:=(X0.mp e).1;simpa using this
   rw[X_ hi] at e;cases e;exact .inl ⟨rfl,hi,rfl⟩
  ·rw[X2 (YJ hj)] at e;exact .inr ⟨hj,e⟩
 refine⟨s.ext,⟨s.st.fh,λj sl e=>?_⟩,by simp[hl],λj c a e e'=>?_,λj k c c' a e1 e2 e3 e4=>?_⟩
 ·rcases get j sl e with⟨rfl,hi,rfl⟩ | ⟨hj,e⟩
  ·exact⟨v,by rw[X_ (by omega)],h⟩
  ·obtain⟨u,h1,h2⟩:=s.st.den j sl e;exact⟨u,by rw[X2 (YJ hj)];exact h1,h2⟩
 ·rcases get j _ e with⟨_,_,z⟩ | ⟨hj,e⟩
  ·cases z
  ·rw[X2 (YJ hj)] at e';exact s.own j c a e e'
 ·rcases get j _ e1 with⟨_,_,z⟩ | ⟨hj,e1⟩
  ·cases z
  ·rcases get k _ e2 with⟨_,_,z⟩ | ⟨hk,e2⟩
   ·cases z
   ·rw[X2 (YJ hj)] at e3;rw[X2 (YJ hk)] at e4;exact s.sep j k c c' a e1 e2 e3 e4
def StOk.setNew(s:StOk K u8 aeH F H σ Z){o:HO}(n:H a=none)(h:DenC K F c₀ o):
 StOk K u8 aeH F (upd H a o) (σ.set i (some (.ref a))) (Z.set i (some (.ow c₀))):=by
 have hle:=s.len;have e0:=Ext.free (o:=o) s.st.fh n;have nF:F a=none:=Same.free s.st.fh n;have get:∀(j:Nat) (sl:Sl),(Z.set i (some (.ow c₀)))[j]? =some (some sl)->(j=i/\i<Z.length/\sl= .ow c₀)\/(j≠i/\Z[j]? =some (some sl)):=λj sl e=>by
  by_cases hj:j=i
  ·subst hj;have hi:j<Z.length:=by
    have:=(X0.mp e).1;simpa using this
   rw[X_ hi] at e;cases e;exact .inl ⟨rfl,hi,rfl⟩
  ·rw[X2 (YJ hj)] at e;exact .inr ⟨hj,e⟩
 have old:∀(j:Nat) (c:C) (b:Addr),Z[j]? =some (some (.ow c))->σ[j]? =some (some (.ref b))->b≠a:=λj c b e e' z=>by
  obtain⟨u,h1,b',o,h2,h3,_⟩:=s.st.den j _ e;rw[h1] at e';cases e';cases h2;rw[z,n] at h3;cases h3
 refine⟨s.ext.trans e0,⟨e0.fh,λj sl e=>?_⟩,by simp[hle],λj c b e e'=>?_,λj k c c' b e1 e2 e3 e4=>?_⟩
 ·rcases get j sl e with⟨rfl,hi,rfl⟩ | ⟨hj,e⟩
  ·exact⟨.ref a,by rw[X_ (by omega)],a,_,rfl,aB,nF,h⟩
  ·obtain⟨u,h1,h2⟩:=s.st.den j sl e;exact⟨u,by rw[X2 (YJ hj)];exact h1,h2.ext e0⟩
 ·rcases get j _ e with⟨rfl,hi,_⟩ | ⟨hj,e⟩
  ·rw[X_ (by omega)] at e';cases e';exact Same.free s.ext.hh n
  ·rw[X2 (YJ hj)] at e';exact s.own j c b e e'
 ·rcases get j _ e1 with⟨rfl,hi,_⟩ | ⟨hj,e1⟩
  ·rw[X_ (by omega)] at e3;cases e3;rcases get k _ e2 with⟨rfl,_,_⟩ | ⟨hk,e2⟩
   ·rfl
   ·rw[X2 (YJ hk)] at e4;exact aeB rfl (old k c' a e2 e4)
  ·rcases get k _ e2 with⟨Sz,hi,_⟩ | ⟨hk,e2⟩
   ·rw[Sz,X_ (by omega)] at e4;cases e4;rw[X2 (YJ hj)] at e3;exact aeB rfl (old j c a (by assumption) e3)
   ·rw[X2 (YJ hj)] at e3;rw[X2 (YJ hk)] at e4;exact s.sep j k c c' b e1 e2 e3 e4
def StOk.chg(s:StOk K u8 aeH F H σ Z){c c₀:C}(hi:Z[i]? =some (some (.ow c)))(ha:σ[i]? =some (some (.ref a)))(h:DenC K F c₀ o₀):
 StOk K u8 aeH F (upd H a o₀) σ (Z.set i (some (.ow c₀))):=by
 have hle:=s.len;have h0:=s.own i c a hi ha;obtain⟨u,q1,a',o,q2,q3,q4,q5⟩:=s.st.den i _ hi;rw[ha] at q1;cases q1;cases q2;have Ol:i<Z.length:=(X0.mp hi).1;have get:∀(j:Nat) (sl:Sl),(Z.set i (some (.ow c₀)))[j]? =some (some sl)->(j=i/\sl= .ow c₀)\/(j≠i/\Z[j]? =some (some sl)):=λj sl e=>by
  by_cases hj:j=i
  ·subst hj;rw[X_ Ol] at e;cases e;exact .inl ⟨rfl,rfl⟩
  ·rw[X2 (YJ hj)] at e;exact .inr ⟨hj,e⟩
 have fh:Same F (upd H a o₀):=λb o e=>by
  rw[av (λz=>by rw[z,q4] at e;cases e)];exact s.st.fh b o e
 refine⟨⟨λb o e=>?_,s.ext.ff,fh,s.ext.new⟩,⟨fh,λj sl e=>?_⟩,by simp[hle],λj c' b e e'=>?_,λj k c1 c2 b e1 e2 e3 e4=>?_⟩
 ·rw[av (λz=>by rw[z,h0] at e;cases e)];exact s.ext.hh b o e
 ·rcases get j sl e with⟨rfl,rfl⟩ | ⟨hj,e⟩
  ·exact⟨.ref a,ha,a,_,rfl,aB,q4,h⟩
  ·obtain⟨u,h1,h2⟩:=s.st.den j sl e;refine⟨u,h1,?_⟩;cases sl with
   |fz d=>exact h2
   |ow c'=>
    obtain⟨b,o',r1,r2,r3,r4⟩:=h2;refine⟨b,o',r1,?_,r3,r4⟩;rw[av (λz=>hj (s.sep j i c' c a e hi (by rw[h1,r1,z]) ha))];exact r2
 ·rcases get j _ e with⟨rfl,_⟩ | ⟨hj,e⟩
  ·rw[ha] at e';cases e';exact h0
  ·exact s.own j c' b e e'
 ·have k1:∃c,Z[j]? =some (some (.ow c)):=by
   rcases get j _ e1 with⟨rfl,_⟩ | ⟨_,e⟩
   ·exact⟨c,hi⟩
   ·exact⟨_,e⟩
  have k2:∃c,Z[k]? =some (some (.ow c)):=by
   rcases get k _ e2 with⟨rfl,_⟩ | ⟨_,e⟩
   ·exact⟨c,hi⟩
   ·exact⟨_,e⟩
  obtain⟨_,k1⟩:=k1;obtain⟨_,k2⟩:=k2;exact s.sep j k _ _ b k1 k2 e3 e4
def frz(i:Nat)(Z:bH):bH:=match Z[i]? with
 |some (some (.ow c))=>Z.set i (some (.fz c.d))
 |_=>Z
def StOk.frz(s:StOk K u8 aeH F H σ Z)(i:Nat)(obj:Addr->Obj):(∃a o,H a=some o/\DenC K F (Z[i]?.elim (.lst []) λx=>x.elim (.lst []) λy=>match y with | .ow c=>c | _=> .lst []) o/\σ[i]? =some (some (.ref a))/\StOk K u8 aeH (upd F a (pV (obj a) o)) (upd H a (pV (obj a) o)) σ (frz i Z))\/frz i Z=Z:=by
 unfold L3.frz;split
 ·rename_i c₀ hi;have hle:=s.len;obtain⟨u,ha,a,o,rfl,q3,q4,K5⟩:=s.st.den i _ hi;refine .inl ⟨a,o,q3,by rw[hi];exact K5,ha,?_⟩;have h0:=s.own i _ a hi ha;have Ol:i<Z.length:=(X0.mp hi).1;have ff:Same F (upd F a (pV (obj a) o)):=λb o e=>by rw[av (λz=>by rw[z,q4] at e;cases e)];exact e
  have fh:Same (upd F a (pV (obj a) o)) (upd H a (pV (obj a) o)):=λb o e=>by
   by_cases z:b=a
   ·rw[z,aB] at e⊢;exact e
   ·rw[av z] at e⊢;exact s.st.fh b o e
  have get:∀(j:Nat) (sl:Sl),(Z.set i (some (.fz c₀.d)))[j]? =some (some sl)->(j=i/\sl= .fz c₀.d)\/(j≠i/\Z[j]? =some (some sl)):=λj sl e=>by
   by_cases hj:j=i
   ·subst hj;rw[X_ Ol] at e;cases e;exact .inl ⟨rfl,rfl⟩
   ·rw[X2 (YJ hj)] at e;exact .inr ⟨hj,e⟩
  refine⟨⟨λb u q=>?_,s.ext.ff.trans ff,fh,λb hb=>?_⟩,⟨fh,λj sl e=>?_⟩,by simp[hle],λj c' b e e'=>?_,λj k c1 c2 b e1 e2 e3 e4=>?_⟩
  ·rw[av (λz=>by rw[z,h0] at q;cases q)];exact s.ext.hh b u q
  ·rcases s.ext.new b hb with q | q
   ·exact .inl (by rw[av (λz=>hb (by rw[z];exact h0))];exact q)
   ·exact .inr q
  ·rcases get j sl e with⟨rfl,rfl⟩ | ⟨hj,e⟩
   ·exact⟨.ref a,ha,DenC.den K5 ff aB⟩
   ·obtain⟨u,h1,h2⟩:=s.st.den j sl e;refine⟨u,h1,?_⟩;cases sl with
    |fz d=>exact Den.mono ff h2
    |ow c'=>
     obtain⟨b,o',r1,r2,r3,r4⟩:=h2;have dm:b≠a:=λz=>hj (s.sep j i c' _ a e hi (by rw[h1,r1,z]) ha);exact⟨b,o',r1,by rw[av dm];exact r2,by rw[av dm];exact r3,DenC.mono ff r4⟩
  ·rcases get j _ e with⟨_,z⟩ | ⟨hj,e⟩
   ·cases z
   ·exact s.own j c' b e e'
  ·rcases get j _ e1 with⟨_,z⟩ | ⟨_,e1⟩
   ·cases z
   ·rcases get k _ e2 with⟨_,z⟩ | ⟨_,e2⟩
    ·cases z
    ·exact s.sep j k _ _ b e1 e2 e3 e4
 ·exact .inr rfl
end
def join(F H:Hp):Hp:=λa=>match F a with
 |some o=>some o
 |none=>H a
def StOk.rebase{K:X5}{u8 aeH F H:Hp}(s:StOk K u8 aeH F H σ Z):StOk K F (join F aeH) F H σ Z/\∀F' H',Ext F (join F aeH) F' H'->Ext u8 aeH F' H':=by
 have hj:Same (join F aeH) H:=λb o e=>by
  unfold join at e;cases q:F b with
  |some u=>rw[q] at e;cases e;exact s.st.fh b _ q
  |none=>rw[q] at e;exact s.ext.hh b o e
 have h0:Same aeH (join F aeH):=λb o e=>by
  unfold join;cases q:F b with
  |some u=>
   have h1:=s.st.fh b u q;rw[s.ext.hh b o e] at h1;exact h1.symm
  |none=>exact e
 refine⟨⟨⟨hj,Same.refl _,s.st.fh,λ_ _=> .inl rfl⟩,s.st,s.len,λi c a e e'=>?_,s.sep⟩,λF' H' x=>⟨h0.trans x.hh,s.ext.ff.trans x.ff,x.fh,λa ha=>?_⟩⟩
 ·have h1:=s.own i c a e e';obtain⟨v,q1,a',o,q2,q3,q4,_⟩:=s.st.den i _ e;rw[e'] at q1;cases q1;cases q2;unfold join;rw[q4];exact h1
 ·have:join F aeH a≠none:=by
   cases q:aeH a with
   |none=>exact aeB q ha
   |some o=>rw[h0 a o q];exact λz=>nomatch z
  rcases s.ext.new a ha with p | p
  ·rcases x.new a this with q | ⟨ts,q⟩
   ·exact .inl (q.trans p)
   ·cases z:aeH a with
    |none=>exact aeB z ha
    |some o=>
     rw[h0 a o z] at q;exact .inr ⟨ts,q⟩
  ·exact .inr p
def StOk.unbase{K:X5}{u8 aeH F U F' H':Hp}(k:∀F' H',Ext F U F' H'->Ext u8 aeH F' H')(s:StOk K F U F' H' σ Z)(h:Same aeH U):StOk K u8 aeH F' H' σ Z:=
 ⟨k _ _ s.ext,s.st,s.len,λi c a e e'=>Same.free h (s.own i c a e e'),s.sep⟩
def DR{K:X5}{u8 aeH F H:Hp}(s:StOk K u8 aeH F H σ Z):Same aeH (join F aeH):=λb o e=>by
 unfold join;cases q:F b with
 |some u=>
  have h1:=s.st.fh b u q;rw[s.ext.hh b o e] at h1;exact h1.symm
 |none=>exact e
def Inv.refrz(I:Inv X f8 σ H s)(e:H a=some o)
 (ho:o'=o\/∃u,o'= .frz ((s.heap.get? a).getD {cls:= .none,data:= .fields #[]}) u/\((∃k,o= .dT k/\u= .dT k)\/∃k,o= .dK k/\u= .dK k)):Inv X f8 σ (upd H a o') s:=by
 rcases ho with rfl | ⟨u,rfl,hu⟩
 ·have:upd H a o'=H:=by
   funext b;by_cases z:b=a
   ·rw[z,aB,e]
   ·rw[av z]
  rw[this];exact I
 have Wz:o=u:=by rcases hu with⟨k,h1,h2⟩ | ⟨k,h1,h2⟩<;>rw[h1,h2]
 subst Wz;have nt:∀ts,o≠ .tup ts:=λts z=>by rcases hu with⟨k,h1,_⟩ | ⟨k,h1,_⟩<;>rw[h1] at z<;>cases z
 have nf:∀ob v,o≠ .frz ob v:=λob v z=>by rcases hu with⟨k,h1,_⟩ | ⟨k,h1,_⟩<;>rw[h1] at z<;>cases z
 have nb:∀p,o≠ .tbl p:=λp z=>by rcases hu with⟨k,h1,_⟩ | ⟨k,h1,_⟩<;>rw[h1] at z<;>cases z
 have no:∀p,o≠ .own p:=λp z=>by rcases hu with⟨k,h1,_⟩ | ⟨k,h1,_⟩<;>rw[h1] at z<;>cases z
 have ne:∀b,H b=none->b≠a:=λb hb z=>by rw[z,e] at hb;cases hb
 have hk:=I.hok a o e;have dW:=hk.lt;obtain⟨ob,My⟩:∃ob,s.heap.get? a=some ob:=by
  rcases hu with⟨k,h1,_⟩ | ⟨k,h1,_⟩
  ·subst h1;obtain⟨_,_,_,_,ob,_,_,q,_⟩:=hk;exact⟨ob,q⟩
  ·subst h1;obtain⟨_,_,_,_,ob,_,_,q,_⟩:=hk;exact⟨ob,q⟩
 rw[My];refine⟨I.ok,I.os,I.bare,⟨I.base.keep,I.base.slot,λb q h1 h2 h3=>?_,I.base.there,λb xs q=>?_,λb q1 v q=>?_,λb ps q=>?_⟩,I.loc,I.cell,?_,λx c q=>?_,λp hp=>?_,λb v q=>?_,I.len⟩
 ·have:=I.base.free b q h1 h2 h3;rw[av (ne b this)];exact this
 ·have:=I.base.tups b xs q;rw[av (λz=>by rw[z,e] at this;exact nt xs (YI this))];exact this
 ·have:=I.base.frzs b q1 v q;rw[av (λz=>by rw[z,e] at this;exact nf _ _ (YI this))];exact this
 ·obtain⟨m,this⟩:=I.base.tbls b ps q;exact⟨m,by rw[av (λz=>by rw[z,e] at this;exact nb _ (YI this))];exact this⟩
 ·rw[av (ne _ I.free)];exact I.free
 ·rw[av (ne _ (I.freeC x c q))];exact I.freeC x c q
 ·obtain⟨h1,h2,h3⟩:=I.pin p hp;exact⟨h1,by rw[av (ne _ h2)];exact h2,h3⟩
 ·have st:∀{c:Addr}{v:HO},ObjOk X.prog X.w H s.heap c v->ObjOk X.prog X.w (upd H a (.frz ob o)) s.heap c v:=λ{c v} k=>k.stay (λ_ _ _ q=>q)
   (λc' q=>by rw[av (λz=>by rw[z,e] at q;exact no _ (YI q))];exact q) λc' xs q=>by rw[av (λz=>by rw[z,e] at q;exact nt _ (YI q))];exact q
  by_cases z:b=a
  ·subst z;rw[show (some ob).getD _=ob from rfl,aB] at q;cases q;exact⟨My,st hk⟩
  ·rw[av z] at q;exact st (I.hok b v q)
def aG(a b:DS):DS:=λZ=>a Z>>=λo=>match o with | .nx Z'=>b Z' | .rt d=>aa (.rt d)
def dE:DS:=λZ=>aa (.nx Z)
def bz(δ:DE):DS:=λZ=>δ Z>>=λd=>aa (.rt d)
def qc(δ:DE):DS:=λZ=>δ Z>>=λ_=>aa (.nx Z)
def bM(i:Nat)(δ:DE):DS:=λZ=>δ Z>>=λd=>aa (.nx (Z.set i (some (.fz d))))
def iI(c:DT)(a b:DS):DS:=λZ=>c Z>>=λx=>if x then a Z else b Z
def vk(i:Nat)(a:DS):DS:=λZ=>a (frz i Z)
def ub(i:Nat):DS:=λZ=>aa (.nx (Z.set i (some (.ow (.lst [])))))
def Ek(Z:bH)(i:Nat):Option (List D):=match Z[i]? with
 |some (some (.ow (.lst ds)))=>some ds
 |_=>none
def u0{i:Nat}(h:Ek Z i=some ds):Z[i]? =some (some (.ow (.lst ds))):=by
 unfold Ek at h;split at h
 ·rename_i ds' e;cases h;exact e
 ·cases h
def oH(i:Nat)(δ:DE):DS:=λZ=>match Ek Z i with
 |some ds=>δ Z>>=λd=>if ds.length<lim then aa (.nx (Z.set i (some (.ow (.lst (ds++[d])))))) else ag
 |none=>ag
def Hw(i:Nat)(δ:DE):DS:=λZ=>match Ek Z i with
 |some ds=>δ Z>>=λd=>lstM d>>=λes=>if ds.length+es.length<=lim then aa (.nx (Z.set i (some (.ow (.lst (ds++es)))))) else ag
 |none=>ag
def forL(put:D->bH->Option bH)(body:DS):List D->DS
 |[],Z=>aa (.nx Z)
 |d::ds,Z=>(match put d Z with | none=>ag | some Z1=>body Z1>>=λo=>match o with | .nx Z2=>forL put body ds Z2 | .rt v=>aa (.rt v))
def putN(i:Nat):D->bH->Option bH:=λd Z=>some (Z.set i (some (.fz d)))
def cw(put:D->bH->Option bH)(δi:DA)(body:DS):DS:=λZ=>δi Z>>=λds=>forL put body ds Z
section
variable{X:Cx}{Xw:Nat->Hp->Prop}{u8 aeH:Hp}{st:Stmt}{rest:List Stmt}{τ τ':DS}{e:Expr}{δ:DE}{pos:Pos}
def br:PSDs X Xw [] dE:=λu8 aeH=>PSs.weak CM λD σ H ⟨F,Z,s,w⟩=>w σ F H s
def aj(h1:g8 X Xw st τ)(h2:PSDs X Xw rest τ'):PSDs X Xw (st::rest) (aG τ τ'):=λu8 aeH=>PSs.weak (jS (h1 u8 aeH) (h2 u8 aeH)) λD σ H ⟨F,Z,s,w⟩=>by
 refine⟨F,Z,s,?_⟩;unfold aG at w
 match τ Z,w with
 |none,w=>exact w
 |some (.ok (.nx Z')),w=>exact λσ' F' H' s'=>⟨F',Z',s',w⟩
 |some (.ok (.rt d)),w=>exact w
 |some (.ex n),w=>exact w
def ao(h1:g8 X Xw st τ):PSDs X Xw [st] τ:=λu8 aeH=>mU (h1 u8 aeH)
def cF{i:Nat}(h:g8 X Xw st τ):g8 X Xw st (vk i τ):=λu8 aeH f8 sh σ H D I ⟨F,Z,s,w⟩=>by
 rcases s.frz i (λa=>(sh.heap.get? a).getD {cls:= .none,data:= .fields #[]}) with⟨a,o,ha,hc,hσ,s'⟩ | e
 ·refine h u8 aeH f8 sh σ _ D (L3.Inv.refrz I ha ?_) ⟨_,_,s',w⟩;generalize (Z[i]?.elim (C.lst []) λx=>x.elim (.lst []) λy=>match y with | .ow c=>c | _=> .lst [])=c at hc;cases c with
  |lst ds=>obtain⟨vs,rfl,_⟩:=hc;exact .inl rfl
  |dct ks ds=>obtain⟨vs,rfl,_⟩:=hc;exact .inr ⟨_,rfl, .inl ⟨_,rfl,rfl⟩⟩
  |dci ks ds=>obtain⟨vs,rfl,_⟩:=hc;exact .inr ⟨_,rfl, .inr ⟨_,rfl,rfl⟩⟩
 ·exact h u8 aeH f8 sh σ H D I ⟨F,Z,s,by unfold vk at w;rw[e] at w;exact w⟩
def aI(h:PD X Xw e δ):g8 X Xw (.Return (some e) pos) (bz δ):=λu8 aeH=>PS.weak (NL h) λD σ H ⟨F,Z,s,w⟩=>by
 refine⟨F,Z,s.st,?_⟩;unfold bz at w
 match δ Z,w with
 |none,w=>exact w
 |some (.ok d),w=>exact λv H' F' e' q=>w v F' H' (s.ext.trans e') q
 |some (.ex n),w=>exact λF' H' e'=>w F' H' (s.ext.trans e')
def mS(h:PD X Xw e δ)(hs:aaX e none pos.line X.env=pure false:=by rfl):g8 X Xw (.Expr e pos) (qc δ):=λu8 aeH=>PS.weak (mQ h hs) λD σ H ⟨F,Z,s,w⟩=>by
 refine⟨F,Z,s.st,?_⟩;unfold qc at w
 match δ Z,w with
 |none,w=>exact w
 |some (.ok d),w=>exact λv H' F' e' q=>w σ F' H' (s.ext' e')
 |some (.ex n),w=>exact λF' H' e'=>w F' H' (s.ext.trans e')
def aQ{x:Str}(hN:X.N.Nodup)(hi:X.N[i]? =some x)(hx:Loc X.env.scope x)(he:PD X Xw e δ)(hf:X.fn x=true\/X.env.scope.names.lookup x=some .local:=by first | exact .inl rfl | exact .inr rfl)
 (hs:acH [.Name x pos'] e pos.line X.env=pure false:=by rfl):
 g8 X Xw (.Assign [.Name x pos'] e pos) (bM i δ):=λu8 aeH=>PS.weak (oz he (aL hN hi hx hf) hs) λD σ H ⟨F,Z,s,w⟩=>by
 refine⟨F,Z,s.st,?_⟩;unfold bM at w
 match δ Z,w with
 |none,w=>exact w
 |some (.ok d),w=>exact λv H' F' e' q=>w _ F' H' ((s.ext' e').set q)
 |some (.ex n),w=>exact λF' H' e'=>w F' H' (s.ext.trans e')
def pz(hN:X.N.Nodup)(IZ:X.N[i]? =some x)(hx:Loc X.env.scope x)
 (sc:CompSc X scope tn)(hn:tn.length=max n 1)(hc:X.calm=true)(hi:xQ X Xw tg iter δi)
 (hg:∀f8 cl C fp v4 H σ,xY (fw X scope tn f8 cl C fp v4 H) tg n σ)
 (ht:∀f8 cl C fp v4 H,iJ (fw X scope tn f8 cl C fp v4 H) ifs δt)
 (he:∀f8 cl C fp v4 H,PD (fw X scope tn f8 cl C fp v4 H) (λ_ _=>False) elt δe)
 (hf:X.fn x=true\/X.env.scope.names.lookup x=some .local:=by first | exact .inl rfl | exact .inr rfl)
 (SR:aaX (.ListComp elt [⟨tg,iter,ifs,0⟩] scope aO) (some (.Name x pos')) pos.line X.env=pure true:=by rfl)
 (hs:∀x,aae iter X.env x=pure x:=by intro _;rfl):
 g8 X Xw (.Assign [.Name x pos'] (.ListComp elt [⟨tg,iter,ifs,0⟩] scope aO) pos) (bM i (bB n δi δt δe)):=λu8 aeH f8 s σ H D I ⟨F,Z,S,w⟩=>by
 obtain⟨cl,yK,cl1,Fm⟩:=ll λy hy hf=>I.ok.has y.1 (sc.frees y hy hf);have w':WP X.K Xw F H (bB n δi δt δe Z) (λv H'=>D.nx (σ.set i (some v)) H'):=by
  have w:WPS X.K Xw u8 aeH (bB n δi δt δe Z>>=λd=>aa (.nx (Z.set i (some (.fz d))))) D:=w
  match bB n δi δt δe Z,w with
  |none,w=>exact w
  |some (.ok d),w=>exact λv H' F' e' q=>w _ F' H' ((S.ext' e').set q)
  |some (.ex n),w=>exact λF' H' e'=>w F' H' (S.ext.trans e')
 rw[exec_Assign_Name_used _ _ _ _ SR];refine XX (ad6 (XX ?_));show wpAny _ X.A (do let _<-comprehension (.ListComp elt [⟨tg,iter,ifs,0⟩] scope aO) scope X.env _ (newList []) false (eval iter X.env) (some (assign (.Name x pos') X.env))) _ _ s;refine XX (Y2 (abI rfl hs yK sc.kind sc.names
  (yl sc hn hc hi hg ht he I S.st w' cl1 Fm λs1 C D' H' I1 q b=>?_)) (λ_ s' hq=>Yc (Yc hq)) λ_ _ e=>e)
 show wpAny _ X.A (assign (.Name x pos') X.env (.ref D')) _ _ _;refine abJ (kC I1 hN IZ hx (v:= .ref D') rfl (λs2 I2 ⟨a,sb,ha⟩=>?_) hf);have R5:C≠a:=by
  rcases ha with z | z
  ·rw[z];exact b.nl
  ·exact YJ (b.nc x a z)
 obtain⟨m,hm⟩:=b.ns;have ET:s2.heap.Ns C m:=hm.sameBut sb R5;refine⟨m,ET,λh' Ai=>⟨_,H',Inv.block I2 ⟨⟨m,ET⟩,b.free,b.nl,b.nw,b.nc,b.np⟩ Ai,q⟩⟩
def bY{a b:List Stmt}(hc:qA X Xw c tc)(ha:PSDs X Xw a τ)(hb:PSDs X Xw b τ'):g8 X Xw (.If c a b pos) (iI tc τ τ'):=λu8 aeH=>PS.weak (Lm hc (ha u8 aeH) (hb u8 aeH)) λD σ H ⟨F,Z,s,w⟩=>by
 refine⟨F,Z,s.st,?_⟩;unfold iI at w
 match tc Z,w with
 |none,w=>exact w
 |some (.ok true),w=>exact λH' F' e'=>⟨F',Z,s.ext' e',w⟩
 |some (.ok false),w=>exact λH' F' e'=>⟨F',Z,s.ext' e',w⟩
 |some (.ex n),w=>exact λF' H' e'=>w F' H' (s.ext.trans e')
def gL{pos' Ka:Pos}(hN:X.N.Nodup)(hi:X.N[i]? =some x)(hx:Loc X.env.scope x)(hf:X.fn x=true\/X.env.scope.names.lookup x=some .local:=by first | exact .inl rfl | exact .inr rfl):
 g8 X Xw (.Assign [.Name x pos'] (.List [] Ka) pos) (ub i):=λu8 aeH=>PS.weak (oz (Bj oj) (aL hN hi hx hf) rfl) λD σ H ⟨F,Z,s,w⟩=>by
 refine⟨YC _,λp hp=>?_⟩;exact w _ F _ (s.setNew hp ⟨[],rfl,rfl,YC _⟩)
def E2(K:X5)(g:TG)(put:D->bH->Option bH):Prop:=∀(u8 aeH F H:Hp) (σ:St) (Z Z':bH) (d:D) (v:V) (Q:St->Hp->Prop),StOk K u8 aeH F H σ Z->Den K F d v->put d Z=some Z'->
 (∀σ',StOk K u8 aeH F H σ' Z'->Q σ' H)->g v σ H Q
def aX{K:X5}{i:Nat}:E2 K (ib i) (putN i):=λu8 aeH F H σ Z Z' d v Q s q e k=>by
 cases e;exact k _ (s.set q)
def Xp(K:X5)(Xw:Nat->Hp->Prop)(τ:DS):TS:=λD σ H=>∃u8 aeH,tS K Xw u8 aeH τ D σ H
def PSDs.ex{body:List Stmt}(h:PSDs X Xw body τ):PSs X body (Xp X.K Xw τ):=λf8 s σ H D I ⟨u8,aeH,w⟩=>h u8 aeH f8 s σ H D I w
def a8{tg iter:Expr}{body:List Stmt}(hp:adD (model X.prog X.w) X.A X.env X.xe)(hc:X.calm=true)(hi:xQ X Xw tg iter δi)(hg:PG X tg g)(SN:E2 X.K g put)(hb:PSDs X Xw body τ)
 (hs:∀x,aae iter X.env x=pure x:=by intro _;rfl):g8 X Xw (.For tg iter body [] pos) (cw put δi τ):=λu8 aeH=>PS.weak (w6 hp hc hi hg hb.ex hs) λD σ H ⟨F,Z,s,w⟩=>by
 refine⟨F,Z,s.st,?_⟩;unfold cw at w
 match δi Z,w with
 |none,w=>exact w
 |some (.ex n),w=>exact λF' H' e'=>w F' H' (s.ext.trans e')
 |some (.ok ds),w=>
  have w:WPS X.K Xw u8 aeH (forL put τ ds Z) D:=w;intro J H1 F1 e1 U4;obtain⟨s1,back⟩:=(s.ext' e1).rebase;have hU:=DR (s.ext' e1);generalize join F1 aeH=U at s1 back hU;refine⟨λi m σ H=>m=ds.length - i/\i<=ds.length/\∃F Z,StOk X.K F1 U F H σ Z/\WPS X.K Xw u8 aeH (forL put τ (ds.drop i) Z) D,⟨ds.length,by simp,YC _,F1,Z,s1,by simpa using w⟩,?_⟩;rintro i m σ2 H2 ⟨rfl,Pl,F2,Z2,s2,w2⟩;by_cases dW:i<ds.length
  ·obtain⟨d,hd⟩:∃d,ds[i]? =some d:=⟨_,XW dW⟩
   obtain⟨FQ,q_⟩:=(U4 F2 H2 i s2.ext.ff s2.st.fh).1 d hd;have ed:ds.drop i=d::ds.drop (i+1):=by
    obtain⟨hi,e⟩:=X0.mp hd;rw[abn hi,e]
   rw[ed] at w2;unfold forL at w2;refine .inr ⟨FQ,λσ' H'=>∃F' Z',StOk X.K F1 U F' H' σ' Z'/\WPS X.K Xw u8 aeH (forL put τ (ds.drop (i+1)) Z') D,λσ' H' ⟨F',Z',h2,h3⟩=>⟨ds.length - (i+1),by omega,rfl,dW,F',Z',h2,h3⟩,λx H3 y3=>?_⟩;obtain⟨F3,qh,q3⟩:=q_ x H3 y3
   match SM:put d Z2,w2 with
   |none,w2=>exact w2.elim
   |some Z3,w2=>
    refine SN F1 U F3 H3 σ2 Z2 Z3 d x _ (s2.ext' qh) q3 SM λσ3 s3=>⟨F1,U,F3,Z3,s3,?_⟩
    have w2:WPS X.K Xw u8 aeH (τ Z3>>=λo=>match o with | .nx Z2=>forL put τ (ds.drop (i+1)) Z2 | .rt v=>aa (.rt v)) D:=w2
    match τ Z3,w2 with
    |none,w2=>exact w2
    |some (.ok (.nx Z')),w2=>exact λσ' F' H' s'=>⟨F',Z',s',w2⟩
    |some (.ok (.rt d)),w2=>exact λv F' H' e q=>w2 v F' H' (back _ _ e) q
    |some (.ex n),w2=>exact λF' H' e=>w2 F' H' (back _ _ e)
  ·have hi:i=ds.length:=by omega
   subst hi;rw[aa4] at w2;exact .inl ⟨(U4 F2 H2 ds.length s2.ext.ff s2.st.fh).2 (X4 _),w2 σ2 F2 H2 (s2.unbase back hU)⟩
end
def gI(f:Int->Int->D):D->D->M D
 | .int i, .int j=>aa (f i j)
 |_,_=>ag
def O2(c:Int->Int->Bool)(f:Int->Int->D):D->D->M D
 | .int i, .int j=>if c i j then aa (f i j) else ag
 |_,_=>ag
def GV{K:X5}{gd:Int->Int->D}(h:∀F i j,Den K F (gd i j) (gv i j)):Ac K (Et gv) (gI gd):=λXw F H x y dx dy Q s hx hy w=>by
 unfold gI at w;split at w
 ·rename_i i j;exact⟨i,j,hx,hy,WP.now w s (h F i j)⟩
 ·exact w.elim
def Bb{K:X5}{C:Int->Int->Prop}(h:∀F i j,Den K F (gd i j) (gv i j))(hc:∀i j,c i j=true->C i j):Ac K (rI C gv) (O2 c gd):=λXw F H x y dx dy Q s hx hy w=>by
 unfold O2 at w;split at w
 ·rename_i i j;split at w
  ·rename_i Oi;exact⟨i,j,hx,hy,hc i j Oi,WP.now w s (h F i j)⟩
  ·exact w.elim
 ·exact w.elim
def dw:=gI λi j=> .int (i+j)
def AK:=gI λi j=> .int (i - j)
def iO:=O2 (λi j=>decide ((-(2 ^ 64)<i/\i<2 ^ 64)\/(-(2 ^ 64)<j/\j<2 ^ 64))) λi j=> .int (i*j)
def tL:=O2 (λ_ j=>decide (0<j/\j<1073741824)) λi j=> .int (i / j)
def lZ:=O2 (λ_ j=>decide (0<j)) λi j=> .int (i % j)
section
variable{X:Cx}{Xw:Nat->Hp->Prop}{a b:Expr}{δa δb:DE}{pos:Pos}
def cu(ha:PD X Xw a δa)(hb:PD X Xw b δb):PD X Xw (.BinOp a .Add b pos) (d2 dw δa δb):=pw Na (GV λ_ _ _=>rfl) ha hb
def wY(ha:PD X Xw a δa)(hb:PD X Xw b δb):PD X Xw (.BinOp a .Sub b pos) (d2 AK δa δb):=pw Nj (GV λ_ _ _=>rfl) ha hb
def jQ(ha:PD X Xw a δa)(hb:PD X Xw b δb):PD X Xw (.BinOp a .Mult b pos) (d2 iO δa δb):=pw Ng (Bb (λ_ _ _=>rfl) λi j h=>by unfold CMul;exact aeC h) ha hb
def wN(ha:PD X Xw a δa)(hb:PD X Xw b δb):PD X Xw (.BinOp a .FloorDiv b pos) (d2 tL δa δb):=pw JJ (Bb (λ_ _ _=>rfl) λi j h=>by unfold OD;exact aeC h) ha hb
def om(ha:PD X Xw a δa)(hb:PD X Xw b δb):PD X Xw (.BinOp a .Mod b pos) (d2 lZ δa δb):=pw Nf (Bb (λ_ _ _=>rfl) λi j h=>aeC h) ha hb
def vQ:D->D->M D
 | .lst ds, .int i=>match atI ds i with | some d=>aa d | none=>ag
 |_,_=>ag
def bq:D->D->M D
 | .tup ds, .int i=>match atI ds i with | some d=>aa d | none=>ag
 |_,_=>ag
def FK:D->D->M D
 | .scr ns, .int i=>match atI ns i with | some n=>aa (.int n) | none=>ag
 |_,_=>ag
def nN:D->D->M D
 | .str x, .int i=>match atI x.cps.toList i with | some c=>aa (.str ⟨#[c]⟩) | none=>ag
 |_,_=>ag
def DenL.atI{K:X5}(h:DenL K F ds vs){d:D}(e:L2.atI ds i=some d):∃v,L2.atI vs i=some v/\Den K F d v:=by
 unfold L2.atI at e⊢;rw[<-h.len];cases q:Jo ds.length i with
 |none=>rw[q] at e;cases e
 |some j=>
  rw[q] at e;exact h.get e
def JK{K:X5}:Ac K (Kk K) vQ:=λXw F H x y dx dy Q s hx hy w=>by
 unfold vQ at w;split at w
 ·rename_i ds i;obtain⟨a,vs,h1,h2,h3,h4⟩:=hx;split at w
  ·rename_i d e;obtain⟨v,e1,q⟩:=h3.atI e;exact⟨a,vs,i,v,h1,hy,SqL.of (s _ _ h2),e1,WP.now w s q⟩
  ·exact w.elim
 ·exact w.elim
def JN{K:X5}:Ac K (QE K) bq:=λXw F H x y dx dy Q s hx hy w=>by
 unfold bq at w;split at w
 ·rename_i ds i;obtain⟨a,vs,h1,h2,h3,h4⟩:=hx;split at w
  ·rename_i d e;obtain⟨v,e1,q⟩:=h3.atI e;exact⟨a,vs,i,v,h1,hy,SqT.of (s _ _ h2),e1,WP.now w s q⟩
  ·exact w.elim
 ·exact w.elim
def JL{K:X5}:Ac K (Kk K) FK:=λXw F H x y dx dy Q s hx hy w=>by
 unfold FK at w;split at w
 ·rename_i ns i;obtain⟨a,h1,h2,h3⟩:=hx;split at w
  ·rename_i n e;refine⟨a,_,i, .int n,h1,hy,Same.seq s h2,?_,WP.now w s rfl⟩;unfold L2.atI at e⊢;rw[XS];cases q:Jo ns.length i with
   |none=>rw[q] at e;cases e
   |some j=>
    rw[q] at e;have e:ns[j]? =some n:=e;show (ns.map V.int)[j]? =some (.int n);rw[X6,e];rfl
  ·exact w.elim
 ·exact w.elim
def JM{K:X5}:Ac K QD nN:=λXw F H x y dx dy Q s hx hy w=>by
 unfold nN at w;split at w
 ·rename_i z i;obtain⟨h1,h2⟩:=hx;split at w
  ·rename_i c e;exact⟨z,i,c,h1,hy,by have:=cP;omega,e,WP.now w s ⟨rfl,by show 1<=lim;decide⟩⟩
  ·exact w.elim
 ·exact w.elim
def Bh(ha:PD X Xw a δa)(hb:PD X Xw b δb)(hs:j8 b:=by intro _ _;rfl):PD X Xw (.Subscript a b pos) (d2 vQ δa δb):=CD v_ JK ha hb hs
def Nu(ha:PD X Xw a δa)(hb:PD X Xw b δb)(hs:j8 b:=by intro _ _;rfl):PD X Xw (.Subscript a b pos) (d2 FK δa δb):=CD v_ JL ha hb hs
def bF(ha:PD X Xw a δa)(hb:PD X Xw b δb)(hs:j8 b:=by intro _ _;rfl):PD X Xw (.Subscript a b pos) (d2 bq δa δb):=CD MR JN ha hb hs
def wU(ha:PD X Xw a δa)(hb:PD X Xw b δb)(hs:j8 b:=by intro _ _;rfl):PD X Xw (.Subscript a b pos) (d2 nN δa δb):=CD MQ JM ha hb hs
def kL:D->D->M D
 | .lst x, .lst y=>if x.length+y.length<=lim then aa (.lst (x++y)) else ag
 |_,_=>ag
def IS:D->D->M D
 | .lst x, .int k=>if (0<=k/\k<=64)/\x.length*k.toNat<=lim then aa (.lst (Ye k.toNat x).flatten) else ag
 |_,_=>ag
def j3(x y:Str):(x++y).length=x.length+y.length:=by
 show (x.cps++y.cps).size=_;simp[Str.length]
def CA(ha:PD X Xw a δa)(hb:PD X Xw b δb):PD X Xw (.BinOp a .Add b pos) (d2 kL δa δb):=pw Nb (λXw F H x y dx dy Q s hx hy w=>by
 unfold kL at w;split at w
 ·rename_i i j;obtain⟨a,vs,h1,h2,h3,h4⟩:=hx;obtain⟨a',g9,k1,k2,k3,k4⟩:=hy;split at w
  ·rename_i hl;have e1:=h3.len;have e2:=k3.len;have:=cP;refine⟨a,a',vs,g9,h1,k1,s _ _ h2,s _ _ k2,by omega,λp hp=>?_⟩;exact WP.fin w (Ext.lay s hp) ⟨p,_,rfl,aB,DenL.mono (Ext.lay s hp).ff (h3.append k3),by rw[X8];exact hl⟩
  ·exact w.elim
 ·exact w.elim) ha hb
def DenL.rep{K:X5}{vs:List V}(h:DenL K F ds vs):∀n:Nat,DenL K F (Ye n ds).flatten (Ye n vs).flatten
 |0=>rfl
 |n+1=>by
  rw[ZG,ZG,aay,aay];exact h.append (DenL.rep h n)
def G5(ha:PD X Xw a δa)(hb:PD X Xw b δb):PD X Xw (.BinOp a .Mult b pos) (d2 IS δa δb):=pw Ni (λXw F H x y dx dy Q s hx hy w=>by
 unfold IS at w;split at w
 ·rename_i i k;obtain⟨a,vs,h1,h2,h3,h4⟩:=hx;split at w
  ·rename_i hl;obtain⟨⟨l1,l2⟩,l3⟩:=hl;have e1:=h3.len;have:=cP;refine⟨a,k,vs,h1,hy,s _ _ h2,by omega,by omega,by rw[<-e1];omega,λp hp=>?_⟩;exact WP.fin w (Ext.lay s hp) ⟨p,_,rfl,aB,DenL.mono (Ext.lay s hp).ff (h3.rep _),by rw[len_rep,adS];exact l3⟩
  ·exact w.elim
 ·exact w.elim) ha hb
end
end L3
namespace L3
open PySem PySem.Spec L2 SeqAt
open PyProof.Rows hiding St
def oR(f:D->D->Option Bool):List D->List D->Option Bool
 |[],[]=>some true
 |x::xs,y::ys=>match f x y,oR f xs ys with
  |some b,some r=>some (b&&r)
  |_,_=>none
 |[],_::_=>some false
 |_::_,[]=>some false
def Az:D->D->Option Bool
 | .non, .non=>some true
 | .bl a, .bl b=>some (a==b)
 | .bl a, .int j=>some ((if a then 1 else 0)==j)
 | .int i, .bl b=>some (i==(if b then 1 else 0))
 | .int i, .int j=>some (i==j)
 | .str x, .str y=>some (x==y)
 | .non, .bl _=>some false
 | .non, .int _=>some false
 | .non, .str _=>some false
 | .non, .lst _=>some false
 | .non, .tup _=>some false
 | .bl _, .non=>some false
 | .bl _, .str _=>some false
 | .bl _, .lst _=>some false
 | .bl _, .tup _=>some false
 | .int _, .non=>some false
 | .int _, .str _=>some false
 | .int _, .lst _=>some false
 | .int _, .tup _=>some false
 | .str _, .non=>some false
 | .str _, .bl _=>some false
 | .str _, .int _=>some false
 | .str _, .lst _=>some false
 | .str _, .tup _=>some false
 | .lst _, .non=>some false
 | .lst _, .bl _=>some false
 | .lst _, .int _=>some false
 | .lst _, .str _=>some false
 | .lst _, .tup _=>some false
 | .tup _, .non=>some false
 | .tup _, .bl _=>some false
 | .tup _, .int _=>some false
 | .tup _, .str _=>some false
 | .tup _, .lst _=>some false
 |_,_=>none
def lu:Nat->D->D->Option Bool
 |n+1, .tup xs, .tup ys=>oR (lu n) xs ys
 |n+1, .lst xs, .lst ys=>oR (lu n) xs ys
 |n+1, .scr xs, .lst ys=>oR (lu n) (xs.map D.int) ys
 |_,x,y=>Az x y
structure EqAll (A:YX) (s:X1) (u v:Value) (b:Bool):Prop where
 rc:RcAt A s u v b
 ne:RcNeAt A s u v (!b)
 eq:EqAt A s u v b
section
variable{X:Cx}{f8:List (Addr×Obj)}{σ:St}{F H:Hp}{s:X1}{A:YX}
def xD(I:Inv X f8 σ H s)(hs:Same F H)(h:Den X.K F (.tup ds) v)(r:RelV v u):∃a vs aT,u= .ref a/\v= .ref a/\F a=some (.tup vs)/\DenL X.K F ds vs/\Vals vs aT/\s.heap.IsTuple a aT.toArray:=by
 obtain⟨a,vs,rfl,h2,h3,h4⟩:=h;obtain⟨aT,r1,p1,_⟩:=I.tuple (SqT.of (hs _ _ h2));exact⟨a,vs,aT,r,rfl,h2,h3,r1,p1⟩
def rE(I:Inv X f8 σ H s)(hs:Same F H)(h:Den X.K F (.lst ds) v)(r:RelV v u):∃a vs aT,u= .ref a/\v= .ref a/\F a=some (.lst vs)/\DenL X.K F ds vs/\Vals vs aT/\s.heap.IsList a aT.toArray:=by
 obtain⟨a,vs,rfl,h2,h3,h4⟩:=h;obtain⟨aT,r1,p1,_⟩:=I.list (SqL.of (hs _ _ h2));exact⟨a,vs,aT,r,rfl,h2,h3,r1,p1.isList⟩
def N0(I:Inv X f8 σ H s)(hs:Same F H)(h:Den X.K F (.scr ns) v)(r:RelV v u):∃a aT,u= .ref a/\v= .ref a/\SqL X.K F a (ns.map V.int)/\Vals (ns.map V.int) aT/\s.heap.IsList a aT.toArray:=by
 obtain⟨a,rfl,h2,h3⟩:=h;obtain⟨aT,r1,p1,_⟩:=I.list (Same.seq hs h2);exact⟨a,aT,r,rfl,h2,r1,p1.isList⟩
def yD(I:Inv X f8 σ H s)(hs:Same F H)(hu:A.units<cLine)(hx:Den X.K F x v)(hy:Den X.K F y w)(rx:RelV v u)(ry:RelV w t)(e:Az x y=some b):EqAll A s u t b:=by
 cases x<;>cases y<;>cases e<;>(first | (cases (show _=V.non from hx);cases rx) | (cases (show _=V.bl _ from hx);cases rx) | (cases (show _=V.int _ from hx);obtain⟨_,rfl⟩:=rx) | (cases (show _=V.str _ from hx.1);obtain⟨_,rfl⟩:=rx) | (have q:=xD I hs hx rx;obtain⟨_,_,_,rfl,_,_,_,_,p1⟩:=q) | (have q:=rE I hs hx rx;obtain⟨_,_,_,rfl,_,_,_,_,p1⟩:=q))<;>(first | (cases (show _=V.non from hy);cases ry) | (cases (show _=V.bl _ from hy);cases ry) | (cases (show _=V.int _ from hy);obtain⟨_,rfl⟩:=ry) | (cases (show _=V.str _ from hy.1);obtain⟨_,rfl⟩:=ry) | (have q:=xD I hs hy ry;obtain⟨_,_,_,rfl,_,_,_,_,p2⟩:=q) | (have q:=rE I hs hy ry;obtain⟨_,_,_,rfl,_,_,_,_,p2⟩:=q))
 ·exact⟨RcAt.none_none,RcNeAt.none_none,EqAt.same _⟩
 ·exact⟨RcAt.none_bool _,RcNeAt.none_bool _,EqAt.none_bool _⟩
 ·exact⟨RcAt.none_int _ _,RcNeAt.none_int _ _,EqAt.none_int _ _⟩
 ·exact⟨RcAt.none_str _ _,RcNeAt.none_str _ _,EqAt.none_str _ _⟩
 ·exact⟨RcAt.none_tuple p2 hu,RcNeAt.none_tuple p2 hu,EqAt.none_tuple p2 hu⟩
 ·exact⟨RcAt.none_list p2 hu,RcNeAt.none_list p2 hu,EqAt.none_list p2 hu⟩
 ·exact⟨RcAt.bool_none _,RcNeAt.bool_none _,EqAt.bool_none _⟩
 ·exact⟨RcAt.bool_bool _ _,RcNeAt.bool_bool _ _,EqAt.bool_bool _ _⟩
 ·exact⟨RcAt.bool_int _ _ _,RcNeAt.bool_int _ _ _,EqAt.bool_int _ _ _⟩
 ·exact⟨RcAt.bool_str _ _ _,RcNeAt.bool_str _ _ _,EqAt.bool_str _ _ _⟩
 ·exact⟨RcAt.bool_tuple _ p2 hu,RcNeAt.bool_tuple _ p2 hu,EqAt.bool_tuple _ p2 hu⟩
 ·exact⟨RcAt.bool_list _ p2 hu,RcNeAt.bool_list _ p2 hu,EqAt.bool_list _ p2 hu⟩
 ·exact⟨RcAt.int_none _ _,RcNeAt.int_none _ _,EqAt.int_none _ _⟩
 ·exact⟨RcAt.int_bool _ _ _,RcNeAt.int_bool _ _ _,EqAt.int_bool _ _ _⟩
 ·exact⟨RcAt.int_int _ _ _ _,RcNeAt.int_int _ _ _ _,EqAt.int_int _ _ _ _⟩
 ·exact⟨RcAt.int_str _ _ _ _,RcNeAt.int_str _ _ _ _,EqAt.int_str _ _ _ _⟩
 ·exact⟨RcAt.int_tuple _ _ p2 hu,RcNeAt.int_tuple _ _ p2 hu,EqAt.int_tuple _ _ p2 hu⟩
 ·exact⟨RcAt.int_list _ _ p2 hu,RcNeAt.int_list _ _ p2 hu,EqAt.int_list _ _ p2 hu⟩
 ·exact⟨RcAt.str_none _ _,RcNeAt.str_none _ _,EqAt.str_none _ _⟩
 ·exact⟨RcAt.str_bool _ _ _,RcNeAt.str_bool _ _ _,EqAt.str_bool _ _ _⟩
 ·exact⟨RcAt.str_int _ _ _ _,RcNeAt.str_int _ _ _ _,EqAt.str_int _ _ _ _⟩
 ·exact⟨RcAt.str_str _ _ _ _,RcNeAt.str_str _ _ _ _,EqAt.str_str _ _ _ _⟩
 ·exact⟨RcAt.str_tuple _ _ p2 hu,RcNeAt.str_tuple _ _ p2 hu,EqAt.str_tuple _ _ p2 hu⟩
 ·exact⟨RcAt.str_list _ _ p2 hu,RcNeAt.str_list _ _ p2 hu,EqAt.str_list _ _ p2 hu⟩
 ·exact⟨RcAt.tuple_none p1 hu,RcNeAt.tuple_none p1 hu,EqAt.tuple_none p1 hu⟩
 ·exact⟨RcAt.tuple_bool _ p1 hu,RcNeAt.tuple_bool _ p1 hu,EqAt.tuple_bool _ p1 hu⟩
 ·exact⟨RcAt.tuple_int _ _ p1 hu,RcNeAt.tuple_int _ _ p1 hu,EqAt.tuple_int _ _ p1 hu⟩
 ·exact⟨RcAt.tuple_str _ _ p1 hu,RcNeAt.tuple_str _ _ p1 hu,EqAt.tuple_str _ _ p1 hu⟩
 ·exact⟨RcAt.tuple_list p1 p2 hu,RcNeAt.tuple_list p1 p2 hu,EqAt.tuple_list p1 p2 hu⟩
 ·exact⟨RcAt.list_none p1 hu,RcNeAt.list_none p1 hu,EqAt.list_none p1 hu⟩
 ·exact⟨RcAt.list_bool _ p1 hu,RcNeAt.list_bool _ p1 hu,EqAt.list_bool _ p1 hu⟩
 ·exact⟨RcAt.list_int _ _ p1 hu,RcNeAt.list_int _ _ p1 hu,EqAt.list_int _ _ p1 hu⟩
 ·exact⟨RcAt.list_str _ _ p1 hu,RcNeAt.list_str _ _ p1 hu,EqAt.list_str _ _ p1 hu⟩
 ·exact⟨RcAt.list_tuple p1 p2 hu,RcNeAt.list_tuple p1 p2 hu,EqAt.list_tuple p1 p2 hu⟩
end
def ev(f:D->D->Option Bool)(xs ys:List D)(j:Nat):Bool:=match xs[j]?,ys[j]? with
 |some x,some y=>(f x y).getD false
 |_,_=>false
def yA:∀{xs ys:List D}{b:Bool},oR f xs ys=some b->∀(j:Nat) (x y:D),xs[j]? =some x->ys[j]? =some y->∃c,f x y=some c
 |[],_,_,_,_,_,_,h,_=>by simp at h
 |_::_,[],_,_,_,_,_,_,h=>by simp at h
 |x::xs,y::ys,b,e,j,x',y',hx,hy=>by
  unfold oR at e;split at e
  ·rename_i b1 r1 e1 e2;cases j with
   |zero=>simp at hx hy;subst hx hy;exact⟨_,e1⟩
   |succ j=>exact yA e2 j x' y' (by simpa using hx) (by simpa using hy)
  ·cases e
def vP:∀{xs ys:List D}{b:Bool},oR f xs ys=some b->b=((Yp (min xs.length ys.length)).all (ev f xs ys)&&xs.length==ys.length)
 |[],[],_,e=>by cases e;rfl
 |[],_::_,_,e=>by cases e;simp
 |_::_,[],_,e=>by cases e;simp
 |x::xs,y::ys,b,e=>by
  unfold oR at e;split at e
  ·rename_i b1 r1 e1 e2;cases e;have h:=vP e2;rw[X7,X7,Nat.succ_min_succ,adE,aaQ,aaZ];have e0:ev f (x::xs) (y::ys) 0=b1:=by unfold ev;simp[e1]
   have e3:(ev f (x::xs) (y::ys)∘Nat.succ)=ev f xs ys:=by funext j;simp[ev,acR]
   have e4:(xs.length+1==ys.length+1)=(xs.length==ys.length):=by simp
   rw[e0,e3,e4,h,Bool.and_assoc]
  ·cases e
section
variable{X:Cx}{f8:List (Addr×Obj)}{σ:St}{F H:Hp}{s:X1}
def lX(h:∀x y v b,Den X.K F x v->Den X.K F y v->f x y=some b->b=true):∀{xs ys:List D}{vs:List V}{b:Bool},DenL X.K F xs vs->DenL X.K F ys vs->oR f xs ys=some b->b=true
 |[],[],_,_,_,_,e=>by cases e;rfl
 |[],_::_,_,_,h1,h2,_=>by
  cases (show _=_ from h1);obtain⟨v,r,z,_⟩:=h2;cases z
 |_::_,[],_,_,h1,h2,_=>by
  cases (show _=_ from h2);obtain⟨v,r,z,_⟩:=h1;cases z
 |x::xs,y::ys,_,b,⟨v,r,e1,q1,q2⟩,⟨v',r',e2,q3,q4⟩,e=>by
  subst e1;cases e2;unfold oR at e;split at e
  ·rename_i b1 r1 f1 f2;cases e;rw[h x y v b1 q1 q3 f1,lX h q2 q4 f2];rfl
  ·cases e
def uF(hx:Den X.K F x v)(hy:Den X.K F y v)(e:Az x y=some b):b=true:=by
 cases x<;>cases y<;>first
  |(cases e;done)
  |(cases e;cases (show _=_ from hx);cases (show _=_ from hy);first | rfl | simp)
  |(cases e;cases (show _=_ from hx.1);cases (show _=_ from hy.1);simp)
  |(cases e;cases (show _=_ from hx);cases (show _=_ from hy.1))
  |(cases e;cases (show _=_ from hx.1);cases (show _=_ from hy))
  |(cases e;obtain⟨_,_,z,_⟩:=hx;subst z;cases (show _=_ from hy);done)
  |(cases e;obtain⟨_,_,z,_⟩:=hx;subst z;cases (show _=_ from hy.1);done)
  |(cases e;obtain⟨_,z,_⟩:=hx;subst z;cases (show _=_ from hy);done)
  |(cases e;obtain⟨_,z,_⟩:=hx;subst z;cases (show _=_ from hy.1);done)
  |(cases e;obtain⟨_,_,z,_⟩:=hy;subst z;cases (show _=_ from hx);done)
  |(cases e;obtain⟨_,_,z,_⟩:=hy;subst z;cases (show _=_ from hx.1);done)
  |(cases e;obtain⟨_,z,_⟩:=hy;subst z;cases (show _=_ from hx);done)
  |(cases e;obtain⟨_,z,_⟩:=hy;subst z;cases (show _=_ from hx.1);done)
  |(cases e;obtain⟨_,_,z,h2,_⟩:=hx;obtain⟨_,_,z',Uu,_⟩:=hy;subst z;cases z';rw[h2] at Uu;cases Uu;done)
  |(cases e;cases (show _=_ from hx);cases (show _=_ from hy);done)
  |(cases e;cases (show _=_ from hx.1);cases (show _=_ from hy.1);done)
def lW(I:Inv X f8 σ H s)(hs:Same F H):∀(n:Nat) (x y:D) (v:V) (b:Bool),Den X.K F x v->Den X.K F y v->lu n x y=some b->b=true
 |0,x,y,v,b,hx,hy,e=>uF hx hy (by unfold lu at e;exact e)
 |n+1,x,y,v,b,hx,hy,e=>by
  unfold lu at e;split at e
  ·rename_i xs ys _;obtain⟨a,vs,rfl,h2,h3,_⟩:=hx;obtain⟨a',g9,z,k2,k3,_⟩:=hy;cases z;rw[h2] at k2;cases k2;exact lX (lW I hs _) h3 k3 (by simpa using e)
  ·rename_i xs ys _;obtain⟨a,vs,rfl,h2,h3,_⟩:=hx;obtain⟨a',g9,z,k2,k3,_⟩:=hy;cases z;rw[h2] at k2;cases k2;exact lX (lW I hs _) h3 k3 (by simpa using e)
  ·rename_i xs ys _;obtain⟨a,rfl,h2,_⟩:=hx;obtain⟨a',g9,z,k2,k3,_⟩:=hy;cases z;have hv:=I.list_inj (Same.seq hs h2) (SqL.of (hs _ _ k2));rw[<-hv] at k3;exact lX (lW I hs _) (DenL.ints xs) k3 (by simpa using e)
  ·exact uF hx hy e
def Vals.at(r:Vals vs aT)(h:j<aT.toArray.size):∃v,vs[j]? =some v/\RelV v aT.toArray[j]:=by
 have hl:=r.length;have hj:j<vs.length:=by rw[Yh] at h;omega
 obtain⟨u,e1,e2⟩:=r.get (XW hj);refine⟨vs[j],XW hj,?_⟩;have:aT.toArray[j]=u:=by
  have:=(X0.mp e1).2;simpa using this
 rw[this];exact e2
def qf(h1:DenL X.K F xs vs)(h2:DenL X.K F ys ws)(r1:Vals vs aT)(r2:Vals ws fR)(e:oR f xs ys=some b)
 (ih:∀x y v w u t c,Den X.K F x v->Den X.K F y w->RelV v u->RelV w t->f x y=some c->EqAt A s u t c):
 ∀j (k1:j<aT.toArray.size) (k2:j<fR.toArray.size),EqAt A s aT.toArray[j] fR.toArray[j] (ev f xs ys j):=λj k1 k2=>by
 obtain⟨v,e1,q1⟩:=Vals.at r1 k1;obtain⟨w,e2,q2⟩:=Vals.at r2 k2;obtain⟨x,e3,q3⟩:=h1.at e1;obtain⟨y,e4,q4⟩:=h2.at e2;obtain⟨c,hc⟩:=yA e j x y e3 e4;have:ev f xs ys j=c:=by unfold ev;rw[e3,e4];simp[hc]
 rw[this];exact ih x y v w _ _ c q3 q4 q1 q2 hc
def uU(hu:A.units<cLine)(h1:DenL X.K F xs vs)(h2:DenL X.K F ys ws)(r1:Vals vs aT)(r2:Vals ws fR)
 (p1:s.heap.IsList a aT.toArray)(p2:s.heap.IsList a' fR.toArray)(e:oR f xs ys=some b)(hr:a=a'->b=true)
 (ih:∀x y v w u t c,Den X.K F x v->Den X.K F y w->RelV v u->RelV w t->f x y=some c->EqAt A.in1 s u t c):EqAll A s (.ref a) (.ref a') b:=by
 have l1:=h1.len;have l2:=h2.len;have l3:=r1.length;have l4:=r2.length;have hv:=vP e;have core:RcAt A s (.ref a) (.ref a') b/\RcNeAt A s (.ref a) (.ref a') (!b):=by
  by_cases hl:xs.length=ys.length
  ·have hsz:aT.toArray.size=fR.toArray.size:=by rw[Yh,Yh];omega
   have hb:b=(Yp aT.toArray.size).all (ev f xs ys):=by
    rw[hv,hl,adT,beq_self_eq_true,adp];congr 2;rw[Yh];omega
   rw[hb];exact⟨RcAt.lists p1 p2 hsz hu (qf h1 h2 r1 r2 e ih),RcNeAt.lists p1 p2 hsz hu (qf h1 h2 r1 r2 e ih)⟩
  ·have hb:b=false:=by rw[hv,show (xs.length==ys.length)=false from by simpa using hl,adf]
   have hsz:(aT.toArray.size !=fR.toArray.size)=true:=by
    rw[Yh,Yh];simp;omega
   rw[hb];exact⟨RcAt.lists_lengths p1 p2 hsz hu,RcNeAt.lists_lengths p1 p2 hsz hu⟩
 refine⟨core.1,core.2,?_⟩;by_cases hq:a=a'
 ·rw[hr hq];subst hq;exact EqAt.same _
 ·exact EqAt.of_refs hq core.1
def Bw(hu:A.units<cLine)(h1:DenL X.K F xs vs)(h2:DenL X.K F ys ws)(r1:Vals vs aT)(r2:Vals ws fR)
 (p1:s.heap.IsTuple a aT.toArray)(p2:s.heap.IsTuple a' fR.toArray)(e:oR f xs ys=some b)(hr:a=a'->b=true)
 (ih:∀x y v w u t c,Den X.K F x v->Den X.K F y w->RelV v u->RelV w t->f x y=some c->EqAt A.in1 s u t c):EqAll A s (.ref a) (.ref a') b:=by
 have l1:=h1.len;have l2:=h2.len;have l3:=r1.length;have l4:=r2.length;have hb:b=((Yp (min aT.toArray.size fR.toArray.size)).all (ev f xs ys)&&aT.toArray.size==fR.toArray.size):=by
  rw[vP e,Yh,Yh,<-l3,<-l4,<-l1,<-l2]
 have core:RcAt A s (.ref a) (.ref a') b/\RcNeAt A s (.ref a) (.ref a') (!b):=by
  rw[hb];exact⟨RcAt.tuples p1 p2 hu (qf h1 h2 r1 r2 e ih),RcNeAt.tuples p1 p2 hu (qf h1 h2 r1 r2 e ih)⟩
 refine⟨core.1,core.2,?_⟩;by_cases hq:a=a'
 ·rw[hr hq];subst hq;exact EqAt.same _
 ·exact EqAt.of_refs hq core.1
def AA(I:Inv X f8 σ H s)(hs:Same F H):∀(n:Nat) (A:YX) (x y:D) (v w:V) (u t:Value) (b:Bool),A.units+n<cLine->Den X.K F x v->Den X.K F y w->RelV v u->RelV w t->lu n x y=some b->EqAll A s u t b
 |0,A,x,y,v,w,u,t,b,hu,hx,hy,rx,ry,e=>yD I hs (by omega) hx hy rx ry (by unfold lu at e;exact e)
 |n+1,A,x,y,v,w,u,t,b,hu,hx,hy,rx,ry,e=>by
  have Rp:A.units<cLine:=by omega
  have WR:A.in1.units+n<cLine:=by show A.units+1+n<cLine;omega
  have hrefl:=lW I hs (n+1) x y;have ih:∀x y v w u t c,Den X.K F x v->Den X.K F y w->RelV v u->RelV w t->lu n x y=some c->EqAt A.in1 s u t c:=λx y v w u t c q1 q2 q3 q4 q5=>(AA I hs n A.in1 x y v w u t c WR q1 q2 q3 q4 q5).eq;have e0:=e;unfold lu at e;split at e
  ·rename_i xs ys heq;cases heq;obtain⟨a,vs,aT,rfl,OW,h2,h3,r1,p1⟩:=xD I hs hx rx;obtain⟨a',g9,its',rfl,OX,k2,k3,Qx,Qq⟩:=xD I hs hy ry;exact Bw Rp h3 k3 r1 Qx p1 Qq e (λz=>by subst z;exact hrefl v b hx (by rw[OW,<-OX];exact hy) e0) ih
  ·rename_i xs ys heq;cases heq;obtain⟨a,vs,aT,rfl,OW,h2,h3,r1,p1⟩:=rE I hs hx rx;obtain⟨a',g9,its',rfl,OX,k2,k3,Qx,Qq⟩:=rE I hs hy ry;exact uU Rp h3 k3 r1 Qx p1 Qq e (λz=>by subst z;exact hrefl v b hx (by rw[OW,<-OX];exact hy) e0) ih
  ·rename_i xs ys heq;cases heq;obtain⟨a,aT,rfl,OW,h2,r1,p1⟩:=N0 I hs hx rx;obtain⟨a',g9,its',rfl,OX,k2,k3,Qx,Qq⟩:=rE I hs hy ry;exact uU Rp (DenL.ints _) k3 r1 Qx p1 Qq e (λz=>by subst z;exact hrefl v b hx (by rw[OW,<-OX];exact hy) e0) ih
  ·exact yD I hs Rp hx hy rx ry e
end
def ly(x y:D):M D:=match lu 6 x y with | some b=>aa (.bl b) | none=>ag
def lz(x y:D):M D:=match lu 6 x y with | some b=>aa (.bl (!b)) | none=>ag
def Qz(K:X5):R2:=λx y H Q=>∃F dx dy b,Same F H/\Den K F dx x/\Den K F dy y/\lu 6 dx dy=some b/\Q (.bl b) H
def QI(K:X5):R2:=λx y H Q=>∃F dx dy b,Same F H/\Den K F dx x/\Den K F dy y/\lu 6 dx dy=some b/\Q (.bl (!b)) H
section
variable{X:Cx}{Xw:Nat->Hp->Prop}{a b:Expr}{δa δb:DE}{pos:Pos}
def GS(hu:X.A.units+64<cLine):OpR X (Y8 .Eq) (Qz X.K):=by
 intro f8 s σ H x y v u Q I rx ry h;obtain⟨F,dx,dy,b,hs,hx,hy,e,q⟩:=h;exact(AA I hs 6 X.A dx dy x y v u b (by omega) hx hy rx ry e).rc _ _ _ _ ⟨.bl b,H,I,rfl,q⟩
def Nh(hu:X.A.units+64<cLine):OpR X (Y8 .NotEq) (QI X.K):=by
 intro f8 s σ H x y v u Q I rx ry h;obtain⟨F,dx,dy,b,hs,hx,hy,e,q⟩:=h;exact(AA I hs 6 X.A dx dy x y v u b (by omega) hx hy rx ry e).ne _ _ _ _ ⟨.bl (!b),H,I,rfl,q⟩
def GW{K:X5}:Ac K (Qz K) ly:=λXw F H x y dx dy Q s hx hy w=>by
 unfold ly at w;split at w
 ·rename_i b e;exact⟨F,dx,dy,b,s,hx,hy,e,WP.now w s rfl⟩
 ·exact w.elim
def Nk{K:X5}:Ac K (QI K) lz:=λXw F H x y dx dy Q s hx hy w=>by
 unfold lz at w;split at w
 ·rename_i b e;exact⟨F,dx,dy,b,s,hx,hy,e,WP.now w s rfl⟩
 ·exact w.elim
def pA(hu:X.A.units+64<cLine)(ha:PD X Xw a δa)(hb:PD X Xw b δb):qA X Xw (.Compare a [.Eq] [b] pos) (dH (d2 ly δa δb)):=kx (GS hu) GW ha hb
def jh(hu:X.A.units+64<cLine)(ha:PD X Xw a δa)(hb:PD X Xw b δb):qA X Xw (.Compare a [.NotEq] [b] pos) (dH (d2 lz δa δb)):=kx (Nh hu) Nk ha hb
def zu(hu:X.A.units+64<cLine)(ha:PD X Xw a δa)(hb:PD X Xw b δb):PD X Xw (.Compare a [.Eq] [b] pos) (d2 ly δa δb):=G3 (GS hu) GW ha hb
end
def PDW(X:Cx)(Xw:Nat->Hp->Prop)(e:Expr)(δ:DT):Prop:=PW X e (RE X.K Xw δ)
def PW.weak(h:PW X e t)(k:∀σ H Q,t' σ H Q->t σ H Q):PW X e t':=λwh f8 s σ H Q I w=>h wh f8 s σ H Q I (k σ H Q w)
section
variable{X:Cx}{Xw:Nat->Hp->Prop}{a b c:Expr}{rest:List Expr}{δa δb δc:DE}{τa τb:DT}{pos:Pos}
def sE(ha:qA X Xw a τa):PDW X Xw (.BoolOp .And [a] pos) τa:=Kj ha
def ku(ha:qA X Xw a τa):PDW X Xw (.BoolOp .Or [a] pos) τa:=NR ha
def qu(ha:qA X Xw a τa)(hb:PDW X Xw (.BoolOp .And (b::rest) pos) τb):PDW X Xw (.BoolOp .And (a::b::rest) pos) (lr τa τb):=PW.weak (NQ ha hb) λσ H Q ⟨F,Z,s,w⟩=>by
 refine⟨F,Z,s,WPB.mono (WPB.bindB w) λv H1 ⟨F1,e1,w1⟩=>?_⟩;cases v with
 |true=>exact⟨F1,Z,s.ext e1,w1⟩
 |false=>exact w1 _ _ (Ext.refl e1.fh)
def ot(ha:qA X Xw a τa)(hb:PDW X Xw (.BoolOp .Or (b::rest) pos) τb):PDW X Xw (.BoolOp .Or (a::b::rest) pos) (tJ τa τb):=PW.weak (Qw ha hb) λσ H Q ⟨F,Z,s,w⟩=>by
 refine⟨F,Z,s,WPB.mono (WPB.bindB w) λv H1 ⟨F1,e1,w1⟩=>?_⟩;cases v with
 |false=>exact⟨F1,Z,s.ext e1,w1⟩
 |true=>exact w1 _ _ (Ext.refl e1.fh)
def PDW.t(h:PDW X Xw a τa):qA X Xw a τa:=PW.pt h
def fm(ha:qA X Xw a τa):qA X Xw (.UnaryOp .Not a pos) (e7 τa):=PT.weak (NO ha) λσ H Q ⟨F,Z,s,w⟩=>
 ⟨F,Z,s,WPB.mono (WPB.bindB w) λv H1 ⟨F1,e1,w1⟩=>w1 _ _ (Ext.refl e1.fh)⟩
def HU:D->M Bool
 | .non=>aa false
 | .bl b=>aa b
 | .lst ds=>aa (!ds.isEmpty)
 | .tup ds=>aa (!ds.isEmpty)
 |_=>ag
def dj(δ:DE):DT:=λZ=>δ Z>>=HU
def DenL.isEmpty{K:X5}(h:DenL K F ds vs):ds.isEmpty=vs.isEmpty:=by
 have:=h.len;cases ds<;>cases vs<;>simp_all
def d7(ha:PD X Xw a δa)(he:∀whole,isTrue a X.env whole=(do let v<-whole;standAt a.pos;holding [v] (truthy v)):=by intro _;rfl):qA X Xw a (dj δa):=PT.weak (Hk ha he) λσ H Q ⟨F,Z,s,w⟩=>by
 refine⟨F,Z,s,WP.mono (WPB.bind (K:=X.K) w) λv H1 ⟨F1,d,e1,q1,w1⟩=>?_⟩;cases d with
 |non=>cases (show _=_ from q1);exact⟨false,rfl,w1 _ _ (Ext.refl e1.fh)⟩
 |bl b=>cases (show _=_ from q1);exact⟨b,rfl,w1 _ _ (Ext.refl e1.fh)⟩
 |lst ds=>
  obtain⟨a,vs,rfl,h2,h3,_⟩:=q1;exact⟨!ds.isEmpty, .inl ⟨vs,SqL.of (e1.fh _ _ h2),by rw[h3.isEmpty]⟩,w1 _ _ (Ext.refl e1.fh)⟩
 |tup ds=>
  obtain⟨a,vs,rfl,h2,h3,_⟩:=q1;exact⟨!ds.isEmpty, .inr (.inl ⟨vs,SqT.of (e1.fh _ _ h2),by rw[h3.isEmpty]⟩),w1 _ _ (Ext.refl e1.fh)⟩
 |_=>exact w1.elim
def Bi(h:PD X Xw a δa):PD X Xw (.BoolOp op [a] pos) δa:=NC h
def wL(ha:PD X Xw a δa)(hb:PD X Xw (.BoolOp .And (b::rest) pos) δb):PD X Xw (.BoolOp .And (a::b::rest) pos) (fN δa δb):=PE.weak (Nw ha hb) λσ H Q ⟨F,Z,s,w⟩=>by
 refine⟨F,Z,s,WP.mono (WP.bind w) λv H1 ⟨F1,d,e1,q1,w1⟩=>?_⟩;cases d with
 |bl k=>
  refine⟨k,q1,?_⟩;cases k with
  |true=>exact⟨F1,Z,s.ext e1,w1⟩
  |false=>exact WP.now w1 e1.fh rfl
 |_=>exact w1.elim
def Nv(ha:PD X Xw a δa):PD X Xw (.UnaryOp .Not a pos) (KQ δa):=PE.weak (NB ha) λσ H Q ⟨F,Z,s,w⟩=>by
 refine⟨F,Z,s,WP.mono (WP.bind w) λv H1 ⟨F1,d,e1,q1,w1⟩=>?_⟩;cases d with
 |bl k=>exact⟨k,q1,WP.now w1 e1.fh rfl⟩
 |_=>exact w1.elim
def Qs(hc:qA X Xw c τa)(ha:PD X Xw a δa)(hb:PD X Xw b δb):PD X Xw (.IfExp c a b pos) (Um τa δa δb):=PE.weak (Hb hc ha hb) λσ H Q ⟨F,Z,s,w⟩=>by
 refine⟨F,Z,s,WPB.mono (WP.bindB w) λv H1 ⟨F1,e1,w1⟩=>?_⟩;cases v with
 |true=>exact⟨F1,Z,s.ext e1,w1⟩
 |false=>exact⟨F1,Z,s.ext e1,w1⟩
def Ae(p q:Int->Int->Bool)(a b c:DE):DE:=λZ=>a Z>>=λx=>b Z>>=λy=>match x,y with
 | .int i, .int j=>if p i j then c Z>>=λz=>gI (λi j=> .bl (q i j)) y z else aa (.bl false)
 |_,_=>ag
def vn{p q:Int->Int->Bool}:∀σ H Q,tD X.K Xw (Ae p q δa δb δc) σ H Q->Bu (Et λi j=> .bl (p i j)) (Et λi j=> .bl (q i j)) (tD X.K Xw δa) (tD X.K Xw δb) (tD X.K Xw δc) σ H Q:=λσ H Q ⟨F,Z,s,w⟩=>by
 refine⟨F,Z,s,WP.mono (WP.bind w) λv H1 ⟨F1,d,e1,q1,w1⟩=>?_⟩;refine⟨F1,Z,s.ext e1,WP.mono (WP.bind w1) λu H2 ⟨F2,d',e2,q2,w2⟩=>?_⟩;cases d with
 |int i=>
  cases d' with
  |int j=>
   refine⟨i,j,q1,q2,p i j,rfl,?_⟩;have w2:WP X.K Xw F2 H2 (if p i j then δc Z>>=λz=>gI (λi j=> .bl (q i j)) (.int j) z else aa (.bl false)) Q:=w2;cases hp:p i j with
   |false=>
    rw[hp] at w2;exact WP.now w2 e2.fh rfl
   |true=>
    rw[hp] at w2;refine⟨F2,Z,(s.ext e1).ext e2,WP.mono (WP.bind w2) λu' H3 ⟨F3,Vy,e3,q3,w3⟩=>?_⟩;exact GV (gd:=λi j=> .bl (q i j)) (λ_ _ _=>rfl) Xw F3 H3 u u' (.int j) Vy Q e3.fh q2 q3 w3
  |_=>exact w2.elim
 |_=>exact w2.elim
def G2(ho:OpR X (Y8 op) (Et λi j=> .bl (p i j)))(l7:OpR X (Y8 Eh) (Et λi j=> .bl (q i j)))(ha:PD X Xw a δa)(hb:PD X Xw b δb)(hc:PD X Xw c δc)
 (hm:lastMarks [op,Eh] [b,c]=false:=by with_unfolding_all rfl):PD X Xw (.Compare a [op,Eh] [b,c] pos) (Ae p q δa δb δc):=PE.weak (G8 ho l7 ha hb hc hm) vn
def Bn(ho:OpR X (Y8 op) (Et λi j=> .bl (p i j)))(l7:OpR X (Y8 Eh) (Et λi j=> .bl (q i j)))(ha:PD X Xw a δa)(hb:PD X Xw b δb)(hc:PD X Xw c δc)
 (hm:lastMarks [op,Eh] [b,c]=false:=by with_unfolding_all rfl):qA X Xw (.Compare a [op,Eh] [b,c] pos) (dH (Ae p q δa δb δc)):=PT.weak (Hj ho l7 ha hb hc hm) λσ H Q ⟨F,Z,s,w⟩=>by
 refine vn σ H _ ⟨F,Z,s,WP.mono (WPB.bind w) λv H1 ⟨F1,d,e1,q1,w1⟩=>?_⟩;cases d with
 |bl k=>exact⟨k,q1,w1 _ _ (Ext.refl e1.fh)⟩
 |_=>exact w1.elim
def xX(K:X5)(r:List V->Hp->VK->Prop)(g:List D->M D):Prop:=∀(Xw:Nat->Hp->Prop) (F H:Hp) (vs:List V) (ds:List D) (Q:VK),Same F H->DenL K F ds vs->WP K Xw F H (g ds) Q->r vs H Q
variable{x:Str}{p:Pos}{e:Expr}{es:List Expr}{δs:DA}{id T:String}{r:List V->Hp->VK->Prop}{g:List D->M D}
def HK(h:xX X.K r g):∀σ H Q,tD X.K Xw (dA g δs) σ H Q->TY r (Vm X.K Xw δs) σ H Q:=λσ H Q ⟨F,Z,s,w⟩=>
 ⟨F,Z,s,WPL.mono (WP.bindL w) λvs H1 ⟨F1,ds,e1,q1,w1⟩=>h Xw F1 H1 vs ds Q e1.fh q1 w1⟩
def cE(hc:CallR X (.builtin id) r)(hd:xX X.K r g)(hg:Gl X x)(hm:X.mg x=none)(hv:YN x=some (.builtin id))(ha:jm X Xw (e::es) δs)(hn:x≠"__name__":=by decide)(l6:(x==("__debug__":Str))=false:=by decide)
 (he:Yg (e::es) X.env=(false,eval e X.env)::Yg es X.env:=by rfl)(kG:(ZI pos (Yg es X.env)).any (·.1)=false:=by rfl):PD X Xw (.Call (.Name x p) (e::es) [] pos) (dA g δs):=
 PE.weak (G7 hc hg hm hv ha hn l6 he kG) (HK hd)
def Em(hc:CallR X (.type T) r)(hd:xX X.K r g)(hg:Gl X x)(hm:X.mg x=none)(hv:YN x=some (.type T))(ha:jm X Xw (e::es) δs)(hn:x≠"__name__":=by decide)(l6:(x==("__debug__":Str))=false:=by decide)
 (he:Yg (e::es) X.env=(false,eval e X.env)::Yg es X.env:=by rfl)(kG:(ZI pos (Yg es X.env)).any (·.1)=false:=by rfl):PD X Xw (.Call (.Name x p) (e::es) [] pos) (dA g δs):=
 PE.weak (va hc hg hm hv ha hn l6 he kG) (HK hd)
def cz:List D->M D
 |[.lst ds]=>aa (.int ds.length)
 |[.tup ds]=>aa (.int ds.length)
 |[.str x]=>aa (.int x.length)
 |[.scr ns]=>aa (.int ns.length)
 |_=>ag
def D1:xX X.K (λxs H Q=>(∃p ys,xs=[.ref p]/\(SqL X.K H p ys\/SqT X.K H p ys)/\Q (.int ys.length) H)\/∃z,xs=[.str z]/\z.length<=Yl/\Q (.int z.length) H) cz:=λXw F H vs ds Q s h w=>by
 unfold cz at w;split at w
 ·obtain⟨v,rfl,h1⟩:=h.one;obtain⟨a,vs,rfl,h2,h3,_⟩:=h1;exact .inl ⟨a,vs,rfl, .inl (SqL.of (s _ _ h2)),by rw[<-h3.len];exact WP.now w s rfl⟩
 ·obtain⟨v,rfl,h1⟩:=h.one;obtain⟨a,vs,rfl,h2,h3,_⟩:=h1;exact .inl ⟨a,vs,rfl, .inr (SqT.of (s _ _ h2)),by rw[<-h3.len];exact WP.now w s rfl⟩
 ·obtain⟨v,rfl,h1⟩:=h.one;cases (show _=_ from h1.1);exact .inr ⟨_,rfl,by have:=h1.2;have:=cP;omega,WP.now w s rfl⟩
 ·obtain⟨v,rfl,h1⟩:=h.one;obtain⟨a,rfl,h2,_⟩:=h1;exact .inl ⟨a,_,rfl, .inl (Same.seq s h2),by rw[XS];exact WP.now w s rfl⟩
 ·exact w.elim
def dg(hg:Gl X "len")(hm:X.mg "len"=none)(ha:jm X Xw [e] δs)(he:Yg [e] X.env=[(false,eval e X.env)]:=by rfl):PD X Xw (.Call (.Name "len" p) [e] [] pos) (dA cz δs):=
 cE (vJ.or vK) D1 hg hm PySem.boot_len ha (by decide) (by decide) he rfl
def E3:List D->M D
 |[.int i]=>aa (.int (if i<0 then -i else i))
 |_=>ag
def wk:List D->M D
 |[.int i, .int j]=>aa (.int (if j>i then j else i))
 |_=>ag
def pZ:List D->M D
 |[.int i, .int j]=>aa (.int (if j<i then j else i))
 |_=>ag
def G0(hg:Gl X "abs")(hm:X.mg "abs"=none)(ha:jm X Xw [e] δs)(hb:YN "abs"=some (.builtin "abs"))(he:Yg [e] X.env=[(false,eval e X.env)]:=by rfl):PD X Xw (.Call (.Name "abs" p) [e] [] pos) (dA E3 δs):=
 cE Ff (λXw F H vs ds Q s h w=>by
  unfold E3 at w;split at w
  ·obtain⟨v,rfl,h1⟩:=h.one;cases (show _=_ from h1);exact⟨_,rfl,WP.now w s rfl⟩
  ·exact w.elim) hg hm hb ha (by decide) (by decide) he rfl
end
def WP.xw{K:X5}(h:WP K Xw F H m Q)(k:∀n H,Xw n H->Xw' n H):WP K Xw' F H m Q:=by
 match m,h with
 |none,h=>exact h
 |some (.ok d),h=>exact h
 |some (.ex n),h=>exact λF' H' e=>k n H' (h F' H' e)
def bW{X:Cx}{st:Stmt}(h:g8 X.nox (λ_ _=>False) st τ):g8 X Xw st (λZ=>noex (τ Z)):=λu8 aeH f8 s σ H D I ⟨F,Z,S,w⟩=>by
 have w:WPS X.K Xw u8 aeH (noex (τ Z)) D:=w;have w':tS X.K (λ_ _=>False) u8 aeH τ D σ H:=by
  refine⟨F,Z,S,?_⟩;rcases(τ Z).cs with e | ⟨n,e⟩ | ⟨o,e⟩
  ·rw[e] at w;exact w.elim
  ·rw[e] at w;exact w.elim
  ·rw[e] at w⊢;cases o with
   |nx Z'=>exact w
   |rt d=>exact w
 refine Y2 (h u8 aeH f8 s σ H D (I.wish _) w') (λf s' q=>SP.unwish q) λ_ _ z=>z.elim
def EX(cv:Nat->Value)(Xw:Nat->Hp->Prop):XK:=λc _ H=>∃n,c=cv n/\Xw n H
def Ij(K:X5)(cv:Nat->Value)(k:Nat)(f:List D->M D):Sp:=λvs H Q E=>∃F ds,Same F H/\DenL K F ds vs/\vs.length=k/\WP K (λn H'=>E (cv n) none H') F H (f ds) Q
def b7(n:Nat)(τ:DS):List D->M D:=λds=>τ (ds.map (λd=>some (Sl.fz d))++Ye (n - ds.length) none)>>=λo=>match o with
 | .nx _=>aa .non
 | .rt d=>aa d
section
variable{P:YK}{w:World}{K:X5}{mg:Str->Option Value}{base:Heap}{CX:BE}{cv:Nat->Value}
def OZ{x qual:Str}{st:Stmt}(Fn:Fun K x qual st f fd)(S:FnScope N ps (ai st))
 (ie:∀(b9:Value) (A:YX) (outer:List Env) (s:X1) (H:Hp) (E:XK),Room k (A.deeper (ZE qual (ai st) s.heap.objs.size f b9))->
  PSDs (aY CX P w K mg base N qual (ai st) f b9 A outer s H E) (λn H'=>E (cv n) none H') (aV st) τ):FnOk P w K mg base CX (k+1) f fd ps (Ij K cv ps.length (b7 N.length τ)):=by
 obtain⟨oc,od,kV,doc,pm,an,b9,ct,GX,rfl,lk,uI⟩:=Fn.ex;refine KZ lk uI S (λvs H Q E ⟨_,_,_,_,hl,_⟩=>hl) λA outer s H vs Q E hr xU=>?_;obtain⟨F,ds,fh,hd,hl,hw⟩:=xU;refine⟨_,ie b9 A outer s H E hr F H,F,ds.map (λd=>some (Sl.fz d))++Ye (N.length - ds.length) none,⟨Ext.refl fh,⟨fh,λi sl e=>?_⟩,?_,λi c a e=>?_,λi j c c' a e=>?_⟩,?_⟩
 ·have hlen:=hd.len;by_cases hi:i<ds.length
  ·rw[YA (by simpa using hi),X6] at e;cases q:ds[i]? with
   |none=>rw[q] at e;cases e
   |some d=>
    rw[q] at e;cases e;obtain⟨v,e1,e2⟩:=hd.get q;refine⟨v,?_,e2⟩;unfold L2.start;rw[YA (by simp;omega),X6,e1];rfl
  ·rw[YL (by simpa using hi),Za] at e;split at e<;>cases e
 ·have hlen:=hd.len;unfold L2.start;simp[hlen]
 ·exfalso
  by_cases hi:i<ds.length
  ·rw[YA (by simpa using hi),X6] at e;cases q:ds[i]? with
   |none=>rw[q] at e;cases e
   |some d=>rw[q] at e;cases e
  ·rw[YL (by simpa using hi),Za] at e;split at e<;>cases e
 ·exfalso
  by_cases hi:i<ds.length
  ·rw[YA (by simpa using hi),X6] at e;cases q:ds[i]? with
   |none=>rw[q] at e;cases e
   |some d=>rw[q] at e;cases e
  ·rw[YL (by simpa using hi),Za] at e;split at e<;>cases e
 ·have hw:WP K (λn H'=>E (cv n) none H') F H (τ (ds.map (λd=>some (Sl.fz d))++Ye (N.length - ds.length) none)>>=λo=>match o with | .nx _=>aa .non | .rt d=>aa d) Q:=hw;rcases(τ (ds.map (λd=>some (Sl.fz d))++Ye (N.length - ds.length) none)).cs with e | ⟨n,e⟩ | ⟨o,e⟩
  ·rw[e] at hw;exact hw.elim
  ·rw[e] at hw⊢;exact hw
  ·rw[e] at hw⊢;cases o with
   |nx Z'=>exact λσ' F' H' s'=>hw .non H' F' s'.ext rfl
   |rt d=>exact λv F' H' e' q=>hw v H' F' e' q
end
section
variable{X:Cx}{Xw:Nat->Hp->Prop}{CX:BE}{cv:Nat->Value}{k m:Nat}{f:Addr}{fd:aaz}{ps:List Str}{g:List D->M D}{x:Str}{p pos:Pos}{e:Expr}{es:List Expr}{δs:DA}
def JQ(F:FnOk X.prog X.w X.K X.mg X.base CX k f fd ps (Ij X.K cv m g))(hr:Room k X.A)(hg:Gl X x)(hm:X.mg x=some (.ref f))(hk:Zz X.K (.ref f)=true)(hb:Binds X.K fd ps [])(hx:Passes CX X (EX cv Xw))
 (ha:jm X Xw (e::es) δs)(hl:(e::es).length=m)(l6:(x==("__debug__":Str))=false:=by decide)(he:Yg (e::es) X.env=(false,eval e X.env)::Yg es X.env:=by rfl)(kG:(ZI pos (Yg es X.env)).any (·.1)=false:=by rfl):
 PD X Xw (.Call (.Name x p) (e::es) [] pos) (λZ=>δs Z>>=λds=>if ds.length=m then g ds else ag):=PE.weak (J2 F hr hg hm hk hb .nil hx ha l6 he kG) λσ H Q ⟨F,Z,s,w⟩=>by
 refine⟨F,Z,s,WPL.mono (WP.bindL w) λvs H1 ⟨F1,ds,e1,q1,w1⟩=>?_⟩;split at w1
 ·rename_i FV;refine⟨F1,ds,e1.fh,by simpa using q1,by rw[YR,<-q1.len];exact FV,WP.xw w1 λn H h=>⟨n,rfl,h⟩⟩
 ·exact w1.elim
def wQ{x:Str}(hg:Gl X x)(hm:X.mg x=some u)(r:RelV v u)(hd:∀F,Den X.K F d v)(l6:(x==("__debug__":Str))=false:=by decide):PD X Xw (.Name x pos) (dC d):=
 iz (J8 hg hm r l6) hd
end
def obj_some(x:ObjOk P w H h a o):∃ob,h.get? a=some ob:=by
 cases o with
 |lst xs=>obtain⟨_,_,_,_,e⟩:=x;exact⟨_,e⟩
 |tup xs=>obtain⟨_,_,_,ob,e,_⟩:=x;exact⟨_,e⟩
 |dK kvs=>obtain⟨_,_,_,_,o,_,_,e,_⟩:=x;exact⟨_,e⟩
 |dT kvs=>obtain⟨_,_,_,_,o,_,_,e,_⟩:=x;exact⟨_,e⟩
 |set S n=>obtain⟨o,_,_,_,e,_⟩:=x;exact⟨_,e⟩
 |ins C dx fs=>obtain⟨_,_,_,e,_⟩:=x;exact⟨_,e⟩
 |own y=>obtain⟨_,e⟩:=x;exact⟨_,e⟩
 |xd fs=>obtain⟨_,⟨_,_,_,e,_⟩,_⟩:=x;exact⟨_,e⟩
 |rng lo hi=>obtain⟨_,_,_,e⟩:=x;exact⟨_,e⟩
 |frz ob u=>obtain⟨e,_⟩:=x;exact⟨_,e⟩
 |tbl ps=>exact⟨_,(show h.get? a=some _ from x)⟩
 |met f y=>exact⟨_,(show h.get? a=some _ from x)⟩
 |ext φ=>obtain⟨_,⟨_,e⟩,_⟩:=x;exact⟨_,e⟩
def c_(P:YK)(w:World)(cv:Nat->Value):BE:=λouter H s E e s'=>∃(ea:Addr) (n:Nat) (a0:Value) (B:Heap) (H':Hp),e= .ref ea/\s'.os=s.os/\ach s'.gens/\HOk P w H' s'.heap/\Un (gV outer) [] H H' s.heap s'.heap/\
 Heap.FlyingW B outer ea (cv n) a0 s'.heap/\(∀b o,s'.heap.get? b=some o->(H' b≠none\/(s.heap.get? b).isSome=true)->b∉gV outer->B.get? b=some o)/\E (cv n) none H'
section
variable{P:YK}{w:World}{fs:List Addr}{aeH H:Hp}{h₀ h h':Heap}
def xF(u:Un fs [] aeH H h₀ h)(ka:∀b o,h.get? b=some o->b∉fs->(H b≠none\/(h₀.get? b).isSome=true)->h'.get? b=some o)(kb:∀b o,h.get? b=some o->b∈fs->∃sl,h'.get? b=some {o with slots:=sl}):Un fs [] aeH H h₀ h' where
 keep:=λb o e n hb hx=>ka b o (u.keep b o e n hb hx) hb (.inr (by rw[e];rfl))
 slot:=λb o e n hb hx=>by
  obtain⟨sl,q⟩:=u.slot b o e n hb hx;obtain⟨Ku,q'⟩:=kb b _ q hb;exact⟨Ku,q'⟩
 free:=u.free
 there:=λb o e hx=>by
  obtain⟨o',q⟩:=u.there b o e hx;by_cases hb:b∈fs
  ·obtain⟨sl,q'⟩:=kb b _ q hb;exact⟨_,q'⟩
  ·exact⟨o',ka b o' q hb (.inr (by rw[e];rfl))⟩
 tups:=u.tups
 frzs:=u.frzs
 tbls:=u.tbls
def qZ(x:HOk P w H h)(hf:∀b∈fs,H b=none)(ka:∀b o,h.get? b=some o->b∉fs->H b≠none->h'.get? b=some o):HOk P w H h':=λa o e=>by
 refine(x a o e).stay (λb u hb q=>ka b u q (λz=>?_) ?_) (λ_ q=>q) λ_ _ q=>q
 ·have hz:=hf b z;rcases hb with rfl | hb
  ·rw[hz] at e;cases e
  ·rw[hz] at hb;cases hb
 ·rcases hb with rfl | hb
  ·rw[e];exact λz=>nomatch z
  ·rw[hb];exact λz=>nomatch z
end
section
variable{P:YK}{w:World}{K:X5}{mg:Str->Option Value}{base:Heap}{N:List Str}{qual:Str}{scope:Scope}{f:Addr}{cd:Value}{A:YX}{outer:List Env}{aeI:X1}{aeH:Hp}{E:XK}{cv:Nat->Value}
def cC:Passes (c_ P w cv) (aY (c_ P w cv) P w K mg base N qual scope f cd A outer aeI aeH E) (EX cv λn H'=>E (cv n) none H'):=by
 intro f8 σ H s e s' I ⟨ea,n,a0,B,H',he,Jc,hg,hok,un,DB,hB,m,hm,hE⟩;subst he;have AM:((aY (c_ P w cv) P w K mg base N qual scope f cd A outer aeI aeH E)).env.locals=aeI.heap.objs.size:=rfl;have vU:gV ((aY (c_ P w cv) P w K mg base N qual scope f cd A outer aeI aeH E)).stack=aeI.heap.objs.size::gV outer:=rfl;show wpAny (model P w) (A.deeper (ZE qual scope aeI.heap.objs.size f cd)) (leaving (ZE qual scope aeI.heap.objs.size f cd) (.ref ea)) _ _ s';refine wpAny_leaves_onW I.ok.frames rfl DB λh' Mh ups=>?_;have xT:∀b∈gV ((aY (c_ P w cv) P w K mg base N qual scope f cd A outer aeI aeH E)).stack,H' b=none:=λb hb=>by
  obtain⟨o,ho⟩:∃o,s.heap.get? b=some o:=by
   obtain⟨_,o,ho,_⟩:=I.stack.mem hb;exact⟨o,ho⟩
  exact un.free b o ho (I.stkFree b hb) (by simp)
 have ma:∀b o,s'.heap.get? b=some o->b∉gV ((aY (c_ P w cv) P w K mg base N qual scope f cd A outer aeI aeH E)).stack->(H' b≠none\/(s.heap.get? b).isSome=true)->h'.get? b=some o:=λb o e hb hc=>Mh.1 b o (hB b o e hc hb);have unA:Un (gV outer) [] aeH H' aeI.heap s'.heap:=by
  have u1:Un (gV outer) [] aeH H aeI.heap s.heap:=I.base;refine⟨λb o e nn hb hx=>?_,λb o e nn hb hx=>?_,λb o e nn hx=>?_,λb o e hx=>?_,λb xs q=>un.tups b xs (u1.tups b xs q),λb o u q=>un.frzs b o u (u1.frzs b o u q),λb ps q=>?_⟩
  ·refine un.keep b o (u1.keep b o e nn hb hx) (u1.free b o e nn hx) (λz=>?_) (by simp);rw[vU] at z;rcases XY.mp z with z | z
   ·exact aeB (Yd e) (by rw[z];exact YV _)
   ·exact hb z
  ·obtain⟨sl,q⟩:=u1.slot b o e nn hb hx;obtain⟨Ku,q'⟩:=un.slot b _ q (u1.free b o e nn hx) (by rw[vU];exact XT _ hb) (by simp);exact⟨Ku,q'⟩
  ·obtain⟨o',q⟩:=u1.there b o e hx;exact un.free b o' q (u1.free b o e nn hx) (by simp)
  ·obtain⟨o',q⟩:=u1.there b o e hx;exact un.there b o' q (by simp)
  ·obtain⟨m1,q1⟩:=u1.tbls b ps q;obtain⟨m2,q2⟩:=un.tbls b _ q1;exact⟨m1++m2,by rw[q2,acg]⟩
 have U2:∀b,(aeI.heap.get? b).isSome=true->(s.heap.get? b).isSome=true:=λb hb=>by
  obtain⟨o,ho⟩:=Y6.mp hb;obtain⟨o',q⟩:=(show Un (gV outer) [] aeH H aeI.heap s.heap from I.base).there b o ho (by simp);rw[q];rfl
 have D9:∀b,(aeI.heap.get? b).isSome=true->b≠aeI.heap.objs.size:=λb hb z=>by
  obtain⟨o,ho⟩:=Y6.mp hb;exact aeB (Yd ho) (by rw[z];exact YV _)
 have GG:∀b,b∉gV outer->(H' b≠none\/(aeI.heap.get? b).isSome=true)->b∉gV ((aY (c_ P w cv) P w K mg base N qual scope f cd A outer aeI aeH E)).stack:=λb hb hc z=>by
  rcases hc with hc | hc
  ·exact hc (xT b z)
  ·rw[vU] at z;rcases XY.mp z with z | z
   ·exact D9 b hc z
   ·exact hb z
 refine⟨ea,n,a0,B,H',rfl,Jc.trans I.os,hg,qZ hok xT (λb o e hb hc=>ma b o e hb (.inl hc)),xF unA (λb o e hb hc=>ma b o e (GG b hb hc) (hc.imp id (U2 b))) (λb o e hb=>?_),Mh,λb o e hc hb=>?_,?_⟩
 ·obtain⟨_,o',l7,hd⟩:=DB.2.2.1.mem (show b∈gV ((aY (c_ P w cv) P w K mg base N qual scope f cd A outer aeI aeH E)).stack by rw[vU];exact XT _ hb);rw[e] at l7;cases l7;exact ups b o e hd
 ·have B9:=GG b hb hc;obtain⟨o',l7⟩:∃o',s'.heap.get? b=some o':=by
   rcases hc with hc | hc
   ·cases q:H' b with
    |none=>exact aeB q hc
    |some u=>
     exact obj_some (hok b u q)
   ·obtain⟨o1,h1⟩:=Y6.mp hc;exact unA.there b o1 h1 (by simp)
  have:=hB b o' l7 (hc.imp id (U2 b)) B9;rw[Mh.1 b o' this] at e;cases e;exact this
 ·rw[hm];exact hE
def KN(X:Cx)(cv:Nat->Value)(Xw:Nat->Hp->Prop):Prop:=∀(n:Nat) (f8:List (Addr×Obj)) (σ:St) (H:Hp) (s:X1) (h':Heap) (ea:Addr) (args:List Value),Inv X f8 σ H s->Heap.MadeExcOf s.heap h' ea (cv n) args->Xw n H->X.xe (.ref ea) {s with heap:=h'}
def Gk:KN (aY (c_ P w cv) P w K mg base N qual scope f cd A outer aeI aeH E) cv (λn H'=>E (cv n) none H'):=by
 intro n f8 σ H s hh ea args I hx hE;have vU:gV ((aY (c_ P w cv) P w K mg base N qual scope f cd A outer aeI aeH E)).stack=aeI.heap.objs.size::gV outer:=rfl;have tO:∀env∈((aY (c_ P w cv) P w K mg base N qual scope f cd A outer aeI aeH E)).stack,∀b,env.frame=some b->b∈gV ((aY (c_ P w cv) P w K mg base N qual scope f cd A outer aeI aeH E)).stack:=λenv he b hb=>ack.mpr ⟨env,he,hb⟩;have stays:(abD s.heap (gV ((aY (c_ P w cv) P w K mg base N qual scope f cd A outer aeI aeH E)).stack)).StaysIn s.heap:=λb o q=>adK _ q;show wpAny (model P w) (A.deeper (ZE qual scope aeI.heap.objs.size f cd)) (leaving (ZE qual scope aeI.heap.objs.size f cd) (.ref ea)) _ _ _;refine wpAny_leaves_madeW I.ok.frames rfl stays (PySem.W.funFrames_hide I.stack tO) hx λh' t DB _ _ ups=>?_;have hB:∀b o,s.heap.get? b=some o->b∉gV ((aY (c_ P w cv) P w K mg base N qual scope f cd A outer aeI aeH E)).stack->(abD s.heap (gV ((aY (c_ P w cv) P w K mg base N qual scope f cd A outer aeI aeH E)).stack)).get? b=some o:=λb o e hb=>adC _ e hb;have ma:∀b o,s.heap.get? b=some o->b∉gV ((aY (c_ P w cv) P w K mg base N qual scope f cd A outer aeI aeH E)).stack->h'.get? b=some o:=λb o e hb=>DB.1 b o (hB b o e hb);have u1:Un (gV outer) [] aeH H aeI.heap s.heap:=I.base;have D9:∀b,(aeI.heap.get? b).isSome=true->b≠aeI.heap.objs.size:=λb hb z=>by
  obtain⟨o,ho⟩:=Y6.mp hb;exact aeB (Yd ho) (by rw[z];exact YV _)
 have GG:∀b,b∉gV outer->(H b≠none\/(aeI.heap.get? b).isSome=true)->b∉gV ((aY (c_ P w cv) P w K mg base N qual scope f cd A outer aeI aeH E)).stack:=λb hb hc z=>by
  rcases hc with hc | hc
  ·exact hc (I.stkFree b z)
  ·rw[vU] at z;rcases XY.mp z with z | z
   ·exact D9 b hc z
   ·exact hb z
 refine⟨ea,n, .ref t,abD s.heap (gV ((aY (c_ P w cv) P w K mg base N qual scope f cd A outer aeI aeH E)).stack),H,rfl,I.os,I.bare,qZ I.hok I.stkFree (λb o e hb hc=>ma b o e hb),xF u1 (λb o e hb hc=>ma b o e (GG b hb hc)) (λb o e hb=>?_),DB,λb o e hc hb=>?_,hE⟩
 ·obtain⟨_,o',l7,hd⟩:=I.stack.mem (show b∈gV ((aY (c_ P w cv) P w K mg base N qual scope f cd A outer aeI aeH E)).stack by rw[vU];exact XT _ hb);rw[e] at l7;cases l7;exact ups b o (hx.keeps b o e) hd
 ·obtain⟨o',l7⟩:∃o',s.heap.get? b=some o':=by
   rcases hc with hc | hc
   ·cases q:H b with
    |none=>exact aeB q hc
    |some u=>exact obj_some (I.hok b u q)
   ·obtain⟨o1,h1⟩:=Y6.mp hc;exact u1.there b o1 h1 (by simp)
  have B9:=GG b hb hc;rw[ma b o' l7 B9] at e;cases e;exact hB b o l7 B9
end
section
variable{X:Cx}{Xw:Nat->Hp->Prop}{cv:Nat->Value}{n:Nat}{C:Addr}{x:Str}{np aO pos:Pos}{e:Expr}{es:List Expr}{δs:DA}{bm:List Value}{B newId ML:String}
def oA(O:OwnCls x C bm newId X.mg X.base)(FB:ExcBaseFacts B newId ML bm)(hg:Gl X x)(hc:X.calm=true)(Pb:cv n= .ref C)(hx:KN X cv Xw)(ha:jm X Xw (e::es) δs)(l6:(x==("__debug__":Str))=false:=by decide)
 (he:Yg (e::es) X.env=(false,eval e X.env)::Yg es X.env:=by rfl)(kG:(ZI aO (Yg es X.env)).any (·.1)=false:=by rfl):
 g8 X Xw (.Raise (some (.Call (.Name x np) (e::es) [] aO)) none pos) (λZ=>δs Z>>=λds=>if ds.length<=lim then bf n else ag):=λu8 aeH f8 s σ H D I ⟨F,Z,S,w⟩=>by
 obtain⟨tl,Nn,nm,q,bs,hdct,sn,sub,ab,col,dd,k0,k1,k2,k3,k5,mN,hC,hN,Wu,T⟩:=O.obj;refine wpAny_Raise_call_subT (nm:=nm) (q:=q) (N:=Nn) (bs:=bs) (hdct:=hdct) (sn:=sn) (sub:=sub) (ab:=ab) (col:=col) (dd:=dd) (k0:=k0) (k1:=k1) (k2:=k2) (k3:=k3) (k5:=k5)
  FB (mN:=mN) (T.hasType FB.hasBase) (I.ok.hd hc) (by rw[he];show (false||(ZI aO (Yg es X.env)).any (·.1))=false;rw[kG];rfl) Wu (me I hg O.bound ⟨rfl,?_⟩ l6)
 have w:WPS X.K Xw u8 aeH (δs Z>>=λds=>if ds.length<=lim then bf n else ag) D:=w;have hA:=ha aO f8 s σ H (λvs H1=>vs.length<=lim/\Xw n H1) I ⟨F,Z,S.st,by
  rcases(δs Z).cs with q | ⟨m,q⟩ | ⟨ds,q⟩
  ·rw[q] at w;exact w.elim
  ·rw[q] at w⊢;exact λF' H' e'=>w F' H' (S.ext.trans e')
  ·rw[q] at w⊢;intro vs H' F' e' hd;have w:WPS X.K Xw u8 aeH (if ds.length<=lim then bf n else ag) D:=w;split at w
   ·rename_i hl;exact⟨by rw[<-hd.len];exact hl,w F' H' (S.ext.trans e')⟩
   ·exact w.elim⟩
 rw[he] at hA⊢;refine ZX (bX hA λus v4 ⟨vs,H1,I1,r,hl,hX⟩=>⟨rfl,by rw[<-r.length];have:=cP;omega,I1.bk _ _ hC,hN.keeps I1.bk,T.keeps I1.bk,λh' ea hm=>hx n f8 σ H1 v4 h' ea us I1 (by rw[Pb];exact hm) hX⟩)
end
def Lc:D->Option String
 | .non=>some "NoneType"
 | .bl _=>some "bool"
 | .int _=>some "int"
 | .str _=>some "str"
 | .tup _=>some "tuple"
 | .lst _=>some "list"
 |_=>none
def MO(k T:String):Option Bool:=if T="str"\/T="int"\/T="bool"\/T="tuple"\/T="list" then some (decide (k=T)||(decide (k="bool")&&decide (T="int"))) else none
def lA:List D->M D
 |[d, .raw (.ty T)]=>match Lc d with
  |some k=>match MO k T with
   |some b=>aa (.bl b)
   |none=>ag
  |none=>ag
 |_=>ag
def MX{K:X5}(hk:k="NoneType"\/k="bool"\/k="int"\/k="str"\/k="tuple"\/k="list")(h:MO k T=some b):Yt K (.type k) (.type T)=some b:=by
 unfold MO at h;split at h
 ·rename_i hT;cases h;rcases hk with rfl | rfl | rfl | rfl | rfl | rfl<;>rcases hT with rfl | rfl | rfl | rfl | rfl<;>with_unfolding_all rfl
 ·cases h
section
variable{X:Cx}{Xw:Nat->Hp->Prop}{a b e e2:Expr}{δs:DA}{pos p:Pos}
def QB(K:X5):List V->Hp->VK->Prop:=λxs H Q=>∃x T t b,xs=[x, .ty T]/\TyOf K H x t/\Yt K t (.type T)=some b/\Q (.bl b) H
def Fg:CallR X (.builtin "isinstance") (QB X.K):=by
 intro f8 s σ H xs us Q I r h;obtain⟨x,T,t,b,rfl,ty,e,q⟩:=h;obtain⟨u,w',rfl,r1,r2⟩:=vals2 r;cases (show w'=_ from r2);exact DQ I r1 ty e λtk=>⟨.bl b,H,I.tok tk,rfl,q⟩
def HV{K:X5}(s:Same F H)(h:Den K F d v)(hk:Lc d=some k):TyOf K H v (.type k)/\(k="NoneType"\/k="bool"\/k="int"\/k="str"\/k="tuple"\/k="list"):=by
 cases d with
 |non=>cases hk;cases (show _=_ from h);exact⟨.non, .inl rfl⟩
 |bl x=>cases hk;cases (show _=_ from h);exact⟨.bl x, .inr (.inl rfl)⟩
 |int x=>cases hk;cases (show _=_ from h);exact⟨.int x, .inr (.inr (.inl rfl))⟩
 |str x=>cases hk;cases (show _=_ from h.1);exact⟨.str x, .inr (.inr (.inr (.inl rfl)))⟩
 |tup x=>cases hk;obtain⟨a,vs,rfl,h2,_⟩:=h;exact⟨.tup (s _ _ h2), .inr (.inr (.inr (.inr (.inl rfl))))⟩
 |lst x=>cases hk;obtain⟨a,vs,rfl,h2,_⟩:=h;exact⟨.lst (s _ _ h2), .inr (.inr (.inr (.inr (.inr rfl))))⟩
 |_=>cases hk
def DP{K:X5}:xX K (QB K) lA:=λXw F H vs ds Q s h w=>by
 unfold lA at w;split at w
 ·rename_i d T;obtain⟨v,v',rfl,h1,h2⟩:=h.two;cases (show _=_ from h2);split at w
  ·rename_i k hk;split at w
   ·rename_i b hb;obtain⟨ty,DK⟩:=HV s h1 hk;exact⟨v,T, .type k,b,rfl,ty,MX DK hb,WP.now w s rfl⟩
   ·exact w.elim
  ·exact w.elim
 ·exact w.elim
def sA(hg:Gl X "isinstance")(hm:X.mg "isinstance"=none)(hb:YN "isinstance"=some (.builtin "isinstance"))(ha:jm X Xw [e,e2] δs)(he:Yg [e,e2] X.env=(false,eval e X.env)::Yg [e2] X.env:=by rfl)
 (kG:(ZI pos (Yg [e2] X.env)).any (·.1)=false:=by rfl):PD X Xw (.Call (.Name "isinstance" p) [e,e2] [] pos) (dA lA δs):=
 cE Fg DP hg hm hb ha (by decide) (by decide) he kG
def u7{x:Str}(hg:Gl X x)(hm:X.mg x=none)(hv:YN x=some (.type T))(hn:x≠"__name__":=by decide)(hd:(x==("__debug__":Str))=false:=by decide):PD X Xw (.Name x pos) (dC (.raw (.ty T))):=
 iz (J1 hg hm hv (show RelV (.ty T) (.type T) from rfl) hn hd) λ_=>rfl
def bools:List D->Option (List Bool)
 |[]=>some []
 | .bl b::r=>(bools r).map (b:: ·)
 |_=>none
def allM:List D->M D
 |[.lst ds]=>match bools ds with
  |some bs=>aa (.bl (bs.all id))
  |none=>ag
 |_=>ag
def j_{K:X5}:∀{ds:List D}{vs:List V}{bs:List Bool},bools ds=some bs->DenL K F ds vs->vs=bs.map V.bl
 |[],_,_,e,h=>by cases e;exact h
 | .bl b::r,_,_,e,⟨v,r',h1,h2,h3⟩=>by
   unfold bools at e;cases q:bools r with
   |none=>rw[q] at e;cases e
   |some bs=>rw[q] at e;cases e;subst h1;rw[j_ q h3,show v= .bl b from h2];rfl
 | .non::_,_,_,e,_=>by cases e
 | .int _::_,_,_,e,_=>by cases e
 | .str _::_,_,_,e,_=>by cases e
 | .raw _::_,_,_,e,_=>by cases e
 | .exc _::_,_,_,e,_=>by cases e
 | .scr _::_,_,_,e,_=>by cases e
 | .tup _::_,_,_,e,_=>by cases e
 | .lst _::_,_,_,e,_=>by cases e
def qx:∀{bs:List Bool}{aT:List Value},Vals (bs.map V.bl) aT->aT=bs.map aag
 |[],_,r=>by cases r;rfl
 |b::bs,_,r=>by
  cases r with
  |cons r1 r2=>cases (show _=_ from r1);rw[qx r2];rfl
def TH:List V->Hp->VK->Prop:=λxs H Q=>∃(a:Addr) (bs:List Bool),xs=[.ref a]/\H a=some (.lst (bs.map V.bl))/\Q (.bl (bs.all id)) H
def all_range{bs:List Bool}:(Yp bs.length).all (λi=>bs.getD i false)=bs.all id:=by
 induction bs with
 |nil=>rfl
 |cons b bs ih=>
  rw[X7,adE,aaQ,aaZ,aaQ];congr 1
def De(hc:X.calm=true):CallR X (.builtin "all") TH:=by
 intro f8 s σ H xs us Q I r h;obtain⟨a,bs,rfl,hH,q⟩:=h;obtain⟨u,rfl,r1⟩:=vals1 r;cases (show u=_ from r1);obtain⟨aT,r2,pl,hz⟩:=I.list (SqL.of hH);obtain rfl:=qx r2;have dm:a≠s.heap.objs.size:=Ym (I.hok.lt hH);refine call_all_walk (acU pl.isList ?_);refine⟨s.heap.objs.size,_,_,_,_,_,λi=>bs.getD i false,rfl,Walks.list (show X.A.in1.handled=none from I.ok.hd hc) s.heap.objs.size a dm (bs.map aag).toArray,⟨⟨_,Yj _ rfl,rfl,rfl⟩,Heap.IsList.at pl.isList λo e=>XZ _ e⟩,?_,λh' tk k=>?_⟩
 ·intro i v s' Q' E' hv hq;have hv:(bs.map aag).toArray[i]? =some v:=hv;rw[List.getElem?_toArray,X6] at hv;cases q':bs[i]? with
  |none=>rw[q'] at hv;cases hv
  |some b=>
   rw[q'] at hv;cases hv;have:bs.getD i false=b:=by rw[Yq,q'];rfl
   have hq:Q' (bs.getD i false) s':=hq;rw[this] at hq;exact Zr hq
 ·have e:(Yp (bs.map aag).toArray.size).all (λi=>bs.getD i false)=bs.all id:=by
   rw[Yh,XS];exact all_range
  rw[e];refine⟨.bl (bs.all id),H,I.kept λb o e'=>k b o (λz=>?_) (XZ _ e'),rfl,q⟩;have z:b=s.heap.objs.size:=by simpa using z
  exact aeB (Yd e') (by rw[z];exact YV _)
def Bg(hc:X.calm=true)(hg:Gl X "all")(hm:X.mg "all"=none)(hb:YN "all"=some (.builtin "all"))(ha:jm X Xw [e] δs)(he:Yg [e] X.env=[(false,eval e X.env)]:=by rfl):PD X Xw (.Call (.Name "all" p) [e] [] pos) (dA allM δs):=
 cE (De hc) (λXw F H vs ds Q s h w=>by
  unfold allM at w;split at w
  ·rename_i ds;obtain⟨v,rfl,h1⟩:=h.one;obtain⟨a,ws,rfl,h2,h3,_⟩:=h1;split at w
   ·rename_i bs hb;exact⟨a,bs,rfl,by rw[<-j_ hb h3];exact s _ _ h2,WP.now w s rfl⟩
   ·exact w.elim
  ·exact w.elim) hg hm hb ha (by decide) (by decide) he rfl
end
section
variable{X:Cx}{Xw:Nat->Hp->Prop}{a b e e2:Expr}{es:List Expr}{δ δa δb:DE}{pos p apos aO:Pos}
def Kx:∀u8 aeH D σ H,tS X.K Xw u8 aeH (oH i δ) D σ H->CY (RD X.K "list" xa (g7 i) (CW (tD X.K Xw δ) Kz)) D σ H:=λu8 aeH D σ H ⟨F,Z,s,w⟩=>by
 unfold oH at w;cases ho:Ek Z i with
 |none=>rw[ho] at w;exact w.elim
 |some ds=>
  rw[ho] at w;have hi:=u0 ho;obtain⟨v,hv,a,o,rfl,hH,hF,vs,rfl,hd,hl⟩:=s.st.den i _ hi;have w:WPS X.K Xw u8 aeH (δ Z>>=λd=>if ds.length<lim then aa (.nx (Z.set i (some (.ow (.lst (ds++[d])))))) else ag) D:=w;refine⟨.ref a,hv, .inl ⟨rfl,vs,SqL.of hH⟩,F,Z,s.st,?_⟩;rcases(δ Z).cs with q | ⟨n,q⟩ | ⟨d,q⟩
  ·rw[q] at w;exact w.elim
  ·rw[q] at w⊢;exact λF' H' e'=>w F' H' (s.ext.trans e')
  ·rw[q] at w⊢;intro u H1 F1 e1 hq;have w:WPS X.K Xw u8 aeH (if ds.length<lim then aa (.nx (Z.set i (some (.ow (.lst (ds++[d])))))) else ag) D:=w;split at w
   ·rename_i dW;have hlen:=hd.len;refine⟨a,vs,u,rfl,rfl,e1.hh _ _ hH,by have:=cP;omega,?_⟩;exact w σ F1 _ ((s.ext' e1).chg hi hv ⟨_,rfl,DenL.append (DenL.mono e1.ff hd) (.cons hq .nil),by rw[X8];exact dW⟩)
   ·exact w.elim
def Ky:∀u8 aeH D σ H,tS X.K Xw u8 aeH (Hw i δ) D σ H->CY (RD X.K "list" CO (g7 i) (CW (tD X.K Xw δ) Kz)) D σ H:=λu8 aeH D σ H ⟨F,Z,s,w⟩=>by
 unfold Hw at w;cases ho:Ek Z i with
 |none=>rw[ho] at w;exact w.elim
 |some ds=>
  rw[ho] at w;have hi:=u0 ho;obtain⟨v,hv,a,o,rfl,hH,hF,vs,rfl,hd,hl⟩:=s.st.den i _ hi;have w:WPS X.K Xw u8 aeH (δ Z>>=λd=>lstM d>>=λes=>if ds.length+es.length<=lim then aa (.nx (Z.set i (some (.ow (.lst (ds++es)))))) else ag) D:=w;refine⟨.ref a,hv, .inl ⟨rfl,vs,SqL.of hH⟩,F,Z,s.st,?_⟩;rcases(δ Z).cs with q | ⟨n,q⟩ | ⟨d,q⟩
  ·rw[q] at w;exact w.elim
  ·rw[q] at w⊢;exact λF' H' e'=>w F' H' (s.ext.trans e')
  ·rw[q] at w⊢;intro u H1 F1 e1 hq;cases d with
   |lst es=>
    obtain⟨b,ws,rfl,k2,k3,k4⟩:=hq;have w:WPS X.K Xw u8 aeH (if ds.length+es.length<=lim then aa (.nx (Z.set i (some (.ow (.lst (ds++es)))))) else ag) D:=w;split at w
    ·rename_i dW;have hlen:=hd.len;have UR:=k3.len;refine⟨a,b,vs,ws,rfl,rfl,e1.hh _ _ hH,e1.fh _ _ k2,by have:=cP;omega,?_⟩;exact w σ F1 _ ((s.ext' e1).chg hi hv ⟨_,rfl,DenL.append (DenL.mono e1.ff hd) k3,by rw[X8];exact dW⟩)
    ·exact w.elim
   |_=>exact w.elim
def iX(hv:PE X (.Name x p) (g7 i))(he:PD X Xw e δ)(hs:aaX (.Call (.Attribute (.Name x p) "append" apos) [e] [] aO) none pos.line X.env=pure false:=by rfl)
 (eG:Zx (.Name x p) "append" X.env (eval (.Name x p) X.env)=eval (.Name x p) X.env:=by rfl)
 (jy:((ZI aO (Yg [e] X.env)).all (λx=>!x.1)&&(abg aO (aaj [] X.env)).all (λx=>x.1.isSome)&&decide ([e].length+([]:List aaf).length+(if ([]:List aaf).isEmpty then 0 else 1)<30))=true:=by rfl)
 (eJ:(apos.endLine==aO.line)=true:=by rfl)(uJ:Yg [e] X.env=[(false,eval e X.env)]:=by rfl):g8 X Xw (.Expr (.Call (.Attribute (.Name x p) "append" apos) [e] [] aO) pos) (oH i δ):=λu8 aeH=>
 PS.weak (mQ (CH Zy acM acL km hv (qr he oj uJ) eG jy eJ uJ rfl) hs) λD σ H w=>Kx u8 aeH D σ H w
def Ke(hv:PE X (.Name x p) (g7 i))(he:PD X Xw e δ)(hs:aaX (.Call (.Attribute (.Name x p) "extend" apos) [e] [] aO) none pos.line X.env=pure false:=by rfl)
 (eG:Zx (.Name x p) "extend" X.env (eval (.Name x p) X.env)=eval (.Name x p) X.env:=by rfl)
 (jy:((ZI aO (Yg [e] X.env)).all (λx=>!x.1)&&(abg aO (aaj [] X.env)).all (λx=>x.1.isSome)&&decide ([e].length+([]:List aaf).length+(if ([]:List aaf).isEmpty then 0 else 1)<30))=true:=by rfl)
 (eJ:(apos.endLine==aO.line)=true:=by rfl)(uJ:Yg [e] X.env=[(false,eval e X.env)]:=by rfl):g8 X Xw (.Expr (.Call (.Attribute (.Name x p) "extend" apos) [e] [] aO) pos) (Hw i δ):=λu8 aeH=>
 PS.weak (mQ (CH Zy PySem.F.slot_list_extend PySem.F.type_list_extend D7 hv (qr he oj uJ) eG jy eJ uJ rfl) hs) λD σ H w=>Ky u8 aeH D σ H w
def GR:OpR X (aa6 .Add) (λx y H Q=>∃a b ys,x= .ref a/\y= .ref b/\SqT X.K H a []/\SqT X.K H b ys/\Q (.ref b) H):=by
 intro f8 s σ H x y v u Q I rx ry h;obtain⟨a,b,ys,rfl,rfl,ha,hb,q⟩:=h;cases rx;cases ry;obtain⟨aT,r1,p1,_⟩:=I.tuple ha;obtain⟨fR,r2,p2,_⟩:=I.tuple hb;cases r1;obtain⟨⟨cls,dd,data,sl⟩,ho,hc,n,hd⟩:=id p1;obtain⟨⟨OM,Ag,data2,Lr⟩,Ie,DD,n2,hd2⟩:=id p2;simp only at hc hd DD hd2;subst hc hd DD hd2;exact concat_meets ⟨_,ho,rfl⟩ ⟨_,Ie,rfl⟩ adh ad_ abx abt (abh _ _)
  (tuple_addW0 a b _ _ n n2 dd Ag sl Lr (by simp)) ⟨ho,Ie,⟨.ref b,H,I,rfl,q⟩⟩
def B6:D->D->M D
 | .tup x, .tup y=>if x.length+y.length<=lim then aa (.tup (x++y)) else ag
 |_,_=>ag
def JR(ha:PD X Xw a δa)(hb:PD X Xw b δb):PD X Xw (.BinOp a .Add b pos) (d2 B6 δa δb):=pw (GR.or JI) (λXw F H x y dx dy Q s hx hy w=>by
 unfold B6 at w;split at w
 ·rename_i i j;obtain⟨a,vs,h1,h2,h3,h4⟩:=hx;obtain⟨a',g9,k1,k2,k3,k4⟩:=hy;split at w
  ·rename_i hl;have e1:=h3.len;have e2:=k3.len;have:=cP;by_cases hv:vs=[]
   ·subst hv;have:i=[]:=by cases i with | nil=>rfl | cons _ _=>simp at e1
    subst this;exact .inl ⟨a,a',g9,h1,k1,SqT.of (s _ _ h2),SqT.of (s _ _ k2),WP.now w s ⟨a',g9,k1▸rfl,k2,k3,k4⟩⟩
   ·refine .inr ⟨a,a',vs,g9,h1,k1,SqT.of (s _ _ h2),SqT.of (s _ _ k2),hv,by omega,λz=>?_,λz p hp=>?_⟩
    ·subst z;have:j=[]:=by cases j with | nil=>rfl | cons _ _=>simp at e2
     subst this;rw[YR] at w;exact WP.now w s ⟨a,vs,rfl,h2,h3,h4⟩
    ·exact WP.fin w (Ext.lay s hp) ⟨p,_,rfl,aB,DenL.mono (Ext.lay s hp).ff (h3.append k3),by rw[X8];exact hl⟩
  ·exact w.elim
 ·exact w.elim) ha hb
end
section
variable{X:Cx}{Xw:Nat->Hp->Prop}{a b e e2 o:Expr}{es:List Expr}{δa δb δo:DE}{δs:DA}{pos p apos aO:Pos}
def dM(kd:D->Bool)(g:D->List D->M D)(o:DE)(s:DA):DE:=λZ=>o Z>>=λd=>if kd d then s Z>>=λds=>g d ds else ag
def Cz{id:String}(pa:PlainAttrs T)(slot:Slot T name id)(SW:typeOf (.builtin id)=pure (.type "method_descriptor"))(hm:Oe X id r)
 (hk:∀(F H:Hp) (x:V) (d:D),kd d=true->Same F H->Den X.K F d x->Q2 X.K T x H)
 (hd:∀(Xw:Nat->Hp->Prop) (F H:Hp) (x:V) (vs:List V) (d:D) (ds:List D) (Q:VK),Same F H->Den X.K F d x->DenL X.K F ds vs->WP X.K Xw F H (g d ds) Q->r x vs H Q)
 (ho:PD X Xw o δo)(ha:jm X Xw (e::es) δs)
 (eG:Zx o name X.env (eval o X.env)=eval o X.env:=by rfl)
 (jy:((ZI aO (Yg (e::es) X.env)).all (λx=>!x.1)&&(abg aO (aaj [] X.env)).all (λx=>x.1.isSome)
  &&decide ((e::es).length+([]:List aaf).length+(if ([]:List aaf).isEmpty then 0 else 1)<30))=true:=by rfl)
 (eJ:(apos.endLine==aO.line)=true:=by rfl) (hs:Yg (e::es) X.env=(false,eval e X.env)::Yg es X.env:=by rfl) (AQ:(ZI aO (Yg es X.env)).any (·.1)=false:=by rfl):
 PD X Xw (.Call (.Attribute o name apos) (e::es) [] aO) (dM kd g δo δs):=PE.weak (CH pa slot SW hm ho ha eG jy eJ hs AQ) λσ H Q ⟨F,Z,s,w⟩=>by
 refine⟨F,Z,s,WP.mono (WP.bind w) λv H1 ⟨F1,d,e1,q1,w1⟩=>?_⟩;split at w1
 ·rename_i ER;refine⟨hk F1 H1 v d ER e1.fh q1,F1,Z,s.ext e1,WPL.mono (WP.bindL w1) λvs H2 ⟨F2,ds,e2,q2,w2⟩=>?_⟩;exact hd Xw F2 H2 v vs d ds Q e2.fh (Den.mono e2.ff q1) q2 w2
 ·exact w1.elim
def Rw:D->Bool
 | .str _=>true
 |_=>false
def gG:D->Bool
 | .lst _=>true
 |_=>false
def MM{K:X5}(F H:Hp)(x:V)(d:D)(h:Rw d=true)(s:Same F H)(q:Den K F d x):Q2 K "str" x H:=by
 cases d with
 |str z=>cases (show _=_ from q.1);exact rfl
 |_=>cases h
def rj{K:X5}(F H:Hp)(x:V)(d:D)(h:gG d=true)(s:Same F H)(q:Den K F d x):Q2 K "list" x H:=by
 cases d with
 |lst z=>obtain⟨a,vs,rfl,h2,_⟩:=q;exact .inl ⟨rfl,vs,SqL.of (s _ _ h2)⟩
 |_=>cases h
def xE:List D->Option (List Str)
 |[]=>some []
 | .str x::r=>(xE r).map (x:: ·)
 |_=>none
def sZ{K:X5}:∀{ds:List D}{vs:List V}{xs:List Str},xE ds=some xs->DenL K F ds vs->vs=xs.map V.str
 |[],_,_,e,h=>by cases e;exact h
 | .str b::r,_,_,e,⟨v,r',h1,h2,h3⟩=>by
   unfold xE at e;cases q:xE r with
   |none=>rw[q] at e;cases e
   |some bs=>rw[q] at e;cases e;subst h1;rw[sZ q h3,show v= .str b from h2.1];rfl
 | .non::_,_,_,e,_=>by cases e
 | .int _::_,_,_,e,_=>by cases e
 | .bl _::_,_,_,e,_=>by cases e
 | .raw _::_,_,_,e,_=>by cases e
 | .exc _::_,_,_,e,_=>by cases e
 | .scr _::_,_,_,e,_=>by cases e
 | .tup _::_,_,_,e,_=>by cases e
 | .lst _::_,_,_,e,_=>by cases e
def s_:∀{xs:List Str}{aT:List Value},Vals (xs.map V.str) aT->StrsAre aT xs
 |[],_,r=>by cases r;exact .nil
 |b::bs,_,r=>by
  cases r with
  |cons r1 r2=>obtain⟨t,rfl⟩:=r1;exact .cons b t (s_ r2)
def fH:List Str->Str
 |[]=>⟨#[]⟩
 |x::r=>x++fH r
def joinM:D->List D->M D
 | .str sep,[.lst ds]=>match xE ds with
   |some xs=>if sep.length=0/\(xs.map (·.length)).sum<=lim then aa (.str (fH xs)) else ag
   |none=>ag
 | .str sep,[.tup ds]=>match xE ds with
   |some xs=>if sep.length=0/\(xs.map (·.length)).sum<=lim then aa (.str (fH xs)) else ag
   |none=>ag
 |_,_=>ag
def qI:∀xs:List Str,(fH xs).length=(xs.map (·.length)).sum
 |[]=>rfl
 |x::r=>by
  show (x++fH r).length=_;rw[j3,qI r,X3,aac]
def Kv{x:Str}(h:x.length=0):x=⟨#[]⟩:=by
 obtain⟨⟨l⟩⟩:=x;have:l.length=0:=h;cases l with
 |nil=>rfl
 |cons _ _=>simp at this
def pH(x:Str):x++(⟨#[]⟩:Str)=x:=by
 obtain⟨c⟩:=x;show (⟨c++ #[]⟩:Str)=⟨c⟩
 simp
def oU(sep:Str)(h:sep.length=0):∀xs:List Str,Txt.join sep xs=fH xs:=by
 have e:=Kv h;subst e;intro xs;show Builtin.Str.glued _ xs=_;rw[StrLaws.glued_eq_join];induction xs with
 |nil=>rfl
 |cons x r ih=>
  cases r with
  |nil=>show x=x++(⟨#[]⟩:Str);rw[pH]
  |cons y r=>show x++(⟨#[]⟩:Str)++Str.join _ (y::r)=x++fH (y::r);rw[pH,ih]
def rJoin(K:X5):V->List V->Hp->VK->Prop:=λx vs H Q=>∃(sep:Str) (a:Addr) (xs:List Str),x= .str sep/\vs=[.ref a]/\(H a=some (.lst (xs.map V.str))\/H a=some (.tup (xs.map V.str)))/\sep.length=0/\(xs.map (·.length)).sum<=lim/\Q (.str (fH xs)) H
def JC:Oe X "str.join" (rJoin X.K):=by
 intro f8 s σ H x vs v us Q I rx rv h;obtain⟨sep,a,xs,rfl,rfl,hH,hs,hl,q⟩:=h;obtain⟨t,rfl⟩:=rx;obtain⟨u,rfl,r1⟩:=rv.one;cases (show u=_ from r1);have hok:(xs.map (·.length)).sum+xs.length*sep.length<=16777216:=by
  rw[hs,Nat.mul_zero];unfold lim at hl;omega
 rcases hH with hH | hH
 ·obtain⟨aT,r2,pl,hz⟩:=I.list (SqL.of (K:=X.K) hH);refine join_list pl.isList (by simpa using s_ r2) hok λt' k=>⟨.str (fH xs),H,I.tok k,⟨t',by rw[oU sep hs]⟩,q⟩
 ·obtain⟨aT,r2,pl,hz⟩:=I.tuple (SqT.of hH);refine join_tuple pl (by simpa using s_ r2) hok λt' k=>⟨.str (fH xs),H,I.tok k,⟨t',by rw[oU sep hs]⟩,q⟩
def JS(ho:PD X Xw o δo)(ha:jm X Xw [e] δs)(eG:Zx o "join" X.env (eval o X.env)=eval o X.env:=by rfl)
 (jy:((ZI aO (Yg [e] X.env)).all (λx=>!x.1)&&(abg aO (aaj [] X.env)).all (λx=>x.1.isSome)&&decide ([e].length+([]:List aaf).length+(if ([]:List aaf).isEmpty then 0 else 1)<30))=true:=by rfl)
 (eJ:(apos.endLine==aO.line)=true:=by rfl)(uJ:Yg [e] X.env=[(false,eval e X.env)]:=by rfl):PD X Xw (.Call (.Attribute o "join" apos) [e] [] aO) (dM Rw joinM δo δs):=
 Cz PySem.F.plainAttrs_str PySem.F.slot_str_join PySem.F.type_str_join JC MM (λXw F H x vs d ds Q s hx hv w=>by
  unfold joinM at w;split at w
  ·rename_i sep ds;obtain⟨v,rfl,h1⟩:=hv.one;obtain⟨a,ws,rfl,h2,h3,_⟩:=h1;split at w
   ·rename_i xs PX;split at w
    ·rename_i hc;exact⟨sep,a,xs,hx.1,rfl, .inl (by rw[<-sZ PX h3];exact s _ _ h2),hc.1,hc.2,WP.now w s ⟨rfl,by rw[qI];exact hc.2⟩⟩
    ·exact w.elim
   ·exact w.elim
  ·rename_i sep ds;obtain⟨v,rfl,h1⟩:=hv.one;obtain⟨a,ws,rfl,h2,h3,_⟩:=h1;split at w
   ·rename_i xs PX;split at w
    ·rename_i hc;exact⟨sep,a,xs,hx.1,rfl, .inr (by rw[<-sZ PX h3];exact s _ _ h2),hc.1,hc.2,WP.now w s ⟨rfl,by rw[qI];exact hc.2⟩⟩
    ·exact w.elim
   ·exact w.elim
  ·exact w.elim) ho ha eG jy eJ uJ rfl
def wV(hc:X.calm=true)(hg:Gl X "max")(hm:X.mg "max"=none)(hb:YN "max"=some (.builtin "max"))(ha:jm X Xw [e,e2] δs)(he:Yg [e,e2] X.env=(false,eval e X.env)::Yg [e2] X.env:=by rfl)
 (kG:(ZI pos (Yg [e2] X.env)).any (·.1)=false:=by rfl):PD X Xw (.Call (.Name "max" p) [e,e2] [] pos) (dA wk δs):=
 cE (Dh hc) (λXw F H vs ds Q s h w=>by
  unfold wk at w;split at w
  ·obtain⟨v,v',rfl,h1,h2⟩:=h.two;cases (show _=_ from h1);cases (show _=_ from h2);exact⟨_,_,rfl,WP.now w s rfl⟩
  ·exact w.elim) hg hm hb ha (by decide) (by decide) he kG
def wW(hc:X.calm=true)(hg:Gl X "min")(hm:X.mg "min"=none)(hb:YN "min"=some (.builtin "min"))(ha:jm X Xw [e,e2] δs)(he:Yg [e,e2] X.env=(false,eval e X.env)::Yg [e2] X.env:=by rfl)
 (kG:(ZI pos (Yg [e2] X.env)).any (·.1)=false:=by rfl):PD X Xw (.Call (.Name "min" p) [e,e2] [] pos) (dA pZ δs):=
 cE (Dj hc) (λXw F H vs ds Q s h w=>by
  unfold pZ at w;split at w
  ·obtain⟨v,v',rfl,h1,h2⟩:=h.two;cases (show _=_ from h1);cases (show _=_ from h2);exact⟨_,_,rfl,WP.now w s rfl⟩
  ·exact w.elim) hg hm hb ha (by decide) (by decide) he kG
def nums:List D->Option (List Int)
 |[]=>some []
 | .int x::r=>(nums r).map (x:: ·)
 |_=>none
def eK{K:X5}:∀{ds:List D}{vs:List V}{xs:List Int},nums ds=some xs->DenL K F ds vs->vs=xs.map V.int
 |[],_,_,e,h=>by cases e;exact h
 | .int b::r,_,_,e,⟨v,r',h1,h2,h3⟩=>by
   unfold nums at e;cases q:nums r with
   |none=>rw[q] at e;cases e
   |some bs=>rw[q] at e;cases e;subst h1;rw[eK q h3,show v= .int b from h2];rfl
 | .non::_,_,_,e,_=>by cases e
 | .str _::_,_,_,e,_=>by cases e
 | .bl _::_,_,_,e,_=>by cases e
 | .raw _::_,_,_,e,_=>by cases e
 | .exc _::_,_,_,e,_=>by cases e
 | .scr _::_,_,_,e,_=>by cases e
 | .tup _::_,_,_,e,_=>by cases e
 | .lst _::_,_,_,e,_=>by cases e
def IM(neg:Bool):D->D->M D
 | .int i, .tup ds=>match nums ds with | some ns=>aa (.bl (if neg then !ns.contains i else ns.contains i)) | none=>ag
 |_,_=>ag
def F4(i:Int)(ns:List Int):Rv (.int i) (ns.map V.int)=ns.contains i:=by
 unfold Rv;rw[List.any_map];induction ns with
 |nil=>rfl
 |cons n ns ih=>
  rw[aa9,List.contains_cons,ih];congr 1;show H_ (.int n) (.int i)=(i==n)
  unfold H_;exact Bool.beq_comm
def MI{neg:Bool}{K:X5}:Ac K (Vi K neg) (IM neg):=λXw F H x y dx dy Q s hx hy w=>by
 unfold IM at w;split at w
 ·rename_i i ds;obtain⟨a,vs,h1,h2,h3,h4⟩:=hy;split at w
  ·rename_i ns hn;have hv:=eK hn h3;subst hv;cases (show _=_ from hx);refine⟨a,ns.map V.int,h1, .inr (SqT.of (s _ _ h2)),rfl,?_,?_⟩
   ·rw[aaZ];exact Yn.mpr λ_ _=>rfl
   ·rw[F4];exact WP.now w s rfl
  ·exact w.elim
 ·exact w.elim
def Ep(ha:PD X Xw a δa)(hb:PD X Xw b δb)(hm:Zf .NotIn b=false:=by rfl):qA X Xw (.Compare a [.NotIn] [b] pos) (dH (d2 (IM true) δa δb)):=kx wK MI ha hb hm
def FJ(neg:Bool):D->D->M D
 | .str x, .str y=>aa (.bl (if neg then !(!(aaG y x 0 y.length 1).isEmpty) else !(aaG y x 0 y.length 1).isEmpty))
 |_,_=>ag
def Nt(ha:PD X Xw a δa)(hb:PD X Xw b δb)(hm:Zf .In b=false:=by rfl):PD X Xw (.Compare a [.In] [b] pos) (d2 (FJ false) δa δb):=G3 Ei (λXw F H x y dx dy Q s hx hy w=>by
 unfold FJ at w;split at w
 ·exact⟨_,_,hx.1,hy.1,WP.now w s rfl⟩
 ·exact w.elim) ha hb hm
end
end L3
namespace L3
open PySem PySem.Spec L2 SeqAt HT
open PyProof.Rows hiding St
section
variable{Xw:Nat->Hp->Prop}{b:Expr}
def WPO(Xw:Nat->Hp->Prop)(F H:Hp)(m:M (Option Int))(Q:Option Int->Hp->Prop):Prop:=
 match m with
 |none=>False
 |some (.ok b)=>∀H' F',Ext F H F' H'->Q b H'
 |some (.ex n)=>∀F' H',Ext F H F' H'->Xw n H'
def WPO.mono{Xw:Nat->Hp->Prop}{F H:Hp}{m:M (Option Int)}{Q Q':Option Int->Hp->Prop}(h:WPO Xw F H m Q)(k:∀v H',Q v H'->Q' v H'):WPO Xw F H m Q':=by
 match m,h with
 |none,h=>exact h
 |some (.ok d),h=>exact λH2 F2 e2=>k _ _ (h H2 F2 e2)
 |some (.ex n),h=>exact h
end
def Q7(x:Str):It:=⟨λi _=>i<x.cps.size,λi H v H'=>H'=H/\∃c,x.cps[i]? =some c/\v= .str ⟨#[c]⟩,λi _=>x.cps.size<=i⟩
def EJ{P:YK}{K:X5}(it:Addr)(x:Str)(t:Tok):Turn P w K tg (Q7 x) [it] it (λi h=>i<=x.cps.size/\h.IsStrIter it "str_ascii_iterator" x t i) where
 mem:=by simp
 obj:=λi h st b hb=>by
  have e:b=it:=by simpa using hb
  subst e;obtain⟨_,o,e,c,d⟩:=st;exact⟨o,e,λv z=>by rw[d] at z;cases z⟩
 keep:=λi h h' st k=>⟨st.1,let ⟨o,e,r⟩:=st.2;⟨o,k it (by simp) o e,r⟩⟩
 item:=by
  intro X hP hw hK hc i f8 s σ H E I hf st hg;subst hP hw hK;obtain⟨f0,f1,f2,f3,f4,f5⟩:=hf it (by simp);have hi:i<x.cps.size:=hg;refine(Walks.strAscii (I.ok.hd hc) it x t).item i s _ _ hi st.2 λv h' tk hv pG kk=>?_;obtain⟨c,u,Sj,rfl⟩:=hv;have I1:Inv X f8 σ H {s with heap:=h',toks:=tk}:=I.turned (λb o hb e=>kk b o (by simpa using hb) e) f0 f1 f3 f4 f5;obtain⟨o,e,cc,dd⟩:=id pG;exact⟨_,rfl,uH e cc dd (by decide) ⟨.str ⟨#[c]⟩,H,I1,⟨u,rfl⟩,⟨rfl,c,Sj,rfl⟩,⟨hi,pG⟩,λb hb=>(hf b hb).1⟩⟩
 done:=by
  intro X hP hw hK hc i f8 s σ H E I hf st hg;subst hP hw hK;obtain⟨f0,f1,f2,f3,f4,f5⟩:=hf it (by simp);have hi:i=x.cps.size:=aau st.1 hg;subst hi;exact(Walks.strAscii (I.ok.hd hc) it x t).done s _ _ st.2 λh' tk kk=>⟨rfl,I.turned (λb o hb e=>kk b o (by simpa using hb) e) f0 f1 f3 f4 f5⟩
 self:=λ_ _ _ _ _ st h=>wpAny_pyIter_striter_ascii st.2 h
def EK{P:YK}{K:X5}(it:Addr)(x:Str)(t:Tok):Turn P w K tg (Q7 x) [it] it (λi h=>i<=x.cps.size/\h.IsStrIter it "str_iterator" x t i) where
 mem:=by simp
 obj:=λi h st b hb=>by
  have e:b=it:=by simpa using hb
  subst e;obtain⟨_,o,e,c,d⟩:=st;exact⟨o,e,λv z=>by rw[d] at z;cases z⟩
 keep:=λi h h' st k=>⟨st.1,let ⟨o,e,r⟩:=st.2;⟨o,k it (by simp) o e,r⟩⟩
 item:=by
  intro X hP hw hK hc i f8 s σ H E I hf st hg;subst hP hw hK;obtain⟨f0,f1,f2,f3,f4,f5⟩:=hf it (by simp);have hi:i<x.cps.size:=hg;refine(Walks.strWide (I.ok.hd hc) it x t).item i s _ _ hi st.2 λv h' tk hv pG kk=>?_;obtain⟨c,u,Sj,rfl⟩:=hv;have I1:Inv X f8 σ H {s with heap:=h',toks:=tk}:=I.turned (λb o hb e=>kk b o (by simpa using hb) e) f0 f1 f3 f4 f5;obtain⟨o,e,cc,dd⟩:=id pG;exact⟨_,rfl,uH e cc dd (by decide) ⟨.str ⟨#[c]⟩,H,I1,⟨u,rfl⟩,⟨rfl,c,Sj,rfl⟩,⟨hi,pG⟩,λb hb=>(hf b hb).1⟩⟩
 done:=by
  intro X hP hw hK hc i f8 s σ H E I hf st hg;subst hP hw hK;obtain⟨f0,f1,f2,f3,f4,f5⟩:=hf it (by simp);have hi:i=x.cps.size:=aau st.1 hg;subst hi;exact(Walks.strWide (I.ok.hd hc) it x t).done s _ _ st.2 λh' tk kk=>⟨rfl,I.turned (λb o hb e=>kk b o (by simpa using hb) e) f0 f1 f3 f4 f5⟩
 self:=λ_ _ _ _ _ st h=>wpAny_pyIter_striter_wide st.2 h
section
variable{X:Cx}{Xw:Nat->Hp->Prop}{tg a b e l o:Expr}{δ δo:DE}{δs:DA}{apos aO:Pos}
def Tb(tl:TE):TI:=λσ H R=>tl σ H λx H1=>∃z,x= .str z/\R (Q7 z) H1
def NI{tl:TE}(hl:PE X l tl):PI X tg l (Tb tl):=by
 intro f8 s σ H R I h;refine bX (hl f8 s σ H _ I h) λv s1 ⟨x,H1,I1,r1,q1⟩=>?_;obtain⟨z,e,q⟩:=q1;subst e;obtain⟨t,rfl⟩:=r1;have fp:∀b∈[s1.heap.objs.size],qy X f8 H1 b:=λb hb=>by
  have e:b=s1.heap.objs.size:=by simpa using hb
  subst e;exact I1.fpOk (X4 _) (I1.hok.fresh (X4 _))
 cases ha:z.cps.all (· <128)
 ·exact wpAny_pyIter_wide ha ⟨s1.heap.objs.size,[s1.heap.objs.size],_,_,H1,rfl,I1.kept (t':=s1.toks) λb o e=>XZ _ e,EK _ z t,⟨YC _,_,Yj _ rfl,rfl,rfl⟩,fp,q⟩
 ·exact wpAny_pyIter_ascii ha ⟨s1.heap.objs.size,[s1.heap.objs.size],_,_,H1,rfl,I1.kept λb o e=>XZ _ e,EJ _ z t,⟨YC _,_,Yj _ rfl,rfl,rfl⟩,fp,q⟩
def signs(x:Str):List D:=x.cps.toList.map λc=>D.str ⟨#[c]⟩
def N1:D->M (List D)
 | .str x=>aa (signs x)
 |_=>ag
def Jl{K:X5}{F:Hp}(x:Str):ItD K F (Q7 x) (signs x):=λF' H' i s1 s2=>by
 refine⟨λd e=>?_,λhl=>show x.cps.size<=i by simpa[signs] using hl⟩;unfold signs at e;rw[X6] at e;cases q:x.cps.toList[i]? with
 |none=>rw[q] at e;cases e
 |some c=>
  rw[q] at e;cases e;have hi:i<x.cps.size:=by
   have:=(X0.mp q).1;simpa using this
  refine⟨hi,λv H'' y=>?_⟩;obtain⟨e2,c',xS,rfl⟩:=y;subst e2;have:c'=c:=by
   have q':x.cps[i]? =some c:=by simpa using q
   rw[q'] at xS;exact(YI xS).symm
  subst this;exact⟨F',Ext.refl s2,rfl,by show 1<=lim;decide⟩
def J0(h:PD X Xw l δ):xQ X Xw tg l (λZ=>δ Z>>=N1):=PI.weak (NI h) λσ H R ⟨F,Z,s,w⟩=>by
 refine⟨F,Z,s,WP.mono (WPI.bind w) λv H1 ⟨F1,d,e1,q1,w1⟩=>?_⟩;cases d with
 |str z=>exact⟨z,q1.1,w1 _ _ _ (Ext.refl e1.fh) (Jl z)⟩
 |_=>exact w1.elim
def MN:Value->Bool
 | .bool b=>b
 |_=>false
def FD{bs:List Bool}:∀y,y∈(bs.map aag).toArray->EqAt A s y (.bool true) (MN y):=λy hy=>by
 have hy:y∈bs.map aag:=by simpa using hy
 obtain⟨b,_,rfl⟩:=X9.mp hy;have:=EqAt.bool_bool (A:=A) (s:=s) b true;cases b<;>exact this
def Dt:D->List D->M D
 | .lst ds,[.bl true]=>match bools ds with | some bs=>aa (.int (bs.count true)) | none=>ag
 |_,_=>ag
def MH:D->List D->M D
 | .lst ds,[.bl true]=>match bools ds with
   |some bs=>if bs.contains true then aa (.int (bs.idxOf true)) else ag
   |none=>ag
 |_,_=>ag
def ym:∀bs:List Bool,(bs.map aag).countP MN=bs.count true
 |[]=>rfl
 |b::bs=>by
  rw[X3,List.countP_cons,ym bs,List.count_cons];cases b<;>rfl
def TK:V->List V->Hp->VK->Prop:=λx vs H Q=>∃(a:Addr) (bs:List Bool),x= .ref a/\vs=[.bl true]/\H a=some (.lst (bs.map V.bl))/\Q (.int (bs.count true)) H
def TL:V->List V->Hp->VK->Prop:=λx vs H Q=>∃(a:Addr) (bs:List Bool),x= .ref a/\vs=[.bl true]/\H a=some (.lst (bs.map V.bl))/\bs.contains true=true/\Q (.int (bs.idxOf true)) H
def M0:Oe X "list.count" TK:=by
 intro f8 s σ H x vs v us Q I rx rv h;obtain⟨a,bs,rfl,rfl,hH,q⟩:=h;cases rx;obtain⟨u,rfl,r1⟩:=rv.one;cases (show u=_ from r1);obtain⟨z,aT,n,r,hl,e⟩:=I.lstM hH;obtain rfl:=qx r;refine abj F.slot_list_count ⟨_,e,rfl⟩ F.entry_list_count (F.args_list_count_2 _ _) (list_countAt a _ n none #[] (.bool true) MN) ⟨e,FD,?_⟩;have ec:((bs.map aag).toArray.toList.countP MN)=bs.count true:=ym bs;rw[ec];exact⟨.int (bs.count true),H,I.tok _,⟨_,rfl⟩,q⟩
def M3:Oe X "list.index" TL:=by
 intro f8 s σ H x vs v us Q I rx rv h;obtain⟨a,bs,rfl,rfl,hH,hc,q⟩:=h;cases rx;obtain⟨u,rfl,r1⟩:=rv.one;cases (show u=_ from r1);obtain⟨z,aT,n,r,hl,e⟩:=I.lstM hH;obtain rfl:=qx r;have hm:true∈bs:=by simpa using hc
 have dW:bs.idxOf true<bs.length:=adn.mpr hm;have hz:bs.length<=Yl:=by simpa using z
 have hs:Yl=16777216:=ZM;refine abj F.slot_list_index ⟨_,e,rfl⟩ F.entry_list_index (F.args_list_index_2 _ _) (list_indexAt a _ n none #[] (.bool true) MN (bs.idxOf true) (by simpa using dW) (by omega) ?_ ?_) ⟨e,FD,?_⟩
 ·have:bs[bs.idxOf true]=true:=aek dW;simp[MN,this]
 ·intro m Wn vS;have ET:m<bs.length:=by simpa using Wn
  have:bs[m]≠true:=λz=>by
   have:=adF (xs:=bs) vS;rw[z] at this;simp at this
  simp[MN];simpa using this
 ·exact⟨.int (bs.idxOf true),H,I.tok _,⟨_,rfl⟩,q⟩
def Np(ho:PD X Xw o δo)(ha:jm X Xw [e] δs)(eG:Zx o "count" X.env (eval o X.env)=eval o X.env:=by rfl)
 (jy:((ZI aO (Yg [e] X.env)).all (λx=>!x.1)&&(abg aO (aaj [] X.env)).all (λx=>x.1.isSome)&&decide ([e].length+([]:List aaf).length+(if ([]:List aaf).isEmpty then 0 else 1)<30))=true:=by rfl)
 (eJ:(apos.endLine==aO.line)=true:=by rfl)(uJ:Yg [e] X.env=[(false,eval e X.env)]:=by rfl):PD X Xw (.Call (.Attribute o "count" apos) [e] [] aO) (dM gG Dt δo δs):=
 Cz Zy PySem.F.slot_list_count PySem.F.type_list_count M0 rj (λXw F H x vs d ds Q s hx hv w=>by
  unfold Dt at w;split at w
  ·rename_i ds;obtain⟨v,rfl,h1⟩:=hv.one;cases (show _=_ from h1);obtain⟨a,ws,rfl,h2,h3,_⟩:=hx;split at w
   ·rename_i bs hb;exact⟨a,bs,rfl,rfl,by rw[<-j_ hb h3];exact s _ _ h2,WP.now w s rfl⟩
   ·exact w.elim
  ·exact w.elim) ho ha eG jy eJ uJ rfl
def Nq(ho:PD X Xw o δo)(ha:jm X Xw [e] δs)(eG:Zx o "index" X.env (eval o X.env)=eval o X.env:=by rfl)
 (jy:((ZI aO (Yg [e] X.env)).all (λx=>!x.1)&&(abg aO (aaj [] X.env)).all (λx=>x.1.isSome)&&decide ([e].length+([]:List aaf).length+(if ([]:List aaf).isEmpty then 0 else 1)<30))=true:=by rfl)
 (eJ:(apos.endLine==aO.line)=true:=by rfl)(uJ:Yg [e] X.env=[(false,eval e X.env)]:=by rfl):PD X Xw (.Call (.Attribute o "index" apos) [e] [] aO) (dM gG MH δo δs):=
 Cz Zy ac0 acZ M3 rj (λXw F H x vs d ds Q s hx hv w=>by
  unfold MH at w;split at w
  ·rename_i ds;obtain⟨v,rfl,h1⟩:=hv.one;cases (show _=_ from h1);obtain⟨a,ws,rfl,h2,h3,_⟩:=hx;split at w
   ·rename_i bs hb;split at w
    ·rename_i hc;exact⟨a,bs,rfl,rfl,by rw[<-j_ hb h3];exact s _ _ h2,hc,WP.now w s rfl⟩
    ·exact w.elim
   ·exact w.elim
  ·exact w.elim) ho ha eG jy eJ uJ rfl
end
end L3
namespace L3
open PySem PySem.Spec L2 SeqAt HT
open PyProof.Rows hiding St
open PySem.W (Frag Looks InstAt findIn mroIn)
open PySem.Builtin PySem.Builtin.ObjectAttr PySem.Builtin.Getset_descriptor
section
variable{prog:YK}{w:World}{A:YX}{E:Value->X1->Prop}{h:Heap}{g:Array GenState}{d:Drawn}{t:Nat}{os:OsState}{x D:Addr}{ox:Obj}{K:Frag}
def Aw(X:K.In h)(hx:h.get? x=some ox)(hc:ox.cls= .ref D)(hm:mroIn K D (.type "object")=some true)
 (hq:R (.ok (.ret (.ref D))) ⟨h,g,d,t,os⟩):aa5 (model prog w) A (.call (.builtin "getset_descriptor.__get__") ⟨[.builtin "object.__class__", .ref x,tp],[]⟩) R ⟨h,g,d,t,os⟩:=by
 have L0:Looks (model prog w) h (typeOf (.ref x)) (.ref D):=hc▸(Looks.ld hx).andThen .now;have L1:=adA (M:=model prog w) X hm;refine codeAny_call_builtin PySem.W.KF.slot_gs.plain PySem.W.KF.entry_gs (PySem.W.KF.slot_gs.check _ _ _ _ _ _ _ _ PySem.W.KF.type_class (PySem.W.KF.args_gs _ _ _) ?_);unfold ab3.«getset_descriptor.__get__» descrGet;rw[PySem.W.dga_obj];refine XX (Yc ?_);unfold descrGetter descrCheckInstance descrNameAndClass isInstance;simp only[PySem.W.KF.owner_class]
 repeat lk
 refine⟨Code.quiet_builtin _ (by decide+kernel),aaY PySem.W.KF.entry_class ?_⟩;unfold ab3.«object.__class__» shownTypeOf
 repeat lk
 exact hq
def pT(X:K.In h)(hx:h.get? x=some ox)(hc:ox.cls= .ref D)(ha:findIn K (.ref D) "__class__"=some (some (.builtin "object.__class__")))(hm:mroIn K D (.type "object")=some true)
 (hq:Q (.done (.ret (.ref D))) ⟨h,g,d,t,os⟩):wpAny (model prog w) A (ab3.«object.__getattribute__» ⟨[.ref x, .str "__class__" tk],[]⟩) Q E ⟨h,g,d,t,os⟩:=by
 have XB:(⟨h,g,d,t,os⟩:X1).TypeIs (.builtin "object.__class__") "getset_descriptor":=aem;have f5:=aem;have f6:=F.slot_gs_get.lookup;have f7:=F.slot_gs_set.lookup;have LC:Looks (model prog w) h (acW (.ref D) "__class__") (some (.builtin "object.__class__")):=abM X ha
 repeat (any_goals (first | assumption | (with_reducible refine acV hx ?_;rw[hc]) | with_reducible refine LC.at ?_ | wp_step))
 exact Aw X hx hc hm (Yc hq)
def vL{M:Model}(X:K.In h)(hx:h.get? x=some ox)(hc:ox.cls= .ref D)(hb:mroIn K D (.type "BaseException")=some true)(hq:Q () ⟨h,g,d,t,os⟩):
 wpAny M A (checkBuiltinCall "BaseException.__getattribute__" ⟨[.ref x,Qe],[]⟩) Q E ⟨h,g,d,t,os⟩:=by
 have hk:builtinKind "BaseException.__getattribute__"=some .slot:=by decide+kernel
 have MF:splitId "BaseException.__getattribute__"=some ("BaseException","__getattribute__"):=by decide+kernel
 have LB:Looks M h (isSubtype (.ref D) (.type "BaseException")) true:=adA X hb;have ha:=F.args_bexc_ga (.ref x) Qe;simp only[checkBuiltinCall,hk,MF];refine XX ?_
 ·unfold isInstance
  repeat (first | (with_reducible refine acV hx ?_;rw[hc]) | with_reducible refine LB.at ?_ | wp_step)
  exact hq
def qK{tk:Tok}(X:K.In h)(hx:h.get? x=some ox)(hc:ox.cls= .ref D)(ha:findIn K (.ref D) "__class__"=some (some (.builtin "object.__class__")))(hm:mroIn K D (.type "object")=some true)(hb:mroIn K D (.type "BaseException")=some true)
 (hq:R (.ok (.ret (.ref D))) ⟨h,g,d,t,os⟩):aa5 (model prog w) A (.call (.builtin "BaseException.__getattribute__") ⟨[.ref x, .str "__class__" tk],[]⟩) R ⟨h,g,d,t,os⟩:=
 codeAny_call_builtin (by decide+kernel) F.entry_bexc_ga (vL X hx hc hb (pT X hx hc ha hm hq))
def qJ(X:K.In h)(hx:h.get? x=some ox)(hc:ox.cls= .ref D)(V6:findIn K (.ref D) "__getattribute__"=some (some (.builtin "BaseException.__getattribute__")))(V_:findIn K (.ref D) "__getattr__"=some none)
 (ha:findIn K (.ref D) "__class__"=some (some (.builtin "object.__class__")))(hm:mroIn K D (.type "object")=some true)(hb:mroIn K D (.type "BaseException")=some true)
 (hq:Q (some (.ref D)) ⟨h,g,d,t+1,os⟩):wpAny (model prog w) A (getAttr? (.ref x) "__class__") Q E ⟨h,g,d,t,os⟩:=by
 have LG:Looks (model prog w) h (acW (.ref D) "__getattribute__") (some (.builtin "BaseException.__getattribute__")):=abM X V6;have LH:Looks (model prog w) h (acW (.ref D) "__getattr__") none:=abM X V_;have WZ:(aaM "BaseException.__getattribute__"==aaM "object.__getattribute__")=false:=by decide+kernel
 have XM:(onTheHeap (YF D)&&aaM "BaseException.__getattribute__"==aaM "object.__getattribute__")=false:=by rw[WZ];rfl
 have f3:=PySem.F.excAttr_ValueError.ga.bind (.ref x);unfold getAttr? getAttrBy?
 repeat (any_goals (first | assumption | (with_reducible refine acV hx ?_;rw[hc]) | with_reducible refine LG.at ?_ | with_reducible refine LH.at ?_ | wp_step))
 refine qK X hx hc ha hm hb ?_
 repeat (any_goals (first | assumption | wp_step))
structure ExcC (K:Frag) (D:Addr):Prop where
 ga:findIn K (.ref D) "__getattribute__"=some (some (.builtin "BaseException.__getattribute__"))
 gt:findIn K (.ref D) "__getattr__"=some none
 ca:findIn K (.ref D) "__class__"=some (some (.builtin "object.__class__"))
 mo:mroIn K D (.type "object")=some true
 mb:mroIn K D (.type "BaseException")=some true
 cl:(aa0 K D).isSome=true
def yR(c:ExcC K D):PySem.W.KitX K (.ref x) (.ref D) (λh=>∃ox,h.get? x=some ox/\ox.cls= .ref D) where
 ty:=λ_ _ _ ⟨_,hx,hc⟩=>hc▸(Looks.ld hx).andThen .now
 it:=λ_ _ X _=>by
  obtain⟨Vw,Mp⟩:=Y6.mp c.cl;unfold aa0 at Mp;split at Mp
  ·rename_i c' d' Vv Ku ho;intro A' Q' E' s' k q;unfold isType loadHead;exact XX (wpAny_loadPart (k _ _ (X _ _ ho)) (Yc q))
  ·cases Mp
 ne:=λh tp dd aT n sl X WQ=>by
  obtain⟨Vw,Mp⟩:=Y6.mp c.cl;refine aaA.mpr λq=>?_;have e:D=tp:=aed (beq_iff_eq.mp q);subst e;unfold aa0 at Mp;split at Mp
  ·rename_i c' d' Vv Ku ho;have z:=(X _ _ ho).symm.trans WQ;cases z
  ·cases Mp
 ca:=λ{_ _ _ _ _ s} X ⟨_,hx,hc⟩ k=>by
  obtain⟨hh,g,d,t,os⟩:=s;exact qJ X hx hc c.ga c.gt c.ca c.mo c.mb k
end
section
variable{X:Cx}{Xw:Nat->Hp->Prop}{e e2:Expr}{δs:DA}{pos p:Pos}
def TM(K:Frag):List V->Hp->VK->Prop:=λxs H Q=>∃ea C D b,xs=[.ref ea, .ref D]/\H ea=some (Lz ea C)/\ExcC K C/\Yt K (.ref C) (.ref D)=some b/\Q (.bl b) H
def QC(K:Frag):List V->Hp->VK->Prop:=λxs H Q=>∃ea C T b,xs=[.ref ea, .ty T]/\H ea=some (Lz ea C)/\ExcC K C/\Yt K (.ref C) (.type T)=some b/\Q (.bl b) H
def Fh:CallR X (.builtin "isinstance") (TM X.K):=by
 intro f8 s σ H xs us Q I r h;obtain⟨ea,C,D,b,rfl,hH,hc,e,q⟩:=h;obtain⟨u,w',rfl,r1,r2⟩:=vals2 r;cases (show u=_ from r1);cases (show w'=_ from r2);obtain⟨hx,_,_⟩:=I.hok ea _ hH;exact Y7 (yR hc) I.kIn hx e (λz=>nomatch z) λtk=>⟨.bl b,H,I.tok tk,rfl,q⟩
def Df:CallR X (.builtin "isinstance") (QC X.K):=by
 intro f8 s σ H xs us Q I r h;obtain⟨ea,C,D,b,rfl,hH,hc,e,q⟩:=h;obtain⟨u,w',rfl,r1,r2⟩:=vals2 r;cases (show u=_ from r1);cases (show w'=_ from r2);obtain⟨hx,_,_⟩:=I.hok ea _ hH;exact Y7 (yR hc) I.kIn hx e (λz=>nomatch z) λtk=>⟨.bl b,H,I.tok tk,rfl,q⟩
def yO(K:Frag)(cs:List Addr):List D->M D
 |[.exc C, .raw (.ref D)]=>if C∈cs then(match Yt K (.ref C) (.ref D) with | some b=>aa (.bl b) | none=>ag) else ag
 |[.exc C, .raw (.ty T)]=>if C∈cs then(match Yt K (.ref C) (.type T) with | some b=>aa (.bl b) | none=>ag) else ag
 |_=>ag
def wR(UJ:∀C∈cs,ExcC X.K C)(hg:Gl X "isinstance")(hm:X.mg "isinstance"=none)(hb:YN "isinstance"=some (.builtin "isinstance"))(ha:jm X Xw [e,e2] δs)(he:Yg [e,e2] X.env=(false,eval e X.env)::Yg [e2] X.env:=by rfl)
 (kG:(ZI pos (Yg [e2] X.env)).any (·.1)=false:=by rfl):PD X Xw (.Call (.Name "isinstance" p) [e,e2] [] pos) (dA (yO X.K cs) δs):=
 cE (Fh.or Df) (λXw F H vs ds Q s h w=>by
  unfold yO at w;split at w
  ·rename_i C D;obtain⟨v,v',rfl,h1,h2⟩:=h.two;cases (show _=_ from h2);obtain⟨ea,rfl,h3⟩:=h1;split at w
   ·rename_i hC;split at w
    ·rename_i b hb;exact .inl ⟨ea,C,D,b,rfl,s _ _ h3,UJ C hC,hb,WP.now w s rfl⟩
    ·exact w.elim
   ·exact w.elim
  ·rename_i C T;obtain⟨v,v',rfl,h1,h2⟩:=h.two;cases (show _=_ from h2);obtain⟨ea,rfl,h3⟩:=h1;split at w
   ·rename_i hC;split at w
    ·rename_i b hb;exact .inr ⟨ea,C,T,b,rfl,s _ _ h3,UJ C hC,hb,WP.now w s rfl⟩
    ·exact w.elim
   ·exact w.elim
  ·exact w.elim) hg hm hb ha (by decide) (by decide) he kG
end
end L3
namespace L3
open PySem PySem.Spec L2 SeqAt HT
open PyProof.Rows hiding St
open PySem.W (Frag Looks findIn mroIn)
def v7{ea C:Addr}(x:BF h1 ea C)(k:∀o,h1.get? ea=some o->h2.get? ea=some o):BF h2 ea C:=
 let ⟨ox,a,b⟩:=x
 ⟨ox,k ox a,b⟩
def NY(τ:DS)(hd:Nat->M D):DS:=λZ=>match τ Z with
 |some (.ex n)=>hd n>>=λd=>aa (.rt d)
 |r=>r
abbrev ra(X:Cx)(pn:List (Addr×Obj))(E:Value->X1->Prop):Cx:={X with pn:=pn,xe:=E}
abbrev ki(X:Cx)(ea:Addr)(E:Value->X1->Prop):Cx:={X with A:=X.A.mark (some (.ref ea)),calm:=false,xe:=E}
section
variable{X:Cx}{f8 pn:List (Addr×Obj)}{σ:St}{H:Hp}{s:X1}{E:Value->X1->Prop}{ea:Addr}
def GO(ok:X.Ok):(ra X pn E).Ok:=⟨ok.mod,ok.kind,ok.glob,ok.blt,ok.above,ok.inj,ok.has,ok.cab,ok.hd,ok.frames,ok.stk,ok.exf,ok.bs,ok.bsz,ok.noex,ok.exfs,ok.funs,ok.frf⟩
def DN(I:Inv X f8 σ H s)(hp:X.pn=[]):Inv (ra X f8 E) [] σ H s:=
 ⟨GO I.ok,I.os,I.bare,I.base,I.loc,I.cell,I.free,I.freeC,λp q=>I.pin p (by rw[hp];rw[YR] at q;exact q),I.hok,I.len⟩
def Eg(ok:(ra X pn E).Ok):X.Ok:=⟨ok.mod,ok.kind,ok.glob,ok.blt,ok.above,ok.inj,ok.has,ok.cab,ok.hd,ok.frames,ok.stk,ok.exf,ok.bs,ok.bsz,ok.noex,ok.exfs,ok.funs,ok.frf⟩
def gr(I:Inv (ra X f8 E) CI σ H s)(hp:X.pn=[]):Inv X f8 σ H s:=
 ⟨Eg I.ok,I.os,I.bare,I.base,I.loc,I.cell,I.free,I.freeC,λp q=>I.pin p (by rw[hp] at q;exact Z4 _ q),I.hok,I.len⟩
def jz(I:Inv X f8 σ H s):Inv (ki X ea E) f8 σ H s:=
 ⟨⟨I.ok.mod,I.ok.kind,I.ok.glob,I.ok.blt,I.ok.above,I.ok.inj,I.ok.has,I.ok.cab,λz=>(by cases z),I.ok.frames,I.ok.stk,I.ok.exf,I.ok.bs,I.ok.bsz,I.ok.noex,I.ok.exfs,I.ok.funs,I.ok.frf⟩,I.os,I.bare,I.base,I.loc,I.cell,I.free,I.freeC,I.pin,I.hok,I.len⟩
def vY(I:Inv (ki X ea E) f8 σ H s)(hd:X.calm=true->X.A.handled=none)(xT:X.A.frames=some X.stack):Inv X f8 σ H s:=
 ⟨⟨I.ok.mod,I.ok.kind,I.ok.glob,I.ok.blt,I.ok.above,I.ok.inj,I.ok.has,I.ok.cab,hd,xT,I.ok.stk,I.ok.exf,I.ok.bs,I.ok.bsz,I.ok.noex,I.ok.exfs,I.ok.funs,I.ok.frf⟩,I.os,I.bare,I.base,I.loc,I.cell,I.free,I.freeC,I.pin,I.hok,I.len⟩
def AS(I:Inv X f8 σ H s)(Ai:Z_ X.env.locals s.heap h')(hn:h'.Ns X.env.locals m'):Inv X f8 (σ.map λ_=>none) H {s with heap:=h',toks:=tk}:=by
 have Oz:∀b o,X.aeI.heap.get? b=some o->b≠X.env.locals:=λb o e=>Ym (YD (Yd e) I.ok.above);refine⟨I.ok,I.os,I.bare,⟨λb o e n hb hx=>?_,λb o e n hb hx=>?_,I.base.free,λb o e hx=>?_,I.base.tups,I.base.frzs,I.base.tbls⟩,⟨m',hn,λi x v h1 h2 h3=>?_⟩,λx c e=>?_,I.free,I.freeC,λp hp=>?_,zQ I.hok Ai I.free,by rw[XS];exact I.len⟩
 ·exact(Ai.2 b (Oz b o e)).trans (I.base.keep b o e n hb hx)
 ·obtain⟨sl,q⟩:=I.base.slot b o e n hb hx;exact⟨sl,(Ai.2 b (Oz b o e)).trans q⟩
 ·obtain⟨o',q⟩:=I.base.there b o e hx;exact⟨o',(Ai.2 b (Oz b o e)).trans q⟩
 ·rw[X6] at h2;cases q:σ[i]? with
  |none=>rw[q] at h2;cases h2
  |some z=>rw[q] at h2;cases h2
 ·obtain⟨v,q⟩:=I.cell x c e;exact⟨v,q.sameBut Ai (I.cne x c e)⟩
 ·obtain⟨e,n,ne,nf,d⟩:=I.pin p hp;exact⟨(Ai.2 p.1 ne).trans e,n,ne,nf,d⟩
def DO(I:Inv X f8 σ H s)(hn:H a=none)(h0:X.aeI.heap.get? a=none)(hl:a≠X.env.locals)(hc:∀x c,X.env.cells.lookup x=some c->c≠a)(hp:∀p∈X.pn++f8,p.1≠a)(ho:ObjOk X.prog X.w (upd H a o) s.heap a o):
 Inv X f8 σ (upd H a o) s:=by
 have ne:∀b u,H b=some u->b≠a:=λb u e=>a_ e hn;have W9:∀b u,X.aeI.heap.get? b=some u->b≠a:=λb u e z=>by rw[z,h0] at e;cases e
 refine⟨I.ok,I.os,I.bare,⟨I.base.keep,I.base.slot,λb u e n hx=>?_,I.base.there,λb xs e=>?_,λb u xs e=>?_,λb ps e=>?_⟩,I.loc,I.cell,?_,λx c e=>?_,λp q=>?_,λb u e=>?_,I.len⟩
 ·rw[av (W9 b u e)];exact I.base.free b u e n hx
 ·have q:=I.base.tups b xs e;rw[av (ne b _ q)];exact q
 ·have q:=I.base.frzs b u xs e;rw[av (ne b _ q)];exact q
 ·obtain⟨more,q⟩:=I.base.tbls b ps e;exact⟨more,by rw[av (ne b _ q)];exact q⟩
 ·rw[av (YJ hl)];exact I.free
 ·rw[av (hc x c e)];exact I.freeC x c e
 ·obtain⟨e,n,r1,r2,d⟩:=I.pin p q;exact⟨e,by rw[av (hp p q)];exact n,r1,r2,d⟩
 ·by_cases hb:b=a
  ·subst hb;rw[aB] at e;cases e;exact ho
  ·rw[av hb] at e;exact(I.hok b u e).stay (λ_ _ _ q=>q) (λc q=>by rw[av (ne c _ q)];exact q) λc xs q=>by rw[av (ne c _ q)];exact q
end
section
variable{P:YK}{w:World}{K:X5}{mg:Str->Option Value}{base:Heap}{N:List Str}{qual:Str}{scope:Scope}{f:Addr}{cd:Value}{A:YX}{outer:List Env}{aeI:X1}{aeH:Hp}{E:XK}{cv:Nat->Value}
def Kf{i:Nat}{hd:Nat->M D}{cA:Nat->Addr}
 (Pb:∀k,cv k= .ref (cA k))(hN:(aY (c_ P w cv) P w K mg base N qual scope f cd A outer aeI aeH E).N.Nodup)(hi:(aY (c_ P w cv) P w K mg base N qual scope f cd A outer aeI aeH E).N[i]? =some n)(AM:(aY (c_ P w cv) P w K mg base N qual scope f cd A outer aeI aeH E).env.scope.names.lookup n=some .local)(hg:Gl (aY (c_ P w cv) P w K mg base N qual scope f cd A outer aeI aeH E) x)(hm:mg x=some (.ref Cp))(hex:∀k,abd K (cv k) (.ref Cp)=some true)
 (hb:∀(pn:List (Addr×Obj)) (Ec:Value->X1->Prop) (Xw':Nat->Hp->Prop),Passes (c_ P w cv) (ra (aY (c_ P w cv) P w K mg base N qual scope f cd A outer aeI aeH E) pn Ec) (EX cv Xw')->PSDs (ra (aY (c_ P w cv) P w K mg base N qual scope f cd A outer aeI aeH E) pn Ec) Xw' body τb)
 (hs:∀ea,PSDs (ki (aY (c_ P w cv) P w K mg base N qual scope f cd A outer aeI aeH E) ea λ_ _=>False) (λ_ _=>False) (b₀::Ls) τh)(hh:∀(k:Nat) (Z:bH),Z.length=N.length->Z[i]? =some (some (.fz (.exc (cA k))))->τh Z=(hd k>>=λd=>aa (.rt d)))
 (l6:(x==("__debug__":Str))=false:=by decide):
 g8 (aY (c_ P w cv) P w K mg base N qual scope f cd A outer aeI aeH E) Xw (.Try body [.ExceptHandler (some (.Name x np)) (some n) (b₀::Ls) MD] [] [] pos) (NY τb λk=>noex (hd k)):=λG₀ J₀ f8 s σ H D I ⟨F,Z,S,wq⟩=>by
 have vU:gV (aY (c_ P w cv) P w K mg base N qual scope f cd A outer aeI aeH E).stack=aeI.heap.objs.size::gV outer:=rfl;have pass:Passes (c_ P w cv) (ra (aY (c_ P w cv) P w K mg base N qual scope f cd A outer aeI aeH E) f8 λe T0=>wpAny (model P w) (aY (c_ P w cv) P w K mg base N qual scope f cd A outer aeI aeH E).A (noteFrame e (aY (c_ P w cv) P w K mg base N qual scope f cd A outer aeI aeH E).env) (λ_ v4=>wpAny (model P w) (aY (c_ P w cv) P w K mg base N qual scope f cd A outer aeI aeH E).A (setFlight e none) (λ_ s₃=>wpAny (model P w) (aY (c_ P w cv) P w K mg base N qual scope f cd A outer aeI aeH E).A (handleBy e (aY (c_ P w cv) P w K mg base N qual scope f cd A outer aeI aeH E).env [.ExceptHandler (some (.Name x np)) (some n) (b₀::Ls) MD]) (SP (aY (c_ P w cv) P w K mg base N qual scope f cd A outer aeI aeH E) f8 D) (aY (c_ P w cv) P w K mg base N qual scope f cd A outer aeI aeH E).xe s₃) (aY (c_ P w cv) P w K mg base N qual scope f cd A outer aeI aeH E).xe v4) (aY (c_ P w cv) P w K mg base N qual scope f cd A outer aeI aeH E).xe T0)
  (EX cv λk H'=>∃F',Ext G₀ J₀ F' H'/\WPS K Xw G₀ J₀ (noex (hd k)>>=λd=>aa (.rt d)) D):=by
  intro CI σ' H1 s1 e s' I1 ⟨ea,nn,a0,B,H',he,Jc,V8,hok,un,DB,hB,m,Om,F',ext',w'⟩;subst he;have xT:∀b∈gV (aY (c_ P w cv) P w K mg base N qual scope f cd A outer aeI aeH E).stack,H' b=none:=λb hb=>by
   obtain⟨_,o,ho,_⟩:=I1.stack.mem hb;exact un.free b o ho (I1.stkFree b hb) (by simp)
  have RZ:ea∉gV (aY (c_ P w cv) P w K mg base N qual scope f cd A outer aeI aeH E).stack:=λhb=>by
   obtain⟨_,o,ho,qj⟩:=DB.2.2.1.mem hb;obtain⟨oe,vs,q1,_,q2,_⟩:=DB.first;rw[q1] at ho;cases ho;exact qj vs q2
  have Uw:B.get? ea=none:=DB.2.1;have qY:s1.heap.get? ea=none:=by
   cases q:s1.heap.get? ea with
   |none=>rfl
   |some o=>
    obtain⟨ob,h1,_⟩:=DB.there;have:=hB ea ob h1 (.inr (by rw[q];rfl)) RZ;rw[Uw] at this;cases this
  have Uz:H' ea=none:=by
   cases q:H' ea with
   |none=>rfl
   |some u=>
    obtain⟨ob,h1,_⟩:=DB.there;have:=hB ea ob h1 (.inl (by rw[q];exact λz=>nomatch z)) RZ;rw[Uw] at this;cases this
  have Lb:∀h₅,B.StaysIn h₅->s'.heap.UpToSlots h₅->Inv (aY (c_ P w cv) P w K mg base N qual scope f cd A outer aeI aeH E) f8 σ' H' {s' with heap:=h₅}:=λh₅ st ups=>by
   have ma:∀b o,s'.heap.get? b=some o->b∉gV (aY (c_ P w cv) P w K mg base N qual scope f cd A outer aeI aeH E).stack->(H' b≠none\/(s1.heap.get? b).isSome=true)->h₅.get? b=some o:=λb o e hb hc=>st b o (hB b o e hc hb);have Xr:Un (gV (aY (c_ P w cv) P w K mg base N qual scope f cd A outer aeI aeH E).stack) [] H1 H' s1.heap h₅:=xF un (λb o e hb hc=>ma b o e hb hc) (λb o e hb=>by
    obtain⟨_,o',l7,qj⟩:=DB.2.2.1.mem hb;rw[e] at l7;cases l7;exact ups b o e qj)
   have SJ:HOk P w H' h₅:=qZ hok xT λb o e hb hc=>ma b o e hb (.inl hc);exact gr (I1.call' Jc Xr SJ V8 (λb hb=>aeB hb (by simp))) rfl
  show wpAny (model P w) (aY (c_ P w cv) P w K mg base N qual scope f cd A outer aeI aeH E).A (noteFrame (.ref ea) (aY (c_ P w cv) P w K mg base N qual scope f cd A outer aeI aeH E).env) _ _ s';refine wpAny_looks_onW I1.ok.frames rfl DB λh₄ Pe Q3=>?_;refine wpAny_landsW Pe λh₅ Mi Q4=>?_;have J5:=Lb h₅ Mi.1 (Q3.trans Q4);have M5:Inv (ki (aY (c_ P w cv) P w K mg base N qual scope f cd A outer aeI aeH E) ea λ_ _=>False) f8 σ' H' {s' with heap:=h₅}:=jz J5;refine wpAny_handleBy_cons (codeAny_handlers_test (me M5 hg hm ?_ l6)) (by intro q;cases q);have LT:Looks (model P w) h₅ (typeOf (.ref ea)) (cv nn):=by
   obtain⟨ob,h1,h2⟩:=Mi.there;exact h2▸(Looks.ld h1).andThen .now
  refine(PySem.W.exm_one M5.kIn LT (hex nn)).here ?_;refine codeAny_handlers_suite_as ?_;refine lands_againW Mi λh₆ OY Ub=>?_;have J6:=Lb h₆ OY.1 ((Q3.trans Q4).trans Ub);have M6:Inv (ki (aY (c_ P w cv) P w K mg base N qual scope f cd A outer aeI aeH E) ea λ_ _=>False) f8 σ' H' {s' with heap:=h₆}:=jz J6;have D9:ea≠(aY (c_ P w cv) P w K mg base N qual scope f cd A outer aeI aeH E).env.locals:=λz=>RZ (by rw[vU,z];exact XU);have Lg:∀y c,(aY (c_ P w cv) P w K mg base N qual scope f cd A outer aeI aeH E).env.cells.lookup y=some c->c≠ea:=λy c q z=>by
   obtain⟨v,o,ho,_⟩:=I1.cell y c q;rw[z,qY] at ho;cases ho
  refine kC J6 hN hi (.inl AM) (v:= .ref ea) rfl (λs7 I7 ⟨a,sb,ha⟩=>?_) (.inr AM);have Pd:BF s7.heap ea (cA nn):=by
   obtain⟨ob,h1,h2⟩:=OY.there;refine⟨ob,(sb.2 ea ?_).trans h1,by rw[h2,Pb]⟩;rcases ha with z | z
   ·rw[z];exact D9
   ·exact YJ (Lg n a z)
  have h0:aeI.heap.get? ea=none:=by
   cases q:aeI.heap.get? ea with
   |none=>rfl
   |some o=>
    obtain⟨o',q'⟩:=I1.base.there ea o q (λz=>aeB (show ea∈([]:List Addr) from z) (by simp));rw[qY] at q';cases q'
  have I8:Inv (ki (aY (c_ P w cv) P w K mg base N qual scope f cd A outer aeI aeH E) ea λ_ _=>False) f8 (σ'.set i (some (.ref ea))) (upd H' ea (Lz ea (cA nn))) s7:=
   DO (jz I7) Uz h0 D9 Lg (λp q z=>by
    have hp:=I1.pin p (Z4 _ (show p∈f8 from q));rw[z,qY] at hp;cases hp.1) ⟨Pd,(by obtain⟨ox,h1,_⟩:=Pd;exact⟨ox,h1⟩),λh1 h2 hx k=>v7 hx k⟩
  have hlen:σ'.length=N.length:=I1.len;have Ol:i<σ'.length:=by rw[hlen];exact(X0.mp hi).1
  have eL:=Ext.lay (o:=Lz ea (cA nn)) ext'.fh Uz;have hZ:((Ye σ'.length none).set i (some (Sl.fz (.exc (cA nn)))))[i]? =some (some (.fz (.exc (cA nn)))):=X_ (by simpa using Ol);have only:∀(j:Nat) (sl:Sl),((Ye σ'.length (none:Option Sl)).set i (some (Sl.fz (.exc (cA nn)))))[j]? =some (some sl)->j=i/\sl= .fz (.exc (cA nn)):=λj sl e=>by
   by_cases hj:j=i
   ·subst hj;rw[hZ] at e;cases e;exact⟨rfl,rfl⟩
   ·rw[X2 (YJ hj),Za] at e;split at e<;>cases e
  have S8:StOk K G₀ J₀ (upd F' ea (Lz ea (cA nn))) (upd H' ea (Lz ea (cA nn))) (σ'.set i (some (.ref ea))) ((Ye σ'.length none).set i (some (.fz (.exc (cA nn))))):=by
   refine⟨ext'.trans eL,⟨eL.fh,λj sl e=>?_⟩,by simp,λj c a e=>?_,λj k c c' a e=>?_⟩
   ·obtain⟨rfl,rfl⟩:=only j sl e;exact⟨.ref ea,X_ Ol,ea,rfl,aB⟩
   ·obtain⟨_,z⟩:=only j _ e;cases z
   ·obtain⟨_,z⟩:=only j _ e;cases z
  have Si:cA m=cA nn:=by
   have:=Om;rw[Pb,Pb] at this;exact(aed this).symm
  have w8:WPS K (λ_ _=>False) G₀ J₀ (τh ((Ye σ'.length none).set i (some (.fz (.exc (cA nn)))))) {nx:=λ_ _=>False,rt:=D.rt}:=by
   rw[hh m _ (by simpa using hlen) (by rw[Si];exact hZ)];rcases(hd m).cs with q | ⟨k,q⟩ | ⟨d,q⟩
   ·rw[q] at w';exact w'.elim
   ·rw[q] at w';exact w'.elim
   ·rw[q] at w'⊢;exact w'
  refine Y2 (hs ea G₀ J₀ f8 s7 _ _ {nx:=λ_ _=>False,rt:=D.rt} I8 ⟨_,_,S8,w8⟩) (λfl s8 q8=>?_) λ_ _ z=>z.elim;cases fl with
  |next=>obtain⟨_,_,_,z⟩:=q8;exact z.elim
  |brk=>obtain⟨_,_,_,z⟩:=q8;exact z.elim
  |cont=>obtain⟨_,_,_,z⟩:=q8;exact z.elim
  |ret u=>
   obtain⟨v,σ9,H9,I9,rv,q9⟩:=q8;have I10:Inv (aY (c_ P w cv) P w K mg base N qual scope f cd A outer aeI aeH E) f8 σ9 H9 s8:=vY I9 J5.ok.hd J5.ok.frames;obtain⟨mm,EU,_⟩:=I10.loc;exact wpAny_nameGoes AM EU (by rw[show (aY (c_ P w cv) P w K mg base N qual scope f cd A outer aeI aeH E).env.scope.kind= .function from I10.ok.kind];rfl) λh' m' K8 Ai=>⟨v,_,H9,AS I10 Ai K8,rv,q9⟩
 have wb:WPS K (λk H'=>∃F',Ext G₀ J₀ F' H'/\WPS K Xw G₀ J₀ (noex (hd k)>>=λd=>aa (.rt d)) D) G₀ J₀ (τb Z) D:=by
  unfold NY at wq
  match τb Z,wq with
  |none,wq=>exact wq
  |some (.ok (.nx Z')),wq=>exact wq
  |some (.ok (.rt d)),wq=>exact wq
  |some (.ex k),wq=>exact λF' H' e=>⟨F',e,wq⟩
 refine wpAny_Try_except (Y2 (hb f8 _ _ pass G₀ J₀ [] s σ H D (DN I rfl) ⟨F,Z,S,wb⟩) (λfl s1 q1=>?_) λ_ _ z=>z);cases fl with
 |next=>obtain⟨σ1,H1,I1,q⟩:=q1;exact abp ⟨σ1,H1,gr I1 rfl,q⟩
 |brk=>obtain⟨σ1,H1,I1,q⟩:=q1;exact⟨σ1,H1,gr I1 rfl,q⟩
 |cont=>obtain⟨σ1,H1,I1,q⟩:=q1;exact⟨σ1,H1,gr I1 rfl,q⟩
 |ret u=>obtain⟨v,σ1,H1,I1,r,q⟩:=q1;exact⟨v,σ1,H1,gr I1 rfl,r,q⟩
end
end L3
namespace L3
open PySem PySem.Spec L2 SeqAt HT
open PyProof.Rows hiding St
structure RoomH (k:Nat) (A:YX):Prop where
 dp:A.depth+3*k+5<acv
 un:A.units+16*k+200<cLine
def RoomH.deeper(r:RoomH (k+1) A)(env:Env):RoomH k (A.deeper env):=
 ⟨by have:=r.dp;show A.depth+1+3*k+5<_;omega,by have:=r.un;show A.units+3+16*k+200<_;omega⟩
def RoomH.of(r:Room k A)(v:Option Value):RoomH k (A.mark v):=⟨r.dp,r.un⟩
def RoomH.units(r:RoomH k A):A.units+64<cLine:=by have:=r.un;omega
structure FnOkH (P:YK) (w:World) (K:X5) (mg:Str->Option Value) (base:Heap) (k:Nat) (f:Addr) (fd:aaz) (ps:List Str) (sp:Sp):Prop where
 len:∀vs H Q E,sp vs H Q E->vs.length=ps.length
 run:∀(A:YX) (outer:List Env) (s:X1) (H:Hp) (args:Args) (us:List Value) (vs:List V) (Q:VK) (E:XK),RoomH k A->Env0 P w K mg base A outer s H->adH s fd args (ps.zip us)->Vals vs us->sp vs H Q E->
  aa5 (model P w) A (.call (.ref f) args) (CR OE outer P w H s Q E) s
abbrev uC(P:YK)(w:World)(K:X5)(mg:Str->Option Value)(base:Heap)(N:List Str)(qual:Str)(scope:Scope)(f:Addr)(cd:Value)(A:YX)(outer:List Env)(s:X1)(H:Hp):Cx:=
 {aY OE P w K mg base N qual scope f cd A outer s H E0 with calm:=false,xe:=λ_ _=>False}
def AU{K:X5}{outer:List Env}
 (S:FnScope N ps scope)(e0:Env0 P w K mg base A outer s H)(hl:vs.length=ps.length)(r:Vals vs us)
 (x:InCallC s s.heap.objs.size (bindL (ZE qual scope s.heap.objs.size f cd).kindOf (ps.zip us) λ_=>none) (adx (s.heap.objs.size+1) scope.names []) (bindC (ZE qual scope s.heap.objs.size f cd).kindOf (ps.zip us) λ_=>none) s1):
 Inv (uC P w K mg base N qual scope f cd A outer s H) [] (L2.start N vs) H s1:=by
 have e1:Env0 P w K mg base {A with handled:=none} outer s H:=⟨e0.frames,e0.mod,e0.bs,e0.bsz,e0.funs,e0.frf,e0.hok,e0.bare⟩
 have J:=uM (CX:=OE) (E:=E0) S rfl e1 hl r x;exact⟨⟨J.ok.mod,J.ok.kind,J.ok.glob,J.ok.blt,J.ok.above,J.ok.inj,J.ok.has,J.ok.cab,λz=>(by cases z),adI e0.frames,J.ok.stk,J.ok.exf,J.ok.bs,J.ok.bsz,J.ok.noex,J.ok.exfs,J.ok.funs,J.ok.frf⟩,J.os,J.bare,J.base,J.loc,J.cell,J.free,J.freeC,J.pin,J.hok,J.len⟩
def Mj{K:X5}{dV kV doc pm b9 ct oc:Value}
 (lk:K.lookup f=some ⟨oc,od, .func (Zh name qual params body scope dV kV doc pm an b9 ct),GX⟩)(uI:aaC K b9 qual=true)(S:FnScope N ps scope)
 (len:∀vs H Q E,sp vs H Q E->vs.length=ps.length)
 (ie:∀(A:YX) (outer:List Env) (s:X1) (H:Hp) (vs:List V) (Q:VK) (E:XK),RoomH k (A.deeper (ZE qual scope s.heap.objs.size f b9))->sp vs H Q E->
  ∃t,PSs (uC P w K mg base N qual scope f b9 A outer s H) body t/\t {nx:=λ_ H'=>Q .non H',rt:=Q} (L2.start N vs) H):
 FnOkH P w K mg base (k+1) f (Zh name qual params body scope dV kV doc pm an b9 ct) ps sp:=by
 refine⟨len,λA outer s H args us vs Q E hr e0 hb r xU=>?_⟩;have hl:=len _ _ _ _ xU;have KX:K.In s.heap:=e0.mod.kin.keeps λb o e=>(e0.bs b o e).1;have lim:s.heap.NoLimit:=e0.mod.nolimit.keeps λb o e=>(e0.bs b o e).1;have FU:∀y∈ps.zip us,scope.names.lookup y.1=some .local\/(scope.names.lookup y.1=some .cell/\((adx (s.heap.objs.size+1) scope.names []).lookup y.1).isSome=true):=λ⟨n,v⟩ hy=>by
  rcases S.par n (aba hy).1 with q | q
  ·exact .inl q
  ·exact .inr ⟨q,abw _ _ _ (.inl q)⟩
 have Sm:A.depth<acv:=by have:=hr.dp;omega
 refine codeAny_call_function Sm (KX _ _ lk) rfl S.co S.gen rfl (adL KX uI) (hb _ _ _ _ ?_);refine adJ S.kind FU λenv he s1 x=>?_;subst he;refine⟨lim.keeps x.toInCall.keep,codeAny_func ?_⟩;obtain⟨t,ht,hq⟩:=ie A outer s H vs Q E (hr.deeper _) xU;have I:Inv (uC P w K mg base N qual scope f b9 A outer s H) [] (L2.start N vs) H s1:=AU S e0 hl r x;refine Y2 (ht [] s1 (L2.start N vs) H _ I hq) (λfl s' hs=>?_) λe s' hs=>hs.elim;have fin:∀{σ':St}{H':Hp}{v:V}{u:Value},Inv (uC P w K mg base N qual scope f b9 A outer s H) [] σ' H' s'->RelV v u->Q v H'->CE outer P w H s Q u s':=
  λ{σ' H' v u} J rv q=>⟨v,H',J.os,J.bare,J.base,J.hok,rv,q⟩
 cases fl with
 |ret u=>
  obtain⟨v,σ',H',J,rv,q⟩:=hs;exact fin J rv q
 |next=>
  obtain⟨σ',H',J,q⟩:=hs;exact fin (v:=V.non) J rfl q
 |brk=>
  obtain⟨_,_,_,q⟩:=hs;exact Zi q
 |cont=>
  obtain⟨_,_,_,q⟩:=hs;exact Zi q
def HH{K:X5}(fh:Same F H)(hd:DenL K F ds vs):StOk K F H F H (L2.start N vs) (ds.map (λd=>some (Sl.fz d))++Ye (N.length - ds.length) none):=by
 have hlen:=hd.len;have get:∀(i:Nat) (sl:Sl),(ds.map (λd=>some (Sl.fz d))++Ye (N.length - ds.length) none)[i]? =some (some sl)->∃d,ds[i]? =some d/\sl= .fz d:=λi sl e=>by
  by_cases hi:i<ds.length
  ·rw[YA (by simpa using hi),X6] at e;cases q:ds[i]? with
   |none=>rw[q] at e;cases e
   |some d=>rw[q] at e;cases e;exact⟨d,rfl,rfl⟩
  ·rw[YL (by simpa using hi),Za] at e;split at e<;>cases e
 refine⟨Ext.refl fh,⟨fh,λi sl e=>?_⟩,?_,λi c a e=>?_,λi j c c' a e=>?_⟩
 ·obtain⟨d,q,rfl⟩:=get i sl e;obtain⟨v,e1,e2⟩:=hd.get q;have hi:=(X0.mp q).1;refine⟨v,?_,e2⟩;unfold L2.start;rw[YA (by simp;omega),X6,e1];rfl
 ·unfold L2.start;simp[hlen]
 ·obtain⟨d,_,z⟩:=get i _ e;cases z
 ·obtain⟨d,_,z⟩:=get i _ e;cases z
section
variable{P:YK}{w:World}{K:X5}{mg:Str->Option Value}{base:Heap}{cv:Nat->Value}
def O0{x qual:Str}{st:Stmt}{f:Addr}(Fn:Fun K x qual st f fd)(S:FnScope N ps (ai st))
 (ie:∀(b9:Value) (A:YX) (outer:List Env) (s:X1) (H:Hp),RoomH k (A.deeper (ZE qual (ai st) s.heap.objs.size f b9))->
  PSDs (uC P w K mg base N qual (ai st) f b9 A outer s H) (λ_ _=>False) (aV st) τ):FnOkH P w K mg base (k+1) f fd ps (Ij K cv ps.length λds=>noex (b7 N.length τ ds)):=by
 obtain⟨oc,od,kV,doc,pm,an,b9,ct,GX,rfl,lk,uI⟩:=Fn.ex;refine Mj lk uI S (λvs H Q E ⟨_,_,_,_,hl,_⟩=>hl) λA outer s H vs Q E hr xU=>?_;obtain⟨F,ds,fh,hd,hl,hw⟩:=xU;refine⟨_,ie b9 A outer s H hr F H,F,_,HH fh hd,?_⟩;have hw:WP K (λn H'=>E (cv n) none H') F H (noex (τ (ds.map (λd=>some (Sl.fz d))++Ye (N.length - ds.length) none)>>=λo=>match o with | .nx _=>aa .non | .rt d=>aa d)) Q:=hw;rcases(τ (ds.map (λd=>some (Sl.fz d))++Ye (N.length - ds.length) none)).cs with e | ⟨n,e⟩ | ⟨o,e⟩
 ·rw[e] at hw;exact hw.elim
 ·rw[e] at hw;exact hw.elim
 ·rw[e] at hw⊢;cases o with
  |nx Z'=>exact λσ' F' H' s'=>hw .non H' F' s'.ext rfl
  |rt d=>exact λv F' H' e' q=>hw v H' F' e' q
end
section
variable{X:Cx}{Xw:Nat->Hp->Prop}{cv:Nat->Value}{k m:Nat}{f:Addr}{fd:aaz}{ps:List Str}{g:List D->M D}{x:Str}{p pos:Pos}{e:Expr}{es:List Expr}{δs:DA}
def G1(F:FnOkH X.prog X.w X.K X.mg X.base k f fd ps (Ij X.K cv m g))(hr:RoomH k X.A)(hg:Gl X x)(hm:X.mg x=some (.ref f))(hk:Zz X.K (.ref f)=true)(hb:Binds X.K fd ps [])
 (ha:jm X Xw (e::es) δs)(l6:(x==("__debug__":Str))=false:=by decide)(he:Yg (e::es) X.env=(false,eval e X.env)::Yg es X.env:=by rfl)(kG:(ZI pos (Yg es X.env)).any (·.1)=false:=by rfl):
 PD X Xw (.Call (.Name x p) (e::es) [] pos) (λZ=>δs Z>>=λds=>if ds.length=m then noex (g ds) else ag):=by
 intro f8 s σ H Q I ⟨Fz,Z,S,wq⟩;refine aaW (me I hg hm ?_ l6);refine adM I.ok.mod.kin hk (bX (ha pos f8 s σ H _ I ⟨Fz,Z,S,WP.bindL wq⟩) λus s1 ⟨vs,H1,I1,r,q⟩=>⟨I1.kIn,?_⟩) he kG;obtain⟨F1,ds,e1,q1,w1⟩:=q;split at w1
 ·rename_i FV;have xU:Ij X.K cv m g vs H1 Q E0:=⟨F1,ds,e1.fh,q1,by rw[<-q1.len];exact FV,by
   rcases(g ds).cs with q | ⟨n,q⟩ | ⟨d,q⟩
   ·rw[q] at w1;exact w1.elim
   ·rw[q] at w1;exact w1.elim
   ·rw[q] at w1⊢;exact w1⟩
  have Wm:us.length=ps.length:=by rw[<-r.length];exact F.len _ _ _ _ xU
  refine wpAny_call (ac_ (F.run X.A X.stack s1 H1 ⟨us,[]⟩ us vs Q E0 hr I1.env0 (by have:=hb s1 us I1.kIn (by rw[YR];exact Wm);rwa [YR] at this) r xU) λres s' hq=>?_);cases res with
  |error e=>exact hq.elim
  |ok fl=>
   cases fl with
   |ret u=>exact I1.after hq
   |next=>exact Zi hq
   |brk=>exact Zi hq
   |cont=>exact Zi hq
 ·exact w1.elim
end
def BS(N:List Str)(osc scope:Scope)(tn:List Str):Bool:=
 decide (scope.kind= .function)&&scope.names.all (λy=>decide (y.2≠ .cell))&&scope.names.all (λy=>decide (y.2= .local->scope.names.lookup y.1=some .local))&&
 scope.names.all (λy=>decide (y.2= .free->(osc.names.lookup y.1=some .cell\/osc.names.lookup y.1=some .free)))&&
 ((bV tn N).zip N).all (λp=>decide (scope.names.lookup p.1=none\/(p.1=p.2/\scope.names.lookup p.1=some .free)))
def bb(hN:X.N=N)(ho:X.env.scope=osc)(h:BS N osc scope tn=true):CompSc X scope tn:=by
 unfold BS at h;simp only[Yo,Yn,aez] at h;obtain⟨⟨⟨⟨h1,h2⟩,h3⟩,h4⟩,h5⟩:=h;refine⟨h1,h2,h3,λy hy hf=>?_,?_⟩
 ·have:=h4 y hy hf;rw[<-ho] at this;exact this
 ·rw[hN];exact h5
def cf(hN:X.N.Nodup)(h0:X.N[0]? =some x)(AM:X.env.scope.names.lookup x=some .local):xY X (.Name x px) 0 σ:=λf8 s σ' F H d ts v u I fh hd rv q e=>by
 have e:aa [d]=aa ts:=e;have e:=d8 e;subst e;refine abJ (zX I hN h0 (.inl AM) rv (λs' I'=>⟨[v],?_, .cons q .nil⟩) (.inr AM));have hl:0<σ'.length:=by rw[I.len];exact(X0.mp h0).1
 have:σ'.set 0 (some v)=[v].map some++σ:=by
  cases σ' with
  |nil=>simp at hl
  |cons a r=>
   have hd:r=σ:=by simpa using hd
   subst hd;rfl
 rw[<-this];exact I'
def df:Passes (c_ P w cv) X (EX cv λ_ _=>False):=λ_ _ _ _ _ _ _ ⟨_,_,_,_,_,_,_,_,_,_,_,_,_,_,z⟩=>z.elim
def bJ(K:X5)(mg:Str->Option Value)(x:Str)(st:Stmt)(f:Addr):Prop:=mg x=some (.ref f)/\∃fd,Fun K x x st f fd
def ax(P:YK)(w:World)(K:X5)(mg:Str->Option Value)(base:Heap)(cv:Nat->Value)(k:Nat)(x:Str)(m:Nat)(g:List D->M D):Prop:=
 ∃f fd ps,mg x=some (.ref f)/\Zz K (.ref f)=true/\Binds K fd ps []/\FnOk P w K mg base (c_ P w cv) k f fd ps (Ij K cv m g)
section
variable{X:Cx}{Xw:Nat->Hp->Prop}{cv:Nat->Value}{k m:Nat}{g:List D->M D}{x:Str}{p pos:Pos}{e:Expr}{es:List Expr}{δs:DA}
def aD(m:Nat)(g:List D->M D)(δs:DA):DE:=λZ=>δs Z>>=λds=>if ds.length=m then g ds else ag
def bE(F:ax X.prog X.w X.K X.mg X.base cv k x m g)(hr:Room k X.A)(hg:Gl X x)(hx:Passes (c_ X.prog X.w cv) X (EX cv Xw))
 (ha:jm X Xw (e::es) δs)(hl:(e::es).length=m)(l6:(x==("__debug__":Str))=false:=by decide)(he:Yg (e::es) X.env=(false,eval e X.env)::Yg es X.env:=by rfl)(kG:(ZI pos (Yg es X.env)).any (·.1)=false:=by rfl):
 PD X Xw (.Call (.Name x p) (e::es) [] pos) (aD m g δs):=by
 obtain⟨f,fd,ps,h1,h2,h3,h4⟩:=F;exact JQ h4 hr hg h1 h2 h3 hx ha hl l6 he kG
end
def aJ{K:X5}{st:Stmt}(T:bJ K mg x st f)(S:FnScope N ps (ai st))
 (Sf:∀(kV doc pm:Value) (an:Option Addr) (b9 ct:Value) (us:List Value),us.length=ps.length->bindArgs (Zh x x (eB st) (aV st) (ai st) .none kV doc pm an b9 ct) ⟨us,[]⟩=pure (ps.zip us))
 (ie:∀(b9:Value) (A:YX) (outer:List Env) (s:X1) (H:Hp) (E:XK),Room k (A.deeper (ZE x (ai st) s.heap.objs.size f b9))->
  PSDs (aY (c_ P w cv) P w K mg base N x (ai st) f b9 A outer s H E) (λn H'=>E (cv n) none H') (aV st) τ):ax P w K mg base cv (k+1) x ps.length (b7 N.length τ):=by
 obtain⟨h1,fd,Fn⟩:=T;exact⟨f,fd,ps,h1,Fn.kp,Fn.binds Sf,OZ Fn S ie⟩
section
variable{X:Cx}{Xw:Nat->Hp->Prop}{a:Expr}{δ:DE}{pos:Pos}
def A2:D->M D
 | .int i=>aa (.int (-i))
 |_=>ag
def sC(ha:PD X Xw a δ):PD X Xw (.UnaryOp .USub a pos) (d1 A2 δ):=PE.weak (Qu Oa ha) λσ H Q ⟨F,Z,s,w⟩=>by
 refine⟨F,Z,s,WP.mono (WP.bind w) λv H1 ⟨F1,d,e1,q,w1⟩=>?_⟩;cases d with
 |int i=>
  have q:v= .int i:=q;subst q;exact⟨i,rfl,WP.now w1 e1.fh rfl⟩
 |_=>exact w1.elim
end
section
variable{X:Cx}{Xw:Nat->Hp->Prop}{pos:Pos}
def JY{x z:Str}(hg:Gl X x)(h:∃t,X.mg x=some (.str z t))(hz:z.length<=lim)(l6:(x==("__debug__":Str))=false:=by decide):PD X Xw (.Name x pos) (dC (.str z)):=by
 obtain⟨t,h⟩:=h;exact wQ (v:= .str z) hg h ⟨t,rfl⟩ (λ_=>⟨rfl,hz⟩) l6
def CC{x:Str}{i:Int}(hg:Gl X x)(h:∃t,X.mg x=some (.int i t))(l6:(x==("__debug__":Str))=false:=by decide):PD X Xw (.Name x pos) (dC (.int i)):=by
 obtain⟨t,h⟩:=h;exact wQ (v:= .int i) hg h ⟨t,rfl⟩ (λ_=>rfl) l6
def wM{x:Str}{a:Addr}(hg:Gl X x)(h:X.mg x=some (.ref a))(l6:(x==("__debug__":Str))=false:=by decide):PD X Xw (.Name x pos) (dC (.raw (.ref a))):=
 wQ (v:= .ref a) hg h rfl (λ_=>rfl) l6
end
def Km(sc osc:Scope):Scope:={sc with names:=sc.names.map λ(n,k)=>if (k== .free&&osc.kind== .function&&osc.names.lookup n==some .cell) then(n, .cell) else(n,k)}
def qe(P:YK)(w:World)(K:X5)(mg:Str->Option Value)(base:Heap)(cv:Nat->Value)(k:Nat)(x:Str)(m:Nat)(g:List D->M D):Prop:=
 ∃f fd ps,mg x=some (.ref f)/\Zz K (.ref f)=true/\Binds K fd ps []/\FnOkH P w K mg base k f fd ps (Ij K cv m λds=>noex (g ds))
def Fe(m:Nat)(g:List D->M D)(δs:DA):DE:=λZ=>δs Z>>=λds=>if ds.length=m then noex (noex (g ds)) else ag
def Iw{X:Cx}{Xw:Nat->Hp->Prop}{cv:Nat->Value}{k m:Nat}{g:List D->M D}{x:Str}{p pos:Pos}{e:Expr}{es:List Expr}{δs:DA}(F:qe X.prog X.w X.K X.mg X.base cv k x m g)(hr:RoomH k X.A)(hg:Gl X x)
 (ha:jm X Xw (e::es) δs)(l6:(x==("__debug__":Str))=false:=by decide)(he:Yg (e::es) X.env=(false,eval e X.env)::Yg es X.env:=by rfl)(kG:(ZI pos (Yg es X.env)).any (·.1)=false:=by rfl):
 PD X Xw (.Call (.Name x p) (e::es) [] pos) (Fe m g δs):=by
 obtain⟨f,fd,ps,h1,h2,h3,h4⟩:=F;exact G1 h4 hr hg h1 h2 h3 ha l6 he kG
def As{P:YK}{w:World}{K:X5}{mg:Str->Option Value}{base:Heap}{cv:Nat->Value}{k:Nat}{x:Str}{st:Stmt}{f:Addr}{N ps:List Str}{τ:DS}(T:bJ K mg x st f)(S:FnScope N ps (ai st))
 (Sf:∀(kV doc pm:Value) (an:Option Addr) (b9 ct:Value) (us:List Value),us.length=ps.length->bindArgs (Zh x x (eB st) (aV st) (ai st) .none kV doc pm an b9 ct) ⟨us,[]⟩=pure (ps.zip us))
 (ie:∀(b9:Value) (A:YX) (outer:List Env) (s:X1) (H:Hp),RoomH k (A.deeper (ZE x (ai st) s.heap.objs.size f b9))->
  PSDs (uC P w K mg base N x (ai st) f b9 A outer s H) (λ_ _=>False) (aV st) τ):qe P w K mg base cv (k+1) x ps.length (b7 N.length τ):=by
 obtain⟨h1,fd,Fn⟩:=T;exact⟨f,fd,ps,h1,Fn.kp,Fn.binds Sf,O0 Fn S ie⟩
structure Box (p:Prop):Prop where
 out:p
section
variable{X:Cx}{Xw:Nat->Hp->Prop}
def eY{st:Stmt}{rest:List Stmt}{τ τ':DS}(h1:Box (g8 X Xw st τ))(h2:Box (PSDs X Xw rest τ')):Box (PSDs X Xw (st::rest) (aG τ τ')):=⟨aj h1.out h2.out⟩
def LV{st:Stmt}{τ:DS}(h1:Box (g8 X Xw st τ)):Box (PSDs X Xw [st] τ):=⟨ao h1.out⟩
end
def Q5{l:aeg}{n k:Nat}{q:YK}{loose:List Str}{XP:(Str->Option Value)->Heap->Prop}{YP:World->Heap->Prop}{d:DefRec}{K:Params->X5}{x:Str}{g:List D->M D}
 (hn:l.most=some n)(Mx:n<=lim)(Pc:d.params.defaults=[])(hr:Room k acX)
 (hY:∀(w:World) (h:Heap),YP w h->(K w.params).In h)(hg:∀ns:List Int,ns.length<=n->g [.scr ns]=aa (.bl true))
 (F:∀(w:World) (mg:Str->Option Value) (fa:Addr) (h:Heap),(K w.params).In h->h.Ns Ys mg->mg d.name=some (.ref fa)->
  ∃(cv:Nat->Value) (fd:aaz),(∀(s:X1) (u:Value),adH s fd ⟨[u],[]⟩ [(x,u)])/\
   ∀base:Heap,(K w.params).In base->base.Ns Ys mg->FnOk l.prog w (K w.params) mg base (c_ l.prog w cv) k fa fd [x] (Ij (K w.params) cv 1 g)):
 PySem.W.WalkO q loose XP YP l.row.toRowW d [] (λf vs=>aef f vs):=by
 refine Att.attach_call hn Pc λw aeI T0 mg mb fa o pm cd doc a vs ns G Y ho hd uI Mw FY hints hlen V9=>?_;have KX:=hY w _ Y;obtain⟨cv,fd,hb,hF⟩:=F w mg fa _ KX G.T.g Mw;refine yS KX G.T.g G.T.b G.T.builtins G.T.nolimit V9 FY hints (Yy hlen (Yy Mx (YY cP))) hr hF hb (λH hO hS=>?_) λH e s' z=>?_
 ·refine⟨H,[.scr ns],λ_ _ e=>e,⟨_,_,rfl,⟨a,rfl,hS,Yy hlen Mx⟩,rfl⟩,rfl,?_⟩;rw[hg ns hlen];exact λv H' F' e q=>q
 ·obtain⟨_,_,_,_,_,_,_,_,_,_,_,_,_,_,y⟩:=z
def Bd{K:X5}{h:Heap}{mg:Str->Option Value}{x:Str}{C:Addr}{ms:List Value}{id:String}(hK:K.In h)(hG:h.Ns Ys mg)(at':YH K Ys x=some (some (.ref C)))
 (qq:abr K C ms id=true):OwnCls x C ms id mg h:=OwnCls.mk (ZK hK hG at')<|by
 revert qq;unfold abr;split<;>intro qq
 rotate_left
 ·exact Bool.noConfusion qq
 rename_i OS NV Vj Mk;split at qq
 rotate_left
 ·exact Bool.noConfusion qq
 rename_i C₁ Tr v0 v1 v2 v3 W3 v5 em es;rw[Yo,Yo,Yo,Yo,Yo] at qq;rcases qq with⟨⟨⟨⟨⟨q1,q2⟩,q3⟩,q4⟩,q5⟩,q6⟩
 have q1:=eq_of_beq q1;have q2:=eq_of_beq q2;have q6:=eq_of_beq q6;have q3:NV.hasDel=false:=by
  cases z:NV.hasDel
  ·rfl
  ·rw[z] at q3;cases q3
 subst q1 q2;rcases NV with⟨r1,r2,r3,r4,r5,r6,r7,r8,r9,Xh,Xi⟩
 have em:r3=_:=em;have q3:Xi=false:=q3;subst em q3;have Xk:Vj= #[v0,v1,v2,v3,some (.builtin W3),v5]:=by
  rcases Vj with⟨y⟩
  exact aeE Array.mk es
 subst Xk;have n5:=Heap.Ns.of_isNs (PySem.W.isNs_of_in hK q5);have n6:=PySem.W.nsMap_none_of_in hK q5 q6;exact⟨Tr,r4,r1,r5,r2,r6,r7,r8,r9,Xh,OS,v0,v1,v2,v3,v5,_,hK _ _ Mk,n5,n6,PySem.W.tail_of_in hK q4⟩
def AD{K:X5}{t c:Value}(h1:PySem.W.subIn K c (.type "BaseException")=some true)(h2:Yt K t c=some true)(dm:(t==c)=false):abd K t c=some true:=by
 unfold abd;unfold Yt at h2;rw[dm] at h2;rw[h1];exact h2
def IsTupRev(h:Heap)(it t:Addr)(i:Int):Prop:=∃o,h.get? it=some o/\o.cls= .type "reversed"/\o.data= .fields #[.ref t,acI i]
section
variable{s:X1}
def IsTupRev.typeIs{it t:Addr}{i:Int}(x:IsTupRev s.heap it t i):s.TypeIs (.ref it) "reversed":=let ⟨o,ho,hc,_⟩:=x;⟨o,ho,hc⟩
end
section
variable{e:Expr}
end
def ro:D->Option Key
 | .int i=>some (.inl i)
 | .str x=>some (.inr x)
 |_=>none
def Jq:List D->Option (List Key)
 |[]=>some []
 |d::ds=>match ro d,Jq ds with
  |some k,some ks=>some (k::ks)
  |_,_=>none
def iP:D->Option (List Key)
 | .tup ds=>Jq ds
 |_=>none
def ig{K:X5}{F:Hp}(e:ro d=some k)(h:Den K F d v):v=kV k:=by
 cases d<;>first | cases e | skip
 ·exact h
 ·exact h.1
def jB{K:X5}{F:Hp}:∀{ds:List D}{vs:List V}{ks:List Key},Jq ds=some ks->DenL K F ds vs->vs=ks.map kV
 |[],_,_,e,h=>by cases e;exact h
 |d::ds,_,_,e,⟨v,r,h1,h2,h3⟩=>by
  unfold Jq at e;split at e
  ·rename_i k ks e1 e2;cases e;subst h1;rw[X3,ig e1 h2,jB e2 h3]
  ·cases e
section
variable{κ:Type}[DecidableEq κ]
def di:List κ->List D->κ->Option D
 |k'::ks,d::ds,k=>if k'=k then some d else di ks ds k
 |_,_,_=>none
def kH:List κ->List D->κ->D->List D
 |k'::ks,d'::ds,k,d=>(if k'=k then d else d')::kH ks ds k d
 |_,_,_,_=>[]
def m8{K:X5}{F:Hp}:∀{ks:List κ}{ds:List D}{vs:List V}(k:κ),DenL K F ds vs->ks.length=ds.length->
 (match di ks ds k with | some d=>∃v,fF (ks.zip vs) k=some v/\Den K F d v | none=>fF (ks.zip vs) k=none)
 |[],[],_,_,_,_=>rfl
 |k'::ks,d::ds,_,k,⟨v,r,h1,h2,h3⟩,hl=>by
  subst h1;unfold di;rw[Y4];by_cases e:k'=k
  ·rw[aex e,j7 e];exact⟨v,rfl,h2⟩
  ·rw[aey e,j6 e];exact m8 k h3 (by simpa using hl)
 |[],_::_,_,_,_,hl=>by simp at hl
 |_::_,[],_,_,_,hl=>by simp at hl
def j4{K:X5}{F:Hp}(k:κ)(h:DenL K F ds vs)(hl:ks.length=ds.length):(fF (ks.zip vs) k).isSome=(di ks ds k).isSome:=by
 have:=m8 k h hl;split at this
 ·rename_i d e;obtain⟨v,e1,_⟩:=this;rw[e1,e];rfl
 ·rename_i e;rw[this,e];rfl
def zI{K:X5}{F:Hp}(hd:Den K F d v):∀{ks:List κ}{ds:List D}{vs:List V}(k:κ),DenL K F ds vs->ks.length=ds.length->
 ∃ws,(ks.zip vs).map (λkv=>if kv.1=k then(kv.1,v) else kv)=ks.zip ws/\DenL K F (kH ks ds k d) ws
 |[],[],_,_,h,_=>⟨[],rfl,rfl⟩
 |k'::ks,d'::ds,_,k,⟨v',r,h1,h2,h3⟩,hl=>by
  subst h1;obtain⟨ws,e1,e2⟩:=zI hd k h3 (by simpa using hl);by_cases e:k'=k
  ·refine⟨v::ws,?_,?_⟩
   ·rw[Y4,X3,e1,aex e];rfl
   ·unfold kH;rw[aex e];exact .cons hd e2
  ·refine⟨v'::ws,?_,?_⟩
   ·rw[Y4,X3,e1,aey e];rfl
   ·unfold kH;rw[aey e];exact .cons h2 e2
 |[],_::_,_,_,_,hl=>by simp at hl
 |_::_,[],_,_,_,hl=>by simp at hl
def jT:∀(ks:List κ) (ds:List D) (k:κ) (d:D),ks.length=ds.length->(kH ks ds k d).length=ds.length
 |[],[],_,_,_=>rfl
 |_::ks,_::ds,k,d,h=>by unfold kH;rw[X7,X7,jT ks ds k d (by simpa using h)]
 |[],_::_,_,_,h=>by simp at h
 |_::_,[],_,_,h=>by simp at h
def cU(ks:List κ)(ds:List D)(k:κ):List κ:=if (di ks ds k).isSome then ks else ks++[k]
def cp(ks:List κ)(ds:List D)(k:κ)(d:D):List D:=if (di ks ds k).isSome then kH ks ds k d else ds++[d]
def w9{K:X5}(hd:Den K F d v)(k:κ)(h:DenL K F ds vs)(hl:ks.length=ds.length):
 ∃ws,putK (ks.zip vs) k v=(cU ks ds k).zip ws/\DenL K F (cp ks ds k d) ws/\(cU ks ds k).length=(cp ks ds k d).length:=by
 have hs:=j4 k h hl;unfold putK cU cp;have ha:((ks.zip vs).any λkv=>decide (kv.1=k))=(fF (ks.zip vs) k).isSome:=j5 ..;rw[ha,hs];cases e:(di ks ds k).isSome with
 |true=>
  rw[aex rfl,aex rfl,aex rfl];obtain⟨ws,e1,e2⟩:=zI hd k h hl;exact⟨ws,e1,e2,by rw[jT ks ds k d hl];exact hl⟩
 |false=>
  rw[aey Yv,aey Yv,aey Yv];refine⟨vs++[v],?_,h.append (.cons hd .nil),by simp[hl]⟩;rw[abQ (by rw[hl];exact h.len)];rfl
end
def xG{κ:Type}{K:X5}{ks:List κ}(h:DenL K F ds vs)(hl:ks.length=ds.length):(ks.zip vs).length=ds.length:=by
 rw[aar,hl,<-h.len];omega
def sS(Z:bH)(i:Nat):Option D:=match Z[i]? with
 |some (some (.fz d))=>some d
 |some (some (.ow c))=>some c.d
 |_=>none
def HD{K:X5}(s:StE K F H σ Z)(e:sS Z i=some (.dct ks ds)):
 ∃a vs,σ[i]? =some (some (.ref a))/\Rd H a (.dT (ks.zip vs))/\DenL K F ds vs/\ks.length=ds.length/\ds.length<=lim:=by
 unfold sS at e;split at e
 ·rename_i d e1;cases e;obtain⟨v,h1,a,ob,vs,rfl,h2,h3,h4,h5⟩:=s.den i _ e1;exact⟨a,vs,h1, .inr ⟨ob,s.fh _ _ h2⟩,h3,h4,h5⟩
 ·rename_i c e1;cases c<;>cases e
  obtain⟨v,h1,a,o,rfl,h2,_,vs,rfl,h3,h4,h5⟩:=s.den i _ e1;exact⟨a,vs,h1, .inl h2,h3,h4,h5⟩
 ·cases e
def HC{K:X5}(s:StE K F H σ Z)(e:sS Z i=some (.dci ks ds)):
 ∃a vs,σ[i]? =some (some (.ref a))/\Rd H a (.dK (ks.zip vs))/\DenL K F ds vs/\ks.length=ds.length/\ds.length<=lim:=by
 unfold sS at e;split at e
 ·rename_i d e1;cases e;obtain⟨v,h1,a,ob,vs,rfl,h2,h3,h4,h5⟩:=s.den i _ e1;exact⟨a,vs,h1, .inr ⟨ob,s.fh _ _ h2⟩,h3,h4,h5⟩
 ·rename_i c e1;cases c<;>cases e
  obtain⟨v,h1,a,o,rfl,h2,_,vs,rfl,h3,h4,h5⟩:=s.den i _ e1;exact⟨a,vs,h1, .inl h2,h3,h4,h5⟩
 ·cases e
def BM:D->D->Option (Option D)
 | .dct ks ds,k=>(iP k).map (di ks ds)
 | .dci ks ds,k=>(ro k).map (di ks ds)
 |_,_=>none
def BN{K:X5}(s:StE K F H σ Z)(hi:sS Z i=some d)(hk:Den K F k y)(e:BM d k=some o):
 ∃a ov,σ[i]? =some (some (.ref a))/\k8 H a y ov/\ov.isSome=o.isSome/\∀d',o=some d'->∃v,ov=some v/\Den K F d' v:=by
 unfold BM at e;split at e
 ·rename_i ks ds;cases q:iP k with
  |none=>rw[q] at e;cases e
  |some kk=>
   rw[q] at e;cases e;obtain⟨a,vs,h1,h2,h3,h4,h5⟩:=HD s hi;unfold iP at q;split at q
   ·rename_i es;obtain⟨b,ws,rfl,k2,k3,_⟩:=hk;have e1:=jB q k3;subst e1;refine⟨a,_,h1, .inr ⟨_,kk,b,h2,rfl,s.fh _ _ k2,rfl⟩,j4 kk h3 h4,λd' qj=>?_⟩;have:=m8 kk h3 h4;rw[qj] at this;exact this
   ·cases q
 ·rename_i ks ds;cases q:ro k with
  |none=>rw[q] at e;cases e
  |some kk=>
   rw[q] at e;cases e;obtain⟨a,vs,h1,h2,h3,h4,h5⟩:=HC s hi;have e1:=ig q hk;subst e1;refine⟨a,_,h1, .inl ⟨_,kk,h2,rfl,rfl⟩,j4 kk h3 h4,λd' qj=>?_⟩;have:=m8 kk h3 h4;rw[qj] at this;exact this
 ·cases e
section
variable{X:Cx}{Xw:Nat->Hp->Prop}{a e:Expr}{δ δk δv:DE}{pos p pos' Ka:Pos}{x:Str}{i:Nat}
def OO(neg:Bool)(i:Nat)(δ:DE):DE:=λZ=>δ Z>>=λk=>match sS Z i with
 |some d=>match BM d k with
  |some o=>aa (.bl (if neg then !o.isSome else o.isSome))
  |none=>ag
 |none=>ag
def MK{neg:Bool}{σ:St}(h:tD X.K Xw (OO neg i δ) σ H Q):(λσ H Q=>tD X.K Xw δ σ H λy H1=>g7 i σ H1 λx H2=>∃a o,x= .ref a/\k8 H2 a y o/\Q (.bl (if neg then !o.isSome else o.isSome)) H2) σ H Q:=by
 obtain⟨F,Z,s,w⟩:=h;refine⟨F,Z,s,WP.mono (WP.bind w) λy H1 ⟨F1,k,e1,q1,w1⟩=>?_⟩;have s1:=s.ext e1;cases hi:sS Z i with
 |none=>rw[hi] at w1;exact w1.elim
 |some d=>
  rw[hi] at w1;have w1:WP X.K Xw F1 H1 (match BM d k with | some o=>aa (.bl (if neg then !o.isSome else o.isSome)) | none=>ag) Q:=w1;cases he:BM d k with
  |none=>rw[he] at w1;exact w1.elim
  |some o=>
   rw[he] at w1;obtain⟨a,ov,h1,h2,h3,_⟩:=BN s1 hi q1 he;refine⟨.ref a,h1,a,ov,rfl,h2,?_⟩;rw[h3];exact WP.now w1 e1.fh rfl
def Tz(hu:X.A.units+64<cLine)(ha:PD X Xw a δ)(hv:PE X (.Name x p) (g7 i))(hm:Zf .In (.Name x p)=false:=by rfl):PD X Xw (.Compare a [.In] [.Name x p] pos) (OO false i δ):=
 PE.weak (Ny (Nm (by omega) ha hv) hm) λσ H Q h=>MK (neg:=false) h
def sM(i:Nat):DS:=λZ=>aa (.nx (Z.set i (some (.ow (.dct [] [])))))
def Lq(i:Nat):DS:=λZ=>aa (.nx (Z.set i (some (.ow (.dci [] [])))))
def iA(hN:X.N.Nodup)(hi:X.N[i]? =some x)(hx:Loc X.env.scope x)(hf:X.fn x=true\/X.env.scope.names.lookup x=some .local:=by first | exact .inl rfl | exact .inr rfl):
 g8 X Xw (.Assign [.Name x pos'] (.Dict [] [] Ka) pos) (sM i):=λu8 aeH=>PS.weak (oz Ha (aL hN hi hx hf) rfl) λD σ H ⟨F,Z,s,w⟩=>λq hq=>
 w _ F _ (s.setNew (c₀:= .dct [] []) hq ⟨[],rfl,rfl,rfl,YC _⟩)
def Hh(hN:X.N.Nodup)(hi:X.N[i]? =some x)(hx:Loc X.env.scope x)(hf:X.fn x=true\/X.env.scope.names.lookup x=some .local:=by first | exact .inl rfl | exact .inr rfl):
 g8 X Xw (.Assign [.Name x pos'] (.Dict [] [] Ka) pos) (Lq i):=λu8 aeH=>PS.weak (oz zx (aL hN hi hx hf) rfl) λD σ H ⟨F,Z,s,w⟩=>λq hq=>
 w _ F _ (s.setNew (c₀:= .dci [] []) hq ⟨[],rfl,rfl,rfl,YC _⟩)
def jk:C->D->D->Option C
 | .dct ks ds,k,d=>match iP k with
   |some kk=>if ds.length<lim then some (.dct (cU ks ds kk) (cp ks ds kk d)) else none
   |none=>none
 | .dci ks ds,k,d=>match ro k with
   |some kk=>if ds.length<lim then some (.dci (cU ks ds kk) (cp ks ds kk d)) else none
   |none=>none
 |_,_,_=>none
def t_(Z:bH)(i:Nat):Option C:=match Z[i]? with
 |some (some (.ow c))=>some c
 |_=>none
def n9{Z:bH}{i:Nat}(h:t_ Z i=some c):Z[i]? =some (some (.ow c)):=by
 unfold t_ at h;split at h
 ·rename_i c' e;cases h;exact e
 ·cases h
def eP(i:Nat)(δk δv:DE):DS:=λZ=>match t_ Z i with
 |some c=>δv Z>>=λv=>δk Z>>=λk=>match jk c k v with
  |some c'=>aa (.nx (Z.set i (some (.ow c'))))
  |none=>ag
 |none=>ag
def vb{κ:Type}[DecidableEq κ]{ks:List κ}{k:κ}(hl:ks.length=ds.length)(h:ds.length<lim):(cp ks ds k d).length<=lim:=by
 unfold cp;split
 ·rw[jT ks ds k d hl];omega
 ·rw[X8];exact h
def Hl{K:X5}{F H:Hp}(hs:Same F H)(hb:H b=some o)(hc:DenC K F c o)(hk:Den K F k y)(hd:Den K F d v)(e:jk c k d=some c'):∃o',DPut H b y v (upd H b o')/\DenC K F c' o':=by
 have Mv:=cP;unfold jk at e;split at e
 ·rename_i ks ds k d;obtain⟨vs,rfl,h3,h4,h5⟩:=hc;split at e
  ·rename_i kk q;split at e
   ·rename_i dW;cases e;unfold iP at q;split at q
    ·rename_i es;obtain⟨b2,ws,rfl,k2,k3,_⟩:=hk;have e1:=jB q k3;subst e1;obtain⟨us,e2,e3,e4⟩:=w9 hd kk h3 h4;refine⟨_,DPut.t hb (hs _ _ k2) (by rw[xG h3 h4];omega),us,?_,e3,e4,vb h4 dW⟩;rw[e2]
    ·cases q
   ·cases e
  ·cases e
 ·rename_i ks ds k d;obtain⟨vs,rfl,h3,h4,h5⟩:=hc;split at e
  ·rename_i kk q;split at e
   ·rename_i dW;cases e;have e1:=ig q hk;subst e1;obtain⟨us,e2,e3,e4⟩:=w9 hd kk h3 h4;refine⟨_,DPut.k hb (by rw[xG h3 h4];omega),us,?_,e3,e4,vb h4 dW⟩;rw[e2]
   ·cases e
  ·cases e
 ·cases e
def dY(hu:X.A.units+64<cLine)(hv:PE X (.Name x p) (g7 i))(hk:PD X Xw a δk)(he:PD X Xw e δv)(hs:aaX e (some (.Subscript (.Name x p) a pos')) pos.line X.env=pure false:=by rfl):
 g8 X Xw (.Assign [.Subscript (.Name x p) a pos'] e pos) (eP i δk δv):=λu8 aeH=>PS.weak (CK (by omega) hv hk he hs) λD σ H ⟨F,Z,s,w⟩=>by
 unfold eP at w;cases ho:t_ Z i with
 |none=>rw[ho] at w;exact w.elim
 |some c=>
  rw[ho] at w;have hi:=n9 ho;have w:WPS X.K Xw u8 aeH (δv Z>>=λv=>δk Z>>=λk=>match jk c k v with | some c'=>aa (.nx (Z.set i (some (.ow c')))) | none=>ag) D:=w;refine⟨F,Z,s.st,?_⟩;rcases(δv Z).cs with q | ⟨n,q⟩ | ⟨dv,q⟩
  ·rw[q] at w;exact w.elim
  ·rw[q] at w⊢;exact λF' H' e'=>w F' H' (s.ext.trans e')
  ·rw[q] at w⊢;intro v H1 F1 e1 hq;have s1:=s.ext' e1;obtain⟨u,h1,b,o,rfl,h2,h3,h4⟩:=s1.st.den i _ hi;have w:WPS X.K Xw u8 aeH (δk Z>>=λk=>match jk c k dv with | some c'=>aa (.nx (Z.set i (some (.ow c')))) | none=>ag) D:=w;refine⟨.ref b,h1,F1,Z,s1.st,?_⟩;rcases(δk Z).cs with q2 | ⟨n,q2⟩ | ⟨dk,q2⟩
   ·rw[q2] at w;exact w.elim
   ·rw[q2] at w⊢;exact λF' H' e'=>w F' H' (s1.ext.trans e')
   ·rw[q2] at w⊢;intro y H2 F2 e2 hy;have w:WPS X.K Xw u8 aeH (match jk c dk dv with | some c'=>aa (.nx (Z.set i (some (.ow c')))) | none=>ag) D:=w;cases hp:jk c dk dv with
    |none=>rw[hp] at w;exact w.elim
    |some c'=>
     rw[hp] at w;have s2:=s1.ext' e2;obtain⟨u2,k1,b2,o2,Se,k2,k3,k4⟩:=s2.st.den i _ hi;rw[h1] at k1;cases k1;cases Se;obtain⟨o',g,hc⟩:=Hl s2.st.fh k2 k4 hy (Den.mono e2.ff hq) hp;exact⟨b,_,rfl,g,w σ F2 _ (s2.chg hi h1 hc)⟩
end
def eT(c:DT)(body:DS):Nat->DS
 |0,_=>ag
 |n+1,Z=>c Z>>=λb=>if b then body Z>>=λo=>match o with | .nx Z'=>eT c body n Z' | .rt d=>aa (.rt d) else aa (.nx Z)
def xh(c:DT)(body:DS):DS:=λZ=>eT c body lim Z
section
variable{X:Cx}{Xw:Nat->Hp->Prop}{τ:DS}{tc:DT}{pos:Pos}
def oB(hp:adD (model X.prog X.w) X.A X.env X.xe)(hc:qA X Xw c tc)(hb:PSDs X Xw body τ):g8 X Xw (.While c body [] pos) (xh tc τ):=λu8 aeH=>PS.weak (Hf hp hc hb.ex) λD σ H ⟨F,Z,s,w⟩=>by
 refine⟨λm σ H=>∃F Z,StOk X.K u8 aeH F H σ Z/\WPS X.K Xw u8 aeH (eT tc τ m Z) D,⟨lim,F,Z,s,w⟩,?_⟩;rintro m σ H ⟨F,Z,s,w⟩;cases m with
 |zero=>exact w.elim
 |succ m=>
  refine⟨F,Z,s.st,?_⟩;unfold eT at w
  match tc Z,w with
  |none,w=>exact w
  |some (.ex n),w=>exact λF' H' e'=>w F' H' (s.ext.trans e')
  |some (.ok false),w=>exact λH' F' e'=>w σ F' H' (s.ext' e')
  |some (.ok true),w=>
   intro H' F' e';have w:WPS X.K Xw u8 aeH (τ Z>>=λo=>match o with | .nx Z'=>eT tc τ m Z' | .rt d=>aa (.rt d)) D:=w;refine⟨λσ' H'=>∃F' Z',StOk X.K u8 aeH F' H' σ' Z'/\WPS X.K Xw u8 aeH (eT tc τ m Z') D,λσ' H' h=>⟨m,ZS m,h⟩,u8,aeH,F',Z,s.ext' e',?_⟩
   match τ Z,w with
   |none,w=>exact w
   |some (.ok (.nx Z')),w=>exact λσ' F' H' s'=>⟨F',Z',s',w⟩
   |some (.ok (.rt d)),w=>exact w
   |some (.ex n),w=>exact w
end
end L3
namespace L3
open PySem PySem.W PyProof.Rows
def dZ(b:Nat->Nat->Bool):KasT α->α
 | .ret a=>a
 | .ask i j k=>dZ b (k (b i j))
def f_(b:Nat->Nat->Bool)(f:α->KasT β):∀t:KasT α,dZ b (t.bind f)=dZ b (f (dZ b t))
 | .ret _=>rfl
 | .ask i j k=>f_ b f (k (b i j))
structure Lt (n:Nat) (b:Nat->Nat->Bool):Prop where
 tr:∀i j k,b i j=true->b j k=true->b i k=true
 Xy:∀i j,b i j=true->b j i=false
 tot:∀i j,i<n->j<n->i≠j->b i j=true\/b j i=true
abbrev at'(p:Array Nat)(i:Nat):Nat:=p.getD i 0
def Ri(b:Nat->Nat->Bool)(p:Array Nat)(k:Nat):Prop:=∀i j,i<j->j<k->b (at' p i) (at' p j)=true
def Fa(b:Nat->Nat->Bool)(p:Array Nat)(k:Nat):Prop:=∀i j,i<j->j<k->b (at' p j) (at' p i)=true
structure PN (n:Nat) (p:Array Nat):Prop where
 sz:p.size=n
 lt:∀i,i<n->at' p i<n
 inj:∀i j,i<n->j<n->at' p i=at' p j->i=j
section
variable{n:Nat}{b:Nat->Nat->Bool}(L:Lt n b)
include L
theorem Ri.more(h:Ri b p k)(h1:1<=k)(e:b (at' p (k - 1)) (at' p k)=true):Ri b p (k+1):=λi j AL hj=>by
 by_cases hk:j<k
 ·exact h i j AL hk
 ·have:j=k:=by omega
  subst this;by_cases hi:i=j - 1
  ·subst hi;exact e
  ·exact L.tr _ _ _ (h i (j - 1) (by omega) (by omega)) e
theorem Fa.more(h:Fa b p k)(h1:1<=k)(e:b (at' p k) (at' p (k - 1))=true):Fa b p (k+1):=λi j AL hj=>by
 by_cases hk:j<k
 ·exact h i j AL hk
 ·have:j=k:=by omega
  subst this;by_cases hi:i=j - 1
  ·subst hi;exact e
  ·exact L.tr _ _ _ e (h i (j - 1) (by omega) (by omega))
theorem vy(P:PN n p):∀(f k:Nat),1<=k->k+f<=n->Ri b p k->k<=dZ b (kas_asc p f k)/\dZ b (kas_asc p f k)<=k+f/\Ri b p (dZ b (kas_asc p f k))/\(dZ b (kas_asc p f k)<k+f->b (at' p (dZ b (kas_asc p f k))) (at' p (dZ b (kas_asc p f k) - 1))=true)
 |0,k,h1,hn,h=>⟨X4 _,X4 _,h,λz=>aeB z (YV _)⟩
 |f+1,k,h1,hn,h=>by
  have e:dZ b (kas_asc p (f+1) k)=dZ b (if b (at' p k) (at' p (k - 1))=true then KasT.ret k else kas_asc p f (k+1)):=rfl;rw[e];by_cases hb:b (at' p k) (at' p (k - 1))=true
  ·rw[aex hb];exact⟨X4 _,by show k<=_;omega,h,λ_=>hb⟩
  ·rw[aey hb];have hr:b (at' p (k - 1)) (at' p k)=true:=by
    rcases L.tot (at' p (k - 1)) (at' p k) (P.lt _ (by omega)) (P.lt _ (by omega)) (λz=>by have:=P.inj _ _ (by omega) (by omega) z;omega) with q | q
    ·exact q
    ·exact aeB q hb
   obtain⟨a1,a2,a3,a4⟩:=vy P f (k+1) (by omega) (by omega) (Ri.more L h h1 hr);exact⟨by omega,by omega,a3,λz=>a4 (by omega)⟩
theorem yp(P:PN n p):∀(f k:Nat),1<=k->k+f<=n->Fa b p k->∃m,dZ b (kas_desc f p k 0)=(p,m,0)/\k<=m/\m<=k+f/\Fa b p m
 |0,k,h1,hn,h=>⟨k,rfl,X4 _,X4 _,h⟩
 |f+1,k,h1,hn,h=>by
  have e:dZ b (kas_desc (f+1) p k 0)=dZ b (if b (at' p k) (at' p (k - 1))=true then(if 0>0 then kas_desc f (kas_rev p (k - (0+1)) k) (k+1) 0 else kas_desc f p (k+1) 0)
   else .ask (p.getD (k - 1) 0) (p.getD k 0) λd=>if d=true then .ret (p,k,0) else kas_desc f p (k+1) (0+1)):=rfl
  rw[e];by_cases hb:b (at' p k) (at' p (k - 1))=true
  ·rw[aex hb,aey (by omega)];obtain⟨m,e1,e2,e3,e4⟩:=yp P f (k+1) (by omega) (by omega) (Fa.more L h h1 hb);exact⟨m,e1,by omega,by omega,e4⟩
  ·rw[aey hb];have hr:b (at' p (k - 1)) (at' p k)=true:=by
    rcases L.tot (at' p (k - 1)) (at' p k) (P.lt _ (by omega)) (P.lt _ (by omega)) (λz=>by have:=P.inj _ _ (by omega) (by omega) z;omega) with q | q
    ·exact q
    ·exact aeB q hb
   refine⟨k,?_,X4 _,by omega,h⟩;show dZ b (if b (at' p (k - 1)) (at' p k)=true then KasT.ret (p,k,0) else kas_desc f p (k+1) (0+1))=_;rw[aex hr];rfl
end
def fI(p:Array Nat)(k:Nat):at' p k=(p[k]?).getD 0:=by
 unfold at';rw[Array.getD_eq_getD_getElem?]
def Ht(hm:m<=p.size)(k:Nat):at' (kas_rev p 0 m) k=if k<m then at' p (m - 1 - k) else at' p k:=by
 have e:=getElem?_mirror_all (i:=0) hm k;rw[fI];show (((mirror p 0 m ((m - 0) / 2))[k]?).getD 0)=_;rw[e];by_cases h:k<m
 ·rw[aex ⟨YC _,h⟩,aex h,fI,abY]
 ·rw[aey (λz=>h z.2),aey h,fI]
def E_(hk:k<p.size)(hl:l<=k)(j:Nat):at' (bubble p k (k - l)) j=if j=l then at' p k else if l<j/\j<=k then at' p (j - 1) else at' p j:=by
 have e:=getElem?_bubble hk (k - l) (by omega) j;have e2:k - (k - l)=l:=by omega
 rw[e2] at e;rw[fI (bubble p k (k - l)),e,fI p k,fI p (j - 1),fI p j];by_cases c1:j=l
 ·rw[aex c1,aex c1]
 ·rw[aey c1,aey c1];by_cases c2:l<j/\j<=k
  ·rw[aex c2,aex c2]
  ·rw[aey c2,aey c2]
section
variable{n:Nat}{b:Nat->Nat->Bool}
def PN.rev(P:PN n p)(hm:m<=n):PN n (kas_rev p 0 m):=by
 have ha:=Ht (by rw[P.sz];exact hm);refine⟨(mirror_size ..).trans P.sz,λi hi=>?_,λi j hi hj e=>?_⟩
 ·rw[ha];split
  ·exact P.lt _ (by omega)
  ·exact P.lt _ hi
 ·rw[ha,ha] at e;split at e<;>split at e
  ·have:=P.inj _ _ (by omega) (by omega) e;omega
  ·have:=P.inj _ _ (by omega) hj e;omega
  ·have:=P.inj _ _ hi (by omega) e;omega
  ·exact P.inj _ _ hi hj e
def PN.bub(P:PN n p)(hk:k<n)(hl:l<=k):PN n (bubble p k (k - l)):=by
 have ha:=E_ (by rw[P.sz];exact hk) hl;refine⟨(bubble_size ..).trans P.sz,λi hi=>?_,λi j hi hj e=>?_⟩
 ·rw[ha];split
  ·exact P.lt _ hk
  ·split
   ·exact P.lt _ (by omega)
   ·exact P.lt _ hi
 ·rw[ha,ha] at e;split at e
  ·split at e
   ·omega
   ·split at e
    ·have:=P.inj _ _ hk (by omega) e;omega
    ·have:=P.inj _ _ hk hj e;omega
  ·split at e
   ·split at e
    ·have:=P.inj _ _ (by omega) hk e;omega
    ·split at e
     ·have:=P.inj _ _ (by omega) (by omega) e;omega
     ·have:=P.inj _ _ (by omega) hj e;omega
   ·split at e
    ·have:=P.inj _ _ hi hk e;omega
    ·split at e
     ·have:=P.inj _ _ hi (by omega) e;omega
     ·exact P.inj _ _ hi hj e
def Fa.rev(P:PN n p)(hm:m<=n)(h:Fa b p m):Ri b (kas_rev p 0 m) m:=λi j AL hj=>by
 have ha:=Ht (by rw[P.sz];exact hm);rw[ha,ha,aex (by omega),aex hj];exact h _ _ (by omega) (by omega)
variable(L:Lt n b)
include L
theorem HP(P:PN n p)(h1:1<=m)(hm:m<=n)(h:Fa b p m):∃k q,dZ b (kas_tail3 m n p)=(k,q)/\PN n q/\1<=k/\k<=n/\Ri b q k:=by
 unfold kas_tail3;rw[f_];obtain⟨a1,a2,a3,_⟩:=vy L (P.rev hm) (n - m) m h1 (by omega) (Fa.rev P hm h);exact⟨_,_,rfl,P.rev hm,by omega,by omega,a3⟩
theorem Dv(P:PN n p)(h2:2<=n):∃k q,dZ b (kas_count n p)=(k,q)/\PN n q/\1<=k/\k<=n/\Ri b q k:=by
 unfold kas_count;rw[f_];obtain⟨a1,a2,a3,a4⟩:=vy L P (n - 1) 1 (X4 _) (by omega) (λi j AL hj=>by omega);generalize dZ b (kas_asc p (n - 1) 1)=m at a1 a2 a3 a4;by_cases he:m=n
 ·subst he;rw[aex (by simp)];exact⟨m,p,rfl,P,by omega,X4 _,a3⟩
 ·rw[aey (by simpa using he)];by_cases hg:m>1
  ·rw[aex hg];have hb:b (p.getD 0 0) (p.getD (m - 1) 0)=true:=a3 0 (m - 1) (by omega) (by omega);show∃k q,dZ b (if b (p.getD 0 0) (p.getD (m - 1) 0)=true then KasT.ret (m,p) else kas_descPart m n (kas_rev p 0 m))=(k,q)/\_;rw[aex hb];exact⟨m,p,rfl,P,by omega,by omega,a3⟩
  ·rw[aey hg];have hm:m=1:=by omega
   subst hm;have hb:=a4 (by omega);unfold kas_descPart;rw[f_];obtain⟨m,e1,e2,e3,e4⟩:=yp L P (n - (1+1)) (1+1) (by omega) (by omega) (λi j AL hj=>by
    have hi:i=0:=by omega
    have hj:j=1:=by omega
    subst hi hj;exact hb)
   rw[e1]
   dsimp only
   rw[aey (by omega)];exact HP L P (by omega) (by omega) e4
theorem oy(P:PN n p)(hk:k<n)(h:Ri b p k):∀(f l r:Nat),l<=r->r<=k->r - l<=f->(∀i,i<l->b (at' p i) (at' p k)=true)->(∀i,r<=i->i<k->b (at' p k) (at' p i)=true)->
 dZ b (kas_place p k f l r)<=k/\(∀i,i<dZ b (kas_place p k f l r)->b (at' p i) (at' p k)=true)/\∀i,dZ b (kas_place p k f l r)<=i->i<k->b (at' p k) (at' p i)=true
 |0,l,r,h1,h2,h3,h4,h5=>by
  have:r=l:=by omega
  subst this;exact⟨h2,h4,h5⟩
 |f+1,l,r,h1,h2,h3,h4,h5=>by
  unfold kas_place;by_cases UT:l>=r
  ·rw[aex UT];have:r=l:=by omega
   subst this;exact⟨h2,h4,h5⟩
  ·rw[aey UT];have hm:(l+r) / 2<r:=by omega
   have ET:l<=(l+r) / 2:=by omega
   show dZ b (if b (at' p k) (at' p ((l+r) / 2))=true then kas_place p k f l ((l+r) / 2) else kas_place p k f ((l+r) / 2+1) r)<=k/\(∀i,i<dZ b (if b (at' p k) (at' p ((l+r) / 2))=true then kas_place p k f l ((l+r) / 2) else kas_place p k f ((l+r) / 2+1) r)->_)/\∀i,dZ b (if b (at' p k) (at' p ((l+r) / 2))=true then kas_place p k f l ((l+r) / 2) else kas_place p k f ((l+r) / 2+1) r)<=i->_;by_cases hb:b (at' p k) (at' p ((l+r) / 2))=true
   ·rw[aex hb];refine oy P hk h f l ((l+r) / 2) ET (by omega) (by omega) h4 λi hi Wb=>?_;by_cases e:i=(l+r) / 2
    ·rw[e];exact hb
    ·exact L.tr _ _ _ hb (h _ _ (by omega) Wb)
   ·rw[aey hb];have hr:b (at' p ((l+r) / 2)) (at' p k)=true:=by
     rcases L.tot (at' p ((l+r) / 2)) (at' p k) (P.lt _ (by omega)) (P.lt _ hk) (λz=>by have:=P.inj _ _ (by omega) hk z;omega) with q | q
     ·exact q
     ·exact aeB q hb
    refine oy P hk h f ((l+r) / 2+1) r (by omega) h2 (by omega) (λi hi=>?_) h5;by_cases e:i=(l+r) / 2
    ·rw[e];exact hr
    ·exact L.tr _ _ _ (h i ((l+r) / 2) (by omega) (by omega)) hr
theorem BQ:∀(f:Nat) {p:Array Nat}{k:Nat},PN n p->k+f<=n->Ri b p k->PN n (dZ b (kas_bin f p k))/\Ri b (dZ b (kas_bin f p k)) (k+f)
 |0,p,k,P,_,h=>⟨P,h⟩
 |f+1,p,k,P,hn,h=>by
  have hk:k<n:=by omega
  unfold kas_bin;rw[f_];obtain⟨a1,a2,a3⟩:=oy L P hk h k 0 k (YC _) (X4 _) (by omega) (λi hi=>by omega) (λi h1 h2=>by omega);generalize dZ b (kas_place p k k 0 k)=l at a1 a2 a3;have ha:=E_ (by rw[P.sz];exact hk) a1;have hR:Ri b (bubble p k (k - l)) (k+1):=λi j AL hj=>by
   rw[ha,ha];by_cases c1:i=l
   ·rw[aex c1,aey (by omega),aex ⟨by omega,by omega⟩];exact a3 _ (by omega) (by omega)
   ·rw[aey c1];by_cases c2:j=l
    ·rw[aex c2,aey (by omega)];exact a2 _ (by omega)
    ·rw[aey c2];by_cases c3:l<i/\i<=k
     ·rw[aex c3,aex ⟨by omega,by omega⟩];exact h _ _ (by omega) (by omega)
     ·rw[aey c3];by_cases c4:l<j/\j<=k
      ·rw[aex c4];exact h _ _ (by omega) (by omega)
      ·rw[aey c4];exact h _ _ AL (by omega)
  have:=BQ f (P.bub hk a1) (by omega) hR;rw[show k+(f+1)=k+1+f by omega];exact this
theorem HE(h2:2<=n):PN n (dZ b (kas_sort n))/\Ri b (dZ b (kas_sort n)) n:=by
 have P0:PN n (ZA (Yp n)):=by
  have e:∀i,i<n->at' (ZA (Yp n)) i=i:=λi hi=>by rw[fI];simp[hi]
  exact⟨by simp,λi hi=>by rw[e i hi];exact hi,λi j hi hj z=>by rw[e i hi,e j hj] at z;exact z⟩
 unfold kas_sort;rw[f_];obtain⟨k,q,e,P,k1,kn,hR⟩:=Dv L P0 h2;rw[e]
 dsimp only
 by_cases dW:k<n
 ·rw[aex dW];have:=BQ L (n - max k 1) (k:=max k 1) P (by omega) (by rw[show max k 1=k by omega];exact hR);rw[show max k 1+(n - max k 1)=n by omega] at this;exact this
 ·rw[aey dW];have:k=n:=by omega
  subst this;exact⟨P,hR⟩
end
def Asks{α:Type}(n:Nat)(P:α->Prop):KasT α->Prop
 | .ret a=>P a
 | .ask i j k=>i<n/\j<n/\∀c,Asks n P (k c)
def Asks.bind{α β:Type}{n:Nat}{P:α->Prop}{Q:β->Prop}{f:α->KasT β}:∀{t:KasT α},Asks n P t->(∀a,P a->Asks n Q (f a))->Asks n Q (t.bind f)
 | .ret a,h,hf=>hf a h
 | .ask i j k,h,hf=>⟨h.1,h.2.1,λc=>Asks.bind (h.2.2 c) hf⟩
def wp_run{α:Type}{n:Nat}{P:α->Prop}{b:Nat->Nat->Bool}{cmp:Nat->Nat->(Bool->X1->Prop)->X1->Prop}{Q:α->X1->Prop}{s:X1}(hc:∀i j C,i<n->j<n->C (b i j) s->cmp i j C s):∀{t:KasT α},Asks n P t->Q (dZ b t) s->t.kasWp cmp Q s
 | .ret a,_,h=>h
 | .ask i j k,ha,h=>hc i j _ ha.1 ha.2.1 (wp_run hc (ha.2.2 _) h)
def Below(n:Nat)(p:Array Nat):Prop:=∀x∈p,x<n
section
variable{n:Nat}(hn:0<n)
include hn
theorem Below.at{p:Array Nat}(h:Below n p)(i:Nat):at' p i<n:=by
 rw[fI];cases e:p[i]? with
 |none=>exact hn
 |some x=>exact h x (Array.mem_of_getElem? e)
theorem Below.rev{p:Array Nat}(h:Below n p)(i j:Nat):Below n (kas_rev p i j):=λx hx=>h x ((mirror_perm p i j ((j - i) / 2)).mem_iff.mp hx)
theorem Below.bub{p:Array Nat}(h:Below n p)(k d:Nat):Below n (bubble p k d):=λx hx=>h x ((bubble_perm p k d).mem_iff.mp hx)
theorem qE{p:Array Nat}(h:Below n p):∀f k,Asks n (λ_=>True) (kas_asc p f k)
 |0,k=>trivial
 |f+1,k=>⟨Below.at hn h _,Below.at hn h _,λc=>by
  show Asks n _ (if c=true then KasT.ret k else kas_asc p f (k+1));cases c
  ·exact qE h f (k+1)
  ·exact trivial⟩
theorem j9:∀f {p:Array Nat} k q,Below n p->Asks n (λr=>Below n r.1) (kas_desc f p k q)
 |0,p,k,q,h=>h
 |f+1,p,k,q,h=>⟨Below.at hn h _,Below.at hn h _,λc=>by
  cases c
  ·refine⟨Below.at hn h _,Below.at hn h _,λd=>?_⟩;cases d
   ·exact j9 f _ _ h
   ·exact h
  ·show Asks n _ (if q>0 then kas_desc f (kas_rev p (k - (q+1)) k) (k+1) 0 else kas_desc f p (k+1) 0);split
   ·exact j9 f _ _ (Below.rev hn h _ _)
   ·exact j9 f _ _ h⟩
theorem uq{p:Array Nat}(h:Below n p)(m r:Nat):Asks n (λx=>Below n x.2) (kas_tail3 m r p):=Asks.bind (qE hn (Below.rev hn h 0 m) _ _) λ_ _=>Below.rev hn h 0 m
theorem qF{p:Array Nat}(h:Below n p)(m r:Nat):Asks n (λx=>Below n x.2) (kas_descPart m r p):=Asks.bind (j9 hn _ _ _ h) λx hx=>by
 split
 ·exact uq hn (Below.rev hn hx _ _) _ _
 ·exact uq hn hx _ _
theorem Al{p:Array Nat}(h:Below n p)(r:Nat):Asks n (λx=>Below n x.2) (kas_count r p):=Asks.bind (qE hn h _ _) λm _=>by
 split
 ·exact h
 ·split
  ·refine⟨Below.at hn h _,Below.at hn h _,λc=>?_⟩;cases c
   ·exact qF hn (Below.rev hn h _ _) _ _
   ·exact h
  ·exact qF hn h _ _
theorem k9{p:Array Nat}(h:Below n p)(k:Nat):∀f l r,Asks n (λ_=>True) (kas_place p k f l r)
 |0,l,r=>trivial
 |f+1,l,r=>by
  unfold kas_place;split
  ·exact trivial
  ·refine⟨Below.at hn h _,Below.at hn h _,λc=>?_⟩;cases c
   ·exact k9 h k f _ _
   ·exact k9 h k f _ _
theorem yb:∀f {p:Array Nat} k,Below n p->Asks n (λ_=>True) (kas_bin f p k)
 |0,p,k,h=>trivial
 |f+1,p,k,h=>Asks.bind (k9 hn h k _ _ _) λl _=>yb f _ (Below.bub hn h _ _)
theorem C9:Asks n (λ_=>True) (kas_sort n):=by
 have h0:Below n (ZA (Yp n)):=λx hx=>by simpa using hx
 refine Asks.bind (Al hn h0 n) λx hx=>?_;split
 ·exact yb hn _ _ hx
 ·exact trivial
end
def fb:List Int->List Int->Bool
 |[],[]=>false
 |[],_::_=>true
 |_::_,[]=>false
 |x::xs,y::ys=>if x=y then fb xs ys else decide (x<y)
def wg:∀a b c:List Int,fb a b=true->fb b c=true->fb a c=true
 |[],[],_,h,_=>by cases h
 |[],_::_,[],_,h=>by cases h
 |[],_::_,_::_,_,_=>rfl
 |_::_,[],_,h,_=>by cases h
 |_::_,_::_,[],_,h=>by cases h
 |x::a,y::b,z::c,h1,h2=>by
  unfold fb at h1 h2⊢;by_cases e1:x=y
  ·subst e1;rw[aex rfl] at h1;by_cases e2:x=z
   ·subst e2;rw[aex rfl] at h2⊢;exact wg a b c h1 h2
   ·rw[aey e2] at h2⊢;exact h2
  ·rw[aey e1] at h1;have h1:=aeC h1;by_cases e2:y=z
   ·subst e2;rw[aey e1];exact aeA h1
   ·rw[aey e2] at h2;have h2:=aeC h2;rw[aey (by omega)];exact aeA (by omega)
def mf:∀a b:List Int,fb a b=true->fb b a=false
 |[],[],h=>by cases h
 |[],_::_,_=>rfl
 |_::_,[],h=>by cases h
 |x::a,y::b,h=>by
  unfold fb at h⊢;by_cases e:x=y
  ·subst e;rw[aex rfl] at h⊢;exact mf a b h
  ·rw[aey e] at h;have h:=aeC h;rw[aey (λz=>e z.symm)];exact aeD (by omega)
def rC:∀a b:List Int,a≠b->fb a b=true\/fb b a=true
 |[],[],h=>aeB rfl h
 |[],_::_,_=> .inl rfl
 |_::_,[],_=> .inr rfl
 |x::a,y::b,h=>by
  unfold fb;by_cases e:x=y
  ·subst e;rw[aex rfl,aex rfl];exact rC a b λz=>h (by rw[z])
  ·rw[aey e,aey (λz=>e z.symm)];by_cases q:x<y
   ·exact .inl (aeA q)
   ·exact .inr (aeA (by omega))
section
variable{prog:YK}{w:World}{A:YX}{E:Value->X1->Prop}{s:X1}
def yV{Q:Bool->X1->Prop}:∀{us vs:List Value}{xs ys:List Int}(i:Nat) {fin:Bool},Zl us xs->Zl vs ys->fin=decide (xs.length<ys.length)->Q (fb xs ys) s->KatLex prog w A true fin Q (us.zip vs) i s
 |_,_,_,_,i,_, .nil, .nil,e,h=>by subst e;exact kat_nil h
 |_,_,_,_,i,_, .nil, .cons y t r,e,h=>by subst e;exact kat_nil h
 |_,_,_,_,i,_, .cons x t r, .nil,e,h=>by subst e;exact kat_nil h
 |_,_,_,_,i,_, .cons (vs:=us) (ns:=xs) x t r, .cons (vs:=vs) (ns:=ys) y u r',e,h=>by
  refine kat_cons (wpAny_eqBool_int ?_);by_cases q:x=y
  ·subst q;rw[show (x==x)=true by simp];refine kat_yes (yV (i+1) r r' (by rw[e];simp) ?_);unfold fb at h;rw[aex rfl] at h;exact h
  ·rw[show (x==y)=false by simpa using q];unfold fb at h;rw[aey q] at h;refine kat_no ?_;by_cases hi:(i==0)=true
   ·rw[hi];exact oneLt_int h
   ·rw[show (i==0)=false by simpa using hi];exact kat_one _ _ (acP h)
def TupsAt(h:Heap):List Value->List (List Int)->Prop
 |[],[]=>True
 |v::vs,k::ks=>(∃a o us m,v= .ref a/\h.get? a=some o/\o.cls= .type "tuple"/\o.data= .seq (ZA us) m/\Zl us k/\k≠[])/\TupsAt h vs ks
 |_,_=>False
def TupsAt.len{h:Heap}:∀{vs:List Value}{ks:List (List Int)},TupsAt h vs ks->vs.length=ks.length
 |[],[],_=>rfl
 |v::vs,k::ks,t=>by rw[X7,X7,TupsAt.len t.2]
 |[],_::_,t=>t.elim
 |_::_,[],t=>t.elim
def TupsAt.get{h:Heap}:∀{vs:List Value}{ks:List (List Int)}{i:Nat},TupsAt h vs ks->i<vs.length->∃a o us m,vs.getD i Zv= .ref a/\h.get? a=some o/\o.cls= .type "tuple"/\o.data= .seq (ZA us) m/\Zl us (ks.getD i [])/\ks.getD i []≠[]
 |v::vs,k::ks,0,t,_=>t.1
 |v::vs,k::ks,i+1,t,hi=>TupsAt.get (i:=i) t.2 (by simpa using hi)
 |[],_,_,_,hi=>by simp at hi
 |_::_,[],_,t,_=>t.elim
def TupsAt.keep{h h':Heap}{a:Addr}(k:∀b o,b≠a->h.get? b=some o->h'.get? b=some o)(ha:∀o,h.get? a=some o->o.cls≠ .type "tuple"):∀{vs:List Value}{ks:List (List Int)},TupsAt h vs ks->TupsAt h' vs ks
 |[],[],_=>trivial
 |v::vs,x::ks,⟨⟨b,o,us,m,e1,e2,e3,e4⟩,t⟩=>⟨⟨b,o,us,m,e1,k b o (λz=>ha o (by rw[<-z];exact e2) e3) e2,e3,e4⟩,TupsAt.keep k ha t⟩
 |[],_::_,t=>t.elim
 |_::_,[],t=>t.elim
def rh:∀{us:List Value}{xs:List Int},Zl us xs->us.length=xs.length
 |_,_, .nil=>rfl
 |_,_, .cons x t r=>by rw[X7,X7,rh r]
def TupsAt.firsts{M:Model}{h:Heap}:∀{vs:List Value}{ks:List (List Int)},TupsAt h vs ks->∃fs,KatTups h vs fs/\fs.length=vs.length/\∀v∈fs,Looks M h (typeOf v) (.type "int")
 |[],[],_=>⟨[],KatTups.nil,rfl,λ_ z=>by cases z⟩
 |v::vs,k::ks,⟨⟨a,o,us,m,e1,e2,e3,e4,e5,e6⟩,t⟩=>by
  obtain⟨fs,q1,q2,q3⟩:=TupsAt.firsts (M:=M) t;subst e1;cases e5 with
  |nil=>exact aeB rfl e6
  |cons x t r=>
   refine⟨.int x t::fs,KatTups.cons e2 e3 e4 (by simp) q1,by simp[q2],λv hv=>?_⟩;rcases XY.mp hv with rfl | hv
   ·exact show Looks M h (pure (aco "int")) (aco "int") from .now
   ·exact q3 v hv
 |[],_::_,t=>t.elim
 |_::_,[],t=>t.elim
def asked{vs:List Value}{ks:List (List Int)}(t:TupsAt s.heap vs ks)(i j:Nat)(C:Bool->X1->Prop)(hi:i<vs.length)(hj:j<vs.length)(h:C (fb (ks.getD i []) (ks.getD j [])) s):kas_ask prog w A (tuples' true) vs i j C s:=by
 obtain⟨a,o,us,m,e1,e2,_,e4,e5,_⟩:=t.get hi;obtain⟨a',o',XQ,m',EM,Of,_,Vz,Uo,_⟩:=t.get hj;unfold kas_ask;rw[e1,EM];refine kat_lt e2 e4 Of Vz (yV 0 e5 Uo ?_ h);rw[Yh,Yh,rh e5,rh Uo]
def Gy{α:Type}{l:List α}(h:l.Nodup){i j:Nat}(hi:i<l.length)(hj:j<l.length)(e:l[i]=l[j]):i=j:=by
 rcases Nat.lt_trichotomy i j with q | q | q
 ·exact aeB e (aaI.mp h i j hi hj q)
 ·exact q
 ·exact aeB e.symm (aaI.mp h j i hj hi q)
def EC{a:Addr}{c:Nat}{vs:List Value}{ks:List (List Int)}{P:PySem.Fin->X1->Prop}(ho:s.heap.get? a=some (aaF "list" vs.toArray c))(ht:TupsAt s.heap vs ks)(hd:ks.Nodup)(iH:vs.length<64)
 (h:∀(p:Array Nat) (h':Heap) (c':Nat),PN vs.length p->Ri (λi j=>fb (ks.getD i []) (ks.getD j [])) p vs.length->h'.get? a=some (aaF "list" (ZA (p.toList.map λi=>vs.getD i Zv)) c')->
  (∀b o,b≠a->s.heap.get? b=some o->h'.get? b=some o)->P (.done (.ret .none)) {s with heap:=h'}):wpAny (model prog w) A (ab3.«list.sort» ⟨[.ref a],[]⟩) P E s:=by
 have Ca:Yl=16777216:=ZM;have s1:=Y1 s.heap a (aai λ_=>(#[]:Array Value));obtain⟨e1,UW⟩:∃e1,(s.heap.update a (aai λ_=>(#[]:Array Value))).get? a=some (aaF "list" #[] e1):=⟨_,get?_update_seq ho λ_=> #[]⟩
 have k1:∀b o,b≠a->s.heap.get? b=some o->(((s.heap.update a (aai λ_=>(#[]:Array Value))).push (aaF "tuple" vs.toArray 0)).push (aaF "list" #[] 0)).get? b=some o:=λb o hb e=>
  XZ _ (XZ _ ((s1.2 b hb).trans e))
 have SF:=XZ (aaF "list" #[] 0) (XZ (aaF "tuple" vs.toArray 0) UW);have t3:=ht.keep k1 (λo e z=>by rw[ho] at e;cases e;exact aeB (Value.type.inj z) (by decide));have fin:∀(st:SortSt) (p:Array Nat),PN vs.length p->Ri (λi j=>fb (ks.getD i []) (ks.getD j [])) p vs.length->(arrOf st).map (·.2)=ZA (p.toList.map λi=>vs.getD i Zv)->failedOf st=none->
  wpAny (model prog w) A (do
   let touched:=(<-seqEpoch a) !=e1
   Builtin.List.listUpdate (.ref a) λ_=>(arrOf st).map (·.2)
   if let some e:=failedOf st then rule "list.sort.comparison-raised";throw e
   if touched then rule "list.sort.modified";raiseError "ValueError" "list modified during sort"
   ret .none) P E {s with heap:=((s.heap.update a (aai λ_=>(#[]:Array Value))).push (aaF "tuple" vs.toArray 0)).push (aaF "list" #[] 0)}:=λst p hp hr he hf=>by
  have hz:(ZA (p.toList.map λi=>vs.getD i Zv)).size=vs.length:=by rw[Yh,XS,YB,hp.sz]
  rw[he,hf];refine XX (seqEpoch_at SF rfl (XX (listUpdate_at SF rfl ?_ (YC _) (by rw[hz,Ca];omega))));simp only[bne_self_eq_false,Y5,if_false];have s2:=Y1 (((s.heap.update a (aai λ_=>(#[]:Array Value))).push (aaF "tuple" vs.toArray 0)).push (aaF "list" #[] 0)) a (aai λ_=>ZA (p.toList.map λi=>vs.getD i Zv));exact Yc (h p _ _ hp hr (get?_update_seq SF λ_=>ZA (p.toList.map λi=>vs.getD i Zv)) λb o hb e=>(s2.2 b hb).trans (k1 b o hb e))
 rw[list_sort_plain];refine XX (listItems_at ho rfl (XX (listUpdate_at ho rfl (XX (seqEpoch_at UW rfl ?_)) (by rw[Yh,Ca];omega) (YC _))));refine XX (wpAny_newTuple (XX (ad7 (ZY ?_) (YC _))) (by show vs.length<=_;rw[Ca];omega));show wpAny (model prog w) A _ P E {s with heap:=((s.heap.update a (aai λ_=>(#[]:Array Value))).push (aaF "tuple" vs.toArray 0)).push (aaF "list" #[] 0)}
 dsimp only
 by_cases hs:vs.toArray.size<2
 ·rw[aex hs,aex hs];have FW:vs.length<2:=by simpa using hs
  refine XX (Yc (XX (Yc ?_)));refine fin (SortSt.mk' general' (vs.toArray.zip vs.toArray) #[] 7 none) (ZA (Yp vs.length)) ⟨by simp,λi hi=>?_,λi j hi hj _=>by omega⟩ (λi j AL hj=>by omega) ?_ rfl
  ·rw[fI];simp[hi]
  ·show (vs.toArray.zip vs.toArray).map (·.2)=_;apply Array.toList_inj.mp;refine List.ext_getElem (by simp) λi a1 a2=>?_;simp at a1;simp[a1]
 ·rw[aey hs,aey hs];have FW:2<=vs.length:=by
   have:¬vs.length<2:=by simpa using hs
   omega
  obtain⟨fs,q1,q2,q3⟩:=t3.firsts (M:=model prog w);refine XX (kat_kind q1 (by omega) q3 rfl ?_);have hb:Lt vs.length (λi j=>fb (ks.getD i []) (ks.getD j [])):=⟨λi j k=>wg _ _ _,λi j=>mf _ _,λi j hi hj AL=>rC _ _ λz=>AL (by
   rw[ht.len] at hi hj;rw[Yq,Yq,XW hi,XW hj] at z;exact Gy hd hi hj (by simpa using z))⟩
  obtain⟨r1,r2⟩:=HE hb FW;have run:=kat_run (prog:=prog) (w:=w) (A:=A) (E:=E) (ks:=vs) (vs:=vs) (κ:=tuples' true) (Q:=λst s'=>s'={s with heap:=((s.heap.update a (aai λ_=>(#[]:Array Value))).push (aaF "tuple" vs.toArray 0)).push (aaF "list" #[] 0)}/\∃p,PN vs.length p/\Ri (λi j=>fb (ks.getD i []) (ks.getD j [])) p vs.length/\(arrOf st).map (·.2)=ZA (p.toList.map λi=>vs.getD i Zv)/\failedOf st=none)
   (G:=λp s'=>s'={s with heap:=((s.heap.update a (aai λ_=>(#[]:Array Value))).push (aaF "tuple" vs.toArray 0)).push (aaF "list" #[] 0)}/\PN vs.length p/\Ri (λi j=>fb (ks.getD i []) (ks.getD j [])) p vs.length) rfl FW iH
   (λp pG s' a1 a2 a3 a4=>⟨a4.1,p,a4.2.1,a4.2.2,kat_snds rfl a2,a3⟩)
   (wp_run (s:={s with heap:=((s.heap.update a (aai λ_=>(#[]:Array Value))).push (aaF "tuple" vs.toArray 0)).push (aaF "list" #[] 0)}) (λi j C hi hj hC=>asked t3 i j C hi hj hC) (C9 (by omega)) ⟨rfl,r1,r2⟩)
  refine XX (Y2 run ?_ λ_ _ e=>e);rintro⟨⟨⟩,pG⟩ s' ⟨rfl,p,a1,a2,a3,a4⟩;exact fin pG p a1 a2 a3 a4
end
section
variable{prog:YK}{w:World}{A:YX}{E:Value->X1->Prop}{s:X1}
def uP(lo:(d==Zu)=false)(ho:s.heap.get? d=some od)(hx:od.ExactDict)(hd:od.data= .dict es ep)
 (hQ:Q (.ref s.heap.objs.size) {s with heap:=s.heap.push {cls:= .type "dict_keyiterator",data:= .fields #[.ref d, .int 0 0, .int es.size 0, .int ep 0]} }):wpAny (model prog w) A (pyIter (.ref d)) Q E s:=by
 have hT:s.TypeIs (.ref d) "dict":=⟨od,ho,hx.1⟩
 refine wpAny_pyIter_slot hT F.slot_dict_iter (aaN F.slot_dict_iter hT F.entry_dict_iter ?_ (F.args_dict_iter_1 _));unfold ab3.«dict.__iter__» Builtin.Dict.dictSlotNone;refine XX (XX (ab9 hT ?_));show wpAny _ _ (pure (YF d)) _ _ s;refine Yc ?_;show wpAny _ _ (abo d>>=_) _ _ s;unfold abo;rw[aey (by rw[lo];exact Yv)];refine XX (Yc (XX (ZJ ho hd (XX (abq ho hd ?_)))));refine XX (aad (Yc ⟨_,rfl,"dict_keyiterator",_,⟨_,Yj _ rfl,rfl⟩,F.slot_dict_keyiterator_next.lookup,?_⟩));simpa[acI] using hQ
def y_(hit:s.heap.IsKeyIter it d i es.size ep)(DM:s.heap.get? d=some od)(pX:od.data= .dict es ep)(hx:es[i]? =some e)
 (hQ:∀h',h'.IsKeyIter it d (i+1) es.size ep->Z_ it s.heap h'->Q (some e.key) {s with heap:=h'}):wpAny (model prog w) A (ab_ (.ref it)) Q E s:=by
 obtain⟨o,ho,hc,hd⟩:=id hit;have dW:i<es.size:=(Array.getElem?_eq_some_iff.mp hx).1;have MC:abF "dict_keyiterator"=false:=by decide
 unfold ab_;refine XX (wpAny_attempt (ad8 hit.typeIs aat
  (aaN aat hit.typeIs ac7 ?_ (acS _))))
 refine XX (Yc (XX (XX ?_)))
 first | refine XX (aao hit.typeIs (Yc ?_)) | refine XX (aaS hit.typeIs (Yc ?_))
 refine XX (wpAny_fieldsOf ho hd ?_);simp only[MC,Y5,if_false];show wpAny _ _ (if (YF d==Zv)=true then _ else _) _ _ s;rw[aey (show¬((YF d==Zv)=true) from Yv)];refine XX (Yc (XX (ZJ DM pX ?_)));rw[aey (by simp)];refine XX (Yc (XX (abq DM pX ?_)));rw[aey (by simp)];refine Yc ?_;simp only[show¬((i:Int)<0) from by omega,if_false,acB,hx];refine XX ?_
 first | refine XX (aao hit.typeIs (Yc ?_)) | refine XX (aaS hit.typeIs (Yc ?_))
 refine XX (wpAny_isOneOf_keyiter hit.typeIs ?_);show wpAny _ _ (setField (.ref it) 1 (acI ((i:Int)+1))>>=_) _ _ s;refine XX (wpAny_setField ho hd (by simp) ?_);have I_:(s.heap.update it (Obj.mapFields (·.setIfInBounds 1 (acI ((i:Int)+1))))).IsKeyIter it d (i+1) es.size ep:=
  ⟨_,Zq _ ho (Obj.isFreed_of_fields (aeq hd _)),(Obj.cls_mapFields ..).trans hc,by rw[aeq hd];simp[acI]⟩
 refine XX (ZY (XX (wpAny_isOneOf_keyiter I_.typeIs ?_)));show wpAny _ _ (pure e.key) _ _ _;exact Yc (Yc ⟨_,rfl,Yc (hQ _ I_ (Y1 ..))⟩)
def uD(hh:A.handled=none)(hit:s.heap.IsKeyIter it d i es.size ep)(hi:es.size<=i)(DM:s.heap.get? d=some od)(pX:od.data= .dict es ep)
 (hQ:∀h',Heap.ExtBut it s.heap h'->Q none {s with heap:=h'}):wpAny (model prog w) A (ab_ (.ref it)) Q E s:=by
 obtain⟨o,ho,hc,hd⟩:=id hit;have MC:abF "dict_keyiterator"=false:=by decide
 unfold ab_;refine XX (wpAny_attempt (ad8 hit.typeIs aat
  (aaN aat hit.typeIs ac7 ?_ (acS _))))
 refine XX (Yc (XX (XX ?_)))
 first | refine XX (aao hit.typeIs (Yc ?_)) | refine XX (aaS hit.typeIs (Yc ?_))
 refine XX (wpAny_fieldsOf ho hd ?_);simp only[MC,Y5,if_false];show wpAny _ _ (if (YF d==Zv)=true then _ else _) _ _ s;rw[aey (show¬((YF d==Zv)=true) from Yv)];refine XX (Yc (XX (ZJ DM pX ?_)));rw[aey (by simp)];refine XX (Yc (XX (abq DM pX ?_)));rw[aey (by simp)];refine Yc ?_;simp only[show¬((i:Int)<0) from by omega,if_false,acB,Array.getElem?_eq_none hi];refine XX ?_
 first | refine XX (aao hit.typeIs (Yc ?_)) | refine XX (aaS hit.typeIs (Yc ?_))
 show wpAny _ _ (setField (.ref it) 0 .none>>=_) _ _ s;refine XX (wpAny_setField ho hd (by simp) ?_);show wpAny _ _ (newExc (.type "StopIteration") []>>=_) _ _ _;refine XX ?_;simp only[newExc,newTuple];refine XX (aad ?_ (by size_fits));refine XX (wpAny_of_eq (by first | rfl | (simp only[firstArgMember];rfl)) ?_);refine aad ?_ (by size_fits);simp only[raiseNew];refine XX (wpAny_handled ?_);rw[show A.in1.handled=none from hh];refine XX (Yc (wpAny_throw ?_));refine XX (wpAny_isInstance ⟨_,Yj _ rfl,rfl⟩ isSubtype_stop ?_);exact Yc (hQ _ (((Y1 ..).extBut.push _).push _))
def FC(hh:A.handled=none)(hit:s.heap.IsKeyIter it d es.size es.size ep)(DM:s.heap.get? d=some od)(pX:od.data= .dict es ep)
 (hQ:∀h',Heap.ExtBut it s.heap h'->Q none {s with heap:=h'}):wpAny (model prog w) A (ab_ (.ref it)) Q E s:=uD hh hit (X4 _) DM pX hQ
def KJ(es:Array abP):Nat->Value->Prop:=λi v=>∃e,es[i]? =some e/\v=e.key
def Bz(hh:A.handled=none)(I d:Addr)(dm:d≠I)(pX:od.data= .dict es ep):
 Walks prog w A I [I,d] [I] es.size (KJ es) (λi h=>h.IsKeyIter I d i es.size ep/\h.get? d=some od) where
 sub:=λb hb=>by simp at hb;simp[hb]
 frame:=λ_ _ _ st hk=>⟨st.1.at λo e=>hk I (by simp) o e,hk d (by simp) _ st.2⟩
 item:=λi s Q E hi st hQ=>by
  have hx:es[i]? =some es[i]:=aaH hi;exact y_ st.1 st.2 pX hx λh' I_ Jf=>hQ _ h' s.toks ⟨_,hx,rfl⟩ ⟨I_,(Jf.2 d dm).trans st.2⟩ λb o hb e=>Jf.extBut b o (λh=>hb (by simp[h])) e
 done:=λs Q E st hQ=>FC hh st.1 st.2 pX λh' V1=>hQ h' s.toks λb o hb e=>V1 b o (λh=>hb (by simp[h])) e
 self:=λ_ _ _ _ st hQ=>wpAny_pyIter_keyiter st.1 hQ
def HF(lo:(d==Zu)=false)(hx:od.ExactDict)(pX:od.data= .dict es ep):KdlSrc prog w "dict" d d es.size (KJ es) (λh=>h.get? d=some od) where
 type:=λ_ hm=>⟨od,hm,hx.1⟩
 there:=λ_ hm=>⟨Yd hm,Yd hm⟩
 keep:=λ_ _ hm hk=>hk d (.inl rfl) od hm
 notList:=by decide
 notTuple:=by decide
 hint:=λ_ _ s _ hm hq=>kdl_hint_dict ⟨od,hm,hx.1⟩ hq
 iter:=λ_ _ hh hm=>⟨_,_,(λ_ _ hq=>uP lo hm hx pX hq),Bz hh _ d (Ym (Yd hm)) pX,⟨⟨_,Yj _ rfl,rfl,rfl⟩,XZ _ hm⟩⟩
end
end L3
namespace L3
open PySem
def insI(k:List Int):List (List Int)->List (List Int)
 |[]=>[k]
 |x::r=>if fb k x then k::x::r else x::insI k r
def sortI:List (List Int)->List (List Int)
 |[]=>[]
 |k::r=>insI k (sortI r)
def Ak(l:List (List Int)):Prop:=l.Pairwise λa b=>fb a b=true
def rb:∀{l:List (List Int)},x∈insI k l↔x=k\/x∈l
 |[]=>by simp[insI]
 |y::r=>by
  unfold insI;split
  ·simp
  ·rw[XY,rb,XY];constructor
   ·rintro(h | h | h)<;>simp[h]
   ·rintro(h | h | h)<;>simp[h]
def uL:∀{l:List (List Int)},Ak l->k∉l->Ak (insI k l)
 |[],_,_=>List.pairwise_singleton _ _
 |x::r,h,hk=>by
  have h:=YU.mp h;unfold insI;split
  ·rename_i q;refine YU.mpr ⟨λy hy=>?_,YU.mpr h⟩;rcases XY.mp hy with rfl | hy
   ·exact q
   ·exact wg _ _ _ q (h.1 y hy)
  ·rename_i q;have hx:fb x k=true:=by
    rcases rC k x (λz=>hk (by rw[z];exact XU ..)) with z | z
    ·exact aeB z q
    ·exact z
   refine YU.mpr ⟨λy hy=>?_,uL h.2 λz=>hk (XT _ z)⟩;rcases rb.mp hy with rfl | hy
   ·exact hx
   ·exact h.1 y hy
def iG:∀{l:List (List Int)},x∈sortI l↔x∈l
 |[]=>ab2
 |k::r=>by unfold sortI;rw[rb,iG,XY]
def lO:∀{l:List (List Int)},l.Nodup->Ak (sortI l)
 |[],_=>abN
 |k::r,h=>by
  have h:=Yz.mp h;exact uL (lO h.2) λz=>h.1 (iG.mp z)
def sJ:∀{a b:List (List Int)},Ak a->Ak b->(∀x,x∈a↔x∈b)->a=b
 |[],[],_,_,_=>rfl
 |[],y::b,_,_,h=>by have:=(h y).mpr (XU ..);cases this
 |x::a,[],_,_,h=>by have:=(h x).mp (XU ..);cases this
 |x::a,y::b,ha,hb,h=>by
  have ha:=YU.mp ha;have hb:=YU.mp hb;have e:x=y:=by
   rcases XY.mp ((h x).mp (XU ..)) with q | q
   ·exact q
   ·rcases XY.mp ((h y).mpr (XU ..)) with p | p
    ·exact p.symm
    ·have z1:=hb.1 x q;have z2:=ha.1 y p;rw[mf _ _ z1] at z2;cases z2
  subst e;have U3:∀k,fb k k≠true:=λk z=>by have:=mf _ _ z;rw[z] at this;cases this
  rw[sJ ha.2 hb.2 λz=>?_];constructor
  ·intro hz;rcases XY.mp ((h z).mp (XT _ hz)) with q | q
   ·subst q;exact aeB (ha.1 z hz) (U3 z)
   ·exact q
  ·intro hz;rcases XY.mp ((h z).mpr (XT _ hz)) with q | q
   ·subst q;exact aeB (hb.1 z hz) (U3 z)
   ·exact q
def Bm:∀(n:Nat) (l:List Nat),l.Nodup->(∀x∈l,x<n)->l.length=n->∀k,k<n->k∈l
 |0,_,_,_,_,k,hk=>by omega
 |n+1,l,hd,hl,hn,k,hk=>by
  by_cases h:n∈l
  ·by_cases e:k=n
   ·subst e;exact h
   ·refine List.mem_of_mem_erase (Bm n (l.erase n) (hd.erase n) (λx hx=>?_) (by rw[abu h,hn];rfl) k (by omega));have hx:=hd.mem_erase_iff.mp hx;have:=hl x hx.2;have:=hx.1;omega
  ·cases l with
   |nil=>simp at hn
   |cons x r=>
    have hd:=Yz.mp hd;have lt:∀y∈x::r,y<n:=λy hy=>by
     have:=hl y hy;have:y≠n:=λz=>h (by rw[<-z];exact hy);omega
    exact aeB (Bm n r hd.2 (λy hy=>lt y (XT _ hy)) (by simpa using hn) x (lt x (XU ..))) hd.1
def ED(hd:ks.Nodup)(P:PN ks.length p)(R:Ri (λi j=>fb (ks.getD i []) (ks.getD j [])) p ks.length):(p.toList.map λi=>ks.getD i [])=sortI ks:=by
 have hsz:p.toList.length=ks.length:=by rw[YB];exact P.sz
 have pW:∀i (h:i<p.toList.length),p.toList[i]=at' p i:=λi h=>by
  have h':i<p.size:=by rw[YB] at h;exact h
  rw[fI,aaH h'];simp
 refine sJ ?_ (lO hd) λx=>?_
 ·refine aaI.mpr λi j hi hj AL=>?_;rw[XS] at hi hj;rw[abE,abE,pW i hi,pW j hj];exact R i j AL (by omega)
 ·rw[iG];constructor
  ·intro hx;obtain⟨i,hi,rfl⟩:=X9.mp hx;obtain⟨j,hj,rfl⟩:=ZZ.mp hi;have:=P.lt j (by omega);rw[pW j hj,Yq,XW this];exact ZO this
  ·intro hx;obtain⟨k,hk,rfl⟩:=ZZ.mp hx;have PH:k∈p.toList:=by
    have hn:p.toList.Nodup:=aaI.mpr λi j hi hj AL z=>by
     rw[pW i hi,pW j hj] at z;have:=P.inj i j (by omega) (by omega) z;omega
    exact Bm ks.length p.toList hn (λx hx=>by
     obtain⟨j,hj,rfl⟩:=ZZ.mp hx;rw[pW j hj];exact P.lt j (by omega)) hsz k hk
   refine X9.mpr ⟨k,PH,?_⟩;rw[Yq,XW hk];rfl
end L3
namespace L3
open PySem PySem.Spec L2 SeqAt HT
open PyProof.Rows hiding St
def tupI(k:List Int):D:= .tup (k.map D.int)
def iV(ks:List (List Int)):Bool:=decide ks.Nodup&&decide (ks.length<64)&&ks.all λk=>!k.isEmpty
def fG(H:Hp):List V->List (List Int)->Prop:=acx λv k=>∃a,v= .ref a/\H a=some (.tup (k.map V.int))
def zD{K:X5}:∀{ws:List V}{ks:List (List Int)},fG F ws ks->(∀k∈ks,k.length<=lim)->DenL K F (ks.map tupI) ws
 |_,_, .nil,_=>rfl
 |_,_, .cons (b:=k) h t,hl=>by
  obtain⟨a,rfl,h⟩:=h;exact .cons ⟨a,_,rfl,h,DenL.ints k,by rw[XS];exact hl k (XU ..)⟩ (zD t λk hk=>hl k (XT _ hk))
def vh(I:Inv X f8 σ H s):∀{vs:List V}{aT:List Value}{ks:List (List Int)},fG H vs ks->Vals vs aT->(∀k∈ks,k≠[])->TupsAt s.heap aT ks
 |_,_,_, .nil,r,_=>by cases r;exact trivial
 |_,_,_, .cons (b:=k) h t,r,hn=>by
  obtain⟨a,rfl,h⟩:=h;cases r with
  |cons r1 r2=>
   cases (show _=_ from r1);obtain⟨us,ru,pt,_⟩:=I.tuple (SqT.of h);obtain⟨o,q1,q2,m,q3⟩:=pt;exact⟨⟨a,o,us,m,rfl,q1,q2,q3,intsAre_of ru,hn k (XU ..)⟩,vh I t r2 λk hk=>hn k (XT _ hk)⟩
def zF:∀{vs:List V}{ks:List (List Int)}{i:Nat},fG H vs ks->i<vs.length->∃a,vs.getD i .non= .ref a/\H a=some (.tup ((ks.getD i []).map V.int))
 |_,_,i, .nil,hi=>by simp at hi
 |_,_,0, .cons h t,_=>h
 |_,_,i+1, .cons h t,hi=>zF (i:=i) t (by simpa using hi)
def zG:∀{vs:List V}{ks:List (List Int)},fG H vs ks->vs.length=ks.length
 |_,_, .nil=>rfl
 |_,_, .cons h t=>by rw[X7,X7,zG t]
def vg(h:fG H vs ks):∀{is:List Nat},(∀i∈is,i<vs.length)->fG H (is.map λi=>vs.getD i .non) (is.map λi=>ks.getD i [])
 |[],_=> .nil
 |i::is,hi=> .cons (zF h (hi i (XU ..))) (vg h λj hj=>hi j (XT _ hj))
def oO:∀{vs:List V}{us:List Value}(i:Nat),Vals vs us->i<vs.length->RelV (vs.getD i .non) (us.getD i Zv)
 |_,_,i, .nil,hi=>by simp at hi
 |_,_,0, .cons h t,_=>h
 |_,_,i+1, .cons h t,hi=>oO i t (by simpa using hi)
def vp(h:Vals vs us):∀{is:List Nat},(∀i∈is,i<vs.length)->Vals (is.map λi=>vs.getD i .non) (is.map λi=>us.getD i Zv)
 |[],_=> .nil
 |i::is,hi=> .cons (oO i h (hi i (XU ..))) (vp h λj hj=>hi j (XT _ hj))
def vm:∀l:List (List Int),(sortI l).length=l.length
 |[]=>rfl
 |k::r=>by
  have ins:∀(k:List Int) (l:List (List Int)),(insI k l).length=l.length+1:=by
   intro k l;induction l with
   |nil=>rfl
   |cons x l ih=>
    unfold insI;split
    ·rfl
    ·rw[X7,ih,X7]
  unfold sortI;rw[ins,vm r,X7]
def gX(k:List Int):List Key:=k.map acy
def QJ:List V->Hp->VK->Prop:=λxs H Q=>∃p kvs ks,xs=[.ref p]/\Rd H p (.dT kvs)/\kvs.map (·.1)=ks.map gX/\iV ks=true/\∀(q:Addr) (ws:List V),H q=none->fG H ws (sortI ks)->Q (.ref q) (upd H q (.lst ws))
def uR:∀{kvs:List (List Key×V)}{xs:List (List Key×Addr×Value)}{ks:List (List Int)},acx (λ(p:List Key×V) (q:List Key×Addr×Value)=>p.1=q.1/\H q.2.1=some (.tup (p.1.map kV))/\RelV p.2 q.2.2) kvs xs->
 kvs.map (·.1)=ks.map gX->fG H (xs.map λx=>V.ref x.2.1) ks
 |_,_,[], .nil,_=> .nil
 |_,_,_::_, .nil,e=>by simp at e
 |_,_,[], .cons h t,e=>by simp at e
 |_,_,k::ks, .cons h t,e=>by
  rw[X3,X3] at e;injection e with e1 e2
  refine .cons ⟨_,rfl,?_⟩ (uR t e2);have hk:(gX k).map kV=k.map V.int:=by unfold gX;rw[Yu];rfl
  rw[h.2.1,e1,hk]
section
variable{X:Cx}{Xw:Nat->Hp->Prop}{e:Expr}{δs:DA}{pos p:Pos}
def Dm(hc:X.calm=true):CallR X (.builtin "sorted") QJ:=by
 intro f8 s σ H xs us Q I r h;obtain⟨a,kvs,ks,rfl,hH,Ah,hk,q⟩:=h;obtain⟨u,rfl,r1⟩:=r.one;cases (show u=_ from r1);obtain⟨z,lo,xs,rel,o,es,ep,g1,g2,g3,g4,g5⟩:=(show ObjOk X.prog X.w H s.heap a (.dT kvs) from hH.ok I.hok)
 unfold iV at hk;rw[Yo,Yo] at hk;have hd:ks.Nodup:=aeC hk.1.1;have iH:ks.length<64:=aeC hk.1.2;have dm:∀k∈ks,k≠[]:=λk DK z=>by have:=Yn.mp hk.2 k DK;rw[z] at this;cases this
 have hr:=uR rel Ah;have FV:=zG hr;rw[XS] at FV;have Mr:es.size=xs.length:=by rw[<-YB,g4,XS]
 have Ca:Yl=16777216:=ZM;refine ac9 kind_sorted plain_sorted entry_sorted (args_sorted1 _) ?_;unfold ab3.«sorted»;refine XX (Yc (XX (adB (HF lo g2 g3) (I.ok.hd hc) g1 (by rw[Mr,Ca];omega) λh1 tk v6 yP nP=>?_)));have Ia:v6.toList.length=xs.length:=by rw[YB,<-Mr];exact nP.1
 have I1:Inv X f8 σ H {s with heap:=h1,toks:=tk}:=I.kept λb ob e=>yP b ob e;have rv:Vals (xs.map λx=>V.ref x.2.1) v6.toList:=by
  have ext:∀{vs:List V}{us:List Value},vs.length=us.length->(∀(i:Nat) (v:V) (u:Value),vs[i]? =some v->us[i]? =some u->RelV v u)->Vals vs us:=by
   intro vs;induction vs with
   |nil=>intro us h _;cases us with | nil=>exact .nil | cons _ _=>simp at h
   |cons v vs ih=>
    intro us h hh;cases us with
    |nil=>simp at h
    |cons u us=>exact .cons (hh 0 v u rfl rfl) (ih (by simpa using h) λi v u h1 h2=>hh (i+1) v u h1 h2)
  refine ext (by rw[XS,Ia]) λi v u e1 e2=>?_;rw[Zn] at e2;obtain⟨en,q1,q2⟩:=nP.2 i u e2;rw[<-Zn,g4,X6] at q1;rw[X6] at e1;cases w:xs[i]? with
  |none=>rw[w] at e1;cases e1
  |some x=>
   rw[w] at e1 q1;cases e1;cases q1;exact q2
 have ht:=vh I1 hr rv dm;refine XX (ad7 ?_ (by rw[Ca];omega));have K9:(h1.push (aaF "list" v6.toList.toArray 0)).get? h1.objs.size=some (aaF "list" v6.toList.toArray 0):=Yj _ rfl;refine XX (ZY (aaN slot_list_sort ⟨_,K9,rfl⟩ entry_list_sort (EC K9
  (ht.keep (λb o _ e=>XZ _ e) (λo e=>aeB (Yd e) (YV _))) hd (by omega) λP h' c' hP hR Mt Pm=>?_) (args_list_sort _)))
 have Sa:∀i∈P.toList,i<(xs.map λx=>V.ref x.2.1).length:=λi hi=>by
  obtain⟨j,hj,rfl⟩:=ZZ.mp hi;have h':j<P.size:=by rw[YB] at hj;exact hj
  have:=hP.lt j (by rw[hP.sz] at h';exact h');rw[fI,aaH h'] at this;have e:P.toList[j]=P[j]:=by simp
  rw[e,XS];have:P[j]<v6.toList.length:=this;omega
 have VO:PN ks.length P:=by rw[<-FV,<-Ia];exact hP
 have VQ:Ri (λi j=>fb (ks.getD i []) (ks.getD j [])) P ks.length:=by rw[<-FV,<-Ia];exact hR
 have Ro:=ED hd VO VQ;have U0:=vg hr Sa;rw[Ro] at U0;refine⟨_,rfl,Yc ⟨_,rfl,⟨.ref h1.objs.size,_,I1.laid (λb ob e=>Pm b ob (Ym (Yd e)) (XZ _ e)) (X4 _) ?_,rfl,q _ _ (I1.hok.fresh (X4 _)) U0⟩⟩⟩;exact⟨by rw[XS,YB,hP.sz,Ca];omega,_,c',vp rv Sa,Mt⟩
def vf(e:Same F F'):∀{ws:List V}{ks:List (List Int)},fG F ws ks->fG F' ws ks
 |_,_, .nil=> .nil
 |_,_, .cons ⟨b,q1,q2⟩ t=> .cons ⟨b,q1,e _ _ q2⟩ (vf e t)
def zE(hs:Same F H):∀{ws:List V}{ks:List (List Int)},fG H ws ks->∃F',Ext F H F' H/\fG F' ws ks
 |_,_, .nil=>⟨F,Ext.refl hs, .nil⟩
 |_,_, .cons h t=>by
  obtain⟨a,rfl,h⟩:=h;obtain⟨F1,e1,r1⟩:=zE hs t;have e2:=Ext.tup e1.fh h;refine⟨_,e1.trans e2, .cons ⟨a,rfl,aB⟩ ?_⟩;exact vf e2.ff r1
def jg:List Key->Option (List Int)
 |[]=>some []
 | .inl i::r=>(jg r).map (i:: ·)
 |_=>none
def fJ:List (List Key)->Option (List (List Int))
 |[]=>some []
 |k::r=>match jg k,fJ r with
  |some x,some xs=>some (x::xs)
  |_,_=>none
def l8:∀{k:List Key}{x:List Int},jg k=some x->k=gX x
 |[],_,e=>by cases e;rfl
 | .inl i::r,_,e=>by
   unfold jg at e;cases q:jg r with
   |none=>rw[q] at e;cases e
   |some y=>rw[q] at e;cases e;rw[l8 q];rfl
 | .inr _::r,_,e=>by cases e
def nS:∀{kk:List (List Key)}{ks:List (List Int)},fJ kk=some ks->kk=ks.map gX
 |[],_,e=>by cases e;rfl
 |k::r,_,e=>by
  unfold fJ at e;split at e
  ·rename_i x xs e1 e2;cases e;rw[X3,<-l8 e1,<-nS e2]
  ·cases e
def pF:List D->M D
 |[.dct kk ds]=>match fJ kk with
  |some ks=>if iV ks&&ks.all (λk=>decide (k.length<=lim)) then aa (.lst ((sortI ks).map tupI)) else ag
  |none=>ag
 |_=>ag
def gS:∀{a:List α}{b:List β},a.length=b.length->(a.zip b).map (·.1)=a
 |[],[],_=>rfl
 |x::a,y::b,h=>by rw[Y4,X3,gS (by simpa using h)]
 |[],_::_,h=>by simp at h
 |_::_,[],h=>by simp at h
def wX(hc:X.calm=true)(hg:Gl X "sorted")(hm:X.mg "sorted"=none)(hb:YN "sorted"=some (.builtin "sorted"))(ha:jm X Xw [e] δs)(he:Yg [e] X.env=[(false,eval e X.env)]:=by rfl):PD X Xw (.Call (.Name "sorted" p) [e] [] pos) (dA pF δs):=
 cE (Dm hc) (λXw F H vs ds Q s h w=>by
  unfold pF at w;split at w
  ·rename_i kk ds;obtain⟨v,rfl,h1⟩:=h.one;obtain⟨a,ob,ws,rfl,h2,h3,h4,h5⟩:=h1;split at w
   ·rename_i ks ES;split at w
    ·rename_i hok;rw[Yo] at hok;have hl:∀k∈ks,k.length<=lim:=λk hk=>aeC (Yn.mp hok.2 k hk);have iH:ks.length<64:=by
      have:=hok.1;unfold iV at this;rw[Yo,Yo] at this;exact aeC this.1.2
     refine⟨a,_,ks,rfl, .inr ⟨ob,s _ _ h2⟩,by rw[gS (by rw[h4];exact h3.len),nS ES],hok.1,λq us hq hr=>?_⟩;obtain⟨F1,e1,r1⟩:=zE s hr;have e2:=Ext.lay (o:= .lst us) e1.fh hq;exact WP.fin w (e1.trans e2) ⟨q,_,rfl,aB,DenL.mono e2.ff (zD r1 λk hk=>hl k (iG.mp hk)),by rw[XS,vm];unfold lim;omega⟩
    ·exact w.elim
   ·exact w.elim
  ·exact w.elim) hg hm hb ha (by decide) (by decide) he rfl
end
end L3
namespace L3
open PySem PySem.Spec L2
open PyProof.Rows hiding St
def orM(a b:M α):M α:=match a with
 |none=>b
 |some r=>some r
def Jh(a b:DA):DA:=λZ=>orM (a Z) (b Z)
section
variable{X:Cx}{Xw:Nat->Hp->Prop}{e tg:Expr}{δi δi':DA}
def CG(h:xQ X Xw tg e δi)(h':xQ X Xw tg e δi'):xQ X Xw tg e (Jh δi δi'):=λf8 s σ H Q I ⟨F,Z,S,w⟩=>by
 unfold Jh orM at w;cases q:δi Z with
 |none=>rw[q] at w;exact h' f8 s σ H Q I ⟨F,Z,S,w⟩
 |some r=>rw[q] at w;exact h f8 s σ H Q I ⟨F,Z,S,by rw[q];exact w⟩
end
def fgt:List Nat->bH->bH
 |[],Z=>Z
 |i::is,Z=>fgt is (Z.set i none)
def Qp(f:bH->bH):Out->M Out
 | .nx Z=>aa (.nx (f Z))
 | .rt d=>aa (.rt d)
def bT(is:List Nat)(τ:DS):DS:=λZ=>τ Z>>=Qp (fgt is)
def StOk.fgt1{K:X5}(s:StOk K u8 aeH F H σ Z)(i:Nat):StOk K u8 aeH F H σ (Z.set i none):=by
 have get:∀(j:Nat) (sl:Sl),(Z.set i none)[j]? =some (some sl)->Z[j]? =some (some sl):=λj sl e=>by
  by_cases hj:j=i
  ·subst hj;by_cases hl:j<Z.length
   ·rw[X_ hl] at e;cases e
   ·rw[abR (by simpa using hl)] at e;cases e
  ·rw[X2 (YJ hj)] at e;exact e
 exact⟨s.ext,⟨s.st.fh,λj sl e=>s.st.den j sl (get j sl e)⟩,by simp[s.len],λj c a e e'=>s.own j c a (get j _ e) e',λj k c c' a e1 e2 e3 e4=>s.sep j k c c' a (get j _ e1) (get k _ e2) e3 e4⟩
def StOk.fgt{K:X5}:∀(is:List Nat) {Z:bH},StOk K u8 aeH F H σ Z->StOk K u8 aeH F H σ (L3.fgt is Z)
 |[],_,s=>s
 |i::is,_,s=>StOk.fgt is (s.fgt1 i)
def WPS.fgt{K:X5}(w:WPS K Xw u8 aeH (m>>=Qp (L3.fgt is)) Dn):WPS K Xw u8 aeH m Dn:=by
 match m,w with
 |none,w=>exact w
 |some (.ok (.nx Z)),w=>exact λσ F H s=>w σ F H (s.fgt is)
 |some (.ok (.rt d)),w=>exact w
 |some (.ex n),w=>exact w
section
variable{X:Cx}{Xw:Nat->Hp->Prop}{Vk:List Stmt}{τ:DS}{is:List Nat}
def aR(h:PSDs X Xw Vk τ):PSDs X Xw Vk (bT is τ):=λu8 aeH=>PSs.weak (h u8 aeH) λD σ H ⟨F,Z,s,w⟩=>⟨F,Z,s,WPS.fgt w⟩
end
def VG:Option Sl->Option Sl
 |some (.ow c)=>some (.fz c.d)
 |x=>x
def oT(Z:bH):bH:=Z.map VG
def refA(h:Heap)(P:Addr->Prop)[DecidablePred P](H:Hp):Hp:=λb=>if P b then(H b).map (pV ((h.get? b).getD {cls:= .none,data:= .fields #[]})) else H b
def AH(ob:Obj)(o:HO):pV ob o=o\/((∃k,o= .dT k)\/∃k,o= .dK k)/\pV ob o= .frz ob o:=by
 cases o<;>first | exact .inl rfl | exact .inr ⟨.inl ⟨_,rfl⟩,rfl⟩ | exact .inr ⟨.inr ⟨_,rfl⟩,rfl⟩
section
variable{X:Cx}{f8:List (Addr×Obj)}{σ:St}{H:Hp}{s:X1}{P:Addr->Prop}[DecidablePred P]
def iD(e:H b=none):refA h P H b=none:=by
 unfold refA;split
 ·rw[e];rfl
 ·exact e
def vc(e:H b=some o):refA h P H b=some o\/((∃k,o= .dT k)\/∃k,o= .dK k)/\P b/\refA h P H b=some (.frz ((h.get? b).getD {cls:= .none,data:= .fields #[]}) o):=by
 unfold refA;split
 ·rename_i hp;rw[e];rcases AH ((h.get? b).getD {cls:= .none,data:= .fields #[]}) o with q | ⟨q1,q2⟩
  ·exact .inl (by show some _=_;rw[q])
  ·exact .inr ⟨q1,hp,by show some _=_;rw[q2]⟩
 ·exact .inl e
def iC(e:H b=some o)(n1:∀k,o≠ .dT k)(n2:∀k,o≠ .dK k):refA h P H b=some o:=by
 rcases vc (P:=P) e with q | ⟨⟨k,q⟩ | ⟨k,q⟩,_⟩
 ·exact q
 ·exact aeB q (n1 k)
 ·exact aeB q (n2 k)
def Inv.refA(I:Inv X f8 σ H s):Inv X f8 σ (L3.refA s.heap P H) s:=by
 have obj:∀b o,H b=some o->((∃k,o=HO.dT k)\/∃k,o= .dK k)->∃ob,s.heap.get? b=some ob:=λb o e hu=>by
  have hk:=I.hok b o e;rcases hu with⟨k,h1⟩ | ⟨k,h1⟩
  ·subst h1;obtain⟨_,_,_,_,ob,_,_,q,_⟩:=hk;exact⟨ob,q⟩
  ·subst h1;obtain⟨_,_,_,_,ob,_,_,q,_⟩:=hk;exact⟨ob,q⟩
 refine⟨I.ok,I.os,I.bare,⟨I.base.keep,I.base.slot,λb q h1 h2 h3=>iD (I.base.free b q h1 h2 h3),I.base.there,λb xs q=>iC (I.base.tups b xs q) (λ_ z=>nomatch z) (λ_ z=>nomatch z),
  λb q1 v q=>iC (I.base.frzs b q1 v q) (λ_ z=>nomatch z) (λ_ z=>nomatch z),λb ps q=>?_⟩,I.loc,I.cell,iD I.free,λx c q=>iD (I.freeC x c q),λp hp=>?_,λb v q=>?_,I.len⟩
 ·obtain⟨m,this⟩:=I.base.tbls b ps q;exact⟨m,iC this (λ_ z=>nomatch z) (λ_ z=>nomatch z)⟩
 ·obtain⟨h1,h2,h3⟩:=I.pin p hp;exact⟨h1,iD h2,h3⟩
 ·have st:∀{c:Addr}{v:HO},ObjOk X.prog X.w H s.heap c v->ObjOk X.prog X.w (L3.refA s.heap P H) s.heap c v:=λ{c v} k=>k.stay (λ_ _ _ q=>q)
   (λc' q=>iC q (λ_ z=>nomatch z) (λ_ z=>nomatch z)) λc' xs q=>iC q (λ_ z=>nomatch z) (λ_ z=>nomatch z)
  cases e:H b with
  |none=>rw[iD e] at q;cases q
  |some o=>
   rcases vc (P:=P) e with z | ⟨hu,hp,z⟩
   ·rw[z] at q;cases q;exact st (I.hok b _ e)
   ·rw[z] at q;cases q;obtain⟨ob,My⟩:=obj b o e hu;rw[My];exact⟨My,st (I.hok b o e)⟩
def unA(P:Addr->Prop)[DecidablePred P](H:Hp):Hp:=λb=>if P b then(match H b with | some (.frz _ u)=>some u | x=>x) else H b
def Inv.unA(I:Inv X f8 σ H s)(hP:∀b,P b->∀o u,X.aeH b≠some (.frz o u))(hQ:∀b,P b->∀o u,H b=some (.frz o u)->(∃k,u= .dT k)\/∃k,u= .dK k):Inv X f8 σ (L3.unA P H) s:=by
 have non:∀b,H b=none->L3.unA P H b=none:=λb e=>by unfold L3.unA;rw[e];split<;>rfl
 have keep:∀b o,H b=some o->(∀q u,o≠ .frz q u)->L3.unA P H b=some o:=λb o e n=>by
  unfold L3.unA;split
  ·rw[e];cases o<;>first | rfl | exact aeB rfl (n _ _)
  ·exact e
 refine⟨I.ok,I.os,I.bare,⟨I.base.keep,I.base.slot,λb q h1 h2 h3=>non b (I.base.free b q h1 h2 h3),I.base.there,λb xs q=>keep b _ (I.base.tups b xs q) (λ_ _ z=>nomatch z),
  λb q1 v q=>?_,λb ps q=>?_⟩,I.loc,I.cell,non _ I.free,λx c q=>non _ (I.freeC x c q),λp hp=>?_,λb v q=>?_,I.len⟩
 ·have:=I.base.frzs b q1 v q;unfold L3.unA;rw[aey (λhp=>hP b hp q1 v q)];exact this
 ·obtain⟨m,this⟩:=I.base.tbls b ps q;exact⟨m,keep b _ this (λ_ _ z=>nomatch z)⟩
 ·obtain⟨h1,h2,h3⟩:=I.pin p hp;exact⟨h1,non _ h2,h3⟩
 ·have st:∀{c:Addr}{v:HO},ObjOk X.prog X.w H s.heap c v->ObjOk X.prog X.w (L3.unA P H) s.heap c v:=λ{c v} k=>k.stay (λ_ _ _ q=>q)
   (λc' q=>keep c' _ q (λ_ _ z=>nomatch z)) λc' xs q=>keep c' _ q (λ_ _ z=>nomatch z)
  cases e:H b with
  |none=>rw[non b e] at q;cases q
  |some o=>
   have ko:=I.hok b o e;by_cases hf:∃ob u,o= .frz ob u
   ·obtain⟨ob,u,rfl⟩:=hf;unfold L3.unA at q;split at q
    ·rw[e] at q;cases q;obtain⟨_,k2⟩:=ko;exact st k2
    ·rw[e] at q;cases q;exact st ko
   ·rw[keep b o e (λq u z=>hf ⟨q,u,z⟩)] at q;cases q;exact st ko
end
mutual
def yC:D->Bool
 | .non=>true
 | .bl _=>true
 | .int _=>true
 | .str _=>true
 | .tup ds=>B4 ds
 | .raw _=>false
 | .exc _=>false
 | .scr _=>false
 | .lst _=>false
 | .dct _ _=>false
 | .dci _ _=>false
def B4:List D->Bool
 |[]=>true
 |d::ds=>yC d&&B4 ds
end
def qR(d:D):M D:=if yC d then aa d else ag
def OwnAt(σ:St)(Z:bH)(b:Addr):Prop:=∃(i:Nat) (c:C),Z[i]? =some (some (Sl.ow c))/\σ[i]? =some (some (V.ref b))
section
variable{K:X5}{F H F' H':Hp}{σ:St}{Z:bH}{h:Heap}{b:Addr}
def OwnAt.obj(S:StE K F H σ Z)(p:OwnAt σ Z b):F b=none/\∃o,H b=some o/\((∃x,o= .lst x)\/(∃x,o= .dT x)\/∃x,o= .dK x):=by
 obtain⟨i,c,h1,h2⟩:=p;obtain⟨v,h3,a,o,rfl,h4,h5,h6⟩:=S.den i _ h1;rw[h3] at h2;cases h2;refine⟨h5,o,h4,?_⟩;cases c with
 |lst ds=>obtain⟨vs,rfl,_⟩:=h6;exact .inl ⟨_,rfl⟩
 |dct ks ds=>obtain⟨vs,rfl,_⟩:=h6;exact .inr (.inl ⟨_,rfl⟩)
 |dci ks ds=>obtain⟨vs,rfl,_⟩:=h6;exact .inr (.inr ⟨_,rfl⟩)
open Classical in
noncomputable def fA(σ:St)(Z:bH)(H1 F:Hp):Hp:=λb=>if OwnAt σ Z b then H1 b else F b
open Classical in
def B3(S:StE K F H σ Z):Same F (fA σ Z H1 F):=λb u e=>by
 unfold fA;rw[aey (λp=>by rw[(OwnAt.obj S p).1] at e;cases e)];exact e
open Classical in
def AG(S:StE K F H σ Z):StE K (fA σ Z (refA h (OwnAt σ Z) H) F) (refA h (OwnAt σ Z) H) σ (oT Z):=by
 refine⟨λb u e=>?_,λj sl e=>?_⟩
 ·unfold fA at e;split at e
  ·exact e
  ·rename_i hp;unfold refA;rw[aey hp];exact S.fh b u e
 ·unfold oT at e;rw[X6] at e;cases q:Z[j]? with
  |none=>rw[q] at e;cases e
  |some x=>
   rw[q] at e;cases x with
   |none=>cases e
   |some y=>
    cases y with
    |fz d=>
     cases e;obtain⟨v,h1,h2⟩:=S.den j _ q;exact⟨v,h1,Den.mono (B3 S) h2⟩
    |ow c=>
     cases e;obtain⟨v,h1,a,o,rfl,h4,h5,h6⟩:=S.den j _ q;refine⟨_,h1,DenC.den (ob:=(h.get? a).getD {cls:= .none,data:= .fields #[]}) h6 (B3 S) ?_⟩;have hp:OwnAt σ Z a:=⟨j,c,q,h1⟩
     unfold fA refA;rw[aex hp,aex hp,h4];rfl
open Classical in
def qT(S:StE K F H σ Z)(E:Ext (fA σ Z (refA h (OwnAt σ Z) H) F) (refA h (OwnAt σ Z) H) F' H'):
 Ext F H (λb=>if OwnAt σ Z b then none else F' b) (unA (OwnAt σ Z) H')/\∀b,OwnAt σ Z b->∀o u,H' b=some (.frz o u)->(∃k,u= .dT k)\/∃k,u= .dK k:=by
 have Uk:∀b,OwnAt σ Z b->∃o,H b=some o/\H' b=some (pV ((h.get? b).getD {cls:= .none,data:= .fields #[]}) o)/\((∃x,o= .lst x)\/(∃x,o= .dT x)\/∃x,o= .dK x):=λb hp=>by
  obtain⟨_,o,h1,h2⟩:=OwnAt.obj S hp;refine⟨o,h1,E.hh b _ ?_,h2⟩;unfold refA;rw[aex hp,h1];rfl
 refine⟨⟨λb o e=>?_,λb u e=>?_,λb u e=>?_,λb hb=>?_⟩,λb hp o u e=>?_⟩
 ·unfold unA;by_cases hp:OwnAt σ Z b
  ·obtain⟨o',h1,h2,h3⟩:=Uk b hp;rw[e] at h1;cases h1;rw[aex hp,h2];rcases h3 with⟨x,rfl⟩ | ⟨x,rfl⟩ | ⟨x,rfl⟩<;>rfl
  ·rw[aey hp];refine E.hh b o ?_;unfold refA;rw[aey hp];exact e
 ·have hp:¬OwnAt σ Z b:=λp=>by rw[(OwnAt.obj S p).1] at e;cases e
  show (if OwnAt σ Z b then none else F' b)=_;rw[aey hp];refine E.ff b u ?_;unfold fA;rw[aey hp];exact e
 ·have e:(if OwnAt σ Z b then none else F' b)=some u:=e;split at e
  ·cases e
  ·rename_i hp;unfold unA;rw[aey hp];exact E.fh b u e
 ·show (if OwnAt σ Z b then none else F' b)=F b\/_;by_cases hp:OwnAt σ Z b
  ·rw[aex hp];exact .inl (OwnAt.obj S hp).1.symm
  ·rw[aey hp];have e1:refA h (OwnAt σ Z) H b=H b:=by unfold refA;rw[aey hp]
   have e2:fA σ Z (refA h (OwnAt σ Z) H) F b=F b:=by unfold fA;rw[aey hp]
   rcases E.new b (by rw[e1];exact hb) with q | q
   ·exact .inl (q.trans e2)
   ·rw[e1] at q;exact .inr q
 ·obtain⟨o',h1,h2,h3⟩:=Uk b hp;rw[e] at h2;rcases h3 with⟨x,rfl⟩ | ⟨x,rfl⟩ | ⟨x,rfl⟩
  ·cases h2
  ·cases h2;exact .inl ⟨_,rfl⟩
  ·cases h2;exact .inr ⟨_,rfl⟩
open Classical in
mutual
def yE(S:StE K F H σ Z)(E:Ext (fA σ Z (refA h (OwnAt σ Z) H) F) (refA h (OwnAt σ Z) H) F' H'):∀{d:D}{v:V},yC d=true->Den K F' d v->Den K (λb=>if OwnAt σ Z b then none else F' b) d v
 | .non,_,_,q=>q
 | .bl _,_,_,q=>q
 | .int _,_,_,q=>q
 | .str _,_,_,q=>q
 | .tup ds,_,f,⟨a,vs,h1,h2,h3,h4⟩=>by
   refine⟨a,vs,h1,?_,uE S E ?_ h3,h4⟩
   ·show (if OwnAt σ Z a then none else F' a)=_;rw[aey,h2];intro hp;obtain⟨_,o,k1,k2⟩:=OwnAt.obj S hp;have k3:fA σ Z (refA h (OwnAt σ Z) H) F a=some (pV ((h.get? a).getD {cls:= .none,data:= .fields #[]}) o):=by
     unfold fA refA;rw[aex hp,aex hp,k1];rfl
    have k4:=E.ff a _ k3;rw[h2] at k4;rcases k2 with⟨x,rfl⟩ | ⟨x,rfl⟩ | ⟨x,rfl⟩<;>cases k4
   ·exact f
 | .raw _,_,f,_=>by cases f
 | .exc _,_,f,_=>by cases f
 | .scr _,_,f,_=>by cases f
 | .lst _,_,f,_=>by cases f
 | .dct _ _,_,f,_=>by cases f
 | .dci _ _,_,f,_=>by cases f
def uE(S:StE K F H σ Z)(E:Ext (fA σ Z (refA h (OwnAt σ Z) H) F) (refA h (OwnAt σ Z) H) F' H'):∀{ds:List D}{vs:List V},B4 ds=true->DenL K F' ds vs->DenL K (λb=>if OwnAt σ Z b then none else F' b) ds vs
 |[],_,_,q=>q
 |d::ds,_,f,⟨v,r,h1,h2,h3⟩=>by
  unfold B4 at f;rw[Yo] at f;exact⟨v,r,h1,yE S E f.1 h2,uE S E f.2 h3⟩
end
end
def qm(h:noex m=aa a):m=aa a:=by
 match m,h with
 |some (.ok b),h=>exact h
section
variable{X:Cx}{Xw:Nat->Hp->Prop}{e:Expr}{δ:DE}{τ:DT}
def n_(I:Inv X f8 σ H s)(S:StE X.K F H σ Z)(b:Addr)(p:OwnAt σ Z b)(o:Obj)(u:HO):X.aeH b≠some (.frz o u):=λz=>by
 obtain⟨_,o',k1,k2⟩:=OwnAt.obj S p;have:=I.base.frzs b o u z;rw[k1] at this;rcases k2 with⟨x,rfl⟩ | ⟨x,rfl⟩ | ⟨x,rfl⟩<;>cases this
def dB(m:M α):noex m=ag\/∃a,m=aa a/\noex m=aa a:=by
 rcases m.cs with h | ⟨n,h⟩ | ⟨a,h⟩
 ·subst h;exact .inl rfl
 ·subst h;exact .inl rfl
 ·subst h;exact .inr ⟨a,rfl,rfl⟩
def oq(h:qA X Xw e τ):qA X Xw e (λZ=>noex (τ (oT Z))):=λf8 s σ H Q I ⟨F,Z,S,w⟩=>by
 classical
 rcases dB (τ (oT Z)) with q | ⟨b,q,q2⟩
 ·have w:WPB Xw F H (noex (τ (oT Z))) Q:=w;rw[q] at w;exact w.elim
 ·have w:WPB Xw F H (noex (τ (oT Z))) Q:=w;rw[q2] at w;refine bX (h f8 s σ _ (λb' H'=>Q b' (unA (OwnAt σ Z) H')/\∀c,OwnAt σ Z c->∀o u,H' c=some (.frz o u)->(∃k,u= .dT k)\/∃k,u= .dK k) (Inv.refA I) ⟨_,_,AG S,?_⟩) λb' s' ⟨H',I',q1,q3⟩=>⟨_,Inv.unA I' (n_ I S) q3,q1⟩
  rw[q];intro H' F' E;obtain⟨E1,q3⟩:=qT S E;exact⟨w _ _ E1,q3⟩
def zv(h:PD X Xw e δ):PD X Xw e (λZ=>noex (δ (oT Z))>>=qR):=λf8 s σ H Q I ⟨F,Z,S,w⟩=>by
 classical
 rcases dB (δ (oT Z)) with q | ⟨d,q,q2⟩
 ·have w:WP X.K Xw F H (noex (δ (oT Z))>>=qR) Q:=w;rw[q] at w;exact w.elim
 ·have w:WP X.K Xw F H (noex (δ (oT Z))>>=qR) Q:=w;rw[q2,aw] at w;unfold qR at w;split at w
  ·rename_i hf;refine bX (h f8 s σ _ (λv H'=>Q v (unA (OwnAt σ Z) H')/\∀c,OwnAt σ Z c->∀o u,H' c=some (.frz o u)->(∃k,u= .dT k)\/∃k,u= .dK k) (Inv.refA I) ⟨_,_,AG S,?_⟩) λb' s' ⟨v,H',I',rv,q1,q3⟩=>⟨v,_,Inv.unA I' (n_ I S) q3,rv,q1⟩
   rw[q];intro v H' F' E dn;obtain⟨E1,q3⟩:=qT S E;exact⟨w _ _ _ E1 (yE S E hf dn),q3⟩
  ·exact w.elim
end
abbrev DF:=bH->M C
def WPF(K:X5)(Xw:Nat->Hp->Prop)(F H:Hp)(m:M C)(Q:VK):Prop:=
 match m with
 |none=>False
 |some (.ok c)=>∀a o H' F',Ext F H F' H'->H' a=some o->F' a=none->H a=none->DenC K F' c o->Q (.ref a) H'
 |some (.ex n)=>∀F' H',Ext F H F' H'->Xw n H'
def Xm(K:X5)(Xw:Nat->Hp->Prop)(δ:DF):TE:=λσ H Q=>∃F Z,StE K F H σ Z/\WPF K Xw F H (δ Z) Q
def LF(X:Cx)(Xw:Nat->Hp->Prop)(e:Expr)(δ:DF):Prop:=PE X e (Xm X.K Xw δ)
def pE(i:Nat)(δ:DF):DS:=λZ=>δ Z>>=λc=>aa (.nx (Z.set i (some (.ow c))))
def StOk.setFresh{K:X5}(s:StOk K u8 aeH F H σ Z)(E:Ext F H F' H')(ho:H' a=some o)(nF:F' a=none)(n:H a=none)(h:DenC K F' c₀ o):
 StOk K u8 aeH F' H' (σ.set i (some (.ref a))) (Z.set i (some (.ow c₀))):=by
 have hle:=s.len;have get:∀(j:Nat) (sl:Sl),(Z.set i (some (.ow c₀)))[j]? =some (some sl)->(j=i/\i<Z.length/\sl= .ow c₀)\/(j≠i/\Z[j]? =some (some sl)):=λj sl e=>by
  by_cases hj:j=i
  ·subst hj;have hi:j<Z.length:=by
    have:=(X0.mp e).1;simpa using this
   rw[X_ hi] at e;cases e;exact .inl ⟨rfl,hi,rfl⟩
  ·rw[X2 (YJ hj)] at e;exact .inr ⟨hj,e⟩
 have old:∀(j:Nat) (c:C) (b:Addr),Z[j]? =some (some (.ow c))->σ[j]? =some (some (.ref b))->b≠a:=λj c b e e' z=>by
  obtain⟨u,h1,b',o,h2,h3,_⟩:=s.st.den j _ e;rw[h1] at e';cases e';cases h2;rw[z,n] at h3;cases h3
 refine⟨s.ext.trans E,⟨E.fh,λj sl e=>?_⟩,by simp[hle],λj c b e e'=>?_,λj k c c' b e1 e2 e3 e4=>?_⟩
 ·rcases get j sl e with⟨rfl,hi,rfl⟩ | ⟨hj,e⟩
  ·exact⟨.ref a,by rw[X_ (by omega)],a,_,rfl,ho,nF,h⟩
  ·obtain⟨u,h1,h2⟩:=s.st.den j sl e;exact⟨u,by rw[X2 (YJ hj)];exact h1,h2.ext E⟩
 ·rcases get j _ e with⟨rfl,hi,_⟩ | ⟨hj,e⟩
  ·rw[X_ (by omega)] at e';cases e';exact Same.free s.ext.hh n
  ·rw[X2 (YJ hj)] at e';exact s.own j c b e e'
 ·rcases get j _ e1 with⟨rfl,hi,_⟩ | ⟨hj,e1⟩
  ·rw[X_ (by omega)] at e3;cases e3;rcases get k _ e2 with⟨rfl,_,_⟩ | ⟨hk,e2⟩
   ·rfl
   ·rw[X2 (YJ hk)] at e4;exact aeB rfl (old k c' a e2 e4)
  ·rcases get k _ e2 with⟨Sz,hi,_⟩ | ⟨hk,e2⟩
   ·rw[Sz,X_ (by omega)] at e4;cases e4;rw[X2 (YJ hj)] at e3;exact aeB rfl (old j c a (by assumption) e3)
   ·rw[X2 (YJ hj)] at e3;rw[X2 (YJ hk)] at e4;exact s.sep j k c c' b e1 e2 e3 e4
def WPF.mono{K:X5}(h:WPF K Xw F H m Q)(k:∀v H',Q v H'->Q' v H'):WPF K Xw F H m Q':=by
 match m,h with
 |none,h=>exact h
 |some (.ok d),h=>exact λa o H' F' e h1 h2 h3 h4=>k _ _ (h a o H' F' e h1 h2 h3 h4)
 |some (.ex n),h=>exact h
def WPF.ext{K:X5}(e:Ext F H F1 H1)(h:WPF K Xw F H m Q):WPF K Xw F1 H1 m Q:=by
 match m,h with
 |none,h=>exact h
 |some (.ok d),h=>exact λa o H' F' e' h1 h2 h3 h4=>h a o H' F' (e.trans e') h1 h2 (Same.free e.hh h3) h4
 |some (.ex n),h=>exact λF2 H2 e2=>h F2 H2 (e.trans e2)
def WPF.bind{K:X5}(h:WPF K Xw F H (m>>=k) Q):WP K Xw F H m λv H1=>∃F1 d,Ext F H F1 H1/\Den K F1 d v/\WPF K Xw F1 H1 (k d) Q:=by
 match m,h with
 |none,h=>exact h
 |some (.ok d),h=>exact λv H2 F2 e2 q=>⟨F2,d,e2,q,WPF.ext e2 (show WPF K Xw F H (k d) Q from h)⟩
 |some (.ex n),h=>exact h
def WPF.bindL{K:X5}(h:WPF K Xw F H (m>>=k) Q):WPL K Xw F H m λv H1=>∃F1 d,Ext F H F1 H1/\DenL K F1 d v/\WPF K Xw F1 H1 (k d) Q:=by
 match m,h with
 |none,h=>exact h
 |some (.ok d),h=>exact λv H2 F2 e2 q=>⟨F2,d,e2,q,WPF.ext e2 (show WPF K Xw F H (k d) Q from h)⟩
 |some (.ex n),h=>exact h
def Me(a b:DF):DF:=λZ=>orM (a Z) (b Z)
section
variable{X:Cx}{Xw:Nat->Hp->Prop}{e k v a b:Expr}{es:List Expr}{δ δ':DF}{pos pos' p:Pos}{x:Str}{i:Nat}
def JZ(h:LF X Xw e δ)(h':LF X Xw e δ'):LF X Xw e (Me δ δ'):=λf8 s σ H Q I ⟨F,Z,S,w⟩=>by
 unfold Me orM at w;cases q:δ Z with
 |none=>rw[q] at w;exact h' f8 s σ H Q I ⟨F,Z,S,w⟩
 |some r=>rw[q] at w;exact h f8 s σ H Q I ⟨F,Z,S,by rw[q];exact w⟩
def mT(hN:X.N.Nodup)(hi:X.N[i]? =some x)(hx:Loc X.env.scope x)(he:LF X Xw e δ)(hf:X.fn x=true\/X.env.scope.names.lookup x=some .local:=by first | exact .inl rfl | exact .inr rfl)
 (hs:acH [.Name x pos'] e pos.line X.env=pure false:=by rfl):
 g8 X Xw (.Assign [.Name x pos'] e pos) (pE i δ):=λu8 aeH=>PS.weak (oz he (aL hN hi hx hf) hs) λD σ H ⟨F,Z,s,w⟩=>by
 refine⟨F,Z,s.st,?_⟩;unfold pE at w
 match δ Z,w with
 |none,w=>exact w
 |some (.ok c),w=>exact λa o H' F' E h1 h2 h3 h4=>w _ F' H' (s.setFresh E h1 h2 h3 h4)
 |some (.ex n),w=>exact λF' H' e'=>w F' H' (s.ext.trans e')
def Ext.fresh{F H:Hp}{p:Addr}(s:Same F H)(hp:H p=none):Ext F H F (upd H p o)/\F p=none:=⟨Ext.free s hp,Same.free s hp⟩
def OR{a:Addr}{y v:V}(hu:A.units+1<cLine)(I:Inv X f8 σ H s)(g:DPut H a y v H')(ry:RelV y u)(rv:RelV v r)(h:∀s',Inv X f8 σ H' s'->Q () s'):
 wpAny (model X.prog X.w) A (dictSet a u r) Q E s:=by
 rcases g with⟨kvs,k,e,ey,l,eH⟩ | ⟨kvs,k,b,e,ey,eb,l,eH⟩
 ·subst ey eH;obtain⟨z,hd,vs,rel,dd⟩:=Fu I.hok e;have hz:vs.length<=Yl:=by rw[<-rel.length];exact z
  have hl:(putK kvs k v).length<=Yl:=by have:=eu kvs k v;omega
  refine wpAny_dictSet_pairs (l_ ry) dd λh' Af hs=>h _ ?_;have he:∃q,h'.get? a=some q:=let ⟨q,_,_,hq,_⟩:=Af;⟨q,hq⟩
  exact kc I (by rw[e];exact Z6) hs he (Ay hl hd (rel.put k rv) Af)
 ·subst ey eH;cases (show u=YF b from ry);obtain⟨z,hd,xs,rel,dd⟩:=Fy I.hok e;have hz:xs.length<=Yl:=by rw[<-Z9 rel];exact z
  have hl:(putK kvs k v).length<=Yl:=by have:=eu kvs k v;omega
  refine wpAny_dictSet_heap (by exact(show A.units<cLine by omega)) (iR I.hok eb) dd λh' Af hs=>h _ ?_;obtain⟨q,es,ep,hq,h2,h3,h4,_,h5⟩:=Af;refine kc I (by rw[e];exact Z6) hs ⟨q,hq⟩ ⟨hl,hd,_,(rel.put k eb rv).keeps λc ys ec=>?_,q,es,ep,hq,h2,h3,h4,h5⟩;rw[av (Gs ec e (λz=>nomatch z))];exact ec
end
section
variable{X:Cx}{Xw:Nat->Hp->Prop}{e k v a b:Expr}{es:List Expr}{δk δv δa δb:DE}{pos p:Pos}{x:Str}{i:Nat}
def yu(hu:X.A.units+1<cLine)(h0:∀(H:Hp) (h:Heap),Zu<h.objs.size->ObjOk X.prog X.w H (h.push {cls:= .type "dict",data:= .dict #[]}) h.objs.size o0)(hk:PE X k tk)(hv:PE X v tv):
 PE X (.Dict [some k] [v] pos) (λσ H Q=>∀p,H p=none->tk σ (upd H p o0) λy H1=>tv σ H1 λz H2=>∃H3,DPut H2 p y z H3/\Q (.ref p) H3):=by
 intro f8 s σ H Q I q;have hn:=I.hok.fresh (X4 s.heap.objs.size);have I1:=I.laid (t':=s.toks) (λ_ _ q=>XZ _ q) (X4 _) (h0 _ s.heap I.big);refine wpAny_Dict_any rfl rfl (by simp) (by simp) (bX (Hc hk hv Kb f8 _ σ _ (λps H2=>∃y z H3,ps=[(y,z)]/\DPut H2 s.heap.objs.size y z H3/\Q (.ref s.heap.objs.size) H3) I1 ?_) λws s2 ⟨ps,H2,I2,rel,y,z,H3,ep,g,q2⟩=>?_)
 ·refine ?_;have:=q _ hn;show tk σ _ λy H1=>tv σ H1 λz H2=>∃y' z' H3,[(y,z)]=[(y',z')]/\DPut H2 s.heap.objs.size y' z' H3/\Q (.ref s.heap.objs.size) H3;have e:(λ(y:V) (H1:Hp)=>tv σ H1 λz H2=>∃y' z' H3,[(y,z)]=[(y',z')]/\DPut H2 s.heap.objs.size y' z' H3/\Q (.ref s.heap.objs.size) H3)=(λy H1=>tv σ H1 λz H2=>∃H3,DPut H2 s.heap.objs.size y z H3/\Q (.ref s.heap.objs.size) H3):=by
   funext y H1;congr 1;funext z H2;refine propext ⟨λ⟨y',z',H3,ee,r⟩=>?_,λ⟨H3,r⟩=>⟨y,z,H3,rfl,r⟩⟩;cases ee;exact⟨H3,r⟩
  rw[e];exact this
 ·subst ep;cases rel with
  | @cons a b as bs h t=>
    cases t;obtain⟨r1,r2⟩:=h;unfold storeAll;rw[acQ];refine XX (XX (OR hu I2 g r1 r2 λs3 I3=>?_));refine Yc ?_;show wpAny _ _ (forIn ([]:List (Value×Value)) aaT _) _ _ _;rw[List.forIn_nil];exact Yc ⟨V.ref s.heap.objs.size,_,I3,rfl,q2⟩
def lU(k v:D):M C:=match iP k with
 |some kk=>aa (.dct [kk] [v])
 |none=>ag
def lT(k v:D):M C:=match ro k with
 |some kk=>aa (.dci [kk] [v])
 |none=>ag
def u_(hu:X.A.units+64<cLine)(hk:PD X Xw k δk)(hv:PD X Xw v δv):LF X Xw (.Dict [some k] [v] pos) (λZ=>δk Z>>=λx=>δv Z>>=λy=>lU x y):=
 PE.weak (yu (o0:= .dT []) (by omega) (λH h hb=>yy h hb) hk hv) λσ H Q ⟨F,Z,s,w⟩ q hq=>by
  have e0:=Ext.free (o:= .dT []) s.fh hq;refine⟨F,Z,s.ext e0,?_⟩;have w:WPF X.K Xw F H (δk Z>>=λx=>δv Z>>=λy=>lU x y) Q:=w
  match DK:δk Z,w with
  |none,w=>exact w
  |some (.ex n),w=>exact λF' H' e'=>w F' H' (e0.trans e')
  |some (.ok kd),w=>
   intro y H1 F1 e1 q1;refine⟨F1,Z,(s.ext e0).ext e1,?_⟩;have w:WPF X.K Xw F H (δv Z>>=λy=>lU kd y) Q:=w
   match Rq:δv Z,w with
   |none,w=>exact w
   |some (.ex n),w=>exact λF' H' e'=>w F' H' (e0.trans (e1.trans e'))
   |some (.ok vd),w=>
    intro z H2 F2 e2 q2;have w3:WPF X.K Xw F H (lU kd vd) Q:=w;clear w;unfold lU at w3;cases Ah:iP kd with
    |none=>rw[Ah] at w3;exact w3.elim
    |some kk=>
     rw[Ah] at w3;have E:=e1.trans e2;have PB:H2 q=some (.dT []):=E.hh _ _ aB;have O4:F2 q=none:=by
      have:=E.old aB (λ_ z=>nomatch z);rw[this];exact Same.free s.fh hq
     unfold iP at Ah;split at Ah
     ·rename_i es;obtain⟨b,ws,rfl,k2,k3,_⟩:=Den.mono e2.ff q1;have e5:=jB Ah k3;subst e5;refine⟨_,DPut.t PB (e2.fh _ _ k2) (by rw[ZM];decide),?_⟩;refine w3 q (.dT (putK [] kk z)) _ F2 ⟨λc u hc=>?_,(e0.trans E).ff,λc u hc=>?_,(e0.trans E).new⟩ aB O4 hq ⟨[z],rfl, .cons q2 .nil,rfl,show 1<=lim by decide⟩
      ·rw[av (λzz=>by rw[zz,hq] at hc;cases hc)];exact(e0.trans E).hh c u hc
      ·rw[av (λzz=>by rw[zz,O4] at hc;cases hc)];exact e2.fh c u hc
     ·cases Ah
def u9(hu:X.A.units+64<cLine)(hk:PD X Xw k δk)(hv:PD X Xw v δv):LF X Xw (.Dict [some k] [v] pos) (λZ=>δk Z>>=λx=>δv Z>>=λy=>lT x y):=
 PE.weak (yu (o0:= .dK []) (by omega) (λH h hb=>yw h hb) hk hv) λσ H Q ⟨F,Z,s,w⟩ q hq=>by
  have e0:=Ext.free (o:= .dK []) s.fh hq;refine⟨F,Z,s.ext e0,?_⟩;have w:WPF X.K Xw F H (δk Z>>=λx=>δv Z>>=λy=>lT x y) Q:=w
  match DK:δk Z,w with
  |none,w=>exact w
  |some (.ex n),w=>exact λF' H' e'=>w F' H' (e0.trans e')
  |some (.ok kd),w=>
   intro y H1 F1 e1 q1;refine⟨F1,Z,(s.ext e0).ext e1,?_⟩;have w:WPF X.K Xw F H (δv Z>>=λy=>lT kd y) Q:=w
   match Rq:δv Z,w with
   |none,w=>exact w
   |some (.ex n),w=>exact λF' H' e'=>w F' H' (e0.trans (e1.trans e'))
   |some (.ok vd),w=>
    intro z H2 F2 e2 q2;have w3:WPF X.K Xw F H (lT kd vd) Q:=w;clear w;unfold lT at w3;cases Ah:ro kd with
    |none=>rw[Ah] at w3;exact w3.elim
    |some kk=>
     rw[Ah] at w3;have E:=e1.trans e2;have PB:H2 q=some (.dK []):=E.hh _ _ aB;have O4:F2 q=none:=by
      have:=E.old aB (λ_ z=>nomatch z);rw[this];exact Same.free s.fh hq
     have e5:=ig Ah (Den.mono e2.ff q1);subst e5;refine⟨_,DPut.k PB (by rw[ZM];decide),?_⟩;refine w3 q (.dK (putK [] kk z)) _ F2 ⟨λc u hc=>?_,(e0.trans E).ff,λc u hc=>?_,(e0.trans E).new⟩ aB O4 hq ⟨[z],rfl, .cons q2 .nil,rfl,show 1<=lim by decide⟩
     ·rw[av (λzz=>by rw[zz,hq] at hc;cases hc)];exact(e0.trans E).hh c u hc
     ·rw[av (λzz=>by rw[zz,O4] at hc;cases hc)];exact e2.fh c u hc
def vz{K:X5}{d k:D}{x y:V}(s:Same F H)(hd:Den K F d x)(hk:Den K F k y)(e:BM d k=some o):
 ∃a ov,x= .ref a/\k8 H a y ov/\ov.isSome=o.isSome/\∀d',o=some d'->∃v,ov=some v/\Den K F d' v:=by
 obtain⟨a,ov,h1,h2,h3,h4⟩:=BN (σ:=[some x]) (Z:=[some (.fz d)]) (i:=0) ⟨s,λi sl q=>by
  match i,q with
  |0,q=>cases q;exact⟨x,rfl,hd⟩
  |i+1,q=>simp at q⟩ rfl hk e
 cases h1;exact⟨a,ov,rfl,h2,h3,h4⟩
def kF(neg:Bool)(k d:D):M D:=match BM d k with
 |some o=>aa (.bl (if neg then !o.isSome else o.isSome))
 |none=>ag
def NU(neg:Bool):R2:=λy x H Q=>∃a o,x= .ref a/\k8 H a y o/\Q (.bl (if neg then !o.isSome else o.isSome)) H
def Nc(hu:X.A.units+64<cLine):OpR X (Y8 .In) (NU false):=λf8 s σ H y x v u Q I ry rx ⟨a,o,ex,g,q⟩=>by
 subst ex;obtain rfl:u=YF a:=rx;exact OP (by omega) I g ry λs' I'=>⟨.bl o.isSome,_,I',rfl,q⟩
def Ej(hu:X.A.units+64<cLine):OpR X (Y8 .NotIn) (NU true):=λf8 s σ H y x v u Q I ry rx ⟨a,o,ex,g,q⟩=>by
 subst ex;obtain rfl:u=YF a:=rx;exact IB (by omega) I g ry λs' I'=>⟨.bl (!o.isSome),_,I',rfl,q⟩
def Cw{K:X5}:Ac K (NU neg) (kF neg):=λXw F H y x dk dd Q s hk hd w=>by
 unfold kF at w;cases he:BM dd dk with
 |none=>rw[he] at w;exact w.elim
 |some o=>
  rw[he] at w;obtain⟨a,ov,h1,h2,h3,_⟩:=vz s hd hk he;refine⟨a,ov,h1,h2,?_⟩;rw[h3];exact WP.now w s rfl
def NM(hu:X.A.units+64<cLine)(ha:PD X Xw a δa)(hb:PD X Xw b δb)(hm:Zf .In b=false:=by rfl):qA X Xw (.Compare a [.In] [b] pos) (dH (d2 (kF false) δa δb)):=kx (Nc hu) Cw ha hb hm
def oC(hu:X.A.units+64<cLine)(ha:PD X Xw a δa)(hb:PD X Xw b δb)(hm:Zf .NotIn b=false:=by rfl):qA X Xw (.Compare a [.NotIn] [b] pos) (dH (d2 (kF true) δa δb)):=kx (Ej hu) Cw ha hb hm
def bp(d k:D):M D:=match BM d k with
 |some (some v)=>aa v
 |_=>ag
def bS(hu:X.A.units+64<cLine)(ha:PD X Xw a δa)(hb:PD X Xw b δb)(hs:LA b:=by intro _ _;rfl):PD X Xw (.Subscript a b pos) (d2 bp δa δb):=
 PE.weak (J4 (by omega) ha hb hs) λσ H Q ⟨F,Z,s,w⟩=>by
  refine⟨F,Z,s,WP.mono (WP.bind w) λx H1 ⟨F1,d,e1,q1,w1⟩=>?_⟩;refine⟨F1,Z,s.ext e1,WP.mono (WP.bind w1) λy H2 ⟨F2,k,e2,q2,w2⟩=>?_⟩;unfold bp at w2;cases he:BM d k with
  |none=>rw[he] at w2;exact w2.elim
  |some o=>
   cases o with
   |none=>rw[he] at w2;exact w2.elim
   |some d'=>
    rw[he] at w2;obtain⟨a,ov,h1,h2,h3,h4⟩:=vz e2.fh (Den.mono e2.ff q1) q2 he;obtain⟨v,rfl,hd⟩:=h4 d' rfl;exact⟨a,v,h1,h2,WP.now w2 e2.fh hd⟩
end
section
variable{X:Cx}{f8:List (Addr×Obj)}{σ:St}{H:Hp}{s:X1}{h':Heap}
def Inv.turnedLaid{ch:List Addr}(I:Inv X f8 σ H s)(k:∀b q,b∉ch->s.heap.get? b=some q->h'.get? b=some q)(hf:∀b∈ch,qy X f8 H b)(hp:s.heap.objs.size<=a)(new:ObjOk X.prog X.w (upd H a o) h' a o):
 Inv X f8 σ (upd H a o) {s with heap:=h',toks:=t'}:=by
 have hn:=I.hok.fresh hp;have Lh:∀b u,H b=some u->b∉ch:=λb u e z=>by rw[(hf b z).1] at e;cases e
 refine I.step (λb hb=>?_) (λb q _ _ hc e _=>k b q hc e) (λb q _ _ hc e _=>⟨q.slots,k b q hc e⟩) (λb q hc e n=>?_)
  (λb q hc e=>⟨q,k b q hc e⟩) (λb xs e=>?_) (λb q u e=>?_) (λb ps e=>⟨#[],?_⟩) (λm hm=>?_) (λb u e=>?_) I.bare
 ·obtain⟨f0,f1,f2,f3,f4,f5⟩:=hf b hb;exact⟨f3,f1,f4,f5⟩
 ·rw[av (λz=>by rw[z] at e;exact aeB (Yd e) (Nat.not_lt.mpr hp))];exact n
 ·rw[av (a_ e hn)];exact e
 ·rw[av (a_ e hn)];exact e
 ·rw[av (a_ e hn),e];simp
 ·obtain⟨q,es,ep,ho,r⟩:=hm;exact⟨q,es,ep,k _ q (λz=>(hf _ z).2.1 rfl) ho,r⟩
 ·by_cases hb:b=a
  ·subst hb;rw[aB] at e;cases e;exact new
  ·rw[av hb] at e;refine(I.hok b u e).stay (λc v hc q=>k c v ?_ q) (λc q=>by rw[av (a_ q hn)];exact q) λc xs q=>by rw[av (a_ q hn)];exact q
   rcases hc with z | z
   ·rw[z];exact Lh b u e
   ·exact Lh c _ z
def Inv.turnedL{ch:List Addr}(I:Inv X f8 σ H s)(k:∀b q,b∉ch->s.heap.get? b=some q->h'.get? b=some q)(hf:∀b∈ch,qy X f8 H b):Inv X f8 σ H {s with heap:=h',toks:=t'}:=by
 have Lh:∀b u,H b=some u->b∉ch:=λb u e z=>by rw[(hf b z).1] at e;cases e
 refine I.step (λb hb=>?_) (λb q _ _ hc e _=>k b q hc e) (λb q _ _ hc e _=>⟨q.slots,k b q hc e⟩) (λb q hc e n=>n)
  (λb q hc e=>⟨q,k b q hc e⟩) (λb xs e=>e) (λb q u e=>e) (λb ps e=>⟨#[],by rw[e];simp⟩) (λm hm=>?_) (λb u e=>?_) I.bare
 ·obtain⟨f0,f1,f2,f3,f4,f5⟩:=hf b hb;exact⟨f3,f1,f4,f5⟩
 ·obtain⟨q,es,ep,ho,r⟩:=hm;exact⟨q,es,ep,k _ q (λz=>(hf _ z).2.1 rfl) ho,r⟩
 ·refine(I.hok b u e).stay (λc v hc q=>k c v ?_ q) (λc q=>q) λc xs q=>q;rcases hc with z | z
  ·rw[z];exact Lh b u e
  ·exact Lh c _ z
end
def Ug(K:X5)(a:Addr):It:=
 ⟨λi H=>∃xs x,SqL K H a xs/\xs[i]? =some x,λi H x H'=>∃p,x= .ref p/\H p=none/\∃v,(∀xs,SqL K H a xs->xs[i]? =some v)/\H'=upd H p (.tup [.int (i:Int),v]),λi H=>∃xs,SqL K H a xs/\xs.length<=i⟩
def EG{K:X5}(l e it:Addr)(UM:e≠it):
 Turn P w K (.Tuple es x1 tp) (Ug K l) [e,it] e (λi h=>∃old,IsEnum h e it (i:Int) old/\h.IsListIter it l i) where
 mem:=by simp
 obj:=λi h ⟨old,Bs,tG⟩ b hb=>by
  rcases XY.mp hb with z | z
  ·subst z;exact⟨_,Bs,λv z=>nomatch z⟩
  ·have z:b=it:=by simpa using z
   subst z;obtain⟨o,e1,c,d⟩:=tG;exact⟨o,e1,λv z=>by rw[d] at z;cases z⟩
 keep:=λi h h' ⟨old,Bs,tG⟩ k=>⟨old,k e (by simp) _ Bs,tG.at λo q=>k it (by simp) o q⟩
 item:=by
  intro X hP hw hK hc i f8 s σ H E I hf st hg;subst hP hw hK;obtain⟨old,Bs,tG⟩:=st;obtain⟨xs,x,hq,hx⟩:=hg;obtain⟨aT,rv,p,hz⟩:=I.list hq;obtain⟨u,hu,ru⟩:=rv.get hx;refine wpAny_pyNext_enum_item Bs tG p.isList (by simpa using hu) UM λh1 k1 k2 k3 k4 k5=>?_;refine⟨_,rfl,wpAny_letOwnedTupleGo_enum k1 λh2 m1 m2=>?_⟩;have dm:s.heap.objs.size≠e:=aab (Yd Bs);have T_:h2.get? s.heap.objs.size=some {cls:= .type "tuple",data:= .seq #[.int i s.toks,u]}:=(m2.2 _ dm).trans k3;have keep:∀b q,b∉[e,it]->s.heap.get? b=some q->h2.get? b=some q:=λb q hb e1=>by
   have UE:b≠e:=λz=>hb (by simp[z]);have Se:b≠it:=λz=>hb (by simp[z]);exact(m2.2 b UE).trans (k5 b q UE Se e1)
  have I2:Inv X f8 σ (upd H s.heap.objs.size (.tup [.int (i:Int),x])) {s with heap:=h2,toks:=s.toks+1}:=by
   refine Inv.turnedLaid I keep hf (X4 _) ⟨?_,[.int i s.toks,u], .cons ⟨_,rfl⟩ (.cons ru .nil),_,T_,rfl,_,rfl⟩;rw[ZM];show 2<=_;decide
  refine⟨.ref s.heap.objs.size,_,I2,rfl,⟨_,rfl,I.hok.fresh (X4 _),x,λys hy=>by rw[I.list_inj hy hq];exact hx,rfl⟩,⟨u,?_,?_⟩,λb hb=>?_⟩
  ·have:((i+1:Nat):Int)=(i:Int)+1:=by push_cast;rfl
   rw[this];exact m1
  ·exact k2.at λo q=>(m2.2 it (YJ UM)).trans q
  ·rw[av (λz=>by
    rcases XY.mp hb with y | y
    ·exact aeB (Yd Bs) (by rw[<-y,z];exact YV _)
    ·have y:b=it:=by simpa using y
     obtain⟨o,q1,_⟩:=id tG;exact aeB (Yd q1) (by rw[<-y,z];exact YV _))]
   exact(hf b hb).1
 done:=by
  intro X hP hw hK hc i f8 s σ H E I hf st hg;subst hP hw hK;obtain⟨old,Bs,tG⟩:=st;obtain⟨xs,hq,hx⟩:=hg;obtain⟨aT,rv,p,hz⟩:=I.list hq;have hl:=rv.length;exact wpAny_pyNext_enum_end (I.ok.hd hc) Bs tG p.isList (by simp;omega) λh' eb=>⟨rfl,Inv.turnedL I (λb q hb e1=>eb b q (λz=>hb (by simp[z])) e1) λb hb=>hf b (XT _ hb)⟩
 self:=λA i s Q E st h=>by
  obtain⟨old,Bs,tG⟩:=st;exact wpAny_pyIter_enum Bs h
def Ga{K:X5}{F:Hp}(h:SqL K F a vs)(hd:DenL K F ds vs):ItD K F (Ug K a) (ds.mapIdx λi d=> .tup [.int (i:Int),d]):=λF' H' i s1 s2=>by
 have hs:=Same.seq s2 (Same.seq s1 h);refine⟨λd e=>?_,λhl=>⟨vs,hs,by rw[List.length_mapIdx,hd.len] at hl;exact hl⟩⟩;rw[adX] at e;cases q:ds[i]? with
 |none=>rw[q] at e;cases e
 |some d0=>
  rw[q] at e;cases e;obtain⟨v,e1,q1⟩:=hd.get q;refine⟨⟨vs,v,hs,e1⟩,λx H'' ⟨p,y1,y2,u,y3,y4⟩=>?_⟩;subst y1 y4;have:=y3 vs hs;rw[e1] at this;cases this;have E:=Ext.lay (o:= .tup [.int (i:Int),v]) s2 y2;exact⟨_,E,p,_,rfl,aB, .cons rfl (.cons (Den.mono E.ff (Den.mono s1 q1)) .nil),by show 2<=lim;decide⟩
section
variable{X:Cx}{Xw:Nat->Hp->Prop}{e:Expr}{es:List Expr}{δs:DA}{pos p tp:Pos}{x1:Nat}
def yz:List D->M (List D)
 |[.lst ds]=>aa (ds.mapIdx λi d=> .tup [.int (i:Int),d])
 |_=>ag
def zw(hg:Gl X "enumerate")(hm:X.mg "enumerate"=none)(ha:jm X Xw [e] δs)(hs:Yg [e] X.env=[(false,eval e X.env)]:=by rfl):xQ X Xw (.Tuple es x1 tp) (.Call (.Name "enumerate" p) [e] [] pos) (λZ=>δs Z>>=yz):=by
 intro f8 s σ H R I ⟨F,Z,S,w⟩;refine Call_ (lB I hg hm (show YN "enumerate"=some (.type "enumerate") from rfl) (aaa (bX (ha pos f8 s σ H (λvs H1=>∃F1 ds,Ext F H F1 H1/\DenL X.K F1 ds vs/\WPI X.K Xw F1 H1 (yz ds) R) I ⟨F,Z,S,WPI.bindL w⟩) λus s1 ⟨vs,H1,I1,r1,F1,ds,e1,q1,w1⟩=>?_) hs rfl));unfold yz at w1;split at w1
 ·rename_i ds;obtain⟨v,rfl,h1⟩:=q1.one;obtain⟨a,xs,rfl,h2,h3,h4⟩:=h1;obtain⟨u,rfl,r2⟩:=r1.one;cases (show u=_ from r2);obtain⟨aT,rv,pl,hz⟩:=I1.list (SqL.of (K:=X.K) (e1.fh _ _ h2));refine call_enumerate_list pl.isList λh' k1 k2 k3 k4=>?_;refine wpAny_pyIter_enum k1 ?_;refine⟨s1.heap.objs.size+1,[s1.heap.objs.size+1,s1.heap.objs.size],_,_,H1,rfl,I1.kept λb o e=>k4 b o e,EG a _ _ (aab (ZS _)),⟨.none,k1,k2⟩,λb hb=>?_,w1 _ _ _ (Ext.refl e1.fh) (Ga (SqL.of h2) h3)⟩;have e:s1.heap.objs.size<=b:=by
   rcases XY.mp hb with z | z
   ·rw[z];exact ac4 _
   ·have z:b=s1.heap.objs.size:=by simpa using z
    rw[z];exact X4 _
  exact I1.fpOk e (I1.hok.fresh e)
 ·exact w1.elim
end
def DV:Key->D
 | .inl i=> .int i
 | .inr x=> .str x
def KI(H:Hp)(d:Addr)(od:Obj)(i:Nat)(x:V):Prop:=
 (∃kvs k b,H d=some (.frz od (.dT kvs))/\(kvs.map (·.1))[i]? =some k/\x= .ref b/\H b=some (.tup (k.map kV)))\/
 ∃kvs k,H d=some (.frz od (.dK kvs))/\(kvs.map (·.1))[i]? =some k/\x=kV k
def Ue(d:Addr)(od:Obj):It:=
 ⟨λi H=>(∃kvs,H d=some (.frz od (.dT kvs))/\i<kvs.length)\/∃kvs,H d=some (.frz od (.dK kvs))/\i<kvs.length,λi H x H'=>H'=H/\KI H d od i x,
  λi H=>(∃kvs,H d=some (.frz od (.dT kvs))/\kvs.length<=i)\/∃kvs,H d=some (.frz od (.dK kvs))/\kvs.length<=i⟩
def pq{R:α->β->Prop}(h:∀a b,R a b->f a=g b):∀{l:List α}{m:List β},acx R l m->l.map f=m.map g
 |_,_, .nil=>rfl
 |_,_, .cons r t=>by rw[X3,X3,h _ _ r,pq h t]
def lH:∀{l:List α}{m:List β}{i:Nat}{a:α},acx R l m->l[i]? =some a->∃b,m[i]? =some b/\R a b
 |_,_,i,_, .nil,e=>by simp at e
 |_,_,0,_, .cons r t,e=>by simp at e;subst e;exact⟨_,rfl,r⟩
 |_,_,i+1,_, .cons r t,e=>by
  obtain⟨b,e1,e2⟩:=lH t (by simpa using e);exact⟨b,by simpa using e1,e2⟩
def El{w:World}{κ:Type}[DecidableEq κ]{knd:KeyKind prog w κ}:∀{es:List abP}{kvs:List (κ×Value)}{i:Nat}{kv:κ×Value},Pairs knd es kvs->kvs[i]? =some kv->∃e,es[i]? =some e/\knd.is kv.1 e.key=true:=by
 intro es kvs i kv h e;induction h generalizing i with
 |nil=>simp at e
 | @cons en XN Mc Qa h1 h2 h3 ih=>
   cases i with
   |zero=>simp at e;subst e;exact⟨en,rfl,h1⟩
   |succ i=>
    obtain⟨q,e1,e2⟩:=ih (by simpa using e);exact⟨q,by simpa using e1,e2⟩
def MS(h:md k u=true):RelV (kV k) u:=by
 rcases bC h with⟨i,t,rfl,rfl⟩ | ⟨x,t,rfl,rfl⟩
 ·exact⟨t,rfl⟩
 ·exact⟨t,rfl⟩
def qO{σ:St}{H:Hp}(I:Inv X f8 σ H s)
 (h:(∃kvs,H d=some (.frz od (.dT kvs))/\n=kvs.length)\/∃kvs,H d=some (.frz od (.dK kvs))/\n=kvs.length):
 ∃es ep,(d==Zu)=false/\s.heap.get? d=some od/\od.ExactDict/\od.data= .dict es ep/\es.size=n/\∀i,i<n->∃e x,es[i]? =some e/\RelV x e.key/\KI H d od i x:=by
 rcases h with⟨kvs,e,rfl⟩ | ⟨kvs,e,rfl⟩
 ·obtain⟨ho,z,lo,xs,rel,o,es,ep,h1,h2,h3,h4,h5⟩:=(show ObjOk X.prog X.w H s.heap d (.frz od (.dT kvs)) from I.hok d _ e)
  rw[ho] at h1;cases h1;have hl:es.size=kvs.length:=by
   rw[<-YB,h4,XS];exact(Z9 rel).symm
  refine⟨es,ep,lo,ho,h2,h3,hl,λi hi=>?_⟩;obtain⟨q,e1,e2,e3,e4⟩:=lH rel (XW hi);refine⟨adZ (aap (aU X.prog X.w)) q, .ref q.2.1,?_,rfl, .inl ⟨kvs,kvs[i].1,q.2.1,e,?_,rfl,e3⟩⟩
  ·rw[<-Zn,h4,X6,e1];rfl
  ·rw[X6,XW hi];rfl
 ·obtain⟨ho,z,lo,vs,rel,o,es,ep,h1,h2,h3,h4,h5,h6⟩:=(show ObjOk X.prog X.w H s.heap d (.frz od (.dK kvs)) from I.hok d _ e)
  rw[ho] at h1;cases h1;have hl:es.size=kvs.length:=by
   rw[<-YB,h5.length];exact(Z9 rel).symm
  refine⟨es,ep,lo,ho,h2,h3,hl,λi hi=>?_⟩;obtain⟨q,e1,e2,e3⟩:=lH rel (XW hi);obtain⟨en,e4,e5⟩:=El h5 e1;refine⟨en,kV kvs[i].1,by rw[<-Zn];exact e4,?_, .inr ⟨kvs,kvs[i].1,e,by rw[X6,XW hi];rfl,rfl⟩⟩;rw[e2];exact MS e5
def EH{K:X5}(d it:Addr)(od:Obj)(es:Array abP)(ep:Nat)(pX:od.data= .dict es ep):
 Turn P w K tg (Ue d od) [it] it (λi h=>h.IsKeyIter it d i es.size ep) where
 mem:=by simp
 obj:=λi h st b hb=>by
  have e:b=it:=by simpa using hb
  subst e;obtain⟨o,e,c,dd⟩:=st;exact⟨o,e,λv z=>by rw[dd] at z;cases z⟩
 keep:=λi h h' st k=>st.at λo e=>k it (by simp) o e
 item:=by
  intro X hP hw hK hc i f8 s σ H E I hf st hg;subst hP hw hK;obtain⟨n,hn,hi⟩:∃n,((∃kvs,H d=some (.frz od (.dT kvs))/\n=kvs.length)\/∃kvs,H d=some (.frz od (.dK kvs))/\n=kvs.length)/\i<n:=by
   rcases hg with⟨kvs,e,hi⟩ | ⟨kvs,e,hi⟩
   ·exact⟨_, .inl ⟨kvs,e,rfl⟩,hi⟩
   ·exact⟨_, .inr ⟨kvs,e,rfl⟩,hi⟩
  obtain⟨Mc,IG,lo,ho,hx,qj,hsz,hk⟩:=qO I hn;rw[pX] at qj;cases qj;obtain⟨en,x,e1,rx,ka⟩:=hk i hi;obtain⟨f0,f1,f2,f3,f4,f5⟩:=hf it (by simp);refine y_ st ho pX e1 λh' pG sb=>?_;have I1:Inv X f8 σ H {s with heap:=h'}:=I.turned (λb o hb e=>(sb.2 b hb).trans e) f0 f1 f3 f4 f5;obtain⟨o,e2,c,dd⟩:=id pG;exact⟨_,rfl,uH e2 c dd (by decide) ⟨x,H,I1,rx,⟨rfl,ka⟩,pG,λb hb=>(hf b hb).1⟩⟩
 done:=by
  intro X hP hw hK hc i f8 s σ H E I hf st hg;subst hP hw hK;obtain⟨n,hn,hi⟩:∃n,((∃kvs,H d=some (.frz od (.dT kvs))/\n=kvs.length)\/∃kvs,H d=some (.frz od (.dK kvs))/\n=kvs.length)/\n<=i:=by
   rcases hg with⟨kvs,e,hi⟩ | ⟨kvs,e,hi⟩
   ·exact⟨_, .inl ⟨kvs,e,rfl⟩,hi⟩
   ·exact⟨_, .inr ⟨kvs,e,rfl⟩,hi⟩
  obtain⟨Mc,IG,lo,ho,hx,qj,hsz,hk⟩:=qO I hn;rw[pX] at qj;cases qj;obtain⟨f0,f1,f2,f3,f4,f5⟩:=hf it (by simp);exact uD (I.ok.hd hc) st (by omega) ho pX λh' eb=>⟨rfl,I.turned (λb o hb e=>eb b o hb e) f0 f1 f3 f4 f5⟩
 self:=λ_ _ _ _ _ st h=>wpAny_pyIter_keyiter st h
def tupK(k:List Key):D:= .tup (k.map DV)
def o9:Key->Bool
 | .inl _=>true
 | .inr x=>decide (x.length<=lim)
def eW:D->M (List D)
 | .dct ks _=>if ks.all (λk=>decide (k.length<=lim)&&k.all o9) then aa (ks.map tupK) else ag
 | .dci ks _=>if ks.all o9 then aa (ks.map DV) else ag
 |_=>ag
def yQ{K:X5}(h:o9 k=true):Den K F (DV k) (kV k):=by
 cases k with
 |inl i=>exact rfl
 |inr x=>exact⟨rfl,aeC h⟩
def uQ{K:X5}:∀{k:List Key},k.all o9=true->DenL K F (k.map DV) (k.map kV)
 |[],_=>rfl
 |x::k,h=>by
  rw[aaQ,Yo] at h;exact .cons (yQ h.1) (uQ h.2)
def Gb{K:X5}(hd:Den K F d (.ref a))(hF:∃u,F a=some (.frz ob u))(e:eW d=aa ds):ItD K F (Ue a ob) ds:=λF' H' i s1 s2=>by
 unfold eW at e;split at e
 ·rename_i ks es;split at e
  ·rename_i hok;obtain rfl:=d8 e;obtain⟨a',Xb,vs,z,h2,h3,h4,h5⟩:=hd;cases z;obtain⟨u,hu⟩:=hF;rw[h2] at hu;cases hu;have hh:=s2 _ _ (s1 _ _ h2);have hz:=gS (b:=vs) (by rw[h4];exact h3.len);have hl:(ks.zip vs).length=ks.length:=by rw[<-XS,hz]
   refine⟨λd e=>?_,λhle=> .inl ⟨_,hh,by rw[hl];simpa using hle⟩⟩;rw[X6] at e;cases q:ks[i]? with
   |none=>rw[q] at e;cases e
   |some k=>
    rw[q] at e;cases e;have hi:=(X0.mp q).1;refine⟨.inl ⟨_,hh,by rw[hl];exact hi⟩,λx H'' ⟨y1,y2⟩=>?_⟩;subst y1;have hk:=Yn.mp hok k (Yi q);rw[Yo] at hk;rcases y2 with⟨kvs,k',b,q1,q2,rfl,q3⟩ | ⟨kvs,k',q1,q2,rfl⟩
    ·rw[hh] at q1;cases q1;rw[hz,q] at q2;cases q2;have E:=Ext.tup s2 q3;exact⟨_,E,b,_,rfl,aB,uQ hk.2,by rw[XS];exact aeC hk.1⟩
    ·rw[hh] at q1;cases q1
  ·exact(cQ e).elim
 ·rename_i ks es;split at e
  ·rename_i hok;obtain rfl:=d8 e;obtain⟨a',Xb,vs,z,h2,h3,h4,h5⟩:=hd;cases z;obtain⟨u,hu⟩:=hF;rw[h2] at hu;cases hu;have hh:=s2 _ _ (s1 _ _ h2);have hz:=gS (b:=vs) (by rw[h4];exact h3.len);have hl:(ks.zip vs).length=ks.length:=by rw[<-XS,hz]
   refine⟨λd e=>?_,λhle=> .inr ⟨_,hh,by rw[hl];simpa using hle⟩⟩;rw[X6] at e;cases q:ks[i]? with
   |none=>rw[q] at e;cases e
   |some k=>
    rw[q] at e;cases e;have hi:=(X0.mp q).1;refine⟨.inr ⟨_,hh,by rw[hl];exact hi⟩,λx H'' ⟨y1,y2⟩=>?_⟩;subst y1;have hk:=Yn.mp hok k (Yi q);rcases y2 with⟨kvs,k',b,q1,q2,rfl,q3⟩ | ⟨kvs,k',q1,q2,rfl⟩
    ·rw[hh] at q1;cases q1
    ·rw[hh] at q1;cases q1;rw[hz,q] at q2;cases q2;exact⟨F',Ext.refl s2,yQ hk⟩
  ·exact(cQ e).elim
 ·exact(cQ e).elim
section
variable{X:Cx}{Xw:Nat->Hp->Prop}{tg l:Expr}{δ:DE}
def mM(h:PD X Xw l δ):xQ X Xw tg l (λZ=>δ Z>>=eW):=by
 intro f8 s σ H R I ⟨F,Z,S,w⟩;refine bX (h f8 s σ H (λv H1=>∃F1 d,Ext F H F1 H1/\Den X.K F1 d v/\WPI X.K Xw F1 H1 (eW d) R) I ⟨F,Z,S,WPI.bind w⟩) λu s1 ⟨v,H1,I1,r1,F1,d,e1,q1,w1⟩=>?_;rcases(eW d).cs with z | ⟨n,z⟩ | ⟨ds,z⟩
 ·rw[z] at w1;exact w1.elim
 ·exfalso
  unfold eW at z;split at z
  ·split at z<;>cases z
  ·split at z<;>cases z
  ·cases z
 ·rw[z] at w1;obtain⟨a,ob,u',rfl,hF,hn⟩:∃a ob u',v= .ref a/\F1 a=some (.frz ob u')/\∃n,((∃kvs,H1 a=some (.frz ob (.dT kvs))/\n=kvs.length)\/∃kvs,H1 a=some (.frz ob (.dK kvs))/\n=kvs.length):=by
   unfold eW at z;split at z
   ·obtain⟨a,ob,vs,e,h2,_⟩:=q1;exact⟨a,ob,_,e,h2,_, .inl ⟨_,e1.fh _ _ h2,rfl⟩⟩
   ·obtain⟨a,ob,vs,e,h2,_⟩:=q1;exact⟨a,ob,_,e,h2,_, .inr ⟨_,e1.fh _ _ h2,rfl⟩⟩
   ·exact(cQ z).elim
  obtain⟨n,hn⟩:=hn;cases (show u=_ from r1);obtain⟨es,ep,lo,ho,hx,hd,hsz,hk⟩:=qO I1 hn;refine uP lo ho hx hd ?_;refine⟨s1.heap.objs.size,[s1.heap.objs.size],_,_,H1,rfl,I1.kept (t':=s1.toks) λb o e=>XZ _ e,EH a _ ob es ep hd,⟨_,Yj _ rfl,rfl,rfl⟩,λb hb=>?_,w1 _ _ _ (Ext.refl e1.fh) (Gb q1 ⟨_,hF⟩ z)⟩;have e:b=s1.heap.objs.size:=by simpa using hb
  subst e;exact I1.fpOk (X4 _) (I1.hok.fresh (X4 _))
end
end L3
namespace L3
open PySem
section
variable{prog:YK}{w:World}{K:Type}[DecidableEq K]{knd:HeapKind prog w K}{A:YX}{E:Value->X1->Prop}{s:X1}
def sR(hu:knd.room A)(Jb:knd.is s.heap k a)(hm:s.heap.DictOfH knd d xs)(hsz:xs.length<=Yl)
 (hQ:∀h',h'.DictOfH knd d (abc xs k a v)->Z_ d s.heap h'->Q () {s with heap:=h'}):wpAny (model prog w) A (acJ d (.ref a) (knd.hash k) v) Q E s:=by
 obtain⟨o,es,ep,ho,hc,hd,he,Sw,hn⟩:=hm;unfold acJ;refine ZY (XX (wpAny_dictFind_heap hu Jb ho hd he Sw hn (λAN=>?_) λj p hj=>?_))
 ·have e0:=atKey_none_of_get AN;have hz:es.size<=Yl:=by rw[adv he];exact hsz
  refine XX (wpAny_rule (wpAny_updateDictKeys ho hd (hQ _ ?_ (Y1 ..))));rw[storedH_new e0];refine⟨_,_,ep+1,Zq _ ho (ace (aa7 hd _)),hc.mapDictKeys _,aa7 hd _,by simp[he,adZ],λx hx=>?_,?_⟩
  ·rcases Yr.mp hx with hx | hx
   ·exact knd.keeps (Sw x hx) ho hd (Y1 ..)
   ·obtain rfl:x=(k,a,v):=by simpa using hx
    exact knd.keeps Jb ho hd (Y1 ..)
  ·rw[Yx];refine YT.mpr ⟨hn,by simp,λx hx y hy z=>?_⟩;have hy:y=k:=by simpa using hy
   exact not_mem_keys_of_get AN (by rw[<-hy,<-z];exact hx)
 ·have e0:=atKey_of_get hn hj;refine XX (wpAny_rule (XX (wpAny_updateDict ho hd (wpAny_point (hQ _ ?_ (Y1 ..))))));rw[storedH_old e0];refine⟨_,_,ep,Zq _ ho (ace (Obj.data_mapDict hd _)),hc.mapDict _,Obj.data_mapDict hd _,?_,λx hx=>?_,by rw[keys_map_putAt];exact hn⟩
  ·have:=modify_map_putAt (adZ knd) (λe:abP=>{e with val:=v}) k v (λ_ _=>rfl) hn hj;rw[<-he] at this;obtain⟨l⟩:=es;simpa using this
  ·obtain⟨y,hy,rfl⟩:=X9.mp hx;unfold putAt;split<;>exact knd.keeps (Sw y hy) ho hd (Y1 ..)
def bI(xs ys:List (K×Addr×Value)):List (K×Addr×Value):=ys.foldl (λv6 y=>abc v6 y.1 y.2.1 y.2.2) xs
def zY(xs:List (K×Addr×Value))(k:K)(a:Addr)(v:Value):(abc xs k a v).length<=xs.length+1:=by
 unfold abc;split<;>simp
def jE:∀(ys xs:List (K×Addr×Value)),(bI xs ys).length<=xs.length+ys.length
 |[],xs=>X4 _
 |y::ys,xs=>by
  have h1:=jE ys (abc xs y.1 y.2.1 y.2.2);have h2:=zY xs y.1 y.2.1 y.2.2;show (bI (abc xs y.1 y.2.1 y.2.2) ys).length<=_;rw[X7];omega
def mj{xs ys:List (K×Addr×Value)}(h:ys[i]? =some y):bI xs (ys.take (i+1))=abc (bI xs (ys.take i)) y.1 y.2.1 y.2.2:=by
 rw[List.take_add_one,h];unfold bI;rw[aeu];rfl
def jF:∀(ys v6:List (K×Addr×Value)),((v6++ys).map (·.1)).Nodup->bI v6 ys=v6++ys
 |[],v6,_=>by simp[bI]
 |y::ys,v6,hn=>by
  show bI (abc v6 y.1 y.2.1 y.2.2) ys=_;have SE:y.1∉v6.map (·.1):=λh=>by
   rw[Yx] at hn;exact(YT.mp hn).2.2 _ h _ (by simp) rfl
  have e0:atKey v6 y.1=none:=atKey_none_of_get λj p hj=>SE (X9.mpr ⟨_,Yi hj,rfl⟩);rw[storedH_new e0,jF ys (v6++[(y.1,y.2.1,y.2.2)]) (by simpa using hn)];simp
def vO{id:String}(ho:s.heap.get? o=some ob)(hd:ob.data= .dict es ep)
 (hq:∀e∈es.toList,∃a,e.key= .ref a/\s.TypeIs (.ref a) "tuple")(hh:∀e∈es.toList,(es.filter (·.hash==e.hash)).size<=1)(h:Q es s):wpAny (model prog w) A (ab6 id o) Q E s:=by
 unfold ab6;refine XX (ZJ ho hd ?_);rw[<-Array.forIn_toList];refine XX (adg _ (λrest _ s'=>s'=s/\∀e∈rest,e∈es.toList) _ ?_ ?_ _ _ ⟨rfl,λ_ h=>h⟩)
 ·rintro e rest b s' ⟨rfl,hr⟩;obtain⟨a,ea,ta⟩:=hq e (hr e (XU ..));have hf:=hh e (hr e (XU ..));have dW:¬((es.filter (·.hash==e.hash)).size>1):=by omega
  rw[ea];unfold Builtin.Dict.quietEq;refine XX (XX (ads ta F.slot_tuple_eq.lookup (Yc ?_)));simp only[dW,if_false];have:(some (aaM "tuple.__eq__")==some (aaM "object.__eq__"))=false:=by decide
  simp only[this,ade,if_true];exact Yc ⟨rfl,λx hx=>hr x (XT _ hx)⟩
 ·rintro b s' ⟨rfl,_⟩;exact Yc h
def rK(hu:knd.room A)(UL:d≠o)(Wx:(o==Zu)=false)(hd:s.heap.DictOfH knd d xs)(ho:s.heap.DictOfH knd o ys)
 (Wh:∀{h:Heap}{k:K}{a:Addr},knd.is h k a->∃ob,h.get? a=some ob/\ob.cls= .type "tuple")(hh:xs=[]->(ys.map λy=>knd.hash y.1).Nodup)(hsz:xs.length+ys.length<=Yl)
 (hQ:∀h',h'.DictOfH knd d (bI xs ys)->Z_ d s.heap h'->Q () {s with heap:=h'}):wpAny (model prog w) A (acD nm d o) Q E s:=by
 obtain⟨od,VC,VA,DM,uI,pX,V2,XE,DL⟩:=id hd;obtain⟨oo,AB,VB,Py,UI,DH,EO,Sv,AN⟩:=id ho;have hlen:=adv EO;unfold acD;rw[aey (by simpa using UL)];unfold abo;rw[aey (by rw[Wx];exact Yv)];refine XX (Yc (XX (ZJ Py DH ?_)));have loop:∀(body:Nat->PUnit->Sem (ForInStep PUnit)),body=(λi (_:PUnit)=>(do
       let l'<-dictEntries o
       match l'[i]? with
        |some e=>do
         holding [e.key,e.val] (acJ d e.key e.hash e.val)
         let IG<-dictEpoch o
         if (IG !=VB)=true then do (unsupported (aci nm++aci ":source-changed-during-callback"):Sem PUnit);pure (Zd aaT) else pure (Zd aaT)
        |_=>do
         (unsupported "internal:dict-merge":Sem PUnit)
         pure (Zd aaT):Sem (ForInStep PUnit)))->wpAny (model prog w) A (forIn [:AB.size] aaT body) (λ_ s'=>Q () s') E s:=by
  rintro _ rfl;rw[Std.Legacy.Range.forIn_eq_forIn_range'];simp only[Std.Legacy.Range.size,Nat.sub_zero,Nat.add_sub_cancel,Nat.div_one];refine adg _ (λrest _ s'=>∃h' i,s'={s with heap:=h'}/\rest=YW i (AB.size - i)/\i<=AB.size/\h'.DictOfH knd d (bI xs (ys.take i))/\h'.get? o=some oo/\Z_ d s.heap h') _ ?_ ?_ _ _
   ⟨s.heap,0,rfl,by simp,YC _,by simpa[bI] using hd,Py,ada _ _⟩
  ·rintro x rest b s' ⟨h',i,rfl,hr,hi,qj,MB,Jf⟩;have dW:i<AB.size:=by
    by_cases h:i<AB.size
    ·exact h
    ·rw[show AB.size - i=0 by omega] at hr;simp at hr
   rw[show AB.size - i=(AB.size - (i+1))+1 by omega,aa2] at hr;injection hr with h1 h2
   subst h1;refine XX (ZJ MB DH ?_);obtain⟨y,hy⟩:∃y,ys[x]? =some y:=⟨_,XW (by omega)⟩
   rw[entry_at EO x,hy];have Pt:(bI xs (ys.take x)).length<=Yl:=by
    have e1:=jE (ys.take x) xs;rw[acF] at e1;omega
   have Wi:knd.is h' y.1 y.2.1:=knd.keeps (Sv y (Yi hy)) DM pX Jf;refine XX (ZY (sR hu Wi qj Pt λUt Sk PM=>?_));have K_:Ut.get? o=some oo:=(PM.2 o (YJ UL)).trans MB;refine XX (abq K_ DH ?_);rw[aey (by simp)];exact Yc ⟨Ut,x+1,rfl,h2,dW,by rw[mj hy];exact Sk,K_,Jf.trans PM⟩
  ·rintro b s' ⟨h',i,rfl,hr,hi,qj,MB,Jf⟩;have tO:i=AB.size:=by
    by_cases h:i<AB.size
    ·rw[show AB.size - i=(AB.size - (i+1))+1 by omega,aa2] at hr;exact nomatch hr
    ·omega
   refine hQ h' ?_ Jf;rw[tO,hlen,acE] at qj;exact qj
 have go:wpAny (model prog w) A (do
  let OV<-dictEpoch o
  let l<-dictEntries o
  forIn [:l.size] aaT λi (_:PUnit)=>(do
   let l'<-dictEntries o
   match l'[i]? with
    |some e=>do
     holding [e.key,e.val] (acJ d e.key e.hash e.val)
     let IG<-dictEpoch o
     if (IG !=OV)=true then do (unsupported (aci nm++aci ":source-changed-during-callback"):Sem PUnit);pure (Zd aaT) else pure (Zd aaT)
    |_=>do
     (unsupported "internal:dict-merge":Sem PUnit)
     pure (Zd aaT):Sem (ForInStep PUnit))
  pure ()) Q E s:=by
  refine XX (abq Py DH (XX (ZJ Py DH (XX ?_))));exact Y2 (loop _ rfl) (λ_ _ h=>Yc h) λ_ _ h=>h
 dsimp only
 split
 ·refine XX (ZJ DM pX ?_);split
  ·rename_i So;have PX:xs=[]:=by
    have h0:VC= #[]:=aen.mp So;have:=adv V2;rw[h0] at this;exact abz.mp (by simpa using this.symm)
   subst PX;have Wt:=hh rfl;refine XX (vO Py DH (λe he=>?_) (λe he=>?_) ?_)
   ·rw[EO] at he;obtain⟨y,hy,rfl⟩:=X9.mp he;obtain⟨ob,h1,h2⟩:=Wh (Sv y hy);exact⟨y.2.1,rfl,ob,h1,h2⟩
   ·have:(AB.filter (·.hash==e.hash)).size=((ys.map λy=>knd.hash y.1).filter (· ==e.hash)).length:=by
     rw[<-YB,Array.toList_filter,EO,List.filter_map,List.filter_map,XS,XS];rfl
    rw[this];have hc:=List.nodup_iff_count.mp Wt e.hash;rw[List.count_eq_countP,List.countP_eq_length_filter] at hc;exact hc
   ·have hm:bI ([]:List (K×Addr×Value)) ys=ys:=by
     rw[jF ys [] (by simpa using AN)];rfl
    rw[hm] at hQ;split
    ·have WO:AB.size<=Yl+1:=by simp at hsz;omega
     refine XX (wpAny_updateDictKeysTo DM pX (Yc (hQ _ ⟨_,_,VA+1,Zq _ DM (ace (aa7 pX _)),uI.mapDictKeys _,aa7 pX _,EO,λx hx=>?_,AN⟩ (Y1 ..))) WO);exact knd.keeps (Sv x hx) DM pX (Y1 ..)
    ·rename_i dm;have h0:AB= #[]:=aen.mp (by simpa using dm);have Wo:ys=[]:=abz.mp (by rw[<-hlen,h0];rfl);subst Wo;exact Yc (hQ _ hd (ada _ _))
  ·exact go
 ·exact go
end
end L3
namespace L3
open PySem PySem.Spec L2
open PyProof.Rows hiding St
def KD(h1:(aap (aU P w)).is h k a):∃ob,h.get? a=some ob/\ob.cls= .type "tuple":=by
 obtain⟨ob,aT,n,q1,q2,_⟩:=h1;exact⟨ob,q1,q2⟩
def jD(kvs more:List (List Key×V)):List (List Key×V):=more.foldl (λv6 kv=>putK v6 kv.1 kv.2) kvs
def Cj:∀{more:List (List Key×V)}{ys:List (List Key×Addr×Value)},KT H more ys->∀{kvs:List (List Key×V)}{xs:List (List Key×Addr×Value)},KT H kvs xs->KT H (jD kvs more) (bI xs ys)
 |_,_, .nil,_,_,q=>q
 |_,_, .cons h t,kvs,xs,r=>by
  refine Cj t ?_;have:=KT.put r _ h.2.1 h.2.2;rw[h.1] at this;show KT H (putK kvs _ _) (abc xs _ _ _);rw[h.1];exact this
def rB:∀(more kvs:List (List Key×V)),(jD kvs more).length<=kvs.length+more.length
 |[],kvs=>X4 _
 |p::r,kvs=>by
  have h1:=rB r (putK kvs p.1 p.2);have h2:=eu kvs p.1 p.2;show (jD (putK kvs p.1 p.2) r).length<=_;rw[X7];omega
def gF(k:List Int):Int:=reduceHash (acf (k.map hashInt))
def FP(k:List Int):(aap (aU P w)).hash (gX k)=gF k:=by
 show reduceHash (acf ((gX k).map (P8 w)))=_;unfold gF gX;rw[Yu];rfl
section
variable{X:Cx}{f8:List (Addr×Obj)}{σ:St}{H:Hp}{s:X1}{a b:Addr}{A:YX}{E:Value->X1->Prop}
def Fs{ks:List (List Int)}(hu:A.units+2<cLine)(I:Inv X f8 σ H s)(ha:H a=some (.dT kvs))(hb:Rd H b (.dT more))(Rj:a≠b)(hk:more.map (·.1)=ks.map gX)
 (hh:kvs=[]->(ks.map gF).Nodup)(hz:kvs.length+more.length<=Yl)(h:∀s',Inv X f8 σ (upd H a (.dT (jD kvs more))) s'->Q .none s'):
 wpAny (model X.prog X.w) A (call (.builtin "dict.update") [.ref a, .ref b]) Q E s:=by
 obtain⟨z1,lo1,xs,QM,Q_⟩:=Fy I.hok ha;obtain⟨z2,W6,ys,Km,Ag⟩:=lV I.hok hb;have l1:=Z9 QM;have l2:=Z9 Km;have hT:=Q_.typeIs;refine aaN acO hT PySem.F.entry_dict_update ?_ (PySem.F.args_dict_update_2 _ _);unfold ab3.«dict.update»;refine XX ?_;unfold acr;refine XX (ab9 hT ?_);show wpAny _ _ (pure (a,[YF b])) _ _ s;refine Yc ?_;show wpAny _ _ (aaD "dict.update" a (.ref b) [] .none) _ _ s;unfold aaD;refine XX (wpAny_typeOf Ag.typeIs ?_);rw[aey (by decide)];refine XX ?_;unfold Builtin.Dict.merge;refine XX ?_;unfold Builtin.Dict.readDirectly;refine XX (wpAny_isInstance Ag.typeIs isSubtype_dict_dict ?_);simp only[Bool.not_true,Y5,if_false];refine XX (ads Ag.typeIs PySem.F.slot_dict_iter.lookup (Yc ?_));simp only[beq_self_eq_true,if_true];refine XX (Yc ?_);refine rK (show A.in1.units<cLine by show A.units+1<cLine;omega) Rj W6 Q_ Ag KD (λe0=>?_) (by omega) λh' Af Jf=>?_
 ·have e1:kvs=[]:=abz.mp (by rw[l1,e0];rfl);have:=hh e1;have e2:(ys.map λy=>(aap (aU X.prog X.w)).hash y.1)=ks.map gF:=by
   have e3:more.map (·.1)=ys.map (·.1):=pq (λ_ _ r=>r.1) Km;rw[show (λy:List Key×Addr×Value=>(aap (aU X.prog X.w)).hash y.1)=(aap (aU X.prog X.w)).hash∘(·.1) from rfl,<-Yu,<-e3,hk,Yu];exact Y9 λk _=>FP k
  rw[e2];exact this
 ·show wpAny _ _ (acs a []>>=_) _ _ _;refine XX (Yc (Yc ⟨.none,rfl,h _ ?_⟩));obtain⟨q,es,ep,hq,h2,h3,h4,_,h5⟩:=Af;have hl:(jD kvs more).length<=Yl:=by have:=rB more kvs;omega
  refine kc I (by rw[ha];exact Z6) Jf ⟨q,hq⟩ ⟨hl,lo1,_,(Cj Km QM).keeps λc ys ec=>?_,q,es,ep,hq,h2,h3,h4,h5⟩;rw[av (Gs ec ha (λz=>nomatch z))];exact ec
end
def cZ(ks:List (List Key))(ds:List D):List (List Key)->List D->List (List Key)×List D
 |k::ks',d::ds'=>cZ (cU ks ds k) (cp ks ds k d) ks' ds'
 |_,_=>(ks,ds)
def HW(ks:List (List Key))(ds:List D):D->Option C
 | .dct ks' ds'=>match fJ ks' with
   |some ns=>if ds.length+ds'.length<=lim/\(ks.isEmpty=true->(ns.map gF).Nodup) then some (.dct (cZ ks ds ks' ds').1 (cZ ks ds ks' ds').2) else none
   |none=>none
 |_=>none
def rH{K:X5}:∀{ks':List (List Key)}{ds':List D}{g9:List V}{ks:List (List Key)}{ds:List D}{vs:List V},DenL K F ds' g9->ks'.length=ds'.length->DenL K F ds vs->ks.length=ds.length->
 ∃ws,jD (ks.zip vs) (ks'.zip g9)=(cZ ks ds ks' ds').1.zip ws/\DenL K F (cZ ks ds ks' ds').2 ws/\(cZ ks ds ks' ds').1.length=(cZ ks ds ks' ds').2.length
 |[],[],g9,ks,ds,vs,h',_,h,hl=>⟨vs,rfl,h,hl⟩
 |k::ks',d::ds',g9,ks,ds,vs,⟨v,r,e,h1,h2⟩,B_,h,hl=>by
  subst e;obtain⟨ws,e1,e2,e3⟩:=w9 h1 k h hl;obtain⟨us,q1,q2,q3⟩:=rH h2 (by simpa using B_) e2 e3;refine⟨us,?_,q2,q3⟩;show jD (putK (ks.zip vs) k v) (ks'.zip r)=_;rw[e1];exact q1
 |[],_::_,_,_,_,_,_,B_,_,_=>by simp at B_
 |_::_,[],_,_,_,_,_,B_,_,_=>by simp at B_
def Hn[DecidableEq κ]{k:κ}(hl:ks.length=ds.length):(cp ks ds k d).length<=ds.length+1:=by
 unfold cp;split
 ·rw[jT ks ds k d hl];omega
 ·simp
def Ho[DecidableEq κ]{k:κ}(hl:ks.length=ds.length):(cU ks ds k).length=(cp ks ds k d).length:=by
 unfold cp cU;split
 ·rw[jT ks ds k d hl];exact hl
 ·simp[hl]
def rJ:∀{ks':List (List Key)}{ds':List D}{ks:List (List Key)}{ds:List D},ks.length=ds.length->(cZ ks ds ks' ds').2.length<=ds.length+ds'.length
 |[],ds',ks,ds,_=>by show ds.length<=_;omega
 |_::_,[],ks,ds,_=>by show ds.length<=_;simp
 |k::ks',d::ds',ks,ds,hl=>by
  have h1:=rJ (ks':=ks') (ds':=ds') (ks:=cU ks ds k) (ds:=cp ks ds k d) (Ho hl);have h2:=Hn (k:=k) (d:=d) hl;show (cZ (cU ks ds k) (cp ks ds k d) ks' ds').2.length<=_;rw[X7];omega
section
variable{X:Cx}{Xw:Nat->Hp->Prop}{o e:Expr}{δ:DE}{pos p apos aO:Pos}{x:Str}{i:Nat}
def Hx(i:Nat)(δ:DE):DS:=λZ=>match t_ Z i with
 |some (.dct ks ds)=>δ Z>>=λd=>match HW ks ds d with
  |some c'=>aa (.nx (Z.set i (some (.ow c'))))
  |none=>ag
 |_=>ag
def NG(hu:X.A.units+2<cLine)(ho:PE X o td)(he:PE X e ty)(m:M1 X o "update" apos e aO):
 PE X (.Call (.Attribute o "update" apos) [e] [] aO) (λσ H Q=>td σ H λx H1=>∃a,x= .ref a/\Od H1 a/\ty σ H1 λy H2=>∃(b:Addr) (kvs more:List (List Key×V)) (ks:List (List Int)),y= .ref b/\H2 a=some (.dT kvs)/\Rd H2 b (.dT more)/\a≠b/\more.map (·.1)=ks.map gX/\(kvs=[]->(ks.map gF).Nodup)/\kvs.length+more.length<=Yl/\Q .non (upd H2 a (.dT (jD kvs more)))):=by
 intro f8 s σ H Q I h;refine abK m.base m.few m.line Z7 acO (by rfl) (bX (ho f8 s σ H _ I h) λu s1 ⟨x,H1,I1,rx,a,ex,d,q1⟩=>?_);subst ex;obtain rfl:u=YF a:=rx;obtain⟨t1,t2,_⟩:=vZ I1 d;refine⟨t1,t2,?_⟩;rw[m.trees];refine aah rfl (ZX (Zw (bX (he f8 s1 σ H1 _ I1 q1) λiv s2 ⟨y,H2,I2,ry,b,kvs,more,ks,ey,k1,k2,k3,k4,k5,k6,q2⟩=>aav ?_)));subst ey;obtain rfl:iv=YF b:=ry;exact Fs hu I2 k1 k2 k3 k4 k5 k6 λs3 I3=>⟨.non,_,I3,rfl,q2⟩
def Kg(hu:X.A.units+64<cLine)(hv:PE X (.Name x p) (g7 i))(he:PD X Xw e δ)(m:M1 X (.Name x p) "update" apos e aO)(hs:aaX (.Call (.Attribute (.Name x p) "update" apos) [e] [] aO) none pos.line X.env=pure false:=by rfl):
 g8 X Xw (.Expr (.Call (.Attribute (.Name x p) "update" apos) [e] [] aO) pos) (Hx i δ):=λu8 aeH=>PS.weak (mQ (NG (by omega) hv he m) hs) λD σ H ⟨F,Z,s,w⟩=>by
 unfold Hx at w;split at w
 ·rename_i ks ds Mz;have hi:=n9 Mz;obtain⟨v,Rq,a,oh,rfl,hH,hF,vs,rfl,hd,hl,hz⟩:=s.st.den i _ hi;refine⟨.ref a,Rq,a,rfl, .inr ⟨_, .inl hH⟩,F,Z,s.st,?_⟩;rcases(δ Z).cs with q | ⟨n,q⟩ | ⟨d,q⟩
  ·rw[q] at w;exact w.elim
  ·rw[q] at w⊢;exact λF' H' e'=>w F' H' (s.ext.trans e')
  ·rw[q] at w⊢;intro u H1 F1 e1 hq;have w:WPS X.K Xw u8 aeH (match HW ks ds d with | some c'=>aa (.nx (Z.set i (some (.ow c')))) | none=>ag) D:=w;cases d with
   |dct ks' ds'=>
    obtain⟨b,ob,g9,rfl,k2,k3,k4,k5⟩:=hq;cases hc:HW ks ds (.dct ks' ds') with
    |none=>rw[hc] at w;exact w.elim
    |some c'=>
     rw[hc] at w;have hc:(match fJ ks' with | some ns=>if ds.length+ds'.length<=lim/\(ks.isEmpty=true->(ns.map gF).Nodup) then some (C.dct (cZ ks ds ks' ds').1 (cZ ks ds ks' ds').2) else none | none=>none)=some c':=hc;cases hn:fJ ks' with
     |none=>rw[hn] at hc;cases hc
     |some ns=>
      rw[hn] at hc;have hc:(if ds.length+ds'.length<=lim/\(ks.isEmpty=true->(ns.map gF).Nodup) then some (C.dct (cZ ks ds ks' ds').1 (cZ ks ds ks' ds').2) else none)=some c':=hc;split at hc
      ·rename_i Pa;cases hc;have UK:=DenL.mono e1.ff hd;have l1:=UK.len;have l2:=k3.len;have Rj:a≠b:=λz=>by
        have:=e1.old hH (λ_ z=>nomatch z);rw[hF,z,k2] at this;cases this
       obtain⟨ws,m1,m2,m3⟩:=rH k3 k4 UK hl;refine⟨b,ks.zip vs,ks'.zip g9,ns,rfl,e1.hh _ _ hH, .inr ⟨ob,e1.fh _ _ k2⟩,Rj,by rw[gS (by rw[k4];exact l2),nS hn],λz=>Pa.2 ?_,?_,?_⟩
       ·have:=gS (a:=ks) (b:=vs) (by rw[hl];exact l1);rw[z] at this;rw[<-this];rfl
       ·rw[aar,aar];have:=cP;omega
       ·rw[m1];exact w σ F1 _ ((s.ext' e1).chg hi Rq ⟨ws,rfl,m2,m3,by have:=rJ (ks':=ks') (ds':=ds') hl;omega⟩)
      ·cases hc
   |_=>exact w.elim
 ·exact w.elim
end
section
variable{X:Cx}{Xw:Nat->Hp->Prop}{o e f:Expr}{δo δe δf:DE}{δs:DA}{pos p apos aO:Pos}{x:Str}
def F9:D->Bool
 | .dct _ _=>true
 | .dci _ _=>true
 |_=>false
def Cc{K:X5}{F H:Hp}{d:D}{x:V}(s:Same F H)(hd:Den K F d x)(e:F9 d=true):∃a,x= .ref a/\Od H a:=by
 cases d with
 |dct ks ds=>obtain⟨a,ob,vs,rfl,h2,_⟩:=hd;exact⟨a,rfl, .inr ⟨_, .inr ⟨ob,s _ _ h2⟩⟩⟩
 |dci ks ds=>obtain⟨a,ob,vs,rfl,h2,_⟩:=hd;exact⟨a,rfl, .inl ⟨_, .inr ⟨ob,s _ _ h2⟩⟩⟩
 |_=>cases e
def getM(d k v:D):M D:=match BM d k with
 |some (some x)=>aa x
 |some none=>aa v
 |none=>ag
def ON(δo δe:DE):DE:=λZ=>δo Z>>=λd=>if F9 d then δe Z>>=λk=>getM d k .non else ag
def ju(δo δe δf:DE):DE:=λZ=>δo Z>>=λd=>if F9 d then δe Z>>=λk=>δf Z>>=λv=>getM d k v else ag
def yH{F H:Hp}{d k v:D}{a:Addr}{y z:V}{Q:VK}(s:Same F H)(q1:Den X.K F d (.ref a))(q2:Den X.K F k y)(q3:Den X.K F v z)(w:WP X.K Xw F H (getM d k v) Q):∃ov,k8 H a y ov/\Q (ov.getD z) H:=by
 unfold getM at w;cases pW:BM d k with
 |none=>rw[pW] at w;exact w.elim
 |some o'=>
  rw[pW] at w;obtain⟨a',ov,zz,h2,h3,h4⟩:=vz s q1 q2 pW;cases zz;refine⟨ov,h2,?_⟩;cases o' with
  |none=>
   cases ov with
   |none=>exact WP.now w s q3
   |some _=>cases h3
  |some d'=>
   obtain⟨v,rfl,hv⟩:=h4 d' rfl;exact WP.now w s hv
def RB(hu:X.A.units+64<cLine)(ho:PD X Xw o δo)(he:PD X Xw e δe)(m:M1 X o "get" apos e aO):PD X Xw (.Call (.Attribute o "get" apos) [e] [] aO) (ON δo δe):=
 PE.weak (G9 (by omega) ho he m) λσ H Q ⟨F,Z,s,w⟩=>by
  refine⟨F,Z,s,WP.mono (WP.bind w) λx H1 ⟨F1,d,e1,q1,w1⟩=>?_⟩;split at w1
  ·rename_i hd;obtain⟨a,rfl,Te⟩:=Cc e1.fh q1 hd;refine⟨a,rfl,Te,F1,Z,s.ext e1,WP.mono (WP.bind w1) λy H2 ⟨F2,k,e2,q2,w2⟩=>?_⟩;exact yH (v:= .non) (z:= .non) e2.fh (Den.mono e2.ff q1) q2 (show V.non=V.non from rfl) w2
  ·exact w1.elim
def wO(hu:X.A.units+64<cLine)(ho:PD X Xw o δo)(he:PD X Xw e δe)(hf:PD X Xw f δf)(m:M2 X o "get" apos e f aO):PD X Xw (.Call (.Attribute o "get" apos) [e,f] [] aO) (ju δo δe δf):=
 PE.weak (G_ (by omega) ho he hf m) λσ H Q ⟨F,Z,s,w⟩=>by
  refine⟨F,Z,s,WP.mono (WP.bind w) λx H1 ⟨F1,d,e1,q1,w1⟩=>?_⟩;split at w1
  ·rename_i hd;obtain⟨a,rfl,Te⟩:=Cc e1.fh q1 hd;refine⟨a,rfl,Te,F1,Z,s.ext e1,WP.mono (WP.bind w1) λy H2 ⟨F2,k,e2,q2,w2⟩=>?_⟩;refine⟨F2,Z,(s.ext e1).ext e2,WP.mono (WP.bind w2) λz H3 ⟨F3,v,e3,q3,w3⟩=>?_⟩;exact yH e3.fh (Den.mono e3.ff (Den.mono e2.ff q1)) (Den.mono e3.ff q2) q3 w3
  ·exact w1.elim
def kM:List D->M D
 |[.dci ks _]=>aa (.int ks.length)
 |_=>ag
def Av:CallR X (.builtin "len") (λxs H Q=>∃a kvs,xs=[.ref a]/\Rd H a (.dK kvs)/\Q (.int kvs.length) H):=by
 intro f8 s σ H xs us Q I r ⟨a,kvs,e,h,q⟩;subst e;obtain⟨u,rfl,ru⟩:=r.one;cases (show u=_ from ru);exact OQ I h λt s' I'=>⟨.int kvs.length,H,I',⟨_,rfl⟩,q⟩
def qt(hg:Gl X "len")(hm:X.mg "len"=none)(ha:jm X Xw [e] δs)(he:Yg [e] X.env=[(false,eval e X.env)]:=by rfl):PD X Xw (.Call (.Name "len" p) [e] [] pos) (dA kM δs):=
 cE Av (λXw F H vs ds Q s h w=>by
  unfold kM at w;split at w
  ·rename_i ks es;obtain⟨v,rfl,h1⟩:=h.one;obtain⟨a,ob,ws,rfl,h2,h3,h4,h5⟩:=h1;refine⟨a,_,rfl, .inr ⟨ob,s _ _ h2⟩,?_⟩;rw[xG h3 h4,<-h4];exact WP.now w s rfl
  ·exact w.elim) hg hm PySem.boot_len ha (by decide) (by decide) he rfl
end
section
variable{a:Expr}
end
def AJ:List Nat->KL
 |[]=>IQ
 |i::is=>uG (ib i) (AJ is)
def Bp:List Nat->List D->bH->bH
 |i::is,d::ds,Z=>Bp is ds (Z.set i (some (.fz d)))
 |_,_,Z=>Z
def pB(is:List Nat):D->bH->Option bH
 | .tup ds,Z=>if ds.length=is.length then some (Bp is ds Z) else none
 |_,_=>none
def vl{K:X5}{u8 aeH F H:Hp}{Q:St->Hp->Prop}:∀(is:List Nat) (ds:List D) (vs:List V) (σ:St) (Z:bH),ds.length=is.length->StOk K u8 aeH F H σ Z->DenL K F ds vs->(∀σ',StOk K u8 aeH F H σ' (Bp is ds Z)->Q σ' H)->AJ is vs σ H Q
 |[],[],vs,σ,Z,_,s,h,k=>⟨h,k σ s⟩
 |i::is,d::ds,vs,σ,Z,hl,s,⟨v,r,e,h1,h2⟩,k=>by
  subst e;exact⟨v,r,rfl,vl is ds r _ _ (by simpa using hl) (s.set h1) h2 k⟩
 |[],_::_,_,_,_,hl,_,_,_=>by simp at hl
 |_::_,[],_,_,_,hl,_,_,_=>by simp at hl
def w_{K:X5}{is:List Nat}:E2 K (IT K is.length (AJ is)) (pB is):=λu8 aeH F H σ Z Z' d v Q s q e k=>by
 unfold pB at e;split at e
 ·rename_i ds;split at e
  ·rename_i hl;cases e;obtain⟨a,vs,rfl,hs,hd,_⟩:=q;exact⟨a,vs,rfl,SqT.of (s.st.fh _ _ hs),by rw[<-hd.len];exact hl,vl is ds vs σ Z hl s hd k⟩
  ·cases e
 ·cases e
section
variable{prog:YK}{w:World}{A:YX}{E:Value->X1->Prop}{s:X1}
def D6{good:Heap->Prop}(hh:A.handled=none)(dm:T≠I)(Rh:S≠I)(VS:S≠T)
 (hg:∀h h',(∀c o,c≠I->c≠S->h.get? c=some o->h'.get? c=some o)->good h->good h')
 (Mq:∀(h':Heap) (tk:Nat) (Q':Value->X1->Prop) (E':Value->X1->Prop),good h'->Q' (.bool r) {s with heap:=h',toks:=tk}->wpAny (model prog w) A.in1 (adw .Lt b a) Q' E' {s with heap:=h',toks:=tk})
 (hR:∀h' tk,good h'->R (.ok (.ret (if r then b else a))) {s with heap:=h',toks:=tk})(g0:good h0)(uJ:h0.IsTupleIter I T 0/\h0.IsTuple T #[a,b])
 (hS:h0.get? S=some {cls:= .type "list",dict:=none,data:= .seq #[] c,slots:= #[]}):
 aa5 (model prog w) A (.builtin "min.loop" ⟨[.ref I, .none, .ref S],[]⟩) R {s with heap:=h0,toks:=t0}:=by
 have yL:(aci "min"++aci ".loop":String)="min.loop":=by decide
 have W:=Walks.tuple (prog:=prog) (w:=w) (A:=A.in1) hh I T dm #[a,b];have nI:∀{c:Addr},c≠I->c∉[I]:=λq z=>q (Yb.mp z);have fr:∀{i:Nat}{h:Heap}{f:Obj->Obj},(h.IsTupleIter I T i/\h.IsTuple T #[a,b])->((h.update S f).IsTupleIter I T i/\(h.update S f).IsTuple T #[a,b]):=λ{i h f} q=>W.frame _ _ _ q λc hc o e=>(abH _ _ (λz:S=c=>by
  subst z;rcases XY.mp hc with z | z
  ·exact Rh z
  ·exact VS (Yb.mp z))).trans e
 have up:∀{h:Heap}{f:Obj->Obj},good h->good (h.update S f):=λq=>hg _ _ (λc o _ hc e=>(abH _ _ (YJ hc)).trans e) q;refine aaY ac6 ?_;rw[aaB aan _];show wpAny _ A.in1 (seqItems? (.ref S)>>=_) _ _ _;refine XX (acu hS rfl ?_);show wpAny _ A.in1 (ad9 (ab_ (.ref I)) _>>=_) _ _ _;refine XX (abC (W.item 0 _ _ _ (by simp) uJ λv h1 t1 hP Bs k1=>?_));have hv:v=a:=(YI hP).symm;subst hv;have S1:=k1 S _ (nI Rh) hS;have g1:good h1:=hg _ _ (λc o hc _ e=>k1 c o (nI hc) e) g0;show wpAny _ A.in1 (updateSeq S (λ_=> #[v,v])>>=_) _ _ _;refine XX ?_;refine adq S1 rfl ?_;rw[yL];refine Yc ⟨abf aan _,?_⟩;refine aaY ac6 ?_;rw[aaB aan _];show wpAny _ A.in1 (seqItems? (.ref S)>>=_) _ _ _;refine XX (acu (Zq _ S1 rfl) rfl ?_);show wpAny _ A.in1 (ad9 (ab_ (.ref I)) _>>=_) _ _ _;refine XX (abC (W.item 1 _ _ _ (by simp) (fr Bs) λu h2 t2 VP tG k2=>?_));have hu:u=b:=(YI VP).symm;subst hu;have S2:=k2 S _ (nI Rh) (Zq _ S1 rfl);have g2:good h2:=hg _ _ (λc o hc _ e=>k2 c o (nI hc) e) (up g1);show wpAny _ A.in1 (ad9 (holding [u,u] (adw .Lt u v>>=_)) _>>=_) _ _ _;refine XX (abC (ZY (XX (Mq _ _ _ _ g2 ?_))));refine XX (ZY (Zr ?_));refine XX (adt (Yc ?_));have last:∀{h3:Heap}{t3 c3:Nat}{x y:Value},x=(if r then u else v)->good h3->(h3.IsTupleIter I T 2/\h3.IsTuple T #[v,u])->h3.get? S=some {cls:= .type "list",dict:=none,data:= .seq #[x,y] c3,slots:= #[]}->
  aa5 (model prog w) A (.builtin "min.loop" ⟨[.ref I, .none, .ref S],[]⟩) R {s with heap:=h3,toks:=t3}:=λ{h3 t3 c3 x y} ex g3 EZ S3=>by
  refine aaY ac6 ?_;rw[aaB aan _];show wpAny _ A.in1 (seqItems? (.ref S)>>=_) _ _ _;refine XX (acu S3 rfl ?_);show wpAny _ A.in1 (ad9 (ab_ (.ref I)) _>>=_) _ _ _;refine XX (abC (W.done _ _ _ EZ λh4 t4 k4=>?_));have S4:=k4 S _ (nI Rh) S3;show wpAny _ A.in1 (updateSeq S (λ_=> #[])>>=_) _ _ _;refine XX ?_;refine adq S4 rfl (XX (adt (Yc ?_)));rw[ex];exact hR _ _ (up (hg _ _ (λc o hc _ e=>k4 c o (nI hc) e) g3))
 cases hr:r with
 |true=>
  simp only[if_true];refine XX ?_;refine adq S2 rfl (XX (adt ?_));rw[yL];exact Yc ⟨abf aan _,last (by rw[hr];rfl) (up g2) (fr tG) (Zq _ S2 rfl)⟩
 |false=>
  simp only[Y5,if_false];refine XX (adt ?_);rw[yL];exact Yc ⟨abf aan _,last (by rw[hr];rfl) g2 tG S2⟩
def y6{Q:Value->X1->Prop}(hh:A.handled=none)
 (Mq:∀(h':Heap) (tk:Nat) (Q':Value->X1->Prop) (E':Value->X1->Prop),(∀c o,s.heap.get? c=some o->h'.get? c=some o)->Q' (.bool r) {s with heap:=h',toks:=tk}->wpAny (model prog w) A.in1 (adw .Lt b a) Q' E' {s with heap:=h',toks:=tk})
 (h:∀h' tk,(∀c o,s.heap.get? c=some o->h'.get? c=some o)->Q (if r then b else a) {s with heap:=h',toks:=tk}):
 wpAny (model prog w) A (call (.builtin "min") [a,b]) Q E s:=by
 have yL:(aci "min"++aci ".loop":String)="min.loop":=by decide
 have hT:(s.heap.push {cls:= .type "tuple",data:= .seq #[a,b]}).IsTuple s.heap.objs.size #[a,b]:=⟨_,Yj _ rfl,rfl,0,rfl⟩
 have hsz:(s.heap.push {cls:= .type "tuple",data:= .seq #[a,b]}).objs.size=s.heap.objs.size+1:=ZV ..;refine call_function_tree F.kind_min F.plain_min F.entry_min (F.args_min2 _ _) ?_;show wpAny _ A.in1 (abU "min" ["key","default"] 0 ⟨[],[]⟩>>=_) _ _ s;refine XX (wpAny_of_eq (show abU "min" ["key","default"] 0 ⟨[],[]⟩=pure [none,none] from rfl) ?_);show wpAny _ A.in1 (newTuple [a,b]>>=_) _ _ s;refine XX (aad ?_);refine XX (wpAny_pyIter_tuple hT ?_);refine XX (aad ?_);rw[yL];refine Yc ⟨abf aan _,?_⟩;have Va:∀{c:Addr}{o:Obj},s.heap.get? c=some o->c<s.heap.objs.size:=λe=>Yd e;refine D6 hh (T:=s.heap.objs.size) ?_ ?_ ?_ (λh1 h2 k g c o e=>k c o ?_ ?_ (g c o e)) Mq (λh' tk g=>h h' tk g) (λc o e=>XZ _ (XZ _ (XZ _ e))) ⟨?_,?_⟩ (Yj _ rfl)
 ·rw[hsz];exact Ym (ZS _)
 ·rw[ZV];exact aab (ZS _)
 ·rw[ZV,hsz];exact aab (ZF (ZS _))
 ·have:=Va e;rw[hsz];exact Ym (ZF this)
 ·have:=Va e;rw[ZV,hsz];exact Ym (ZF (ZF this))
 ·exact⟨_,XZ _ (Yj _ rfl),rfl,rfl⟩
 ·exact(hT.push _).push _
end
def wj:acW (.type "list") "keys"=pure none:=by rw[typeLookup_type,builtinLookup_eq_fast];kernel_rfl
def eC:entryFor table "dict.update.loop"=some ab3.«dict.update.loop» :=entryFor_of_tree (by kernel_rfl)
def cb:plainId "dict.update.loop"=true:=by decide+kernel
def tR:(aco "list" !=aco "dict")=true:=by decide
section
variable{prog:YK}{w:World}{A:YX}{E:Value->X1->Prop}{s:X1}
def wa{Q:Option Value->X1->Prop}(hx:s.heap.get? a=some o)(hc:o.cls= .type "list")(DG:o.data= .seq xs k)(hd:o.dict=none)(hA:A.handled=none)
 (h:∀h' tk,(∀b ob,s.heap.get? b=some ob->h'.get? b=some ob)->Q none {s with heap:=h',toks:=tk}):wpAny (model prog w) A (getAttr? (.ref a) "keys") Q E s:=by
 obtain⟨c,dct,dat,sl⟩:=o;simp only at hc DG hd;subst hc DG hd;obtain⟨hp,g,d,tk,os⟩:=s;have hT:∀Vp,(⟨hp,g,d,Vp,os⟩:X1).TypeIs (.ref a) "list":=λ_=>⟨_,hx,rfl⟩
 have f1:=sub_AttributeError;have f3:=F.slot_list_getattribute.lookup;have f4:=F.slot_list_getattribute.bind (.ref a);have f5:=am_list_getattr_none;unfold getAttr? getAttrBy? getAttrBy
 repeat (any_goals (first | assumption | exact hT _ | ((with_reducible show wpAny _ _ (call (aaM "list.__getattribute__") _ _) _ _ _);refine abj F.slot_list_getattribute (hT _) am_entry_list_getattribute (F.args_list_getattribute_2 _ _) (meets_getattribute_miss_list a xs k sl "keys" _ wj (by decide) (by size_fits)) ⟨hx,hA,λh' Vp e yM=>?_⟩) | wp_step))
 obtain⟨t',u',he⟩:=yM.there;show wpAny _ _ (getattributeRaised _ _ _ _ _ _ _) _ _ _;unfold getattributeRaised
 repeat (any_goals (first | assumption | wp_step))
 exact h _ _ λb ob e=>yM.keeps b ob e
abbrev Ld(prog:YK)(w:World):HeapKind prog w (List Key):=aap (aU prog w)
def DictOfH.at'{h h':Heap}{xs:List (List Key×Addr×Value)}(x:h.DictOfH (Ld prog w) d xs)(k:∀c o,h.get? c=some o->(c=d\/∃y∈xs,y.2.1=c)->h'.get? c=some o):h'.DictOfH (Ld prog w) d xs:=by
 obtain⟨o,es,ep,h1,h2,h3,h4,h5,h6⟩:=x;refine⟨o,es,ep,k _ _ h1 (.inl rfl),h2,h3,h4,λy hy=>?_,h6⟩;obtain⟨oa,items,n,a1,a2⟩:=h5 y hy;exact⟨oa,items,n,k _ _ a1 (.inr ⟨y,hy,rfl⟩),a2⟩
def xA{x:List Key×Addr×Value}(h:x∈abc xs k a v):(∃z∈xs,z.2.1=x.2.1)\/x.2.1=a:=by
 unfold abc at h;split at h
 ·obtain⟨z,hz,rfl⟩:=X9.mp h;refine .inl ⟨z,hz,?_⟩;unfold putAt;split<;>rfl
 ·rcases Yr.mp h with h | h
  ·exact .inl ⟨x,h,rfl⟩
  ·rw[Yb.mp h];exact .inr rfl
def mh:∀(ys v6:List (List Key×Addr×Value)) {x:List Key×Addr×Value},x∈bI v6 ys->(∃z∈v6,z.2.1=x.2.1)\/∃z∈ys,z.2.1=x.2.1
 |[],v6,x,h=> .inl ⟨x,h,rfl⟩
 |y::ys,v6,x,h=>by
  rcases mh ys (abc v6 y.1 y.2.1 y.2.2) h with⟨z,hz,e⟩ | ⟨z,hz,e⟩
  ·rcases xA hz with⟨q,hq,e2⟩ | e2
   ·exact .inl ⟨q,hq,e2.trans e⟩
   ·exact .inr ⟨y,XU ..,e2.symm.trans e⟩
  ·exact .inr ⟨z,XT _ hz,e⟩
def zt{D I L:Addr}{vs:List Value}(hh:A.handled=none)(hu:A.units+1<cLine)(VM:L≠I)(R8:D≠I)(VJ:old.get? I=none)(VH:old.get? D=none)(hL:old.IsList L vs.toArray)
 (pairs:∀i,i<vs.length->∃p y,vs[i]? =some (.ref p)/\ys[i]? =some y/\old.IsTuple p #[.ref y.2.1,y.2.2]/\ad4 (aU prog w) old y.1 y.2.1)(hsz:ys.length<=Yl)(hl:ys.length=vs.length)
 (hR:∀h' tk,(∀c o,old.get? c=some o->h'.get? c=some o)->h'.DictOfH (Ld prog w) D (bI [] ys)->R (.ok (.ret .none)) {s with heap:=h',toks:=tk}):
 ∀(r i:Nat) (h:Heap) (tk:Nat) (j:Int) (tj:Tok),vs.length - i=r->i<=vs.length->(∀c o,old.get? c=some o->h.get? c=some o)->h.IsListIter I L i->h.DictOfH (Ld prog w) D (bI [] (ys.take i))->
  aa5 (model prog w) A (.builtin "dict.update.loop" ⟨[.ref D, .ref I, .int j tj, .none],[]⟩) R {s with heap:=h,toks:=tk}:=by
 have W:=Walks.list (prog:=prog) (w:=w) (A:=A.in1) hh I L VM vs.toArray;have PO:vs.toArray.size=vs.length:=Yh ..;have nI:∀{c:Addr},c≠I->c∉[I]:=λq z=>q (Yb.mp z);have JH:∀{c:Addr}{o:Obj},old.get? c=some o->c≠I:=λe z=>by rw[z,VJ] at e;cases e
 have Tt:∀{c:Addr}{o:Obj},old.get? c=some o->c≠D:=λe z=>by rw[z,VH] at e;cases e
 have listAt:∀{h:Heap},(∀c o,old.get? c=some o->h.get? c=some o)->h.IsList L vs.toArray:=λ{h} k=>by
  obtain⟨o,e,q⟩:=hL;exact⟨o,k _ _ e,q⟩
 have Tu:∀y∈ys,∃o,old.get? y.2.1=some o:=λy hy=>by
  obtain⟨i,hi,rfl⟩:=Y_ hy;obtain⟨p,y,_,ey,_,⟨o,_,_,e,_⟩⟩:=pairs i (by omega);rw[XW hi] at ey;cases ey;exact⟨o,e⟩
 have Qm:∀{i:Nat}(x:List Key×Addr×Value),x∈bI [] (ys.take i)->∃o,old.get? x.2.1=some o:=λ{i} x hx=>by
  rcases mh _ _ hx with⟨z,hz,_⟩ | ⟨z,hz,e⟩
  ·cases hz
  ·rw[<-e];exact Tu z (List.mem_of_mem_take hz)
 intro r;induction r with
 |zero=>
  intro i h tk j tj hr hi k it dd;have tO:i=vs.length:=by omega
  refine aaY eC ?_;rw[aaB cb _];show wpAny _ A.in1 (ab_ (.ref I)>>=_) _ _ _;refine XX (W.done _ _ _ ⟨by rw[PO,<-tO];exact it,listAt k⟩ λh1 t1 k1=>?_);show wpAny _ A.in1 (acs D []>>=_) _ _ _;refine XX (Yc (Yc ?_));have Af:h.DictOfH (Ld prog w) D (bI [] ys):=by
   rw[tO,<-hl,acE] at dd;exact dd
  refine hR _ _ (λc o e=>k1 c o (nI (JH e)) (k c o e)) (DictOfH.at' Af λc o e hc=>k1 c o (nI ?_) e);rcases hc with rfl | ⟨x,hx,rfl⟩
  ·exact R8
  ·exact Qm x (by rw[acE];exact hx) |>.elim λo e=>JH e
 |succ r ih=>
  intro i h tk j tj hr hi k it dd;have dW:i<vs.length:=by omega
  obtain⟨p,y,ep,ey,tp,ky⟩:=pairs i dW;refine aaY eC ?_;rw[aaB cb _];show wpAny _ A.in1 (ab_ (.ref I)>>=_) _ _ _;refine XX (W.item i _ _ _ (by rw[PO];exact dW) ⟨it,listAt k⟩ λv h1 t1 hP Bs k1=>?_);have hv:v= .ref p:=by
   have:vs[i]? =some v:=by simpa using hP
   rw[ep] at this;exact(YI this).symm
  subst hv;have P9:∀c o,old.get? c=some o->h1.get? c=some o:=λc o e=>k1 c o (nI (JH e)) (k c o e);show wpAny _ A.in1 (holding [YF p] (ad9 (acC (.ref p)) _>>=_)>>=_) _ _ _;have Q_:h1.DictOfH (Ld prog w) D (bI [] (ys.take i)):=DictOfH.at' dd λc o e hc=>k1 c o (nI (by
   rcases hc with rfl | ⟨x,hx,rfl⟩
   ·exact R8
   ·obtain⟨o',e'⟩:=Qm x hx;exact JH e')) e
  obtain⟨op,eo,VZ,np,V0⟩:=tp;have Vh:=P9 _ _ eo;refine XX (ZY (XX (abC ?_)));unfold acC;refine XX (wpAny_typeOf ⟨op,Vh,VZ⟩ ?_);rw[aex (by decide)];refine XX (acu Vh V0 (Yc ?_));show wpAny _ A.in1 (holding [YF y.2.1,y.2.2] (dictSet D (.ref y.2.1) y.2.2)) _ _ _;have W5:ad4 (aU prog w) h1 y.1 y.2.1:=by
   obtain⟨oa,items,n,a1,a2⟩:=ky;exact⟨oa,items,n,P9 _ _ a1,a2⟩
  have hz:(bI [] (ys.take i)).length<=Yl:=by
   have:=jE (ys.take i) ([]:List (List Key×Addr×Value));rw[acF] at this;have h3:min i ys.length<=ys.length:=Nat.min_le_right ..;simp only[Y0] at this;omega
  refine ZY (wpAny_dictSet_heap (show A.in1.units<cLine from hu) W5 Q_ λh2 Ag Jg=>?_);show wpAny _ A.in1 (pure (Fin.again (.builtin "dict.update.loop" ⟨[.ref D, .ref I,acI (j+1), .none],[]⟩))) _ _ _;refine Yc ⟨abf cb _,?_⟩;rw[<-mj ey] at Ag;refine ih (i+1) h2 _ _ _ (by omega) (by omega) (λc o e=>?_) ?_ Ag
  ·rw[Jg.2 c (Tt e)];exact P9 c o e
  ·obtain⟨oI,eI,q⟩:=Bs.1;exact⟨oI,by rw[Jg.2 I (YJ R8)];exact eI,q⟩
def pS{L:Addr}{n:Nat}{vs:List Value}(hA:A.handled=none)(hu:A.units+8<cLine)(hx:s.heap.get? L=some o)(hc:o.cls= .type "list")(DG:o.data= .seq vs.toArray n)(hd:o.dict=none)
 (pairs:∀i,i<vs.length->∃p y,vs[i]? =some (.ref p)/\ys[i]? =some y/\s.heap.IsTuple p #[.ref y.2.1,y.2.2]/\ad4 (aU prog w) s.heap y.1 y.2.1)(hsz:ys.length<=Yl)(hl:ys.length=vs.length)
 (h:∀h' tk,(∀c o,s.heap.get? c=some o->h'.get? c=some o)->h'.DictOfH (Ld prog w) s.heap.objs.size (bI [] ys)->Q (.ref s.heap.objs.size) {s with heap:=h',toks:=tk}):
 wpAny (model prog w) A (call (.type "dict") [.ref L]) Q E s:=by
 refine callType_codes (Q₁:=λobj T0=>obj= .ref s.heap.objs.size/\T0={s with heap:=s.heap.push {cls:= .type "dict",data:= .dict #[]} }) F.kt_called_dict (F.kt_typeCall_dict_1 _) F.entry_dict_init (kt_code_dict_new _ ⟨rfl,rfl⟩) ?_;rintro obj T0 ⟨rfl,rfl⟩;have qY:(s.heap.push {cls:= .type "dict",data:= .dict #[]}).DictOfH (Ld prog w) s.heap.objs.size []:=⟨_,#[],0,Yj _ rfl,⟨rfl,rfl,rfl⟩,rfl,rfl,λx hx=>(by cases hx),ZC⟩
 have hT:({s with heap:=s.heap.push {cls:= .type "dict",data:= .dict #[]} }:X1).TypeIs (.ref s.heap.objs.size) "dict":=⟨_,Yj _ rfl,rfl⟩
 refine⟨hT,F.args_dict_init_2 _ _,?_⟩;have yM:(s.heap.push {cls:= .type "dict",data:= .dict #[]}).get? L=some o:=XZ _ hx;unfold ab3.«dict.__init__»;refine XX ?_;unfold acr;refine XX (ab9 hT ?_);show wpAny _ _ (pure (s.heap.objs.size,[YF L])) _ _ _;refine Yc ?_;show wpAny _ _ (aaD "dict.__init__" s.heap.objs.size (.ref L) [] .none) _ _ _;unfold aaD;refine XX (wpAny_typeOf ⟨o,yM,hc⟩ ?_);rw[aex tR];refine XX (wa yM hc DG hd (by exact hA) λh1 t1 k1=>?_);show wpAny _ _ (rule _>>=_) _ _ _;refine XX (wpAny_rule ?_);have VL:h1.IsList L vs.toArray:=⟨o,k1 _ _ yM,hc,n,DG⟩
 refine XX (acU VL ?_);refine Yc ⟨abf cb _,?_⟩;have P9:∀c ob,s.heap.get? c=some ob->h1.get? c=some ob:=λc ob e=>k1 c ob (XZ _ e);have Cr:∀{c:Addr},s.heap.objs.size<=c->s.heap.get? c=none:=λ{c} hc=>by
  cases e:s.heap.get? c with
  |none=>rfl
  |some ob=>exact aeB (Yd e) (Nat.not_lt.mpr hc)
 have nD:s.heap.get? s.heap.objs.size=none:=Cr (X4 _);have FV:L<h1.objs.size:=Yd (k1 _ _ yM);have Vb:s.heap.objs.size<h1.objs.size:=Yd (k1 _ _ (Yj _ rfl));refine zt (by exact hA) (by show A.units+1+1<cLine;omega) (Ym FV) (Ym Vb) (Cr (YY Vb)) nD ⟨o,hx,hc,n,DG⟩ pairs hsz hl (λh' tk k dd=>⟨rfl,h h' tk k dd⟩) vs.length 0 _ _ _ _ rfl (YC _) (λc ob e=>XZ _ (P9 c ob e)) ⟨_,Yj _ rfl,rfl,rfl⟩ ?_;refine DictOfH.at' qY λc ob e hc=>XZ _ (k1 c ob e)
end
def Ow:D->D->Option Bool
 | .tup xs, .tup ys=>match nums xs,nums ys with
   |some a,some b=>some (HT.lexLt a b)
   |_,_=>none
 |_,_=>none
def AI(x y:D):M D:=match Ow x y with | some b=>aa (.bl b) | none=>ag
def y0:List D->M D
 |[x,y]=>match Ow y x with | some b=>aa (if b then y else x) | none=>ag
 |_=>ag
section
variable{X:Cx}{Xw:Nat->Hp->Prop}{a b e e2:Expr}{δa δb:DE}{δs:DA}{p pos:Pos}
def Cg{K:X5}(e:Ow x y=some r)(hx:Den K F x v)(hy:Den K F y u):∃a b ns ms,v= .ref a/\u= .ref b/\F a=some (.tup (ns.map V.int))/\F b=some (.tup (ms.map V.int))/\r=HT.lexLt ns ms:=by
 unfold Ow at e;split at e
 ·rename_i xs ys;obtain⟨a,vs,rfl,h2,h3,h4⟩:=hx;obtain⟨b,us,rfl,k2,k3,k4⟩:=hy;split at e
  ·rename_i ns ms e1 e2;cases eK e1 h3;cases eK e2 k3;cases e;exact⟨a,b,ns,ms,rfl,rfl,h2,k2,rfl⟩
  ·cases e
 ·cases e
def JO{K:X5}:Ac K (QG K) AI:=λXw F H x y dx dy Q s hx hy w=>by
 unfold AI at w;split at w
 ·rename_i r e;obtain⟨a,b,ns,ms,rfl,rfl,h1,h2,rfl⟩:=Cg e hx hy;exact⟨a,b,ns,ms,rfl,rfl,SqT.of (s _ _ h1),SqT.of (s _ _ h2),WP.now w s rfl⟩
 ·exact w.elim
def NN(hu:X.A.units+64<cLine)(ha:PD X Xw a δa)(hb:PD X Xw b δb):qA X Xw (.Compare a [.Lt] [b] pos) (dH (d2 AI δa δb)):=kx (Nd (by omega)) JO ha hb
def QH(K:X5):List V->Hp->VK->Prop:=λxs H Q=>∃a b ns ms,xs=[.ref a, .ref b]/\SqT K H a (ns.map V.int)/\SqT K H b (ms.map V.int)/\Q (if HT.lexLt ms ns then .ref b else .ref a) H
def Dl(hc:X.calm=true)(hu:X.A.units+64<cLine):CallR X (.builtin "min") (QH X.K):=by
 intro f8 s σ H xs us Q I r h;obtain⟨a,b,ns,ms,rfl,ha,hb,q⟩:=h;obtain⟨u,w',rfl,rx,ry⟩:=vals2 r;cases rx;cases ry;obtain⟨aT,r1,p1,_⟩:=I.tuple ha;obtain⟨fR,r2,p2,_⟩:=I.tuple hb;have i1:Zl aT.toArray.toList ns:=intsAre_of r1;have i2:Zl fR.toArray.toList ms:=intsAre_of r2;refine y6 (r:=HT.lexLt ms ns) (I.ok.hd hc) (λh' tk Q' E' k hq=>?_) λh' tk k=>⟨_,H,I.kept k,?_,q⟩
 ·obtain⟨o1,e1,q1⟩:=p1;obtain⟨o2,e2,q2⟩:=p2;exact HT.lt_tupInts (s:={s with heap:=h',toks:=tk}) ⟨o2,k _ _ e2,q2⟩ ⟨o1,k _ _ e1,q1⟩ i2 i1 (by show X.A.units+1<cLine;omega) hq
 ·cases HT.lexLt ms ns<;>rfl
def JV(hu:X.A.units+64<cLine)(hc:X.calm=true)(hg:Gl X "min")(hm:X.mg "min"=none)(hb:YN "min"=some (.builtin "min"))(ha:jm X Xw [e,e2] δs)(he:Yg [e,e2] X.env=(false,eval e X.env)::Yg [e2] X.env:=by rfl)
 (kG:(ZI pos (Yg [e2] X.env)).any (·.1)=false:=by rfl):PD X Xw (.Call (.Name "min" p) [e,e2] [] pos) (dA y0 δs):=
 cE (Dl hc hu) (λXw F H vs ds Q s h w=>by
  unfold y0 at w;split at w
  ·rename_i x y;obtain⟨v,v',rfl,h1,h2⟩:=h.two;split at w
   ·rename_i r e;obtain⟨b,a,ms,ns,rfl,rfl,k1,k2,rfl⟩:=Cg e h2 h1;refine⟨a,b,ns,ms,rfl,SqT.of (s _ _ k2),SqT.of (s _ _ k1),?_⟩;cases hl:HT.lexLt ms ns with
    |true=>rw[hl] at w;exact WP.now w s h2
    |false=>rw[hl] at w;exact WP.now w s h1
   ·exact w.elim
  ·exact w.elim) hg hm hb ha (by decide) (by decide) he kG
def lI:List D->Option (List (List Key)×List D)
 |[]=>some ([],[])
 | .tup [k,v]::r=>match iP k,lI r with
   |some kk,some q=>some (kk::q.1,v::q.2)
   |_,_=>none
 |_=>none
def BX:List D->M C
 |[.lst ds]=>match lI ds with
  |some q=>if q.1.Nodup/\q.2.length<=lim then aa (.dct q.1 q.2) else ag
  |none=>ag
 |_=>ag
def NS:List V->Hp->VK->Prop:=λxs H Q=>∃(a:Addr) (ps:List (Addr×List Key×Addr×V)),xs=[.ref a]/\H a=some (.lst (ps.map λp=>V.ref p.1))/\(∀p∈ps,H p.1=some (.tup [.ref p.2.2.1,p.2.2.2])/\H p.2.2.1=some (.tup (p.2.1.map kV)))/\
 (ps.map (·.2.1)).Nodup/\ps.length<=Yl/\∀q,H q=none->Q (.ref q) (upd H q (.dT (ps.map λp=>(p.2.1,p.2.2.2))))
def pairs_at{P:YK}(ok:HOk P w H h):∀(ps:List (Addr×List Key×Addr×V)) (us:List Value),Vals (ps.map λp=>V.ref p.1) us->(∀p∈ps,H p.1=some (.tup [.ref p.2.2.1,p.2.2.2])/\H p.2.2.1=some (.tup (p.2.1.map kV)))->
 ∃ys:List (List Key×Addr×Value),ys.length=us.length/\ys.map (·.1)=ps.map (·.2.1)/\(∀i,i<us.length->∃p y,us[i]? =some (.ref p)/\ys[i]? =some y/\h.IsTuple p #[.ref y.2.1,y.2.2]/\ad4 (aU P w) h y.1 y.2.1)/\
  acx (λ(p:List Key×V) (q:List Key×Addr×Value)=>p.1=q.1/\H q.2.1=some (.tup (p.1.map kV))/\RelV p.2 q.2.2) (ps.map λp=>(p.2.1,p.2.2.2)) ys
 |[],_, .nil,_=>⟨[],rfl,rfl,λi hi=>aeB hi (Nat.not_lt_zero _), .nil⟩
 |p::ps,u::us, .cons r rs,hp=>by
  obtain⟨ys,l1,l2,l3,l4⟩:=pairs_at ok ps us rs λq hq=>hp q (XT _ hq);obtain⟨e1,e2⟩:=hp p (XU ..);have hr:u= .ref p.1:=r;obtain⟨_,aT,rv,o,h1,h2,n,h3⟩:=(show ObjOk P w H h p.1 (.tup [.ref p.2.2.1,p.2.2.2]) from ok _ _ e1)
  obtain⟨x,y,rfl,rx,ry⟩:=vals2 rv;have hx:x= .ref p.2.2.1:=rx;subst hx;refine⟨(p.2.1,p.2.2.1,y)::ys,by simp[l1],by simp[l2],λi hi=>?_, .cons ⟨rfl,e2,ry⟩ l4⟩;cases i with
  |zero=>exact⟨p.1,_,by rw[hr];rfl,rfl,⟨o,h1,h2,n,h3⟩,iR ok e2⟩
  |succ i=>
   obtain⟨q,y',a1,a2,a3⟩:=l3 i (by simpa using hi);exact⟨q,y',by simpa using a1,by simpa using a2,a3⟩
def Au(hc:X.calm=true)(hu:X.A.units+64<cLine):CallR X (.type "dict") NS:=by
 intro f8 s σ H xs us Q I r h;obtain⟨a,ps,rfl,ha,hp,hn,hz,q⟩:=h;obtain⟨u,rfl,rx⟩:=vals1 r;cases rx;obtain⟨_,aT,n,rv,e⟩:=(show ObjOk X.prog X.w H s.heap a (.lst _) from I.hok _ _ ha)
 obtain⟨ys,l1,l2,l3,l4⟩:=pairs_at I.hok ps aT rv hp;have XH:ys.length=ps.length:=by
  have:=aeE ab7 l2;simpa using this
 have DL:(ys.map (·.1)).Nodup:=by rw[l2];exact hn
 refine pS (vs:=aT) (I.ok.hd hc) (by omega) e rfl rfl rfl l3 (by omega) l1 λh' tk k dd=>?_;rw[jF ys [] (by simpa using DL),Yw] at dd;obtain⟨o,es,ep,d1,d2,d3,d4,_,d5⟩:=dd;refine⟨.ref s.heap.objs.size,_,I.laid k (X4 _) (o:= .dT (ps.map λp=>(p.2.1,p.2.2.2))) ⟨by rw[XS];exact hz,?_,ys,?_,o,es,ep,d1,d2,d3,d4,d5⟩,rfl,q _ (I.hok.fresh (X4 _))⟩
 ·have:=I.big;exact beq_false_of_ne (aab this)
 ·refine Paired.mapP l4 λx y z=>⟨z.1,?_,z.2.2⟩
  rw[av (λzz=>?_)]
  ·exact z.2.1
  ·have:=I.hok.fresh (X4 _);rw[<-zz,z.2.1] at this;cases this
def u5{K:X5}{F:Hp}:∀{ds:List D}{vs:List V}{q:List (List Key)×List D},lI ds=some q->DenL K F ds vs->∃ps:List (Addr×List Key×Addr×V),vs=ps.map (λp=>V.ref p.1)/\(∀p∈ps,F p.1=some (.tup [.ref p.2.2.1,p.2.2.2])/\F p.2.2.1=some (.tup (p.2.1.map kV)))/\
 ps.map (·.2.1)=q.1/\DenL K F q.2 (ps.map (·.2.2.2))/\q.1.length=q.2.length
 |[],_,_,e,h=>by
  cases e;cases (show _=_ from h);exact⟨[],rfl,(λp hp=>(by cases hp)),rfl,rfl,rfl⟩
 |d::ds,_,q,e,⟨v,r,h1,h2,h3⟩=>by
  unfold lI at e;split at e
  ·cases ‹_::_=[]›
  ·rename_i k x r' heq;cases heq;split at e
   ·rename_i kk q' e1 e2;cases e;obtain⟨ps,i1,i2,i3,i4,i5⟩:=u5 e2 h3;obtain⟨b,ws,rfl,b2,b3,b4⟩:=h2;obtain⟨kv,r1,rfl,k1,r2⟩:=b3;obtain⟨xv,r3,rfl,x1,r4⟩:=r2;cases (show _=_ from r4);unfold iP at e1;split at e1
    ·obtain⟨c,ws,rfl,c2,c3,c4⟩:=k1;have e5:=jB e1 c3;subst e5;refine⟨(b,kk,c,xv)::ps,by rw[h1,i1];rfl,λp hp=>?_,by simp[i3],⟨xv,_,rfl,x1,i4⟩,by simp[i5]⟩;rcases XY.mp hp with rfl | hp
     ·exact⟨b2,c2⟩
     ·exact i2 p hp
    ·cases e1
   ·cases e
  ·cases e
def z4{α β γ:Type}(f:α->β)(g:α->γ):∀l:List α,(l.map f).zip (l.map g)=l.map λx=>(f x,g x)
 |[]=>rfl
 |a::l=>by rw[X3,X3,Y4,z4 f g l];rfl
def G6(hu:X.A.units+64<cLine)(hc:X.calm=true)(hg:Gl X "dict")(hm:X.mg "dict"=none)(hb:YN "dict"=some (.type "dict"))(ha:jm X Xw [e] δs)(he:Yg [e] X.env=[(false,eval e X.env)]:=by rfl):
 LF X Xw (.Call (.Name "dict" p) [e] [] pos) (λZ=>δs Z>>=BX):=
 PE.weak (va (Au hc hu) hg hm hb ha (by decide) (by decide) he rfl) λσ H Q ⟨F,Z,s,w⟩=>by
  refine⟨F,Z,s,WPL.mono (WPF.bindL w) λvs H1 ⟨F1,ds,e1,q1,w1⟩=>?_⟩;unfold BX at w1;split at w1
  ·rename_i ds;obtain⟨v,rfl,h1⟩:=q1.one;obtain⟨a,ws,rfl,h2,h3,h4⟩:=h1;split at w1
   ·rename_i q eq;split at w1
    ·rename_i hq;obtain⟨ps,rfl,i2,i3,i4,i5⟩:=u5 eq h3;have hlen:ps.length=q.2.length:=by rw[<-i5,<-i3,XS]
     refine⟨a,ps,rfl,e1.fh _ _ h2,λp hp=>⟨e1.fh _ _ (i2 p hp).1,e1.fh _ _ (i2 p hp).2⟩,by rw[i3];exact hq.1,?_,λr hr=>?_⟩
     ·have:=cP;have:=hq.2;omega
     obtain⟨E,nF⟩:=Ext.fresh (o:= .dT (ps.map λp=>(p.2.1,p.2.2.2))) e1.fh hr;refine w1 r _ _ F1 E aB nF hr ⟨ps.map (·.2.2.2),?_,i4,i5,hq.2⟩;rw[<-i3,z4]
    ·exact w1.elim
   ·exact w1.elim
  ·exact w1.elim
end
mutual
def qN:D->Bool
 | .non=>true
 | .bl _=>true
 | .int _=>true
 | .str _=>true
 | .tup ds=>kJ ds
 | .lst ds=>kJ ds
 | .raw _=>false
 | .exc _=>false
 | .scr _=>false
 | .dct _ _=>false
 | .dci _ _=>false
def kJ:List D->Bool
 |[]=>true
 |d::ds=>qN d&&kJ ds
end
def Ft(d:D):M D:=if qN d then aa d else ag
def kT(Z:bH):Bool:=Z.all λx=>match x with
 |some (.ow (.lst _))=>false
 |_=>true
def GY{i:Nat}(h:kT Z=true)(e:Z[i]? =some (some (.ow (.lst ds)))):False:=by
 have:=Yn.mp h _ (Yi e);cases this
def KR(δ:DE):DE:=λZ=>if kT Z then noex (δ (oT Z))>>=Ft else ag
section
variable{K:X5}{F H F' H':Hp}{σ:St}{Z:bH}{h:Heap}{b:Addr}
def OwnAt.dict(S:StE K F H σ Z)(hd:kT Z=true)(p:OwnAt σ Z b):∃o,H b=some o/\((∃x,o= .dT x)\/∃x,o= .dK x):=by
 obtain⟨i,c,h1,h2⟩:=p;obtain⟨v,h3,a,o,rfl,h4,h5,h6⟩:=S.den i _ h1;rw[h3] at h2;cases h2;refine⟨o,h4,?_⟩;cases c with
 |lst ds=>exact(GY hd h1).elim
 |dct ks ds=>obtain⟨vs,rfl,_⟩:=h6;exact .inl ⟨_,rfl⟩
 |dci ks ds=>obtain⟨vs,rfl,_⟩:=h6;exact .inr ⟨_,rfl⟩
open Classical in
def Cs(S:StE K F H σ Z)(hd:kT Z=true)(E:Ext (fA σ Z (refA h (OwnAt σ Z) H) F) (refA h (OwnAt σ Z) H) F' H'){o:HO}(e:F' a=some o)(dm:∀q u,o≠ .frz q u):(if OwnAt σ Z a then none else F' a)=some o:=by
 rw[aey,e];intro hp;obtain⟨o',k1,k2⟩:=OwnAt.dict S hd hp;have k3:fA σ Z (refA h (OwnAt σ Z) H) F a=some (pV ((h.get? a).getD {cls:= .none,data:= .fields #[]}) o'):=by
  unfold fA refA;rw[aex hp,aex hp,k1];rfl
 have k4:=E.ff a _ k3;rw[e] at k4;rcases k2 with⟨x,rfl⟩ | ⟨x,rfl⟩<;>cases k4<;>exact dm _ _ rfl
open Classical in
mutual
def yo(S:StE K F H σ Z)(hd:kT Z=true)(E:Ext (fA σ Z (refA h (OwnAt σ Z) H) F) (refA h (OwnAt σ Z) H) F' H'):∀{d:D}{v:V},qN d=true->Den K F' d v->Den K (λb=>if OwnAt σ Z b then none else F' b) d v
 | .non,_,_,q=>q
 | .bl _,_,_,q=>q
 | .int _,_,_,q=>q
 | .str _,_,_,q=>q
 | .tup ds,_,f,⟨a,vs,h1,h2,h3,h4⟩=>⟨a,vs,h1,Cs S hd E h2 (λ_ _ z=>nomatch z),nK S hd E f h3,h4⟩
 | .lst ds,_,f,⟨a,vs,h1,h2,h3,h4⟩=>⟨a,vs,h1,Cs S hd E h2 (λ_ _ z=>nomatch z),nK S hd E f h3,h4⟩
 | .raw _,_,f,_=>by cases f
 | .exc _,_,f,_=>by cases f
 | .scr _,_,f,_=>by cases f
 | .dct _ _,_,f,_=>by cases f
 | .dci _ _,_,f,_=>by cases f
def nK(S:StE K F H σ Z)(hd:kT Z=true)(E:Ext (fA σ Z (refA h (OwnAt σ Z) H) F) (refA h (OwnAt σ Z) H) F' H'):∀{ds:List D}{vs:List V},kJ ds=true->DenL K F' ds vs->DenL K (λb=>if OwnAt σ Z b then none else F' b) ds vs
 |[],_,_,q=>q
 |d::ds,_,f,⟨v,r,h1,h2,h3⟩=>by
  unfold kJ at f;rw[Yo] at f;exact⟨v,r,h1,yo S hd E f.1 h2,nK S hd E f.2 h3⟩
end
end
section
variable{X:Cx}{Xw:Nat->Hp->Prop}{e:Expr}{δ:DE}
def Lj(h:PD X Xw e δ):PD X Xw e (KR δ):=λf8 s σ H Q I ⟨F,Z,S,w⟩=>by
 classical
 have w:WP X.K Xw F H (if kT Z then noex (δ (oT Z))>>=Ft else ag) Q:=w;by_cases hd:kT Z=true
 ·rw[aex hd] at w;rcases dB (δ (oT Z)) with q | ⟨d,q,q2⟩
  ·rw[q] at w;exact w.elim
  ·rw[q2,aw] at w;unfold Ft at w;split at w
   ·rename_i hf;refine bX (h f8 s σ _ (λv H'=>Q v (unA (OwnAt σ Z) H')/\∀c,OwnAt σ Z c->∀o u,H' c=some (.frz o u)->(∃k,u= .dT k)\/∃k,u= .dK k) (Inv.refA I) ⟨_,_,AG (h:=s.heap) S,?_⟩) λu s' ⟨v,H',I',r,q1,q3⟩=>⟨v,_,Inv.unA I' (n_ I S) q3,r,q1⟩
    rw[q];intro v H' F' E k;obtain⟨E1,q3⟩:=qT S E;exact⟨w _ _ _ E1 (yo S hd E hf k),q3⟩
   ·exact w.elim
 ·rw[aey hd] at w;exact w.elim
end
def Fp(δ:DE):DE:=λZ=>noex (δ (oT Z))>>=qR
def EE(τ:DT):DT:=λZ=>noex (τ (oT Z))
def NX(is:List Nat)(τ:DS):DS:=λZ=>τ (fgt is Z)
section
variable{X:Cx}{Xw:Nat->Hp->Prop}{st:Stmt}{τ:DS}{is:List Nat}
def CL(h:g8 X Xw st τ):g8 X Xw st (NX is τ):=λu8 aeH=>PS.weak (h u8 aeH) λD σ H ⟨F,Z,s,w⟩=>⟨F,_,s.fgt is,w⟩
end
def AR(x:Int):List Int->List Int
 |[]=>[x]
 |y::r=>if x<=y then x::y::r else y::AR x r
def eA:List Int->List Int
 |[]=>[]
 |x::r=>AR x (eA r)
def nR(x:Int):∀l,(AR x l).Perm (x::l)
 |[]=>acA _
 |y::r=>by
  unfold AR;split
  ·exact acA _
  ·exact((nR x r).cons y).trans (List.Perm.swap ..)
def dG:∀l,(eA l).Perm l
 |[]=>acA _
 |x::r=>(nR x (eA r)).trans ((dG r).cons x)
def yN{x:Int}:∀{l:List Int},l.Pairwise (· <= ·)->(AR x l).Pairwise (· <= ·)
 |[],_=>by simp[AR]
 |y::r,h=>by
  rw[YU] at h;unfold AR;split
  ·rename_i hx;refine YU.mpr ⟨λz hz=>?_,YU.mpr h⟩;rcases XY.mp hz with rfl | hz
   ·exact hx
   ·exact adY hx (h.1 z hz)
  ·rename_i hx;refine YU.mpr ⟨λz hz=>?_,yN h.2⟩;rcases XY.mp ((nR x r).mem_iff.mp hz) with rfl | hz
   ·omega
   ·exact h.1 z hz
def kB:∀l,(eA l).Pairwise (· <= ·)
 |[]=>abN
 |x::r=>yN (kB r)
def qp:∀{a b:List Int},a.Perm b->a.Pairwise (· <= ·)->b.Pairwise (· <= ·)->a=b
 |[],b,h,_,_=>(List.nil_perm.mp h).symm
 |x::a,[],h,_,_=>aeB (List.perm_nil.mp h) (by simp)
 |x::a,y::b,h,h1,h2=>by
  rw[YU] at h1 h2;have e:x=y:=by
   have m1:x∈y::b:=h.mem_iff.mp (XU ..);have m2:y∈x::a:=h.mem_iff.mpr (XU ..);rcases XY.mp m1 with z | z
   ·exact z
   ·rcases XY.mp m2 with z' | z'
    ·exact z'.symm
    ·have:=h1.1 y z';have:=h2.1 x z;omega
  subst e;rw[qp (List.Perm.cons_inv h) h1.2 h2.2]
def CV:List D->M D
 |[.lst ds]=>match nums ds with
  |some ns=>if ns.length<64 then aa (.lst ((eA ns).map D.int)) else ag
  |none=>ag
 |_=>ag
def gQ:∀{us:List Value}{ns:List Int},Zl us ns->Vals (ns.map V.int) us
 |_,_, .nil=> .nil
 |_,_, .cons n t h=> .cons ⟨t,rfl⟩ (gQ h)
def QK(K:X5):List V->Hp->VK->Prop:=λxs H Q=>∃p ns,xs=[.ref p]/\SqL K H p (ns.map V.int)/\ns.length<64/\∀q:Addr,H q=none->Q (.ref q) (upd H q (.lst ((eA ns).map V.int)))
section
variable{X:Cx}{Xw:Nat->Hp->Prop}{e:Expr}{δs:DA}{pos p:Pos}
def Dp:CallR X (.builtin "sorted") (QK X.K):=by
 intro f8 s σ H xs us Q I r h;obtain⟨a,ns,rfl,hq,hn,q⟩:=h;obtain⟨u,rfl,r1⟩:=r.one;cases (show u=_ from r1);obtain⟨aT,rv,pl,hz⟩:=I.list hq;have hl:=rv.length;rw[XS] at hl;have hi:Zl aT ns:=by simpa using intsAre_of rv
 refine sorted_ints pl.isList hi (by omega) λout Ii h1 h2 h3=>?_;have e:Ii=eA ns:=qp (h2.trans (dG ns).symm) h3 (kB ns);subst e;obtain⟨c,hc⟩:=sortedAll_at s.heap aT out;have Ms:H (s.heap.objs.size+1)=none:=I.hok.fresh (ac4 _);refine⟨.ref (s.heap.objs.size+1),_,I.laid (a:=s.heap.objs.size+1) (t':=s.toks) (o:= .lst ((eA ns).map V.int)) (λb ob e=>sortedAll_old e) (ac4 _) ?_,rfl,q _ Ms⟩;exact⟨by rw[XS,(dG ns).length_eq];have:=cP;unfold lim at this;omega,out.toList,c,gQ h1,by simpa using hc⟩
def ke{K:X5}{F:Hp}:∀{xs:List Int},DenL K F (xs.map D.int) (xs.map V.int)
 |[]=> .nil
 |x::r=> .cons rfl ke
def JW(hg:Gl X "sorted")(hm:X.mg "sorted"=none)(hb:YN "sorted"=some (.builtin "sorted"))(ha:jm X Xw [e] δs)(he:Yg [e] X.env=[(false,eval e X.env)]:=by rfl):PD X Xw (.Call (.Name "sorted" p) [e] [] pos) (dA CV δs):=
 cE Dp (λXw F H vs ds Q s h w=>by
  unfold CV at w;split at w
  ·rename_i ds;obtain⟨v,rfl,h1⟩:=h.one;obtain⟨a,ws,rfl,h2,h3,h4⟩:=h1;split at w
   ·rename_i ns EU;split at w
    ·rename_i hok;have e:=eK EU h3;subst e;exact⟨a,ns,rfl,SqL.of (s _ _ h2),hok,λq hq=>WP.fin w (Ext.lay s hq) ⟨q,_,rfl,aB,ke,by rw[XS,(dG ns).length_eq];unfold lim;omega⟩⟩
    ·exact w.elim
   ·exact w.elim
  ·exact w.elim) hg hm hb ha (by decide) (by decide) he rfl
end
section
variable{a:Expr}
end
end L3
namespace L3
open PySem PySem.SetTable
def nZ[DecidableEq α]:∀{l U:List α},l.Nodup->(∀x∈l,x∈U)->l.length<=U.length
 |[],_,_,_=>YC _
 |a::l,U,hn,h=>by
  have ha:=h a (XU ..);have K8:=Yz.mp hn;have:=nZ K8.2 λx hx=>(adW (λe:x=a=>K8.1 (e▸hx))).mpr (h x (XT _ hx));rw[abu ha] at this;have:0<U.length:=ZH ha;rw[X7];omega
def iK(m b:Nat):Nat->Nat×Nat
 |0=>(b % (m+1),b)
 |k+1=>leap m (iK m b k).1 (iK m b k).2
def OB(m i:Nat):Nat:=(i*5+1) % (m+1)
def it(m:Nat):Nat->Nat->Nat
 |0,x=>x
 |n+1,x=>OB m (it m n x)
def rk(m:Nat):∀a b x,it m (a+b) x=it m a (it m b x)
 |0,b,x=>by rw[abY];rfl
 |a+1,b,x=>by rw[aer];show OB m _=OB m _;rw[rk m a b x]
def P1(m b:Nat):∀k,(iK m b k).2=b / 32 ^ k
 |0=>by simp[iK]
 |k+1=>by
  show (iK m b k).2 / 32=_;rw[P1 m b k,adN,Nat.pow_succ]
def Cb{m b:Nat}(hb:b<2 ^ 64):∀k,(iK m b (k+13)).1=it m k (iK m b 13).1
 |0=>by rw[abY];rfl
 |k+1=>by
  rw[aer];have hq:(iK m b (k+13)).2 / 32=0:=by
   rw[P1];refine Nat.div_eq_of_lt ?_;refine abk (m:=b / 32 ^ 13) ?_ ?_
   ·rw[Nat.pow_add,adS,<-adN];exact Nat.div_le_self ..
   ·have:b / 32 ^ 13<1:=Nat.div_lt_of_lt_mul (by omega);omega
  show ((iK m b (k+13)).1*5+1+(iK m b (k+13)).2 / 32) % (m+1)=OB m _;rw[hq,Cb hb k];rfl
def RM(m:Nat):Prop:=m=7\/m=31\/m=127
def Tw(m:Nat):Nat->Nat->List Nat
 |0,_=>[]
 |n+1,x=>x::Tw m n (OB m x)
def Bc(m:Nat):∀(n x j:Nat),j∈Tw m n x->∃a,a<n/\it m a x=j
 |0,x,j,h=>by cases h
 |n+1,x,j,h=>by
  rcases XY.mp h with rfl | h
  ·exact⟨0,by omega,rfl⟩
  ·obtain⟨a,ha,e⟩:=Bc m n (OB m x) j h;exact⟨a+1,by omega,by rw[rk m a 1 x];exact e⟩
def JP(hm:RM m):(∀j,j<m+1->j∈Tw m (m+1) 0)/\it m (m+1) 0=0:=by
 rcases hm with rfl | rfl | rfl
 ·exact⟨by decide+kernel,by decide+kernel⟩
 ·exact⟨by decide+kernel,by decide+kernel⟩
 ·exact⟨by decide+kernel,by decide+kernel⟩
def Vx(hm:RM m)(hi:i<m+1)(hj:j<m+1):∃n,n<=m/\it m n i=j:=by
 obtain⟨h1,h2⟩:=JP hm;obtain⟨a,ha,rfl⟩:=Bc m _ 0 i (h1 i hi);obtain⟨b,hb,rfl⟩:=Bc m _ 0 j (h1 j hj);by_cases h:a<=b
 ·exact⟨b - a,by omega,by rw[<-rk,Nat.sub_add_cancel h]⟩
 ·refine⟨m+1 - a+b,by omega,?_⟩;rw[<-rk,show m+1 - a+b+a=b+(m+1) by omega,rk,h2]
def PZ(m b k:Nat):(iK m b k).1<m+1:=by
 cases k with
 |zero=>exact ado _ (by omega)
 |succ k=>exact ado _ (by omega)
def reach(hm:RM m)(hb:b<2 ^ 64)(hj:j<m+1):∃k,k<=m+13/\(iK m b k).1=j:=by
 obtain⟨n,hn,e⟩:=Vx hm (PZ m b 13) hj;exact⟨n+13,by omega,by rw[Cb hb,e]⟩
def Uj(t:SetTable):Nat->Probe->Probe
 |0,p=>p
 |n+1,p=>Uj t n (t.advance p)
def vals(o:Array (Option Nat))(n:Nat):List Nat:=(Yp n).filterMap λj=>o.getD j none
end L3
namespace L3
open PySem PySem.Spec L2 HT
open PyProof.Rows hiding St
def items_int{P:YK}{w:World}:∀{us:List Value}{ns:List Int},Zl us ns->ItemsAre (intKind P w) ns us
 |_,_, .nil=> .nil
 |_,_, .cons n t h=> .cons (intKind_is _ _ _ _) (items_int h)
end L3
namespace L3
open PySem PySem.SetTable PySem.W PyProof.Rows
def IsSI(h:Heap)(it a:Addr)(sl k n ep:Nat):Prop:=∃o,h.get? it=some o/\o.cls= .type "set_iterator"/\o.data= .fields #[acI sl,acI k, .ref a,acI n,acI ep]
def IsSI.typeIs{s:X1}{it a:Addr}{sl k n ep:Nat}(x:IsSI s.heap it a sl k n ep):s.TypeIs (.ref it) "set_iterator":=let ⟨o,ho,hc,_⟩:=x;⟨o,ho,hc⟩
end L3
namespace L3
open PySem PySem.Spec L2 HT
open PyProof.Rows hiding St
def eV:List Int->Int
 |[]=>0
 |[x]=>x
 |x::r=>max x (eV r)
def jG:List Int->Int
 |[]=>0
 |[x]=>x
 |x::r=>min x (jG r)
def ik:∀{l:List Int},0<l.length->eV l∈l/\∀a∈l,a<=eV l
 |[x],_=>⟨by simp[eV],λa h=>by rw[Yb.mp h];exact Int.le_refl _⟩
 |x::y::r,_=>by
  obtain⟨h1,h2⟩:=ik (l:=y::r) (adR _);have e:eV (x::y::r)=max x (eV (y::r)):=rfl;rw[e];refine⟨?_,λa ha=>?_⟩
  ·rcases Int.le_total x (eV (y::r)) with q | q
   ·rw[Int.max_eq_right q];exact XT _ h1
   ·rw[Int.max_eq_left q];exact XU ..
  ·rcases XY.mp ha with q | q
   ·rw[q];exact Int.le_max_left ..
   ·exact adY (h2 a q) (Int.le_max_right ..)
def nX:∀{l:List Int},0<l.length->jG l∈l/\∀a∈l,jG l<=a
 |[x],_=>⟨by simp[jG],λa h=>by rw[Yb.mp h];exact Int.le_refl _⟩
 |x::y::r,_=>by
  obtain⟨h1,h2⟩:=nX (l:=y::r) (adR _);have e:jG (x::y::r)=min x (jG (y::r)):=rfl;rw[e];refine⟨?_,λa ha=>?_⟩
  ·rcases Int.le_total x (jG (y::r)) with q | q
   ·rw[Int.min_eq_left q];exact XU ..
   ·rw[Int.min_eq_right q];exact XT _ h1
  ·rcases XY.mp ha with q | q
   ·rw[q];exact Int.min_le_left ..
   ·exact adY (Int.min_le_right ..) (h2 a q)
section
variable{X:Cx}{Xw:Nat->Hp->Prop}{e:Expr}{δs:DA}{pos p:Pos}
def uW:List D->M D
 |[.lst ds]=>match nums ds with
  |some ns=>if 0<ns.length then aa (.int (eV ns)) else ag
  |none=>ag
 |_=>ag
def rN:List D->M D
 |[.lst ds]=>match nums ds with
  |some ns=>if 0<ns.length then aa (.int (jG ns)) else ag
  |none=>ag
 |_=>ag
def rl{aT:List Value}{ns:List Int}(hi:Zl aT ns):∃xs:Array (Int×Tok),aT.toArray=intItems xs/\xs.size=ns.length/\∀i,i<xs.size->numAt xs i∈ns/\ns[i]? =some (numAt xs i):=by
 obtain⟨xs,hx⟩:=hi.allInts.items;have e1:ns=xs.toList.map (·.1):=by
  rw[<-nums_intItems,<-hx];exact(show numsOf aT.toArray.toList=ns from hi.numsOf).symm
 refine⟨xs,hx,by rw[e1];simp,λi h=>?_⟩;have:ns[i]? =some (numAt xs i):=by
  rw[e1,X6,Zn];unfold numAt;rw[aaH h];rfl
 exact⟨Yi this,this⟩
def Di(hc:X.calm=true):CallR X (.builtin "max") (λxs H Q=>∃(p:Addr) (ns:List Int),xs=[.ref p]/\SqL X.K H p (ns.map V.int)/\0<ns.length/\Q (.int (eV ns)) H):=by
 intro f8 s σ H xs us Q I r h;obtain⟨a,ns,rfl,hq,h0,q⟩:=h;obtain⟨u,rfl,r1⟩:=r.one;cases (show u=_ from r1);obtain⟨aT,rv,pl,hz⟩:=I.list hq;have hi:Zl aT ns:=by simpa using intsAre_of rv
 obtain⟨xs,hx,hsz,pW⟩:=rl hi;obtain⟨g1,g2⟩:=argBest_gt (numAt xs) (xs.size - 1);refine max_intList (I.ok.hd hc) (show s.heap.IsList a (intItems xs) from hx▸pl.isList) (by omega) λv h' tk hv hk=>?_;obtain⟨t,rfl⟩:=intItems_at hv;have hM:=pW (aec (λi j=>decide (numAt xs i>numAt xs j)) (xs.size - 1)) (by omega);obtain⟨m1,m2⟩:=ik h0;have e:numAt xs (aec (λi j=>decide (numAt xs i>numAt xs j)) (xs.size - 1))=eV ns:=by
  refine ab1 (m2 _ hM.1) ?_;obtain⟨j,hj,e⟩:=Y_ m1;have h2:=(pW j (by omega)).2;rw[XW hj,e] at h2;rw[YI h2];exact g2 j (by omega)
 rw[e];exact⟨.int (eV ns),H,I.kept hk,⟨_,rfl⟩,q⟩
def Dk(hc:X.calm=true):CallR X (.builtin "min") (λxs H Q=>∃(p:Addr) (ns:List Int),xs=[.ref p]/\SqL X.K H p (ns.map V.int)/\0<ns.length/\Q (.int (jG ns)) H):=by
 intro f8 s σ H xs us Q I r h;obtain⟨a,ns,rfl,hq,h0,q⟩:=h;obtain⟨u,rfl,r1⟩:=r.one;cases (show u=_ from r1);obtain⟨aT,rv,pl,hz⟩:=I.list hq;have hi:Zl aT ns:=by simpa using intsAre_of rv
 obtain⟨xs,hx,hsz,pW⟩:=rl hi;obtain⟨g1,g2⟩:=argBest_lt (numAt xs) (xs.size - 1);refine min_intList (I.ok.hd hc) (show s.heap.IsList a (intItems xs) from hx▸pl.isList) (by omega) λv h' tk hv hk=>?_;obtain⟨t,rfl⟩:=intItems_at hv;have hM:=pW (aec (λi j=>decide (numAt xs i<numAt xs j)) (xs.size - 1)) (by omega);obtain⟨m1,m2⟩:=nX h0;have e:numAt xs (aec (λi j=>decide (numAt xs i<numAt xs j)) (xs.size - 1))=jG ns:=by
  refine ab1 ?_ (m2 _ hM.1);obtain⟨j,hj,e⟩:=Y_ m1;have h2:=(pW j (by omega)).2;rw[XW hj,e] at h2;rw[YI h2];exact g2 j (by omega)
 rw[e];exact⟨.int (jG ns),H,I.kept hk,⟨_,rfl⟩,q⟩
def JT(hc:X.calm=true)(hg:Gl X "max")(hm:X.mg "max"=none)(hb:YN "max"=some (.builtin "max"))(ha:jm X Xw [e] δs)(he:Yg [e] X.env=[(false,eval e X.env)]:=by rfl):PD X Xw (.Call (.Name "max" p) [e] [] pos) (dA uW δs):=
 cE (Di hc) (λXw F H vs ds Q s h w=>by
  unfold uW at w;split at w
  ·rename_i ds;obtain⟨v,rfl,h1⟩:=h.one;obtain⟨a,ws,rfl,h2,h3,h4⟩:=h1;split at w
   ·rename_i ns EU;split at w
    ·rename_i h0;have e:=eK EU h3;subst e;exact⟨a,ns,rfl,SqL.of (s _ _ h2),h0,WP.now w s rfl⟩
    ·exact w.elim
   ·exact w.elim
  ·exact w.elim) hg hm hb ha (by decide) (by decide) he rfl
def CF(hc:X.calm=true)(hg:Gl X "min")(hm:X.mg "min"=none)(hb:YN "min"=some (.builtin "min"))(ha:jm X Xw [e] δs)(he:Yg [e] X.env=[(false,eval e X.env)]:=by rfl):PD X Xw (.Call (.Name "min" p) [e] [] pos) (dA rN δs):=
 cE (Dk hc) (λXw F H vs ds Q s h w=>by
  unfold rN at w;split at w
  ·rename_i ds;obtain⟨v,rfl,h1⟩:=h.one;obtain⟨a,ws,rfl,h2,h3,h4⟩:=h1;split at w
   ·rename_i ns EU;split at w
    ·rename_i h0;have e:=eK EU h3;subst e;exact⟨a,ns,rfl,SqL.of (s _ _ h2),h0,WP.now w s rfl⟩
    ·exact w.elim
   ·exact w.elim
  ·exact w.elim) hg hm hb ha (by decide) (by decide) he rfl
end
end L3
namespace L3
open PySem PySem.Spec L2
open PyProof.Rows hiding St
end L3
namespace L3
open PySem PySem.Spec L2 SeqAt HT
open PyProof.Rows hiding St
section
variable{X:Cx}{Xw:Nat->Hp->Prop}{a e o:Expr}{δo:DE}{δs:DA}{p apos aO:Pos}
def Td(n:Int):Value->Bool
 | .int i _=>i==n
 |_=>false
def uK:D->List D->M D
 | .lst ds,[.int n]=>match nums ds with
   |some ns=>if ns.contains n then aa (.int (ns.idxOf n)) else ag
   |none=>ag
 |_,_=>ag
def QA(K:X5):V->List V->Hp->VK->Prop:=λx vs H Q=>∃(a:Addr) (ns:List Int) (n:Int),x= .ref a/\vs=[.int n]/\H a=some (.lst (ns.map V.int))/\ns.contains n=true/\Q (.int (ns.idxOf n)) H
def JB:Oe X "list.index" (QA X.K):=by
 intro f8 s σ H x vs v us Q I rx rv h;obtain⟨a,ns,n,rfl,rfl,hH,hc,q⟩:=h;cases rx;obtain⟨u,rfl,r1⟩:=rv.one;obtain⟨t,rfl⟩:=r1;obtain⟨z,aT,m,r,hl,e⟩:=I.lstM hH;have hlen:=r.length;rw[XS] at hlen;have at':∀i (h:i<aT.length),∃t,aT[i]= .int (ns[i]'(by omega)) t:=λi h=>by
  have q:=oO i r (by rw[XS];omega);rw[Yq,X6,XW (by omega:i<ns.length),Yq,XW h] at q;exact q
 have hm:n∈ns:=by simpa using hc
 have dW:ns.idxOf n<ns.length:=adn.mpr hm;have hz:ns.length<=Yl:=by simpa using z
 have hs:Yl=16777216:=ZM;refine abj F.slot_list_index ⟨_,e,rfl⟩ F.entry_list_index (F.args_list_index_2 _ _) (list_indexAt a _ m none #[] (.int n t) (Td n) (ns.idxOf n) (by simp;omega) (by omega) ?_ ?_) ⟨e,λy hy=>?_,?_⟩
 ·obtain⟨t',e1⟩:=at' (ns.idxOf n) (by omega);have:ns[ns.idxOf n]=n:=aek dW;simp[Td,e1,this]
 ·intro k DK vS;have Ja:k<aT.length:=by simpa using DK
  obtain⟨t',e1⟩:=at' k Ja;have:ns[k]'(by omega)≠n:=λz=>by
   have:=adF (p:=(· ==n)) (xs:=ns) (i:=k) vS;rw[z] at this;simp at this
  simp[Td,e1,this]
 ·have hy:y∈aT:=by simpa using hy
  obtain⟨i,hi,rfl⟩:=Y_ hy;obtain⟨t',e1⟩:=at' i hi;rw[e1];exact EqAt.int_int _ _ _ _
 ·exact⟨.int (ns.idxOf n),H,I.tok _,⟨_,rfl⟩,q⟩
def CB(ho:PD X Xw o δo)(ha:jm X Xw [e] δs)(eG:Zx o "index" X.env (eval o X.env)=eval o X.env:=by rfl)
 (jy:((ZI aO (Yg [e] X.env)).all (λx=>!x.1)&&(abg aO (aaj [] X.env)).all (λx=>x.1.isSome)&&decide ([e].length+([]:List aaf).length+(if ([]:List aaf).isEmpty then 0 else 1)<30))=true:=by rfl)
 (eJ:(apos.endLine==aO.line)=true:=by rfl)(uJ:Yg [e] X.env=[(false,eval e X.env)]:=by rfl):PD X Xw (.Call (.Attribute o "index" apos) [e] [] aO) (dM gG uK δo δs):=
 Cz Zy ac0 acZ JB rj (λXw F H x vs d ds Q s hx hv w=>by
  unfold uK at w;split at w
  ·rename_i ds n;obtain⟨v,rfl,h1⟩:=hv.one;cases (show _=_ from h1);obtain⟨a,ws,rfl,h2,h3,_⟩:=hx;split at w
   ·rename_i ns hb;split at w
    ·rename_i hc;exact⟨a,ns,n,rfl,rfl,by rw[<-eK hb h3];exact s _ _ h2,hc,WP.now w s rfl⟩
    ·exact w.elim
   ·exact w.elim
  ·exact w.elim) ho ha eG jy eJ uJ rfl
end
section
variable{a:Expr}
end
end L3
namespace L3
open PySem PySem.Spec L2 HT
open PyProof.Rows hiding St
end L3
namespace L3
open PySem PySem.Spec L2 SeqAt HT
open PyProof.Rows hiding St
section
variable{X:Cx}{f8:List (Addr×Obj)}{σ:St}{H:Hp}{s:X1}{a:Addr}{kvs:List (Key×V)}{k:Key}{z:V}{u r:Value}{A:YX}{E:Value->X1->Prop}
def Fq{Q:Value->X1->Prop}(I:Inv X f8 σ H s)(e:H a=some (.dK kvs))(ry:RelV (kV k) u)(rz:RelV z r)(hl:kvs.length<Yl)
 (h1:∀v w' s',fF kvs k=some v->Inv X f8 σ H s'->RelV v w'->Q w' s')
 (h2:∀s',fF kvs k=none->Inv X f8 σ (upd H a (.dK (putK kvs k z))) s'->Q r s'):
 wpAny (model X.prog X.w) A (call (.builtin "dict.setdefault") [.ref a,u,r]) Q E s:=by
 obtain⟨zz,hd,vs,rel,dd⟩:=Fu I.hok e;have hz:vs.length<=Yl:=by rw[<-rel.length];exact zz
 have B_:(putK kvs k z).length<=Yl:=by have:=eu kvs k z;omega
 have rv:=rel.val k;refine acb acw dd.typeIs PySem.F.entry_dict_setdefault (PySem.F.args_dict_setdefault_3 _ _ _) (kt_meets_setdefault (aU X.prog X.w) a (l_ ry) hd r) ⟨vs,dd,hz,λv hv=>?_,λhn h' Af hs=>?_⟩
 ·cases q:fF kvs k with
  |none=>rw[q] at rv;rw[RelO.none_of rv] at hv;cases hv
  |some v0=>
   rw[q] at rv;obtain⟨w',hw,xW⟩:=RelO.some_of rv;rw[hw] at hv;cases hv;exact h1 v0 _ _ q (I.tok _) xW
 ·cases q:fF kvs k with
  |some v0=>rw[q] at rv;obtain⟨w',hw,_⟩:=RelO.some_of rv;rw[hw] at hn;cases hn
  |none=>
   have he:∃q,h'.get? a=some q:=let ⟨q,_,_,hq,_⟩:=Af;⟨q,hq⟩
   exact h2 _ q (kc I (by rw[e];exact Z6) hs he (Ay B_ hd (rel.put k rz) Af))
end
section
variable{X:Cx}{o e f:Expr}{apos aO:Pos}{td ty tx:TE}
def Lu(td ty tx:TE):TE:=λσ H Q=>td σ H λx H1=>∃a,x= .ref a/\Od H1 a/\ty σ H1 λy H2=>tx σ H2 λz H3=>∃kvs k,H3 a=some (.dK kvs)/\y=kV k/\kvs.length<Yl/\
 (∀v,fF kvs k=some v->Q v H3)/\(fF kvs k=none->Q z (upd H3 a (.dK (putK kvs k z))))
def J7(ho:PE X o td)(he:PE X e ty)(hf:PE X f tx)(m:M2 X o "setdefault" apos e f aO):PE X (.Call (.Attribute o "setdefault" apos) [e,f] [] aO) (Lu td ty tx):=by
 intro f8 s σ H Q I h;refine abK m.base m.few m.line Z7 acw PySem.F.type_dict_setdefault (bX (ho f8 s σ H _ I h) λu s1 ⟨x,H1,I1,rx,a,ex,d,q1⟩=>?_);subst ex;obtain rfl:u=YF a:=rx;obtain⟨t1,t2,_⟩:=vZ I1 d;refine⟨t1,t2,?_⟩;rw[m.trees];refine aah rfl (ZX (Zw (bX (he f8 s1 σ H1 _ I1 q1) λiv s2 ⟨y,H2,I2,ry,q2⟩=>
  Zw (bX (hf f8 s2 σ H2 _ I2 q2) λfv s3 ⟨z,H3,I3,rz,kvs,k,e1,ey,hl,g1,g2⟩=>aav ?_))))
 subst ey;exact Fq I3 e1 ry rz hl (λv w' s' q I4 r4=>⟨v,H3,I4,r4,g1 v q⟩) λs' q I4=>⟨z,_,I4,rz,g2 q⟩
end
abbrev qB:=List (Key×List Key)
def tN(ks:List Key)(k:Key):Bool:=ks.any λx=>decide (x=k)
def l5{ks:List Key}{k:Key}:tN ks k=true↔k∈ks:=by
 unfold tN;rw[List.any_eq_true];exact⟨λ⟨x,h1,h2⟩=>(aeC h2)▸h1,λh=>⟨k,h,aeA rfl⟩⟩
def xm(ps:qB)(k:Key):qB:=if tN (ps.map (·.1)) k then ps else ps++[(k,[])]
def qC(ps:qB)(k j:Key):qB:=ps.map λp=>if p.1=k then(p.1,if tN p.2 j then p.2 else p.2++[j]) else p
def xV(ps:qB):Bool:=decide (ps.length<lim)&&ps.all λp=>decide (p.2.length<lim)
def inD(ks:List Key):D:= .dci ks (ks.map λ_=> .bl true)
def jR(ps:qB):D:= .dci (ps.map (·.1)) (ps.map λp=>inD p.2)
def lG(oi:Nat)(tc:DT)(δk:DE)(k:Key)(Z:bH):List D->qB->M qB
 |[],ps=>aa ps
 |d::ds,ps=>noex (tc (Z.set oi (some (.fz d))))>>=λb=>if b then noex (δk (Z.set oi (some (.fz d))))>>=λkd=>match ro kd with
   |some j=>if xV ps then lG oi tc δk k Z ds (qC ps k j) else ag
   |none=>ag
  else lG oi tc δk k Z ds ps
def gw(ci oi:Nat)(δk:DE)(δj:DA)(tc:DT)(δk2:DE)(Z:bH):List D->qB->M qB
 |[],ps=>aa ps
 |d::ds,ps=>noex (δk (Z.set ci (some (.fz d))))>>=λkd=>match ro kd with
   |some k=>if xV ps then noex (δj (Z.set ci (some (.fz d))))>>=λes=>lG oi tc δk2 k (Z.set ci (some (.fz d))) es (xm ps k)>>=λf9=>gw ci oi δk δj tc δk2 Z ds f9 else ag
   |none=>ag
def jo(Z:bH):Bool:=Z.all λx=>match x with | some (.ow _)=>false | _=>true
def zO(ni ci mi oi:Nat)(δi:DA)(δk:DE)(δj:DA)(tc:DT)(δk2:DE):DS:=λZ=>match t_ Z ni with
 |some (.dci [] [])=>if jo (fgt [ni,ci,mi,oi] Z) then noex (δi (fgt [ni,ci,mi,oi] Z))>>=λds=>noex (gw ci oi δk δj tc δk2 (fgt [ni,ci,mi,oi] Z) ds [])>>=λps=>
   if xV ps then aa (.nx ((fgt [ni,ci,mi,oi] Z).set ni (some (.fz (jR ps))))) else ag else ag
 |_=>ag
def Ext.of_chg{u8 aeH F H:Hp}{b:Addr}{o:HO}(e:Ext u8 aeH F H)(h1:F b=none)(h2:aeH b=none):Ext u8 aeH F (upd H b o):=
 ⟨λc u q=>by rw[av (λz=>by rw[z,h2] at q;cases q)];exact e.hh c u q,e.ff,λc u q=>by rw[av (λz=>by rw[z,h1] at q;cases q)];exact e.fh c u q,e.new⟩
def StE.fzH{K:X5}{F H H':Hp}{σ:St}{Z:bH}(s:StE K F H σ Z)(h:jo Z=true)(e:Same F H'):StE K F H' σ Z:=
 ⟨e,λi sl q=>by
  obtain⟨v,h1,h2⟩:=s.den i sl q;refine⟨v,h1,?_⟩;cases sl with
  |fz d=>exact h2
  |ow c=>have:=Yn.mp h _ (Yi q);cases this⟩
def get_set{α:Type}{l:List (Option α)}{i j:Nat}{x:Option α}{y:α}(h:(l.set i x)[j]? =some (some y)):(j=i/\x=some y)\/(j≠i/\l[j]? =some (some y)):=by
 by_cases hj:j=i
 ·subst hj;have hi:j<l.length:=by have:=(X0.mp h).1;simpa using this
  rw[X_ hi] at h;exact .inl ⟨rfl,YI h⟩
 ·rw[X2 (YJ hj)] at h;exact .inr ⟨hj,h⟩
def nB{Z:bH}(h:jo Z=true)(i:Nat){x:Option Sl}(hx:∀c,x≠some (.ow c)):jo (Z.set i x)=true:=Yn.mpr λy hy=>by
 rcases List.mem_or_eq_of_mem_set hy with q | q
 ·exact Yn.mp h y q
 ·subst q
  match y,hx with
  |none,_=>rfl
  |some (.fz d),_=>rfl
  |some (.ow c),hx=>exact aeB rfl (hx c)
structure Nr (K:X5) (u8 aeH G F H:Hp) (σ:St) (Z:bH) (ni:Nat) (a:Addr) (bs:List Addr) (ps:qB):Prop where
 ext:Ext u8 aeH F H
 gf:Same G F
 st:StE K F H σ Z
 len:Z.length=σ.length
 near:σ[ni]? =some (some (.ref a))
 ha:H a=some (.dK ((ps.map (·.1)).zip (bs.map V.ref)))
 hb:∀(i:Nat) (b:Addr) (p:Key×List Key),bs[i]? =some b->ps[i]? =some p->H b=some (.dK (p.2.map λk=>(k,V.bl true)))
 sz:bs.length=ps.length
 nd:(a::bs).Nodup
 fr:∀b∈a::bs,F b=none/\aeH b=none
 fz:jo Z=true
section
variable{K:X5}{u8 aeH G G' F H F' H':Hp}{σ:St}{Z:bH}{ni:Nat}{a:Addr}{bs:List Addr}{ps:qB}
def Nr.at(n:Nr K u8 aeH G F H σ Z ni a bs ps){b:Addr}(hb:b∈a::bs):∃kvs,H b=some (.dK kvs):=by
 rcases XY.mp hb with rfl | hb
 ·exact⟨_,n.ha⟩
 ·obtain⟨i,hi,rfl⟩:=Y_ hb;exact⟨_,n.hb i _ (ps[i]'(by rw[<-n.sz];exact hi)) (XW hi) (XW _)⟩
def Nr.ext'(n:Nr K u8 aeH G F H σ Z ni a bs ps)(e:Ext F H F' H'):Nr K u8 aeH G F' H' σ Z ni a bs ps:=
 ⟨n.ext.trans e,n.gf.trans e.ff,n.st.ext e,n.len,n.near,e.hh _ _ n.ha,λi b p h1 h2=>e.hh _ _ (n.hb i b p h1 h2),n.sz,n.nd,λb hb=>by
  obtain⟨kvs,hk⟩:=n.at hb;exact⟨by rw[e.old hk λts z=>nomatch z];exact(n.fr b hb).1,(n.fr b hb).2⟩,n.fz⟩
def Nr.rg(n:Nr K u8 aeH G F H σ Z ni a bs ps)(e:Same G' F):Nr K u8 aeH G' F H σ Z ni a bs ps:=⟨n.ext,e,n.st,n.len,n.near,n.ha,n.hb,n.sz,n.nd,n.fr,n.fz⟩
def Nr.put(n:Nr K u8 aeH G F H σ Z ni a bs ps){j:Nat}(hj:j≠ni){d:D}{v:V}(h:Den K F d v):Nr K u8 aeH G F H (σ.set j (some v)) (Z.set j (some (.fz d))) ni a bs ps:=
 ⟨n.ext,n.gf,⟨n.st.fh,λi sl q=>by
  rcases get_set q with⟨rfl,e⟩ | ⟨dm,q⟩
  ·cases e;have hi:i<Z.length:=by have:=(X0.mp q).1;simpa using this
   exact⟨v,by rw[X_ (by rw[<-n.len];exact hi)],h⟩
  ·obtain⟨u,h1,h2⟩:=n.st.den i sl q;exact⟨u,by rw[X2 (YJ dm)];exact h1,h2⟩⟩,by simp[n.len],by rw[X2 hj];exact n.near,n.ha,n.hb,n.sz,n.nd,n.fr,nB n.fz _ (λc z=>nomatch z)⟩
def Nr.put0(n:Nr K u8 aeH G F H σ Z ni a bs ps){j:Nat}(hj:j≠ni)(v:V):Nr K u8 aeH G F H (σ.set j (some v)) (Z.set j none) ni a bs ps:=
 ⟨n.ext,n.gf,⟨n.st.fh,λi sl q=>by
  rcases get_set q with⟨rfl,e⟩ | ⟨dm,q⟩
  ·cases e
  ·obtain⟨u,h1,h2⟩:=n.st.den i sl q;exact⟨u,by rw[X2 (YJ dm)];exact h1,h2⟩⟩,by simp[n.len],by rw[X2 hj];exact n.near,n.ha,n.hb,n.sz,n.nd,n.fr,nB n.fz _ (λc z=>nomatch z)⟩
def Nr.fgt0(n:Nr K u8 aeH G F H σ Z ni a bs ps)(j:Nat):Nr K u8 aeH G F H σ (Z.set j none) ni a bs ps:=
 ⟨n.ext,n.gf,⟨n.st.fh,λi sl q=>by
  rcases get_set q with⟨rfl,e⟩ | ⟨dm,q⟩
  ·cases e
  ·exact n.st.den i sl q⟩,by simp[n.len],n.near,n.ha,n.hb,n.sz,n.nd,n.fr,nB n.fz _ (λc z=>nomatch z)⟩
def ql{α β:Type}{l:List α}{i:Nat}{f:α->β}{y:β}(h:(l.map f)[i]? =some y):∃x,l[i]? =some x/\f x=y:=by
 rw[X6] at h;exact aaR.mp h
def Er(ks:List Key)(j:Key):putK (ks.map λk=>(k,V.bl true)) j (V.bl true)=(if tN ks j then ks else ks++[j]).map λk=>(k,V.bl true):=by
 unfold putK;have e:((ks.map λk=>(k,V.bl true)).any λkv=>decide (kv.1=j))=tN ks j:=by
  rw[abV,List.any_eq_true,l5];constructor
  ·rintro⟨kv,h1,h2⟩;obtain⟨k,hk,rfl⟩:=X9.mp h1;exact(aeC h2:k=j)▸hk
  ·exact λh=>⟨(j,V.bl true),X9.mpr ⟨j,h,rfl⟩,by simp⟩
 rw[e];by_cases hj:tN ks j=true
 ·rw[aex hj,aex hj,Yu];refine Y9 λk _=>?_;show (if k=j then(k,V.bl true) else(k,V.bl true))=_;split<;>rfl
 ·rw[aey hj,aey hj,Yx];rfl
def ya(ps:qB)(k j:Key):(qC ps k j).map (·.1)=ps.map (·.1):=by
 unfold qC;rw[Yu];refine Y9 λp _=>?_;show (if p.1=k then(p.1,_) else p).1=p.1;split<;>rfl
def Nr.add(n:Nr K u8 aeH G F H σ Z ni a bs ps)(kn:(ps.map (·.1)).Nodup){i:Nat}{b:Addr}{p:Key×List Key}(hi:bs[i]? =some b)(hp:ps[i]? =some p)(j:Key):
 Nr K u8 aeH G F (upd H b (.dK (putK (p.2.map λk=>(k,V.bl true)) j (V.bl true)))) σ Z ni a bs (qC ps p.1 j):=by
 have hm:b∈a::bs:=XT _ (Yi hi);have dm:a≠b:=λz=>(Yz.mp n.nd).1 (z▸Yi hi);have e:=n.ext.of_chg (o:= .dK (putK (p.2.map λk=>(k,V.bl true)) j (V.bl true))) (n.fr b hm).1 (n.fr b hm).2;refine⟨e,n.gf,n.st.fzH n.fz e.fh,n.len,n.near,?_,λi' b' p' h1 h2=>?_,by rw[n.sz];simp[qC],n.nd,n.fr,n.fz⟩
 ·rw[av dm,ya];exact n.ha
 ·obtain⟨q,hq,rfl⟩:=ql (show (ps.map _)[i']? =_ from h2);by_cases Mu:i'=i
  ·subst Mu;rw[hi] at h1;cases h1;rw[hp] at hq;cases hq;rw[aB,aex rfl,Er]
  ·have O8:b'≠b:=λz=>by
    subst z;exact Mu ((abv (X0.mp h1).1 (Yz.mp n.nd).2).mp (h1.trans hi.symm))
   have WG:q.1≠p.1:=λz=>by
    exact Mu ((abv (by simpa using (X0.mp hq).1) kn).mp (by rw[X6,X6,hq,hp];exact aeE some z))
   rw[av O8,aey WG];exact n.hb i' b' q h1 hq
def s9{κ:Type}[DecidableEq κ]:∀{ks:List κ}{vs:List V}(k:κ),ks.length=vs.length->
 (match fF (ks.zip vs) k with | some v=>∃i:Nat,ks[i]? =some k/\vs[i]? =some v | none=>k∉ks)
 |[],[],k,_=>by simp[fF]
 |k'::ks,v::vs,k,hl=>by
  rw[Y4];by_cases e:k'=k
  ·rw[j7 (p:=(k',v)) e];exact⟨0,by simp[e],rfl⟩
  ·rw[j6 (p:=(k',v)) e];have:=s9 (ks:=ks) (vs:=vs) k (by simpa using hl);cases q:fF (ks.zip vs) k with
   |none=>rw[q] at this;exact λz=>(XY.mp z).elim (λz=>e z.symm) this
   |some u=>rw[q] at this;obtain⟨i,h1,h2⟩:=this;exact⟨i+1,by simpa using h1,by simpa using h2⟩
 |[],_::_,_,hl=>by simp at hl
 |_::_,[],_,hl=>by simp at hl
def zA{κ:Type}[DecidableEq κ]{kvs:List (κ×V)}{k:κ}{v:V}(h:fF kvs k=none):putK kvs k v=kvs++[(k,v)]:=by
 unfold putK;rw[j5,h];rfl
def Nr.new(n:Nr K u8 aeH G F H σ Z ni a bs ps){p:Addr}(hp:H p=none){k:Key}(hk:fF ((ps.map (·.1)).zip (bs.map V.ref)) k=none):
 Nr K u8 aeH G F (upd (upd H p (.dK [])) a (.dK (putK ((ps.map (·.1)).zip (bs.map V.ref)) k (.ref p)))) σ Z ni a (bs++[p]) (ps++[(k,[])]):=by
 have dm:∀b∈a::bs,b≠p:=λb hb z=>by
  obtain⟨kvs,h⟩:=n.at hb;rw[z,hp] at h;cases h
 have ha:=dm a XU;have e0:=n.ext.trans (Ext.free (o:= .dK []) n.st.fh hp);have hF:F p=none:=Same.free n.st.fh hp;have hH:aeH p=none:=Same.free n.ext.hh hp;have e:=e0.of_chg (o:= .dK (putK ((ps.map (·.1)).zip (bs.map V.ref)) k (.ref p))) (n.fr a XU).1 (n.fr a XU).2;have nd:=Yz.mp n.nd;refine⟨e,n.gf,n.st.fzH n.fz e.fh,n.len,n.near,?_,λi b q h1 h2=>?_,by simp[n.sz],?_,λb hb=>?_,n.fz⟩
 ·rw[aB,zA hk,Yx,Yx,abQ (by simp[n.sz])];rfl
 ·by_cases hi:i<bs.length
  ·rw[YA hi] at h1;rw[YA (by rw[<-n.sz];exact hi)] at h2;have hm:=Yi h1;rw[av (λz:b=a=>nd.1 (z▸hm)),av (dm b (XT _ hm))];exact n.hb i b q h1 h2
  ·have IZ:i=bs.length:=by
    have:=(X0.mp h1).1;simp at this;omega
   subst IZ;rw[aas] at h1;cases h1;rw[n.sz,aas] at h2;cases h2;rw[av (YJ ha),aB];rfl
 ·rw[Yz,Yr];refine⟨λz=>z.elim nd.1 λz=>ha (Yb.mp z),?_⟩;rw[YT];exact⟨nd.2,by simp,λx hx y hy z=>dm x (XT _ hx) (by rw[z];exact Yb.mp hy)⟩
 ·rcases XY.mp hb with rfl | hb
  ·exact n.fr _ XU
  ·rcases Yr.mp hb with hb | hb
   ·exact n.fr b (XT _ hb)
   ·cases Yb.mp hb;exact⟨hF,hH⟩
def Nr.gar(n:Nr K u8 aeH G F H σ Z ni a bs ps){p:Addr}(hp:H p=none):Nr K u8 aeH G F (upd H p (.dK [])) σ Z ni a bs ps:=n.ext' (Ext.free n.st.fh hp)
end
def ve{X:Cx}{f8:List (Addr×Obj)}{σ:St}{s:X1}:∀{bs:List Addr}{H:Hp},Inv X f8 σ H s->bs.Nodup->(∀b∈bs,∃kvs,H b=some (.dK kvs))->
 ∃H',Inv X f8 σ H' s/\(∀b∈bs,∀kvs,H b=some (.dK kvs)->∃ob,H' b=some (.frz ob (.dK kvs)))/\∀c,c∉bs->H' c=H c
 |[],H,I,_,_=>⟨H,I,λb hb=>(nomatch hb),λ_ _=>rfl⟩
 |b::bs,H,I,nd,h=>by
  obtain⟨kvs,e⟩:=h b XU;have nd:=Yz.mp nd;obtain⟨H',I',h1,h2⟩:=ve (bs:=bs) (L3.Inv.refrz I e (o':= .frz _ (.dK kvs)) (.inr ⟨_,rfl, .inr ⟨_,rfl,rfl⟩⟩)) nd.2 λc hc=>by
   rw[av (λz:c=b=>nd.1 (z▸hc))];exact h c (XT _ hc)
  refine⟨H',I',λc hc Qa e'=>?_,λc hc=>?_⟩
  ·rcases XY.mp hc with rfl | hc
   ·rw[e] at e';cases e';exact⟨_,by rw[h2 _ nd.1,aB]⟩
   ·exact h1 c hc Qa (by rw[av (λz:c=b=>nd.1 (z▸hc))];exact e')
  ·rw[h2 c λz=>hc (XT _ z),av λz:c=b=>hc (z▸XU)]
def HY(ks:List Key):ks.map (λk=>(k,V.bl true))=ks.zip (ks.map λ_=>V.bl true):=by
 induction ks with
 |nil=>rfl
 |cons k ks ih=>rw[X3,X3,Y4,ih]
def DenL.trues{K:X5}{F:Hp}:∀(ks:List Key),DenL K F (ks.map λ_=>D.bl true) (ks.map λ_=>V.bl true)
 |[]=>rfl
 |_::ks=> .cons rfl (DenL.trues ks)
def DenL.ins{K:X5}{F:Hp}:∀{ps:qB}{bs:List Addr},bs.length=ps.length->(∀(i:Nat) (b:Addr) (p:Key×List Key),bs[i]? =some b->ps[i]? =some p->Den K F (inD p.2) (.ref b))->DenL K F (ps.map λp=>inD p.2) (bs.map V.ref)
 |[],[],_,_=>rfl
 |p::ps,b::bs,hl,h=> .cons (h 0 b p rfl rfl) (DenL.ins (by simpa using hl) λi b' p' h1 h2=>h (i+1) b' p' (by simpa using h1) (by simpa using h2))
 |[],_::_,hl,_=>by simp at hl
 |_::_,[],hl,_=>by simp at hl
def Nr.fin{X:Cx}{f8:List (Addr×Obj)}{s:X1}{u8 aeH G F H:Hp}{σ:St}{Z:bH}{ni:Nat}{a:Addr}{bs:List Addr}{ps:qB}(n:Nr X.K u8 aeH G F H σ Z ni a bs ps)(I:Inv X f8 σ H s)(ok:xV ps=true):
 ∃F' H',Inv X f8 σ H' s/\StOk X.K u8 aeH F' H' σ (Z.set ni (some (.fz (jR ps)))):=by
 obtain⟨Vg,Xd⟩:=Z5.mp ok;have Vg:=aeC Vg;obtain⟨H',I',h1,h2⟩:=ve I n.nd λb hb=>n.at hb
 let F':Hp:=λc=>if c∈a::bs then H' c else F c
 have f1:∀c,c∈a::bs->F' c=H' c:=λc hc=>aex hc;have f2:∀c,c∉a::bs->F' c=F c:=λc hc=>aey hc;have ff:Same F F':=λc u q=>by rw[f2 c λz=>by rw[(n.fr c z).1] at q;cases q];exact q
 have fh:Same F' H':=λc u q=>by
  by_cases z:c∈a::bs
  ·rw[f1 c z] at q;exact q
  ·rw[f2 c z] at q;rw[h2 c z];exact n.st.fh c u q
 have e:Ext u8 aeH F' H':=⟨λc u q=>by rw[h2 c λz=>by rw[(n.fr c z).2] at q;cases q];exact n.ext.hh c u q,n.ext.ff.trans ff,fh,λc hc=>by
  have z:c∉a::bs:=λz=>hc (n.fr c z).2;rw[f2 c z];exact n.ext.new c hc⟩
 have hd:Den X.K F' (jR ps) (.ref a):=by
  obtain⟨ob,My⟩:=h1 a XU _ n.ha;refine⟨a,ob,bs.map V.ref,rfl,by rw[f1 a XU];exact My,DenL.ins n.sz λi b p q1 q2=>?_,by simp,by simp;omega⟩;have hm:b∈a::bs:=XT _ (Yi q1);obtain⟨Xc,SG⟩:=h1 b hm _ (n.hb i b p q1 q2);have:=aeC (Yn.mp Xd p (Yi q2));exact⟨b,Xc,p.2.map λ_=>V.bl true,rfl,by rw[f1 b hm,SG,HY],DenL.trues _,by simp,by simp;omega⟩
 have GC:∀(i:Nat) (c:C),(Z.set ni (some (.fz (jR ps))))[i]? ≠some (some (.ow c)):=λi c q=>by
  rcases get_set q with⟨_,z⟩ | ⟨_,q⟩
  ·cases z
  ·have:=Yn.mp n.fz _ (Yi q);cases this
 refine⟨F',H',I',e,⟨fh,λi sl q=>?_⟩,by simp[n.len],λi c b q=>aeB q (GC i c),λi j c c' b q=>aeB q (GC i c)⟩;rcases get_set q with⟨rfl,z⟩ | ⟨_,q⟩
 ·cases z;exact⟨.ref a,n.near,hd⟩
 ·obtain⟨v,q1,q2⟩:=n.st.den i sl q;refine⟨v,q1,?_⟩;cases sl with
  |fz d=>exact Den.mono ff q2
  |ow c=>have:=Yn.mp n.fz _ (Yi q);cases this
def Bq{ps:qB}{k:Key}(h:k∈ps.map (·.1)):xm ps k=ps:=by
 unfold xm;rw[aex (l5.mpr h)]
def HA{ps:qB}{k:Key}(h:k∉ps.map (·.1)):xm ps k=ps++[(k,[])]:=by
 unfold xm;rw[aey (λz=>h (l5.mp z))]
def zV{Z:bH}{j:Nat}(h:∀sl,Z[j]? ≠some (some sl)):Z.set j none=Z:=by
 refine aew λi=>?_;by_cases hi:i=j
 ·subst hi;by_cases hl:i<Z.length
  ·rw[X_ hl];cases q:Z[i]? with
   |none=>rw[abm] at q;omega
   |some x=>
    cases x with
    |none=>rfl
    |some sl=>exact aeB q (h sl)
  ·rw[abm.mpr (by simp;omega),abm.mpr (by omega)]
 ·rw[X2 (YJ hi)]
def vN{α:Type}{l:List α}{i:Nat}{d:α}(hd:l[i]? =some d):l.drop i=d::l.drop (i+1):=by
 obtain⟨hi,e⟩:=X0.mp hd;rw[abn hi,e]
def M_{ps:qB}{i:Nat}{p:Key×List Key}(ok:xV ps=true)(h:ps[i]? =some p):p.2.length<lim:=aeC (Yn.mp (Z5.mp ok).2 p (Yi h))
def JG{ps:qB}(ok:xV ps=true):ps.length<lim:=aeC (Z5.mp ok).1
section
variable{X:Cx}{Xw:Nat->Hp->Prop}{D':Ends}{tc:DT}{δk δk2:DE}{δj:DA}{u8 aeH G:Hp}{Z:bH}{ni ci mi oi:Nat}{a b:Addr}{bs:List Addr}{tE ps:qB}{J:It}{es ds:List D}{σ:St}{F H:Hp}
abbrev QX(X:Cx)(Xw:Nat->Hp->Prop)(tc:DT)(mi:Nat)(δk:DE):TS:=QV (RE X.K Xw tc) (Lp (g7 mi) (tD X.K Xw δk) (tC (.bl true))) Lv
def Cq{i:Nat}{k:Key}(gA:oi≠ni)(Rn:oi≠mi)(VT:Z.set oi none=Z)(hi:bs[i]? =some b)(it:ItD X.K G J es)
 (fin:∀σ F H,Nr X.K u8 aeH G F H σ Z ni a bs tE->(tE.map (·.1)).Nodup->D'.nx σ H)
 (n:Nr X.K u8 aeH G F H σ Z ni a bs ps)(kn:(ps.map (·.1)).Nodup)(hm:σ[mi]? =some (some (.ref b)))(hk:∃p,ps[i]? =some p/\p.1=k)(w:lG oi tc δk k Z es ps=aa tE):
 ∃W:Nat->Nat->St->Hp->Prop,(∃m,W 0 m σ H)/\∀i m σ H,W i m σ H->(J.stop i H/\D'.nx σ H)\/(J.go i H/\∃N:St->Hp->Prop,(∀σ' H',N σ' H'->∃m',m'<m/\W (i+1) m' σ' H')/\∀x H',J.yld i H x H'->ib oi x σ H' λσ2 H2=>QX X Xw tc mi δk {D' with nx:=N,ct:=N,bk:=D'.nx} σ2 H2):=by
 refine⟨λt m σ H=>m=es.length - t/\t<=es.length/\∃F ps,Nr X.K u8 aeH G F H σ Z ni a bs ps/\(ps.map (·.1)).Nodup/\σ[mi]? =some (some (.ref b))/\(∃p,ps[i]? =some p/\p.1=k)/\lG oi tc δk k Z (es.drop t) ps=aa tE,⟨es.length,by simp,YC _,F,ps,n,kn,hm,hk,by simpa using w⟩,?_⟩;rintro t m σ2 H2 ⟨rfl,PR,F2,CJ,n2,MY,ET,Ja,w2⟩;by_cases dW:t<es.length
 ·obtain⟨d,hd⟩:∃d,es[t]? =some d:=⟨_,XW dW⟩
  obtain⟨FQ,q_⟩:=(it F2 H2 t n2.gf n2.st.fh).1 d hd;rw[vN hd] at w2;unfold lG at w2;obtain⟨bv,hb,w3⟩:=cV w2;have hb:=qm hb;refine .inr ⟨FQ,λσ' H'=>∃F' f9,Nr X.K u8 aeH G F' H' σ' Z ni a bs f9/\(f9.map (·.1)).Nodup/\σ'[mi]? =some (some (.ref b))/\(∃p,f9[i]? =some p/\p.1=k)/\lG oi tc δk k Z (es.drop (t+1)) f9=aa tE,
   λσ' H' ⟨F',f9,h⟩=>⟨es.length - (t+1),by omega,rfl,dW,F',f9,h⟩,λx H3 y3=>?_⟩
  obtain⟨F3,qh,q3⟩:=q_ x H3 y3;have n4:=(n2.ext' qh).put gA q3;have SD:(σ2.set oi (some x))[mi]? =some (some (.ref b)):=by rw[X2 Rn];exact ET
  have back:∀{σ':St}{F' H':Hp}{f9:qB},Nr X.K u8 aeH G F' H' σ' (Z.set oi (some (.fz d))) ni a bs f9->Nr X.K u8 aeH G F' H' σ' Z ni a bs f9:=λ{σ' F' H' f9} n=>by
   have:=n.fgt0 oi;rw[List.set_set,VT] at this;exact this
  refine⟨F3,Z.set oi (some (.fz d)),n4.st,?_⟩;rw[hb];intro H5 F5 e5;have n5:=n4.ext' e5;cases bv with
  |false=>exact⟨F5,CJ,back n5,MY,SD,Ja,w3⟩
  |true=>
   obtain⟨kd,ER,w4⟩:=cV (show (noex (δk (Z.set oi (some (.fz d))))>>=_)=aa tE from w3);have ER:=qm ER;refine⟨.ref b,SD,F5,Z.set oi (some (.fz d)),n5.st,?_⟩;rw[ER];intro v H6 F6 e6 q6;cases hj:ro kd with
   |none=>rw[hj] at w4;exact(cQ w4).elim
   |some j=>
    rw[hj] at w4;have w4:(if xV CJ then lG oi tc δk k Z (es.drop (t+1)) (qC CJ k j) else ag)=aa tE:=w4;split at w4
    ·rename_i ok;obtain⟨p,hp,rfl⟩:=Ja;have n6:=n5.ext' e6;have e1:=ig hj q6;subst e1;have hl:=M_ ok hp;have:=cP;refine⟨b,_,rfl,DPut.k (n6.hb i b p hi hp) (by rw[XS];omega),F6,qC CJ p.1 j,back (n6.add MY hi hp j),by rw[ya];exact MY,SD,?_,w4⟩;refine⟨(if p.1=p.1 then(p.1,if tN p.2 j then p.2 else p.2++[j]) else p),?_,by rw[aex rfl]⟩;unfold qC;rw[X6,hp];rfl
    ·exact(cQ w4).elim
 ·have ht:t=es.length:=by omega
  subst ht;rw[aa4] at w2;have:=d8 (show aa CJ=aa tE from w2);subst this;exact .inl ⟨(it F2 H2 es.length n2.gf n2.st.fh).2 (X4 _),fin σ2 F2 H2 n2 MY⟩
abbrev T4(X:Cx)(Xw:Nat->Hp->Prop)(tc:DT)(ni mi oi:Nat)(δk:DE)(δj:DA)(δk2:DE):TS:=N7 (QS (Lu (g7 ni) (tD X.K Xw δk) HM) (ib mi)) (N6 (TZ X.K Xw δj) (ib oi) (QX X Xw tc mi δk2))
def Gu(VY:ci≠ni)(Om:mi≠ni)(gA:oi≠ni)(Si:ci≠mi)(UI:ci≠oi)(Rn:oi≠mi)(Zc:Z.set ci none=Z)(Zm:Z.set mi none=Z)(Zo:Z.set oi none=Z)(K7:mi<Z.length)(it:ItD X.K G J ds)
 (fin:∀σ F H bs,Nr X.K u8 aeH G F H σ Z ni a bs tE->D'.nx σ H)
 (n:Nr X.K u8 aeH G F H σ Z ni a bs ps)(kn:(ps.map (·.1)).Nodup)(w:gw ci oi δk δj tc δk2 Z ds ps=aa tE):
 ∃W:Nat->Nat->St->Hp->Prop,(∃m,W 0 m σ H)/\∀i m σ H,W i m σ H->(J.stop i H/\D'.nx σ H)\/(J.go i H/\∃N:St->Hp->Prop,(∀σ' H',N σ' H'->∃m',m'<m/\W (i+1) m' σ' H')/\∀x H',J.yld i H x H'->ib ci x σ H' λσ2 H2=>T4 X Xw tc ni mi oi δk δj δk2 {D' with nx:=N,ct:=N,bk:=D'.nx} σ2 H2):=by
 refine⟨λt m σ H=>m=ds.length - t/\t<=ds.length/\∃F ps bs,Nr X.K u8 aeH G F H σ Z ni a bs ps/\(ps.map (·.1)).Nodup/\gw ci oi δk δj tc δk2 Z (ds.drop t) ps=aa tE,⟨ds.length,by simp,YC _,F,ps,bs,n,kn,by simpa using w⟩,?_⟩;rintro t m σ2 H2 ⟨rfl,PR,F2,CJ,OK,n2,MY,w2⟩;by_cases dW:t<ds.length
 ·obtain⟨d,hd⟩:∃d,ds[t]? =some d:=⟨_,XW dW⟩
  obtain⟨FQ,q_⟩:=(it F2 H2 t n2.gf n2.st.fh).1 d hd;rw[vN hd] at w2;unfold gw at w2;obtain⟨kd,ER,w3⟩:=cV w2;have ER:=qm ER;cases hj:ro kd with
  |none=>rw[hj] at w3;exact(cQ w3).elim
  |some k=>
  rw[hj] at w3;have w3:(if xV CJ then noex (δj (Z.set ci (some (.fz d))))>>=λes=>lG oi tc δk2 k (Z.set ci (some (.fz d))) es (xm CJ k)>>=λf9=>gw ci oi δk δj tc δk2 Z (ds.drop (t+1)) f9 else ag)=aa tE:=w3;by_cases ok:xV CJ=true
  ·rw[aex ok] at w3;obtain⟨es,Mr,w4⟩:=cV w3;have Mr:=qm Mr;obtain⟨TC,h3,w5⟩:=cV w4;refine .inr ⟨FQ,λσ' H'=>∃F' f9 LU,Nr X.K u8 aeH G F' H' σ' Z ni a LU f9/\(f9.map (·.1)).Nodup/\gw ci oi δk δj tc δk2 Z (ds.drop (t+1)) f9=aa tE,
    λσ' H' ⟨F',f9,LU,h⟩=>⟨ds.length - (t+1),by omega,rfl,dW,F',f9,LU,h⟩,λx H3 y3=>?_⟩
   obtain⟨F3,qh,q3⟩:=q_ x H3 y3;have n4:=(n2.ext' qh).put VY q3;generalize O5:Z.set ci (some (.fz d))=Z1 at*;have Z1m:Z1.set mi none=Z1:=by rw[<-O5,List.set_comm _ _ Si,Zm]
   have Z1o:Z1.set oi none=Z1:=by rw[<-O5,List.set_comm _ _ UI,Zo]
   have back:∀{σ':St}{G' F' H':Hp}{LU:List Addr}{f9:qB},Nr X.K u8 aeH G' F' H' σ' Z1 ni a LU f9->Nr X.K u8 aeH G' F' H' σ' Z ni a LU f9:=λ{σ' G' F' H' LU f9} n=>by
    have:=n.fgt0 ci;rw[<-O5,List.set_set,Zc] at this;exact this
   refine⟨.ref a,n4.near,a,rfl, .inl ⟨_, .inl n4.ha⟩,F3,Z1,n4.st,?_⟩;rw[ER];intro v H5 F5 e5 q5;have e1:=ig hj q5;subst e1;have n5:=n4.ext' e5;intro p hp;have hsz:=JG ok;have Mv:=cP;refine⟨_,k,(n5.gar hp).ha,rfl,by rw[aar,XS,XS,n5.sz,adT];omega,λv hv=>?_,λhn=>?_⟩
   ·have hz:=s9 (ks:=CJ.map (·.1)) (vs:=OK.map V.ref) k (by simp[n5.sz]);rw[hv] at hz;obtain⟨i,z1,z2⟩:=hz;obtain⟨pr,WD,PJ⟩:=ql z1;obtain⟨b,hb,rfl⟩:=ql z2;rw[Bq (Yi z1)] at h3;have n7:=(n5.gar hp).put0 Om (.ref b);rw[Z1m] at n7;refine⟨F5,Z1,n7.st,?_⟩;rw[Mr];intro J' H8 F8 e8 Tf;have n8:=(n7.ext' e8).rg (Same.refl _);have hG:Same G F8:=(n7.ext' e8).gf;exact Cq gA Rn Z1o hb Tf (λσ' F' H' n' Tg=>⟨F',TC,OK,back (n'.rg (hG.trans n'.gf)),Tg,w5⟩) n8 MY (X_ (by rw[<-n4.len,<-O5];simpa using K7)) ⟨pr,WD,PJ⟩ h3
   ·have hz:=s9 (ks:=CJ.map (·.1)) (vs:=OK.map V.ref) k (by simp[n5.sz]);rw[hn] at hz;rw[HA hz] at h3;have n7:=(n5.new hp hn).put0 Om (.ref p);rw[Z1m] at n7;refine⟨F5,Z1,n7.st,?_⟩;rw[Mr];intro J' H8 F8 e8 Tf;have n8:=(n7.ext' e8).rg (Same.refl _);have hG:Same G F8:=(n7.ext' e8).gf;refine Cq (i:=OK.length) gA Rn Z1o aas Tf (λσ' F' H' n' Tg=>⟨F',TC,_,back (n'.rg (hG.trans n'.gf)),Tg,w5⟩) n8 ?_ (X_ (by rw[<-n4.len,<-O5];simpa using K7)) ⟨(k,[]),by rw[n5.sz];exact aas,rfl⟩ h3;rw[Yx,YT];exact⟨MY,by simp,λx hx y hy z=>hz (by rw[z] at hx;cases Yb.mp hy;exact hx)⟩
  ·rw[aey ok] at w3;exact(cQ w3).elim
 ·have ht:t=ds.length:=by omega
  subst ht;rw[aa4] at w2;have:=d8 (show aa CJ=aa tE from w2);subst this;exact .inl ⟨(it F2 H2 ds.length n2.gf n2.st.fh).2 (X4 _),fin σ2 F2 H2 OK n2⟩
def Hg{δi:DA}{T8 T9 iter Ge k1 k2 test:Expr}{x y:Str}{p q q2 apos Fv aO p1 p2 p3 p4 p5 p6 p7:Pos}{j0:Nat}(hp:adD (model X.prog X.w) X.A X.env X.xe)(hc:X.calm=true)(hu:X.A.units+64<cLine)
 (hi:xQ X Xw T8 iter δi)(V4:PG X T8 (ib ci))(hv:PE X (.Name x p) (g7 ni))(hk:PD X Xw k1 δk)(m:M2 X (.Name x p) "setdefault" apos k1 (.Dict [] [] Fv) aO)(V7:PG X (.Name y q) (ib mi))
 (hj:xQ X Xw T9 Ge δj)(V5:PG X T9 (ib oi))(ht:qA X Xw test tc)(WU:PE X (.Name y q2) (g7 mi))(Ja:PD X Xw k2 δk2)
 (K7:X.N[mi]? =some y:=by rfl)
 (dm:[ni,ci,mi,oi].Nodup:=by decide)
 (hs:∀x,aae iter X.env x=pure x:=by intro _;rfl)(Jg:∀x,aae Ge X.env x=pure x:=by intro _;rfl)
 (WV:acH [.Name y q] (.Call (.Attribute (.Name x p) "setdefault" apos) [k1, .Dict [] [] Fv] [] aO) p1.line X.env=pure false:=by rfl)
 (WW:swappedStores [.Name y q] (.Call (.Attribute (.Name x p) "setdefault" apos) [k1, .Dict [] [] Fv] [] aO) X.env=pure none:=by rfl)
 (WX:(abL [.Name y q] X.env).map (·.2)=[assign (.Name y q) X.env]:=by rfl)
 (WY:aaX (.Constant (.bool true) j0 p3) (some (.Subscript (.Name y q2) k2 p2)) p4.line X.env=pure false:=by rfl):
 g8 X Xw (.For T8 iter [.Assign [.Name y q] (.Call (.Attribute (.Name x p) "setdefault" apos) [k1, .Dict [] [] Fv] [] aO) p1,
  .For T9 Ge [.If test [.Assign [.Subscript (.Name y q2) k2 p2] (.Constant (.bool true) j0 p3) p4] [] p5] [] p6] [] p7) (zO ni ci mi oi δi δk δj tc δk2):=λu8 aeH f8 sh σ H D I ⟨F,Z,s,w⟩=>by
 have WE:=w6 (pos:=p7) hp hc hi V4 (jS (oz (pos:=p1) (J7 hv hk (zx (pos:=Fv)) m) V7 WV WW WX) (mU (w6 (pos:=p6) hp hc hj V5 (mU (Lm (pos:=p5) ht (mU (CK (by omega) WU Ja (Lk (b:=true) (j:=j0) (pos:=p3)) WY)) CM)) Jg))) hs;have Pu:=dm;simp only[Yz,XY,Y3,or_false,not_or] at Pu;obtain⟨⟨n1,n2,n3⟩,⟨n4,n5⟩,n6,_⟩:=Pu;unfold zO at w;split at w
 ·rename_i ho;have Mz:=n9 ho;obtain⟨u,UD,a,o,rfl,VU,VW,vs,rfl,S0,_,_⟩:=s.st.den ni _ Mz;cases (show vs=[] from S0);have h0:=s.own ni _ a Mz UD;have s0:=s.fgt [ni,ci,mi,oi];have hlen:(fgt [ni,ci,mi,oi] Z).length=Z.length:=by simp[fgt]
  have gn:∀j∈[ni,ci,mi,oi],(fgt [ni,ci,mi,oi] Z).set j none=fgt [ni,ci,mi,oi] Z:=λj hj=>zV λsl q=>by
   have hj:j=ni\/j=ci\/j=mi\/j=oi:=by simpa using hj
   rcases get_set q with⟨_,z⟩ | ⟨h4,q⟩
   ·cases z
   rcases get_set q with⟨_,z⟩ | ⟨h3,q⟩
   ·cases z
   rcases get_set q with⟨_,z⟩ | ⟨h2,q⟩
   ·cases z
   rcases get_set q with⟨_,z⟩ | ⟨h1,q⟩
   ·cases z
   rcases hj with z | z | z | z
   ·exact h1 z
   ·exact h2 z
   ·exact h3 z
   ·exact h4 z
  generalize fgt [ni,ci,mi,oi] Z=Z0 at*;split at w
  ·rename_i Pj;rcases dB (δi Z0) with q | ⟨ds,q,q'⟩
   ·rw[q] at w;exact w.elim
   rw[q'] at w;have w:WPS X.K Xw u8 aeH (noex (gw ci oi δk δj tc δk2 Z0 ds [])>>=λps=>if xV ps then aa (.nx (Z0.set ni (some (.fz (jR ps))))) else ag) D:=w;rcases dB (gw ci oi δk δj tc δk2 Z0 ds []) with q2 | ⟨ps,q2,TF⟩
   ·rw[q2] at w;exact w.elim
   rw[TF] at w;have w:WPS X.K Xw u8 aeH (if xV ps then aa (.nx (Z0.set ni (some (.fz (jR ps))))) else ag) D:=w;by_cases ok:xV ps=true
   ·rw[aex ok] at w;have Xa:Nr X.K u8 aeH F F H σ Z0 ni a [] []:=⟨s0.ext,Same.refl _,s0.st,s0.len,UD,VU,λi b p z=>by simp at z,rfl,by simp,λb hb=>by
     cases Yb.mp hb;exact⟨VW,h0⟩,Pj⟩
    have hD:=WE f8 sh σ H {D with nx:=λσ H=>∃F bs G,Nr X.K u8 aeH G F H σ Z0 ni a bs ps} I ⟨F,Z0,s0.st,by
     rw[q];intro J H1 F1 e1 it;have W7:=(Xa.ext' e1).rg (Same.refl _);exact Gu (YJ n1) (YJ n2) (YJ n3) n4 n5 (YJ n6) (gn ci (by simp)) (gn mi (by simp)) (gn oi (by simp)) (by rw[hlen,s.len,I.len];exact(X0.mp K7).1) it (λσ F H bs n=>⟨F,bs,F1,n⟩) W7 (by simp) q2⟩
    refine bX hD λf s' hq=>?_;cases f with
    |next=>
     obtain⟨σ',H',I',F',bs,G,n⟩:=hq;obtain⟨F2,H2,I2,so⟩:=n.fin I' ok;exact⟨σ',H2,I2,w σ' F2 H2 so⟩
    |brk=>exact hq
    |cont=>exact hq
    |ret u=>exact hq
   ·rw[aey ok] at w;exact w.elim
  ·exact w.elim
 ·exact w.elim
end
def vX:∀{us:List Value}{ns:List Int},us.length=ns.length->(∀(i:Nat) (u:Value) (n:Int),us[i]? =some u->ns[i]? =some n->∃t,u= .int n t)->Zl us ns
 |[],[],_,_=> .nil
 |u::us,n::ns,hl,h=>by
  obtain⟨t,rfl⟩:=h 0 u n rfl rfl;exact .cons n t (vX (by simpa using hl) λi u n h1 h2=>h (i+1) u n (by simpa using h1) (by simpa using h2))
 |[],_::_,hl,_=>by simp at hl
 |_::_,[],hl,_=>by simp at hl
def QL:List V->Hp->VK->Prop:=λxs H Q=>∃p kvs ns,xs=[.ref p]/\Rd H p (.dK kvs)/\kvs.map (·.1)=gX ns/\ns.length<64/\∀q:Addr,H q=none->Q (.ref q) (upd H q (.lst ((eA ns).map V.int)))
section
variable{X:Cx}{Xw:Nat->Hp->Prop}{e:Expr}{δs:DA}{pos p:Pos}
def Dq(hc:X.calm=true):CallR X (.builtin "sorted") QL:=by
 intro f8 s σ H xs us Q I r h;obtain⟨a,kvs,ns,rfl,hH,Ah,iH,q⟩:=h;obtain⟨u,rfl,r1⟩:=r.one;cases (show u=_ from r1);obtain⟨z,lo,vs,rel,dd⟩:=jf I.hok hH;obtain⟨ep,pW⟩:=dd.dictAt;have PV:vs.map (·.1)=gX ns:=rel.keys.symm.trans Ah;have Ot:vs.length=ns.length:=by
  have:=aeE ab7 PV;simpa[gX] using this
 have Ca:Yl=16777216:=ZM;refine ac9 kind_sorted plain_sorted entry_sorted (args_sorted1 _) ?_;unfold ab3.«sorted»;refine XX (m:=checkCount "sorted" 1 1 _) (Yc (XX (adB (A:=X.A.in1) (ad1 (knd:=aU X.prog X.w) (kvs:=vs) (ep:=ep) lo) (I.ok.hd hc) pW (by rw[Ca];omega) λh1 tk v6 yP nP=>?_)));have I1:Inv X f8 σ H {s with heap:=h1,toks:=tk}:=I.kept (t':=tk) λb ob e=>yP b ob e;have Ia:v6.toList.length=ns.length:=by rw[YB,<-Ot];exact nP.1
 have hi:Zl v6.toList ns:=vX Ia λi u n h1 h2=>by
  obtain⟨k,x,q1,q2⟩:=nP.2 i u (by rw[<-Zn];exact h1);have q3:(vs.map (·.1))[i]? =some k:=by rw[X6,q1];rfl
  rw[PV] at q3;have q4:(gX ns)[i]? =some (.inl n):=by unfold gX;rw[X6,h2];rfl
  rw[q4] at q3;cases q3;rcases bC (show md (.inl n) u=true from q2) with⟨j,t,e1,e2⟩ | ⟨y,t,e1,_⟩
  ·cases e1;exact⟨t,e2⟩
  ·cases e1
 refine XX (ad7 ?_ (by rw[Ca,Ia];omega));have K9:(h1.push (aaF "list" v6.toList.toArray 0)).get? h1.objs.size=some (aaF "list" v6.toList.toArray 0):=Yj _ rfl;refine XX (ZY (aaN slot_list_sort ⟨_,K9,rfl⟩ entry_list_sort (list_sort_tree (s:={s with heap:=h1.push (aaF "list" v6.toList.toArray 0),toks:=tk}) K9 hi (by omega) λout Ii a1 a2 a3=>⟨_,rfl,?_⟩) (args_list_sort _)));have e:Ii=eA ns:=qp (a2.trans (dG ns).symm) a3 (kB ns);subst e;obtain⟨c,Oi⟩:=sortedHeap_at (out:=out) K9;refine Yc ⟨_,rfl,⟨.ref h1.objs.size,_,I1.laid (a:=h1.objs.size) (t':=tk) (o:= .lst ((eA ns).map V.int)) (λb ob e=>?_) (X4 _) ?_,rfl,q _ (I1.hok.fresh (X4 _))⟩⟩
 ·have dW:=Yd e;show (sortedHeap (h1.push (aaF "list" v6.toList.toArray 0)) h1.objs.size v6.toList out).get? b=some ob;rw[sortedHeap_old (Ym dW) (by rw[ZV];exact ZF dW)];exact XZ _ e
 ·exact⟨by rw[XS,(dG ns).length_eq,Ca];omega,out.toList,c,gQ a1,by simpa using Oi⟩
def HG:List D->M D
 |[.dci kk ds]=>match jg kk with
  |some ns=>if ns.length<64 then aa (.lst ((eA ns).map D.int)) else ag
  |none=>ag
 |_=>ag
def JX(hc:X.calm=true)(hg:Gl X "sorted")(hm:X.mg "sorted"=none)(hb:YN "sorted"=some (.builtin "sorted"))(ha:jm X Xw [e] δs)(he:Yg [e] X.env=[(false,eval e X.env)]:=by rfl):PD X Xw (.Call (.Name "sorted" p) [e] [] pos) (dA HG δs):=
 cE (Dq hc) (λXw F H vs ds Q s h w=>by
  unfold HG at w;split at w
  ·rename_i kk ds;obtain⟨v,rfl,h1⟩:=h.one;obtain⟨a,ob,ws,rfl,h2,h3,h4,h5⟩:=h1;split at w
   ·rename_i ns ES;split at w
    ·rename_i hok;exact⟨a,_,ns,rfl, .inr ⟨ob,s _ _ h2⟩,by rw[gS (by rw[h4];exact h3.len),l8 ES],hok,λq hq=>WP.fin w (Ext.lay s hq) ⟨q,_,rfl,aB,ke,by rw[XS,(dG ns).length_eq];unfold lim;omega⟩⟩
    ·exact w.elim
   ·exact w.elim
  ·exact w.elim) hg hm hb ha (by decide) (by decide) he rfl
end
end L3
namespace L3
open PySem PySem.SetTable
def tM(m:Nat):SetTable:={mask:=m,place:= #[],dummies:= #[],finger:=0,led:=false,moves:=0,plain:=true}
def pos(m:Nat)(h:Int)(n:Nat):Nat:=(Uj (tM m) n ((tM m).probeStart h)).j
end L3
namespace L3
open PySem PySem.Spec L2 SeqAt HT
open PyProof.Rows hiding St
end L3
namespace L3
open PySem PySem.Spec L2 PySem.W
open PyProof.Rows hiding St
def Prs(es:Array abP)(lo:Addr)(h:Heap)(n:Nat)(as:List Addr):Prop:=as.length=n/\as.Nodup/\∀(j:Nat) (a:Addr),as[j]? =some a->lo<a/\∃e,es[j]? =some e/\h.get? a=some {cls:= .type "tuple",data:= .seq #[e.key,e.val]}
def Prs.keep{es:Array abP}{lo U9:Addr}{h h':Heap}{n:Nat}{as:List Addr}(p:Prs es lo h n as)(hl:U9<=lo)(hk:∀b o,lo<b->h.get? b=some o->h'.get? b=some o):Prs es U9 h' n as:=⟨p.1,p.2.1,λj a hj=>by
 obtain⟨h1,e,h2,h3⟩:=p.2.2 j a hj;exact⟨abk hl h1,e,h2,hk a _ h1 h3⟩⟩
end L3
namespace L3
open PySem PySem.Spec L2 PySem.W SeqAt
open PyProof.Rows hiding St
def Q0(kk:List (List Int))(ns:List Int):List (List Int):=List.zipWith (λk n=>k++[n]) kk ns
def Qr:List Int->D
 |[a,b,n]=> .tup [.tup [.int a, .int b], .int n]
 |_=> .non
def TU:D->M D
 | .dct ks ds=>match fJ ks,nums ds with
   |some kk,some ns=>if kk.length=ns.length/\kk.all (λk=>decide (k.length=2))=true/\iV (Q0 kk ns)=true then aa (.lst ((sortI (Q0 kk ns)).map Qr)) else ag
   |_,_=>ag
 |_=>ag
def nL(n:Nat):∀(a b:List Int),oR (lu n) (a.map D.int) (b.map D.int)=some (decide (a=b))
 |[],[]=>rfl
 |[],_::_=>by simp[oR]
 |_::_,[]=>by simp[oR]
 |x::a,y::b=>by
  show (match lu n (.int x) (.int y),oR (lu n) (a.map D.int) (b.map D.int) with | some p,some q=>some (p&&q) | _,_=>none)=_;rw[nL n a b,show lu n (.int x) (.int y)=some (x==y) by cases n<;>rfl];show some ((x==y)&&decide (a=b))=_;congr 1;by_cases h1:x=y<;>by_cases h2:a=b<;>simp[h1,h2]
end L3
namespace L3
open PySem PySem.W PyProof.Rows
end L3
namespace L3
open PySem PySem.Spec L2 PySem.W SeqAt
open PyProof.Rows hiding St
end L3
namespace L3
open PySem PySem.Spec L2 HT
open PyProof.Rows hiding St
def P_:∀{kvs:List (Key×V)}{vs:List (Key×Value)},KV kvs vs->∀(i:Nat) (k:Key) (u:Value),vs[i]? =some (k,u)->∃y,kvs[i]? =some (k,y)/\RelV y u:=λ{kvs vs} r=>by
 unfold KV at r;induction r with
 |nil=>intro i k u h;cases h
 |cons h _ ih=>
  intro i k u e;cases i with
  |zero=>
   rw[YG] at e;cases e;exact⟨_,by rw[YG];exact aeE some (abX h.1 rfl),h.2⟩
  |succ i=>exact ih i k u e
def uX:D->M D
 | .dci _ ds=>match nums ds with
   |some ns=>if 0<ns.length then aa (.int (eV ns)) else ag
   |none=>ag
 |_=>ag
section
variable{X:Cx}{Xw:Nat->Hp->Prop}{o:Expr}{δ:DE}{pos p apos aO:Pos}
def JU(hc:X.calm=true)(hg:Gl X "max")(hm:X.mg "max"=none)(hb:YN "max"=some (.builtin "max"))(ha:PD X Xw o δ)(eG:Zx o "values" X.env (eval o X.env)=eval o X.env:=by rfl)(eJ:(apos.endLine==aO.line)=true:=by rfl)
 (he:Yg [.Call (.Attribute o "values" apos) [] [] aO] X.env=[(false,eval (.Call (.Attribute o "values" apos) [] [] aO) X.env)]:=by rfl):
 PD X Xw (.Call (.Name "max" p) [.Call (.Attribute o "values" apos) [] [] aO] [] pos) (d1 uX δ):=λf8 s σ H Q I ⟨F,Z,S,w⟩=>by
 have w:WP X.K Xw F H (δ Z>>=uX) Q:=w;refine aaW (lB I hg hm hb ?_ (by decide) (by decide));refine abW ?_ he rfl;rw[he];refine Zw (wpAny_Call_method0_late eG eJ (bX (ha f8 s σ H _ I ⟨F,Z,S,WP.bind w⟩) λu s1 ⟨v,H1,I1,r,F1,d,e1,q1,w1⟩=>?_));unfold uX at w1;split at w1
 ·rename_i kk ds;split at w1
  ·rename_i ns EU;split at w1
   ·rename_i h0;obtain⟨a,ob,ws,rfl,h2,h3,h4,h5⟩:=q1;cases (show u=_ from r);have S0:=eK EU h3;subst S0;obtain⟨z,lo,vs,rel,dd⟩:=jf I1.hok (.inr ⟨ob,e1.fh _ _ h2⟩);obtain⟨ep,pW⟩:=dd.dictAt;have FV:(ns.map V.int).length=ds.length:=h3.len.symm;have Ot:vs.length=ns.length:=by
     rw[<-rel.length,aar,XS];rw[XS] at FV;omega
    have PU:∀(i:Nat) (u:Value),(∃k,vs[i]? =some (k,u))->∃t,u= .int (ns.getD i 0) t:=λi u ⟨k,h⟩=>by
     obtain⟨y,y1,y2⟩:=P_ rel i k u h;obtain⟨_,y3⟩:=abl.mp y1;rw[X6] at y3;cases hq:ns[i]? with
     |none=>rw[hq] at y3;cases y3
     |some n=>
      rw[hq] at y3;cases y3;obtain⟨t,rfl⟩:=y2;exact⟨t,by rw[Yq,hq];rfl⟩
    refine⟨"dict","dict.values",Z7,acN,PySem.F.type_dict_values,dd.typeIs,dd.mapOf.noDict,method_meetsIn acN PySem.F.entry_dict_values rfl (PySem.evalArgs_none ⟨rfl,dd.typeIs,PySem.F.args_dict_values_1 _,_,meets_dict_values (aU X.prog X.w) a lo,⟨vs,dd⟩,aav ?_⟩)⟩;have O7:(s1.heap.push {cls:= .type "dict_values",data:= .fields #[.ref a]}).DictAt (aU X.prog X.w) a vs ep:=pW.at' λo e=>XZ _ e;refine call_max_walk (wpAny_pyIter_values (knd:=aU X.prog X.w) (d:=a) ⟨_,Yj _ rfl,rfl,rfl⟩ O7 ?_);have dW:a<s1.heap.objs.size:=by obtain⟨o,_,ho,_⟩:=pW;exact Yd ho
    have hsz:(s1.heap.push {cls:= .type "dict_values",data:= .fields #[.ref a]}).objs.size=s1.heap.objs.size+1:=ZV ..;obtain⟨g1,g2⟩:=argBest_gt (λi=>ns.getD i 0) (vs.length - 1);refine⟨_,_,_,_,_,_,_,rfl,Walks.dictValues (A:=X.A.in1) (I1.ok.hd hc) _ a (by rw[hsz];exact Ym (ZF dW)) vs ep,⟨⟨_,Yj _ rfl,rfl,rfl⟩,O7.at' λo e=>XZ _ e⟩,λc xS=>?_,by omega,CmpOf.ints_gt (λi=>ns.getD i 0) PU,λv h' tk hP hk=>?_⟩
    ·show c<((s1.heap.push _).push _).objs.size;rw[ZV,hsz];rcases XY.mp xS with rfl | xS
     ·rw[hsz];exact ZS _
     ·rw[Yb.mp xS];exact ZF (ZF dW)
    ·obtain⟨t,rfl⟩:=PU _ _ hP;have e:ns.getD (aec (λi j=>decide (ns.getD i 0>ns.getD j 0)) (vs.length - 1)) 0=eV ns:=by
      obtain⟨m1,m2⟩:=ik h0;have hm:aec (λi j=>decide (ns.getD i 0>ns.getD j 0)) (vs.length - 1)<ns.length:=by omega
      refine ab1 (m2 _ ?_) ?_
      ·rw[Yq,XW hm];exact ZO hm
      ·obtain⟨j,hj,e⟩:=Y_ m1;have:=g2 j (by omega);rw[Yq (i:=j),XW hj] at this;rw[<-e];exact this
     rw[e];have keep:∀b o,s1.heap.get? b=some o->h'.get? b=some o:=λb o e=>by
      have hb:=Yd e;refine hk b o (λhm=>?_) (XZ _ (XZ _ e));rw[Yb.mp hm,hsz] at hb;exact YV _ (Nat.lt_of_succ_lt hb)
     exact⟨.int (eV ns),H1,I1.kept keep,⟨t,rfl⟩,WP.now w1 e1.fh rfl⟩
   ·exact w1.elim
  ·exact w1.elim
 ·exact w1.elim
end
end L3
namespace L3
open PySem PySem.Spec L2
open PyProof.Rows hiding St
open PySem.W (kas_kind kas_ask Looks)
def yW(k:List Int):D:= .lst (k.map D.int)
end L3
namespace L3
open PySem PySem.Spec L2 SeqAt HT
open PyProof.Rows hiding St
def CZ:TE:=λσ H Q=>∀p,H p=none->Q (.ref p) (upd H p (.lst []))
def J9{X:Cx}{pos:Pos}:PE X (.List [] pos) CZ:=PE.weak (Bj oj) λσ H Q h=>⟨YC _,h⟩
def LL(aeH F H:Hp)(D:Addr)(bs:List Addr):Prop:=H D=some (.lst (bs.map V.ref))/\(∀b∈bs,H b=some (.lst []))/\(D::bs).Nodup/\∀b∈D::bs,F b=none/\aeH b=none
section
variable{aeH H₁ F H F' H':Hp}{D:Addr}{bs:List Addr}
def LL.of(l:LL aeH F H D bs)(e:Same H₁ aeH):LL H₁ F H D bs:=⟨l.1,l.2.1,l.2.2.1,λb hb=>⟨(l.2.2.2 b hb).1,Same.free e (l.2.2.2 b hb).2⟩⟩
def LL.at(l:LL aeH F H D bs){b:Addr}(hb:b∈D::bs):∃xs,H b=some (.lst xs):=(XY.mp hb).elim (λz=>z▸⟨_,l.1⟩) λz=>⟨_,l.2.1 b z⟩
def LL.ext(l:LL aeH F H D bs)(e:Ext F H F' H'):LL aeH F' H' D bs:=⟨e.hh _ _ l.1,λb hb=>e.hh _ _ (l.2.1 b hb),l.2.2.1,λb hb=>by
 obtain⟨xs,hx⟩:=l.at hb;exact⟨by rw[e.old hx λts z=>nomatch z];exact(l.2.2.2 b hb).1,(l.2.2.2 b hb).2⟩⟩
def LL.add(l:LL aeH F H D bs){p:Addr}(hp:H p=none)(WA:aeH p=none)(WB:F p=none):LL aeH F (upd (upd H p (.lst [])) D (.lst (bs.map V.ref++[.ref p]))) D (bs++[p]):=by
 have dm:∀b∈D::bs,b≠p:=λb hb z=>by
  obtain⟨xs,h⟩:=l.at hb;rw[z,hp] at h;cases h
 have nd:=Yz.mp l.2.2.1;refine⟨by rw[aB,Yx];rfl,λb hb=>?_,?_,λb hb=>?_⟩
 ·rcases Yr.mp hb with hb | hb
  ·rw[av (λz:b=D=>nd.1 (z▸hb)),av (dm b (XT _ hb))];exact l.2.1 b hb
  ·cases Yb.mp hb;rw[av (YJ (dm D XU)),aB]
 ·rw[Yz,Yr,YT];exact⟨λz=>z.elim nd.1 λz=>dm D XU (Yb.mp z),nd.2,by simp,λx hx y hy z=>dm x (XT _ hx) (by rw[z];exact Yb.mp hy)⟩
 ·rcases XY.mp hb with rfl | hb
  ·exact l.2.2.2 _ XU
  ·rcases Yr.mp hb with hb | hb
   ·exact l.2.2.2 b (XT _ hb)
   ·cases Yb.mp hb;exact⟨WB,WA⟩
end
def Du{RR:Value->Addr->Result->X1->Prop}{pos:Pos}{ds:List D}{Q:Addr->List Addr->Hp->Hp->Prop}
 (sc:CompSc X scope tn)(hn:tn.length=1)(hc:X.calm=true)(hi:xQ X Xw tg iter δi)
 (hg:∀f8 cl C fp v4 H σ,xY (fw X scope tn f8 cl C fp v4 H) tg 0 σ)
 (ht:∀f8 cl C fp v4 H,iJ (fw X scope tn f8 cl C fp v4 H) ifs bQ)
 (he:∀f8 cl C fp v4 H,PE (fw X scope tn f8 cl C fp v4 H) elt CZ)
 (I:Inv X f8 σ H s)(S:StE X.K F H σ Z)(K5:δi Z=aa ds)(Sd:ds.length<=lim)(w:∀D bs F' H',Ext F H F' H'->LL H F' H' D bs->bs.length=ds.length->Q D bs F' H')
 (cl1:∀x c,cl.lookup x=some c->X.env.cells.lookup x=some c)(Fm:∀x,scope.names.lookup x=some .free->∃c,cl.lookup x=some c)
 (Sb:∀(s1:X1) (C D:Addr) (H':Hp),Inv X f8 σ H' s1->(∃bs F',Q D bs F' H')->BlockEnd X f8 C H' s1->RR (.ref D) C (.ok .next) s1):
 wpAny (model X.prog X.w) X.A (eval iter X.env) (λx T0=>wpAny (model X.prog X.w) X.A (pyIter x) (λit v4=>wpAny (model X.prog X.w) X.A (newList []) (λv6 s₃=>
  wpAny (model X.prog X.w) X.A (newFunctionEnv scope X.env.globals cl [] X.env.qual none .none (some X.env)) (λFj s₄=>
   aa5 (model X.prog X.w) X.A (.compStart (.ListComp elt [⟨tg,iter,ifs,0⟩] scope pos) 0 it v6 {Fj with scope:=relabel scope X.env}) (RR v6 Fj.locals) s₄) X.xe s₃) X.xe v4) X.xe T0) X.xe s:=by
 refine bX (hi f8 s σ H (λJ H2=>∃F2,Ext F H F2 H2/\ItD X.K F2 J ds) I ⟨F,Z,S,?_⟩) λxv T0 h₁=>bX h₁ λit v4 h₂=>?_
 ·rw[K5];exact λJ H' F' e q=>⟨F',e,q⟩
 obtain⟨ia,fp,QY,J,H2,rfl,I2,T,tG,f2,F2,e2,P6⟩:=h₂;refine aad (wpAny_newFunctionEnv sc.nocell (by intro y hy;simp at hy) (λh₁ AO vT=>?_) sc.kind)
 dsimp only at AO vT⊢
 generalize Mm:v4.heap.push {cls:= .type "list",dict:=none,data:= .seq ([]:List Value).toArray}=HL at AO vT⊢;have hC:HL.objs.size=v4.heap.objs.size+1:=by rw[<-Mm,ZV]
 have nO:v4.heap.objs.size<HL.objs.size:=by rw[hC];exact ZS _
 have old:∀b o,v4.heap.get? b=some o->h₁.get? b=some o:=λb o e=>vT.extBut b o (Ym (Zg (Yd e) nO)) (XZ _ (Mm▸XZ _ e));have nP:h₁.get? v4.heap.objs.size=some {cls:= .type "list",data:= .seq ([]:List Value).toArray}:=vT.extBut _ _ (Ym nO) (XZ _ (Mm▸Yj _ rfl));have nD:H2 v4.heap.objs.size=none:=I2.hok.fresh (X4 _);have nC:H2 HL.objs.size=none:=I2.hok.fresh (YY nO);have gC:v4.heap.get? HL.objs.size=none:=ab5 (YY nO);have fl:∀b∈fp,b<v4.heap.objs.size:=λb hb=>by
  obtain⟨o,e,_⟩:=T.obj 0 _ tG b hb;exact Yd e
 generalize jx:fw X scope tn f8 cl HL.objs.size fp v4 H2=X';have Qk:X'.Ok:=by
  subst jx;refine⟨I2.ok.mod,sc.kind,I2.ok.glob,I2.ok.blt,YY nO,λx y c h1 h2=>I2.ok.inj x y c (cl1 _ _ h1) (cl1 _ _ h2),λx hx=>?_,λ_ _ h=>(by cases h),I2.ok.hd,I2.ok.frames, .inl rfl,
   λb hb=>⟨Ym (Zg (fl b hb) nO),λx c h=>(f2 b hb).2.2.2.2.1 x c (cl1 _ _ h)⟩,I2.bs,Yy I2.ok.bsz I2.sz,λb o e hb=>?_,λb hb z=>?_,I2.stack,I2.stkFree⟩
  ·have hx:(relabel scope X.env).names.lookup x=some .cell\/(relabel scope X.env).names.lookup x=some .free:=hx;exact Fm x (mW sc.nocell hx)
  ·rcases(f2 b hb).2.2.2.1 with z | z
   ·exact I2.ok.noex b o e z
   ·exact aeB (YD (Yd (I2.ok.bs b o e).1) z) (YV _)
  ·rcases XY.mp (I2.stkSub b z) with q | q
   ·exact(f2 b hb).2.1 q
   ·exact(f2 b hb).2.2.1 q
 have Oy:∀b o,H2 b=some o->b≠v4.heap.objs.size:=λb o e=>a_ e nD;have AF:∀{H':Hp},(∀b∈fp,H' b=none)->∀b∈fp,qy X' [] H' b:=λPx b hb=>by
  subst jx;refine⟨Px b hb,Ym (Zg (fl b hb) nO),λz=>Qk.exfs b hb z, .inl hb,λx c h=>(f2 b hb).2.2.2.2.1 x c (cl1 _ _ h),λp hp=>?_⟩;rw[YR] at hp;exact(f2 b hb).2.2.2.2.2 p hp
 have I0:Inv X' [] (Ye 1 none++σ) (upd H2 v4.heap.objs.size (.lst [])) {v4 with heap:=h₁,toks:=v4.toks+([]:List (Str×Value)).length}:=by
  subst jx;have MA:HOk X.prog X.w (upd H2 v4.heap.objs.size (.lst [])) h₁:=I2.hok.laid old (X4 _) ⟨YC _,[],_, .nil,nP⟩;refine⟨Qk,rfl,I2.bare,Un.laid old (X4 _) nD,⟨_,AO,λi x v h1 h2 h3=>?_⟩,λx c h=>?_,?_,λx c h=>?_,λp hp=>?_,MA,?_⟩
  ·by_cases hi:i<1
   ·rw[YA (by simpa using hi),Za,aex hi] at h2;cases h2
   ·have IZ:tn.length<=i:=by omega
    have h1:(tn++bV tn X.N)[i]? =some x:=h1;rw[YL IZ] at h1;rw[YL (by simp only[ZU];omega),ZU,<-hn] at h2;have hN:∃y,X.N[i - tn.length]? =some y/\(x,y)∈(bV tn X.N).zip X.N:=by
     have dW:=(X0.mp h1).1;have vS:i - tn.length<X.N.length:=by simpa[bV] using dW
     refine⟨X.N[i - tn.length],XW vS,?_⟩;refine aaq.mpr ⟨i - tn.length,?_⟩;rw[abl];exact⟨h1,XW vS⟩
    obtain⟨y,hy,hm⟩:=hN;have hV:(relabel scope X.env).names.lookup x=some .local\/(relabel scope X.env).names.lookup x=some .cell\/(relabel scope X.env).names.lookup x=some .free:=h3;rcases sc.vis _ hm with AN | ⟨MG,xT⟩
    ·have AN:scope.names.lookup x=none:=AN;have:(relabel scope X.env).names.lookup x=none:=mX AN;rw[this] at hV;rcases hV with z | z | z<;>cases z
    ·have MG:x=y:=MG;subst MG;have xT:scope.names.lookup x=some .free:=xT;have hk:=sc.frees (x, .free) (Zj xT) rfl;obtain⟨m,ET,FW⟩:=I2.loc;obtain⟨u,ru,lk⟩:=FW _ x v hy h2 (by rcases hk with z | z;exact .inr (.inl z);exact .inr (.inr z));refine⟨u,ru, .inr ⟨?_,?_⟩⟩
     ·rcases hV with z | z | z
      ·exact aeB z (iE xT)
      ·exact .inl z
      ·exact .inr z
     ·rcases lk with⟨z,_⟩ | ⟨_,c,Rk,DD⟩
      ·rcases hk with q | q
       ·rw[show X.env.kindOf x=some .local from z] at q;cases q
       ·rw[show X.env.kindOf x=some .local from z] at q;cases q
      ·obtain⟨c',xS⟩:=Fm x xT;have:=cl1 _ _ xS;rw[Rk] at this;cases this;obtain⟨o,ho,hd⟩:=DD;exact⟨c,xS,o,old _ _ ho,hd⟩
  ·obtain⟨v,o,ho,hd⟩:=I2.cell x c (cl1 _ _ h);exact⟨v,o,old _ _ ho,hd⟩
  ·show upd H2 v4.heap.objs.size (.lst []) HL.objs.size=none;rw[av (aab nO)];exact nC
  ·have K4:=cl1 _ _ h;obtain⟨v,q⟩:=I2.cell x c K4;rw[av (Ym q.lt)];exact I2.freeC x c K4
  ·rw[YR] at hp;obtain⟨e,nn,ne,nf,d⟩:=I2.pin p hp;have dW:=Yd e;refine⟨old _ _ e,by rw[av (Ym dW)];exact nn,Ym (Zg dW nO),λz=>?_,d⟩;rcases XY.mp (I2.stkSub p.1 z) with q | q
   ·exact ne q
   ·exact nf q
  ·show (Ye 1 none++σ).length=(tn++bV tn X.N).length;rw[X8,X8,ZU,hn,show (bV tn X.N).length=X.N.length from by simp[bV],I2.len]
 have loop:∀s₃:X1,s₃={v4 with heap:=h₁,toks:=v4.toks+([]:List (Str×Value)).length}->
  aa5 (model X.prog X.w) X.A (.compLoop (.ListComp elt [⟨tg,iter,ifs,0⟩] scope pos) 0 (.ref ia) (.ref v4.heap.objs.size) (aeb scope cl HL.objs.size X.env))
   (RR (.ref v4.heap.objs.size) HL.objs.size) s₃:=by
  intro s₃ SS;have qQ:X'.env=aeb scope cl HL.objs.size X.env:=by subst jx;rfl
  have hA:X'.A=X.A:=by subst jx;rfl
  have hP:X'.prog=X.prog:=by subst jx;rfl
  have hw:X'.w=X.w:=by subst jx;rfl
  have hK:X'.K=X.K:=by subst jx;rfl
  have S7:X'.xe=λ_ _=>False:=by subst jx;rfl
  have yJ:X'.calm=true:=by subst jx;exact hc
  have Ss:X'.fs=gV X.stack:=by subst jx;rfl
  have hex:X'.ex=fp:=by subst jx;rfl
  have R9:X'.aeH=H2:=by subst jx;rfl
  have PQ:X'.aeI=v4:=by subst jx;rfl
  have pass:∀{α:Type}{t:Sem α}{P:α->X1->Prop}{E':Value->X1->Prop}{s:X1},wpAny (model X'.prog X'.w) X'.A t P X'.xe s->wpAny (model X.prog X.w) X.A t P E' s:=λ{α t P E' s} h=>by
   rw[hP,hw,hA,S7] at h;exact Y2 h (λ_ _ q=>q) λ_ _ q=>q.elim
  refine uB (λm s'=>∃(i:Nat) (F' H':Hp) (bs:List Addr) (σt:St),m=ds.length - i/\i<=ds.length/\σt.length=1/\Inv X' [] (σt++σ) H' s'/\QY i s'.heap/\(∀b∈fp,H' b=none)/\Ext F2 H2 F' H'/\
   LL H2 F' H' v4.heap.objs.size bs/\bs.length=i) ?_ ds.length ?_
  ·rintro m s' ⟨i,F',H',bs,σt,rfl,Pl,Ta,I',pG,O1,qg,hL,UG⟩;by_cases dW:i<ds.length
   ·
    obtain⟨d,hd⟩:∃d,ds[i]? =some d:=⟨_,XW dW⟩
    obtain⟨FQ,q_⟩:=(P6 F' H' i qg.ff qg.fh).1 d hd;refine pass ?_;rw[hP,hw];refine bX (T.item X' hP hw hK yJ i [] s' (σt++σ) H' X'.xe I' (AF O1) pG FQ) ?_;rintro r s1 ⟨u,rfl,h1⟩;refine pass ?_;rw[hP,hw];refine bX h1 ?_;rintro _ s2 ⟨x,H3,I3,rx,y3,EZ,Og⟩;obtain⟨F3,qh,q3⟩:=q_ x H3 y3;have I3':=I3.pinned (AF Og) (T.obj _ _ EZ);have rn:∀{σ7:St}{H7:Hp}{s7:X1},Inv X' ([]++ou fp s2.heap) σ7 H7 s7->QY (i+1) s7.heap/\∀b∈fp,H7 b=none:=λ{σ7 H7 s7} I7=>
     ⟨T.keep _ _ _ EZ λb hb o e=>(I7.pin (b,o) (YE _ (YE _ (fc hb e)))).1,λb hb=>by
      obtain⟨o,e,_⟩:=T.obj _ _ EZ b hb;exact(I7.pin (b,o) (YE _ (YE _ (fc hb e)))).2.1⟩
    have Su:xY X' tg 0 σ:=by subst jx;exact hg _ _ _ _ _ _ _
    have SU:iJ X' ifs bQ:=by subst jx;exact ht _ _ _ _ _ _
    have Sn:PE X' elt CZ:=by subst jx;exact he _ _ _ _ _ _
    refine pass ?_;rw[<-qQ];refine bX (Su _ s2 (σt++σ) F3 H3 d [d] x u I3' qh.fh (by rw[show max 0 1=σt.length from Ta.symm];simp) rx (by rw[hK];exact q3) rfl) ?_;rintro _ s4 ⟨vt,I4,dt⟩;rw[hK] at dt;have S4:StE X.K F3 H3 (vt.map some++σ) ([d].map (λt=>some (Sl.fz t))++Z):=StE.cons ((S.ext e2).ext (qg.trans qh)) dt;refine pass ?_
    try rw[<-qQ]
    refine bX (SU _ s4 _ H3 (λb' H5=>b'=true/\∃F5,Ext F3 H3 F5 H5) I4 ⟨F3,_,by rw[hK];exact S4,WPB.take⟩) ?_;rintro b' s5 ⟨H5,I5,rfl,F5,Dy⟩;have UB:=hL.ext (qh.trans Dy);rw[aex rfl];refine pass ?_
    try rw[<-qQ]
    refine bX (Sn _ s5 _ H5 (λv H6=>∃p,v= .ref p/\H5 p=none/\H6=upd H5 p (.lst [])) I5 λp hp=>⟨p,rfl,hp,rfl⟩) ?_;rintro xv s6 ⟨v,H6,I6,rv,p,rfl,hp,rfl⟩;have Md:=Ext.free (o:=HO.lst []) Dy.fh hp;have UC:=UB.ext Md;refine pass ?_;refine bX (km _ s6 _ _ (.ref v4.heap.objs.size) [.ref p] (.ref v4.heap.objs.size) [xv] (λ_ H7=>H7=upd (upd H5 p (.lst [])) v4.heap.objs.size (.lst (bs.map V.ref++[.ref p]))) I6 rfl (.cons rv .nil) ⟨_,bs.map V.ref, .ref p,rfl,rfl,UC.1,by rw[XS];have:=cP;omega,rfl⟩) ?_;rintro _ s7 ⟨_,H7,I7,_,rfl⟩;have e6:=qg.trans (qh.trans (Dy.trans Md));have hf:=UC.2.2.2 _ XU;refine⟨ds.length - (i+1),by omega,i+1,F5,_,bs++[p],vt.map some,rfl,dW,?_,I7.unpinned,(rn I7).1,(rn I7).2,e6.of_chg hf.1 hf.2,UB.add hp (Same.free (qg.trans (qh.trans Dy)).hh hp) (Same.free Dy.fh hp),by rw[X8,UG];rfl⟩;have h1:=I5.len;have h2:=I3.len;rw[X8] at h1 h2;omega
   ·
    have hi:i=ds.length:=by omega
    subst hi;refine pass ?_;rw[hP,hw];refine bX (T.done X' hP hw hK yJ ds.length [] s' (σt++σ) H' X'.xe I' (AF O1) pG ((P6 F' H' ds.length qg.ff qg.fh).2 (X4 _))) ?_;rintro r s1 ⟨rfl,I1⟩;obtain⟨m,hm,_⟩:=I1.loc;rw[qQ] at hm;have R6:H' HL.objs.size=none:=by
     have:=I1.free;rw[qQ] at this;exact this
    have u:=I1.base;rw[Ss,hex,R9,PQ] at u;have Jc:s1.os=v4.os:=by have:=I1.os;rw[PQ] at this;exact this
    have FR:=I1.hok;rw[hP,hw] at FR;refine Sb s1 HL.objs.size v4.heap.objs.size H' (I2.call' Jc u FR I1.bare (λb hb=>⟨(f2 b hb).2.2.2.1,(f2 b hb).2.1,(f2 b hb).2.2.2.2.1,(f2 b hb).2.2.2.2.2⟩)) ?_
     ⟨⟨m,hm⟩,R6,aab (Zg I2.lt nO),Yy I2.sz (YY nO),λx c q z=>?_,λp hp z=>?_⟩
    rotate_left
    ·obtain⟨v,q'⟩:=I2.cell x c q;exact aeB (Zg q'.lt nO) (by rw[z];exact YV _)
    ·exact aeB (Zg (Yd (I2.pin p hp).1) nO) (by rw[z];exact YV _)
    exact⟨bs,F',w _ bs F' H' (e2.trans qg) (hL.of e2.hh) UG⟩
  ·rw[SS];refine⟨0,F2,_,[],Ye 1 none,by simp,YC _,by simp,I0,T.keep _ _ _ tG (λb hb o e=>old b o e),λb hb=>?_,⟨λb u q=>?_,Same.refl _,λb u q=>?_,λ_ _=> .inl rfl⟩,⟨aB,(λ_ z=>nomatch z),by simp,λb hb=>?_⟩,rfl⟩
   ·rw[av (Ym (fl b hb))];exact(f2 b hb).1
   ·rw[av (Oy b u q)];exact q
   ·rw[av (Oy b u (e2.fh b u q))];exact e2.fh b u q
   ·cases Yb.mp hb;exact⟨Same.free e2.fh nD,nD⟩
 exact aep (loop _ rfl) (T.self X.A 0 _ _ _ (T.keep _ _ _ tG (λb hb o e=>old b o e)) (loop _ rfl))
def tH(ps:List (List Int))(i j:Int):M (List (List Int)):=if 0<=i then match ps[i.toNat]? with
    |some p=>if p.length<lim then aa (ps.set i.toNat (p++[j])) else ag
    |none=>ag
 else ag
def ji:List D->List (List Int)->M (List (List Int))
 |[],ps=>aa ps
 | .tup [.tup [.int i, .int j],_]::es,ps=>tH ps i j>>=λps=>tH ps j i>>=λps=>ji es ps
 |_,_=>ag
def pC(ps:List (List Int)):D:= .lst (ps.map λp=> .lst (p.map D.int))
def zP(ni oi ti si:Nat)(δi δt:DA):DS:=λZ=>if jo (fgt [ni,oi,ti,si] Z) then noex (δi Z)>>=λds=>if ds.length<=lim then noex (δt (fgt [ni,oi,ti,si] Z))>>=λes=>noex (ji es (ds.map λ_=>[]))>>=λps=>
    if ps.all λp=>decide (p.length<=lim) then aa (.nx ((fgt [ni,oi,ti,si] Z).set ni (some (.fz (pC ps))))) else ag else ag else ag
structure Nl (K:X5) (u8 aeH G F H:Hp) (σ:St) (Z:bH) (ni:Nat) (a:Addr) (bs:List Addr) (ps:List (List Int)):Prop where
 ext:Ext u8 aeH F H
 gf:Same G F
 st:StE K F H σ Z
 len:Z.length=σ.length
 near:σ[ni]? =some (some (.ref a))
 ha:H a=some (.lst (bs.map V.ref))
 hb:∀(i:Nat) (b:Addr) (p:List Int),bs[i]? =some b->ps[i]? =some p->H b=some (.lst (p.map V.int))
 sz:bs.length=ps.length
 nd:(a::bs).Nodup
 fr:∀b∈a::bs,F b=none/\aeH b=none
 fz:jo Z=true
section
variable{K:X5}{u8 aeH G G' F H F' H':Hp}{σ:St}{Z:bH}{ni:Nat}{a:Addr}{bs:List Addr}{ps:List (List Int)}
def Nl.at(n:Nl K u8 aeH G F H σ Z ni a bs ps){b:Addr}(hb:b∈a::bs):∃xs,H b=some (.lst xs):=by
 rcases XY.mp hb with rfl | hb
 ·exact⟨_,n.ha⟩
 ·obtain⟨i,hi,rfl⟩:=Y_ hb;exact⟨_,n.hb i _ (ps[i]'(by rw[<-n.sz];exact hi)) (XW hi) (XW _)⟩
def Nl.ext'(n:Nl K u8 aeH G F H σ Z ni a bs ps)(e:Ext F H F' H'):Nl K u8 aeH G F' H' σ Z ni a bs ps:=
 ⟨n.ext.trans e,n.gf.trans e.ff,n.st.ext e,n.len,n.near,e.hh _ _ n.ha,λi b p h1 h2=>e.hh _ _ (n.hb i b p h1 h2),n.sz,n.nd,λb hb=>by
  obtain⟨xs,hx⟩:=n.at hb;exact⟨by rw[e.old hx λts z=>nomatch z];exact(n.fr b hb).1,(n.fr b hb).2⟩,n.fz⟩
def Nl.rg(n:Nl K u8 aeH G F H σ Z ni a bs ps)(e:Same G' F):Nl K u8 aeH G' F H σ Z ni a bs ps:=⟨n.ext,e,n.st,n.len,n.near,n.ha,n.hb,n.sz,n.nd,n.fr,n.fz⟩
def Nl.put0(n:Nl K u8 aeH G F H σ Z ni a bs ps){j:Nat}(hj:j≠ni)(hZ:Z.set j none=Z)(v:V):Nl K u8 aeH G F H (σ.set j (some v)) Z ni a bs ps:=
 ⟨n.ext,n.gf,⟨n.st.fh,λi sl q=>by
  rw[<-hZ] at q;rcases get_set q with⟨rfl,e⟩ | ⟨dm,q⟩
  ·cases e
  ·obtain⟨u,h1,h2⟩:=n.st.den i sl q;exact⟨u,by rw[X2 (YJ dm)];exact h1,h2⟩⟩,by simp[n.len],by rw[X2 hj];exact n.near,n.ha,n.hb,n.sz,n.nd,n.fr,n.fz⟩
def Nl.add(n:Nl K u8 aeH G F H σ Z ni a bs ps){i:Nat}{b:Addr}{p:List Int}(hi:bs[i]? =some b)(hp:ps[i]? =some p)(j:Int):
 Nl K u8 aeH G F (upd H b (.lst (p.map V.int++[.int j]))) σ Z ni a bs (ps.set i (p++[j])):=by
 have hm:b∈a::bs:=XT _ (Yi hi);have dm:a≠b:=λz=>(Yz.mp n.nd).1 (z▸Yi hi);have e:=n.ext.of_chg (o:= .lst (p.map V.int++[.int j])) (n.fr b hm).1 (n.fr b hm).2;refine⟨e,n.gf,n.st.fzH n.fz e.fh,n.len,n.near,?_,λi' b' p' h1 h2=>?_,by rw[n.sz];simp,n.nd,n.fr,n.fz⟩
 ·rw[av dm];exact n.ha
 ·by_cases Mu:i'=i
  ·subst Mu;rw[hi] at h1;cases h1;rw[X_ (X0.mp hp).1] at h2;cases h2;rw[aB,Yx];rfl
  ·have O8:b'≠b:=λz=>by
    subst z;exact Mu ((abv (X0.mp h1).1 (Yz.mp n.nd).2).mp (h1.trans hi.symm))
   rw[X2 (YJ Mu)] at h2;rw[av O8];exact n.hb i' b' p' h1 h2
def DenL.rows{K:X5}{F:Hp}:∀{ps:List (List Int)}{bs:List Addr},bs.length=ps.length->(∀(i:Nat) (b:Addr) (p:List Int),bs[i]? =some b->ps[i]? =some p->Den K F (.lst (p.map D.int)) (.ref b))->DenL K F (ps.map λp=> .lst (p.map D.int)) (bs.map V.ref)
 |[],[],_,_=>rfl
 |p::ps,b::bs,hl,h=> .cons (h 0 b p rfl rfl) (DenL.rows (by simpa using hl) λi b' p' h1 h2=>h (i+1) b' p' (by simpa using h1) (by simpa using h2))
 |[],_::_,hl,_=>by simp at hl
 |_::_,[],hl,_=>by simp at hl
def Nl.fin(n:Nl K u8 aeH G F H σ Z ni a bs ps)(hl:bs.length<=lim)(ok:(ps.all λp=>decide (p.length<=lim))=true):
 ∃F',StOk K u8 aeH F' H σ (Z.set ni (some (.fz (pC ps)))):=by
 let F':Hp:=λc=>if c∈a::bs then H c else F c
 have f1:∀c,c∈a::bs->F' c=H c:=λc hc=>aex hc;have f2:∀c,c∉a::bs->F' c=F c:=λc hc=>aey hc;have ff:Same F F':=λc u q=>by rw[f2 c λz=>by rw[(n.fr c z).1] at q;cases q];exact q
 have fh:Same F' H:=λc u q=>by
  by_cases z:c∈a::bs
  ·rw[f1 c z] at q;exact q
  ·rw[f2 c z] at q;exact n.st.fh c u q
 have e:Ext u8 aeH F' H:=⟨n.ext.hh,n.ext.ff.trans ff,fh,λc hc=>by
  have z:c∉a::bs:=λz=>hc (n.fr c z).2;rw[f2 c z];exact n.ext.new c hc⟩
 have hd:Den K F' (pC ps) (.ref a):=by
  refine⟨a,bs.map V.ref,rfl,by rw[f1 a XU];exact n.ha,DenL.rows n.sz λi b p q1 q2=>?_,by rw[XS,<-n.sz];exact hl⟩;have:=aeC (Yn.mp ok p (Yi q2));exact⟨b,p.map V.int,rfl,by rw[f1 b (XT _ (Yi q1))];exact n.hb i b p q1 q2,DenL.ints p,by rw[XS];exact this⟩
 have GC:∀(i:Nat) (c:C),(Z.set ni (some (.fz (pC ps))))[i]? ≠some (some (.ow c)):=λi c q=>by
  rcases get_set q with⟨_,z⟩ | ⟨_,q⟩
  ·cases z
  ·have:=Yn.mp n.fz _ (Yi q);cases this
 refine⟨F',e,⟨fh,λi sl q=>?_⟩,by simp[n.len],λi c b q=>aeB q (GC i c),λi j c c' b q=>aeB q (GC i c)⟩;rcases get_set q with⟨rfl,z⟩ | ⟨_,q⟩
 ·cases z;exact⟨.ref a,n.near,hd⟩
 ·obtain⟨v,q1,q2⟩:=n.st.den i sl q;refine⟨v,q1,?_⟩;cases sl with
  |fz d=>exact Den.mono ff q2
  |ow c=>have:=Yn.mp n.fz _ (Yi q);cases this
end
section
variable{X:Cx}{Xw:Nat->Hp->Prop}{δi δt:DA}{u8 aeH G F H:Hp}{Z:bH}{ni oi ti si:Nat}{a:Addr}{bs:List Addr}{ps tE:List (List Int)}{J:It}{es:List D}{σ:St}{D':Ends}
abbrev HJ(K:X5)(ni oi ti:Nat):TS:=CY (RD K "list" xa (OC (Kk K) (g7 ni) (g7 oi)) (CW (g7 ti) Kz))
def BK{i j:Int}(n:Nl X.K u8 aeH G F H σ Z ni a bs ps)(hi:σ[oi]? =some (some (.int i)))(hj:σ[ti]? =some (some (.int j)))(w:tH ps i j=aa tE)
 (k:∀H',Nl X.K u8 aeH G F H' σ Z ni a bs tE->D'.nx σ H'):HJ X.K ni oi ti D' σ H:=by
 unfold tH at w;split at w
 ·rename_i h0;split at w
  ·rename_i p hp;split at w
   ·rename_i hl;obtain⟨b,hb⟩:∃b,bs[i.toNat]? =some b:=⟨_,XW (by rw[n.sz];exact(X0.mp hp).1)⟩
    have hH:=n.hb _ b p hb hp;have pW:atI (bs.map V.ref) i=some (.ref b):=by
     rw[<-abe h0];exact Ip (by rw[X6,hb];rfl)
    refine⟨.ref a,n.near, .int i,hi,a,bs.map V.ref,i, .ref b,rfl,rfl, .of n.ha,pW,?_, .int j,hj,⟨b,p.map V.int, .int j,rfl,rfl,hH,by rw[XS];have:=cP;omega,k _ ?_⟩⟩
    ·exact .inl ⟨rfl,_, .of hH⟩
    ·rw[<-d8 w];exact n.add hb hp j
   ·exact(cQ w).elim
  ·exact(cQ w).elim
 ·exact(cQ w).elim
abbrev Lw(K:X5)(ni oi ti:Nat):TS:=N7 (HJ K ni oi ti) (HJ K ni ti oi)
abbrev O3(K:X5)(oi ti si:Nat):TG:=IT K 2 (uG (IT K 2 (uG (ib oi) (uG (ib ti) IQ))) (uG (ib si) IQ))
def Eu(gA:oi≠ni)(WN:ti≠ni)(WL:si≠ni)(Wy:oi≠ti)(Jc:oi≠si)(SV:ti≠si)(Zo:Z.set oi none=Z)(Zt:Z.set ti none=Z)(Zs:Z.set si none=Z)(SK:oi<Z.length)(PR:ti<Z.length)(it:ItD X.K G J es)
 (fin:∀σ F H,Nl X.K u8 aeH G F H σ Z ni a bs tE->D'.nx σ H)
 (n:Nl X.K u8 aeH G F H σ Z ni a bs ps)(w:ji es ps=aa tE):
 ∃W:Nat->Nat->St->Hp->Prop,(∃m,W 0 m σ H)/\∀i m σ H,W i m σ H->(J.stop i H/\D'.nx σ H)\/(J.go i H/\∃N:St->Hp->Prop,(∀σ' H',N σ' H'->∃m',m'<m/\W (i+1) m' σ' H')/\∀x H',J.yld i H x H'->O3 X.K oi ti si x σ H' λσ2 H2=>Lw X.K ni oi ti {D' with nx:=N,ct:=N,bk:=D'.nx} σ2 H2):=by
 refine⟨λt m σ H=>m=es.length - t/\t<=es.length/\∃F ps,Nl X.K u8 aeH G F H σ Z ni a bs ps/\ji (es.drop t) ps=aa tE,⟨es.length,by simp,YC _,F,ps,n,by simpa using w⟩,?_⟩;rintro t m σ2 H2 ⟨rfl,WM,F2,CJ,n2,w2⟩;by_cases dW:t<es.length
 ·obtain⟨d,hd⟩:∃d,es[t]? =some d:=⟨_,XW dW⟩
  obtain⟨FQ,q_⟩:=(it F2 H2 t n2.gf n2.st.fh).1 d hd;rw[vN hd] at w2;unfold ji at w2;split at w2
  ·rename_i z;cases z
  ·rename_i i j sd Mc z;cases z;obtain⟨TC,h3,w3⟩:=cV w2;obtain⟨Xf,h4,w4⟩:=cV w3;refine .inr ⟨FQ,λσ' H'=>∃F' f9,Nl X.K u8 aeH G F' H' σ' Z ni a bs f9/\ji (es.drop (t+1)) f9=aa tE,λσ' H' ⟨F',f9,h⟩=>⟨es.length - (t+1),by omega,rfl,dW,F',f9,h⟩,λx H3 y3=>?_⟩;obtain⟨F3,qh,q3⟩:=q_ x H3 y3;obtain⟨p,vs,rfl,k1,⟨v,r,rfl,⟨p2,XR,rfl,k2,⟨_,_,rfl,e1,⟨_,_,rfl,e2,e3⟩⟩,_⟩,⟨v3,_,rfl,k3,e4⟩⟩,_⟩:=q3;cases e1;cases e2;cases e3;cases e4;have FW:oi<σ2.length:=by rw[<-n2.len];exact SK
   have Wj:ti<σ2.length:=by rw[<-n2.len];exact PR
   have n4:=(((n2.ext' qh).put0 gA Zo (.int i)).put0 WN Zt (.int j)).put0 WL Zs v3;have g1:(((σ2.set oi (some (.int i))).set ti (some (.int j))).set si (some v3))[oi]? =some (some (.int i)):=by
    rw[X2 (YJ Jc),X2 (YJ Wy),X_ FW]
   have g2:(((σ2.set oi (some (.int i))).set ti (some (.int j))).set si (some v3))[ti]? =some (some (.int j)):=by
    rw[X2 (YJ SV),X_ (by rw[List.length_set];exact Wj)]
   refine⟨p,_,rfl, .of (qh.fh _ _ k1),rfl,_,_,rfl,⟨p2,_,rfl, .of (qh.fh _ _ k2),rfl,_,_,rfl,_,_,rfl,rfl,?_⟩⟩;refine⟨_,_,rfl,rfl,?_⟩;exact BK n4 g1 g2 h3 λH5 n5=>BK n5 g2 g1 h4 λH6 n6=>⟨F3,Xf,n6,w4⟩
  ·exact(cQ w2).elim
 ·have ht:t=es.length:=by omega
  subst ht;rw[aa4] at w2;have:=d8 (show aa CJ=aa tE from w2);subst this;exact .inl ⟨(it F2 H2 es.length n2.gf n2.st.fh).2 (X4 _),fin σ2 F2 H2 n2⟩
def Vn(X:Cx)(i:Nat)(δi:DA):TS:=λD σ H=>∃F Z ds,StE X.K F H σ Z/\δi Z=aa ds/\ds.length<=lim/\∀a bs F' H',Ext F H F' H'->LL H F' H' a bs->bs.length=ds.length->D.nx (σ.set i (some (.ref a))) H'
def He{x:Str}{elt iter tg:Expr}{ifs:List Expr}{scope:Scope}{pos pos' aO:Pos}{tn:List Str}{i:Nat}(hN:X.N.Nodup)(IZ:X.N[i]? =some x)(hx:Loc X.env.scope x)
 (sc:CompSc X scope tn)(hn:tn.length=1)(hc:X.calm=true)(hi:xQ X Xw tg iter δi)
 (hg:∀f8 cl C fp v4 H σ,xY (fw X scope tn f8 cl C fp v4 H) tg 0 σ)
 (ht:∀f8 cl C fp v4 H,iJ (fw X scope tn f8 cl C fp v4 H) ifs bQ)
 (he:∀f8 cl C fp v4 H,PE (fw X scope tn f8 cl C fp v4 H) elt CZ)
 (hf:X.fn x=true\/X.env.scope.names.lookup x=some .local:=by first | exact .inl rfl | exact .inr rfl)
 (SR:aaX (.ListComp elt [⟨tg,iter,ifs,0⟩] scope aO) (some (.Name x pos')) pos.line X.env=pure true:=by rfl)
 (hs:∀x,aae iter X.env x=pure x:=by intro _;rfl):
 PS X (.Assign [.Name x pos'] (.ListComp elt [⟨tg,iter,ifs,0⟩] scope aO) pos) (Vn X i δi):=λf8 s σ H D I ⟨F,Z,ds,S,K5,hl,w⟩=>by
 obtain⟨cl,yK,cl1,Fm⟩:=ll λy hy hf=>I.ok.has y.1 (sc.frees y hy hf);rw[exec_Assign_Name_used _ _ _ _ SR];refine XX (ad6 (XX ?_));show wpAny _ X.A (do let _<-comprehension (.ListComp elt [⟨tg,iter,ifs,0⟩] scope aO) scope X.env _ (newList []) false (eval iter X.env) (some (assign (.Name x pos') X.env))) _ _ s;refine XX (Y2 (abI rfl hs yK sc.kind sc.names
  (Du (Q:=λa bs F' H'=>D.nx (σ.set i (some (.ref a))) H') sc hn hc hi hg ht he I S K5 hl (λa bs F' H' e l hb=>w a bs F' H' e l hb) cl1 Fm λs1 C D' H' I1 q b=>?_)) (λ_ s' hq=>Yc (Yc hq)) λ_ _ e=>e)
 show wpAny _ X.A (assign (.Name x pos') X.env (.ref D')) _ _ _;refine abJ (kC I1 hN IZ hx (v:= .ref D') rfl (λs2 I2 ⟨a,sb,ha⟩=>?_) hf);have R5:C≠a:=by
  rcases ha with z | z
  ·rw[z];exact b.nl
  ·exact YJ (b.nc x a z)
 obtain⟨m,hm⟩:=b.ns;have ET:s2.heap.Ns C m:=hm.sameBut sb R5;obtain⟨_,_,q⟩:=q;refine⟨m,ET,λh' Ai=>⟨_,H',Inv.block I2 ⟨⟨m,ET⟩,b.free,b.nl,b.nw,b.nc,b.np⟩ Ai,q⟩⟩
def LI(X:Cx)(Xw:Nat->Hp->Prop)(a b:Stmt)(τ:DS):Prop:=∀rest τ',PSDs X Xw rest τ'->PSDs X Xw (a::b::rest) (aG τ τ')
def Ir{a b:Stmt}{rest:List Stmt}{τ τ':DS}(h1:Box (LI X Xw a b τ))(h2:Box (PSDs X Xw rest τ')):Box (PSDs X Xw (a::b::rest) (aG τ τ')):=⟨h1.out _ _ h2.out⟩
def NK{st:Stmt}{t:TS}(h:PS X.nox st t):PS X st t:=λf8 s σ H D I hw=>Y2 (h f8 s σ H D (I.wish _) hw) (λ_ _ q=>q.unwish) λ_ _ z=>Zi z
def Hi{s1 s2:Stmt}{Xv:Nat->Hp->Prop}(h1:PS X s1 (Vn X ni δi))(h2:PS X.nox s2 (N6 (TZ X.K Xv δt) (O3 X.K oi ti si) (Lw X.K ni oi ti)))(AN:ni<X.N.length)(SK:oi<X.N.length)(PR:ti<X.N.length)(dm:[ni,oi,ti,si].Nodup:=by decide):
 LI X Xw s1 s2 (zP ni oi ti si δi δt):=λrest τ' hr u8 aeH f8 sh σ H D I ⟨F,Z,s,w⟩=>by
 refine jS h1 (jS (NK h2) (hr u8 aeH)) f8 sh σ H D I ?_;simp only[Yz,XY,Y3,or_false,not_or] at dm;obtain⟨⟨n1,n2,n3⟩,⟨n4,n5⟩,n6,_⟩:=dm;have hlen:(fgt [ni,oi,ti,si] Z).length=Z.length:=by simp[fgt]
 have s0:=s.fgt [ni,oi,ti,si];have gn:∀j∈[ni,oi,ti,si],(fgt [ni,oi,ti,si] Z).set j none=fgt [ni,oi,ti,si] Z:=λj hj=>zV λsl q=>by
  have hj:j=ni\/j=oi\/j=ti\/j=si:=by simpa using hj
  rcases get_set q with⟨_,z⟩ | ⟨h4,q⟩
  ·cases z
  rcases get_set q with⟨_,z⟩ | ⟨h3,q⟩
  ·cases z
  rcases get_set q with⟨_,z⟩ | ⟨h2,q⟩
  ·cases z
  rcases get_set q with⟨_,z⟩ | ⟨h1,q⟩
  ·cases z
  rcases hj with z | z | z | z
  ·exact h1 z
  ·exact h2 z
  ·exact h3 z
  ·exact h4 z
 unfold aG zP at w;generalize fgt [ni,oi,ti,si] Z=Z0 at*;by_cases Pj:jo Z0=true
 ·rw[aex Pj] at w;rcases dB (δi Z) with q | ⟨ds,q,q'⟩
  ·rw[q] at w;exact w.elim
  rw[q',aw] at w;by_cases hl:ds.length<=lim
  ·rw[aex hl] at w;rcases dB (δt Z0) with q2 | ⟨es,q2,TF⟩
   ·rw[q2] at w;exact w.elim
   rw[TF,aw] at w;rcases dB (ji es (ds.map λ_=>[])) with q3 | ⟨ps,q3,Xg⟩
   ·rw[q3] at w;exact w.elim
   rw[Xg,aw] at w;by_cases ok:(ps.all λp=>decide (p.length<=lim))=true
   ·rw[aex ok] at w;have w:WPS X.K Xw u8 aeH (τ' (Z0.set ni (some (.fz (pC ps))))) D:=w;refine⟨F,Z,ds,s.st,q,hl,λa bs F1 H1 e1 l hb=>?_⟩;have Ww:ni<Z0.length:=by rw[hlen,s.len,I.len];exact AN
    have nl:Nl X.K u8 aeH F1 F1 H1 (σ.set ni (some (.ref a))) Z0 ni a bs (ds.map λ_=>[]):=
     ⟨s0.ext.trans e1,Same.refl _,⟨e1.fh,λi sl q=>by
      rw[<-gn ni (by simp)] at q;rcases get_set q with⟨rfl,e⟩ | ⟨dm,q⟩
      ·cases e
      ·obtain⟨u,h1,h2⟩:=(s0.st.ext e1).den i sl q;exact⟨u,by rw[X2 (YJ dm)];exact h1,h2⟩⟩,by simp[s0.len],X_ (by rw[<-s0.len];exact Ww),l.1,λi b p h1 h2=>by
      obtain⟨_,_,rfl⟩:=ql h2;exact l.2.1 b (Yi h1),by rw[XS];exact hb,l.2.2.1,λb hb=>⟨(l.2.2.2 b hb).1,Same.free s0.ext.hh (l.2.2.2 b hb).2⟩,Pj⟩
    refine⟨F1,Z0,nl.st,?_⟩;rw[q2];intro J H2 F2 e2 it;have W_:=(nl.ext' e2).rg (Same.refl _);refine Eu (YJ n1) (YJ n2) (YJ n3) n4 n5 n6 (gn oi (by simp)) (gn ti (by simp)) (gn si (by simp)) (by rw[hlen,s.len,I.len];exact SK) (by rw[hlen,s.len,I.len];exact PR) it (λσ' F' H' n'=>?_) W_ q3;obtain⟨F'',so⟩:=n'.fin (by rw[hb];exact hl) ok;exact⟨F'',_,so,w⟩
   ·rw[aey ok] at w;exact w.elim
  ·rw[aey hl] at w;exact w.elim
 ·rw[aey Pj] at w;exact w.elim
def Hd{x y z:Str}{p q q3 p2 apos aO pos:Pos}(hv:PE X (.Name x p) (g7 ni))(hy:PE X (.Name y q) (g7 oi))(hz:PE X (.Name z q3) (g7 ti))
 (hs:aaX (.Call (.Attribute (.Subscript (.Name x p) (.Name y q) p2) "append" apos) [.Name z q3] [] aO) none pos.line X.env=pure false:=by rfl)
 (eG:Zx (.Subscript (.Name x p) (.Name y q) p2) "append" X.env (eval (.Subscript (.Name x p) (.Name y q) p2) X.env)=eval (.Subscript (.Name x p) (.Name y q) p2) X.env:=by rfl)
 (jy:((ZI aO (Yg [.Name z q3] X.env)).all (λx=>!x.1)&&(abg aO (aaj [] X.env)).all (λx=>x.1.isSome)&&decide ([Expr.Name z q3].length+([]:List aaf).length+(if ([]:List aaf).isEmpty then 0 else 1)<30))=true:=by rfl)
 (eJ:(apos.endLine==aO.line)=true:=by rfl)(uJ:Yg [.Name z q3] X.env=[(false,eval (.Name z q3) X.env)]:=by rfl):
 PS X (.Expr (.Call (.Attribute (.Subscript (.Name x p) (.Name y q) p2) "append" apos) [.Name z q3] [] aO) pos) (HJ X.K ni oi ti):=
 mQ (CH Zy acM acL km (Ll v_ hv hy (by intro _ _;rfl)) (qr hz oj uJ) eG jy eJ uJ rfl) hs
end
def QF:List V->Hp->VK->Prop:=λxs H Q=>∃p kvs ns,xs=[.ref p]/\Rd H p (.dK kvs)/\kvs.map (·.1)=gX ns/\ns.length<=lim/\∀q:Addr,H q=none->Q (.ref q) (upd H q (.lst (ns.map V.int)))
section
variable{X:Cx}{Xw:Nat->Hp->Prop}{e:Expr}{δs:DA}{pos p:Pos}
def Dg(hc:X.calm=true):CallR X (.type "list") QF:=by
 intro f8 s σ H xs us Q I r h;obtain⟨a,kvs,ns,rfl,hH,Ah,iH,q⟩:=h;obtain⟨u,rfl,r1⟩:=r.one;cases (show u=_ from r1);obtain⟨z,lo,vs,rel,dd⟩:=jf I.hok hH;obtain⟨ep,pW⟩:=dd.dictAt;have PV:vs.map (·.1)=gX ns:=rel.keys.symm.trans Ah;have Ot:vs.length=ns.length:=by
  have:=aeE ab7 PV;simpa[gX] using this
 have Ca:Yl=16777216:=ZM;have US:lim=4096:=rfl;refine PySem.W.kdl_call (ad1 (knd:=aU X.prog X.w) (kvs:=vs) (ep:=ep) lo) (I.ok.hd hc) pW (by rw[Ca];omega) λh1 tk v6 c yP Mt nP=>?_;have Ia:v6.toList.length=ns.length:=by rw[YB,<-Ot];exact nP.1
 have hi:Zl v6.toList ns:=vX Ia λi u n h1 h2=>by
  obtain⟨k,x,q1,q2⟩:=nP.2 i u (by rw[<-Zn];exact h1);have q3:(vs.map (·.1))[i]? =some k:=by rw[X6,q1];rfl
  rw[PV] at q3;have q4:(gX ns)[i]? =some (.inl n):=by unfold gX;rw[X6,h2];rfl
  rw[q4] at q3;cases q3;rcases bC (show md (.inl n) u=true from q2) with⟨j,t,e1,e2⟩ | ⟨y,t,e1,_⟩
  ·cases e1;exact⟨t,e2⟩
  ·cases e1
 refine⟨.ref s.heap.objs.size,_,I.laid (t':=tk) yP (X4 _) (show ObjOk X.prog X.w _ h1 _ (.lst (ns.map V.int)) from⟨by rw[XS];omega,v6.toList,c,gQ hi,by simpa using Mt⟩),rfl,q _ (I.hok.fresh (X4 _))⟩
def Cf:List D->M D
 |[.dci kk ds]=>match jg kk with
  |some ns=>if ns.length<=lim then aa (.lst (ns.map D.int)) else ag
  |none=>ag
 |_=>ag
def G4(hc:X.calm=true)(hg:Gl X "list")(hm:X.mg "list"=none)(hb:YN "list"=some (.type "list"))(ha:jm X Xw [e] δs)(he:Yg [e] X.env=[(false,eval e X.env)]:=by rfl):PD X Xw (.Call (.Name "list" p) [e] [] pos) (dA Cf δs):=
 Em (Dg hc) (λXw F H vs ds Q s h w=>by
  unfold Cf at w;split at w
  ·rename_i kk ds;obtain⟨v,rfl,h1⟩:=h.one;obtain⟨a,ob,ws,rfl,h2,h3,h4,h5⟩:=h1;split at w
   ·rename_i ns ES;split at w
    ·rename_i hok;exact⟨a,_,ns,rfl, .inr ⟨ob,s _ _ h2⟩,by rw[gS (by rw[h4];exact h3.len),l8 ES],hok,λq hq=>WP.fin w (Ext.lay s hq) ⟨q,_,rfl,aB,ke,by rw[XS];exact hok⟩⟩
    ·exact w.elim
   ·exact w.elim
  ·exact w.elim) hg hm hb ha (by decide) (by decide) he rfl
end
end L3
namespace L3
def TR(n:Nat)(δs:DA):DS:=λZ=>δs Z>>=λds=>if ds.length<=lim then bf n else ag
end L3
namespace K1
open PySem PySem.Spec L2 L3
open PyProof.Rows hiding St
def OA:Nat->Nat
 |1=>1
 |4=>4
 |_=>0
def cB(cA:Nat->Addr)(n:Nat):Addr:=cA (OA n)
def BR(cA:Nat->Addr):List Addr:=[cA 0,cA 1,cA 4]
def WC:Nat->Int
 |0=>0
 |1=>1
 |_=>2
def IY(k:Nat):M D:=aa (.tup [.str "refused", .int (WC (OA k))])
def BC:DS:=(bz (fN (dA lA (aC (dV 0) (aC (dC (.raw (.ty "int"))) aN))) (KQ (dA lA (aC (dV 0) (aC (dC (.raw (.ty "bool"))) aN))))))
def e_:List D->M D:=b7 1 (BC)
def z7:DS:=(bz (fN (dA lA (aC (dV 0) (aC (dC (.raw (.ty "str"))) aN))) (fN (d2 ly (dA cz (aC (dV 0) aN)) (dC (.int 1))) (d2 (FJ false) (dV 0) (dC (.str "abcdef"))))))
def dq:List D->M D:=b7 1 (z7)
def th:DS:=(bz (bB 0 (λZ=>(aC (dA cz (aC (d2 bq (dV 0) (dC (.int 0))) aN)) aN) Z>>=dQ) bQ (dA a6 (aC (dV 2) (aC (dV 0) aN)))))
def cO:List D->M D:=b7 2 (th)
def Aa:DS:=(bz (d2 nN (d2 bq (dV 0) (d2 bq (dV 1) (dC (.int 0)))) (d2 bq (dV 1) (dC (.int 1)))))
def ek:List D->M D:=b7 2 (Aa)
def BB:DS:=(aG (bM 3 (dA E3 (aC (d2 AK (d2 bq (dV 0) (dC (.int 0))) (d2 bq (dV 1) (dC (.int 0)))) aN))) (aG (bM 4 (dA E3 (aC (d2 AK (d2 bq (dV 0) (dC (.int 1))) (d2 bq (dV 1) (dC (.int 1)))) aN))) (aG (iI (dH (d2 ly (dV 2) (dC (.int 4)))) (bz (d2 ly (d2 dw (dV 3) (dV 4)) (dC (.int 1)))) dE) (bz (d2 ly (dA wk (aC (dV 3) (aC (dV 4) aN))) (dC (.int 1)))))))
def d9:List D->M D:=b7 5 (BB)
def KH:DS:=(aG (sM 1) (aG (λZ=>noex ((cw (putN 2) (Jh (cR (dV 0)) (λZ=>(dV 0) Z>>=eW)) (bT [2] (eP 1 (dV 2) (dC (.bl true))))) Z)) (vk 1 (bz (dV 1)))))
def qi:List D->M D:=b7 3 (KH)
def tq:DS:=(aG (iI (dH (d2 ly (dV 0) (dA cK aN))) (bz (d2 iO (dC (.int 7)) (dV 1))) dE) (bz (d2 dw (d2 FK (dV 0) (d2 lZ (dV 1) (dA cz (aC (dV 0) aN)))) (d2 iO (dC (.int 6553)) (d2 tL (dV 1) (dA cz (aC (dV 0) aN)))))))
def gp:List D->M D:=b7 2 (tq)
def z8:DS:=(aG (iI (tJ (e7 (dj (dA lA (aC (dV 0) (aC (dC (.raw (.ty "str"))) aN))))) (e7 (dH (Ae (λi j=>decide (i<=j)) (λi j=>decide (i<=j)) (dC (.int 1)) (dA cz (aC (dV 0) aN)) (dC (.int 8)))))) (bz (dC (.bl false))) dE) (bz (dA allM (aC (bB 0 (λZ=>(dV 0) Z>>=N1) bQ (aD 1 dq (aC (dV 0) aN))) aN))))
def gm:List D->M D:=b7 1 (z8)
def Ab:DS:=(iI (tJ (e7 (dj (aD 1 e_ (aC (dV 0) aN)))) (dH (d2 (IM true) (dV 0) (dA a6 (aC (dC (.int 4)) (aC (dC (.int 8)) aN)))))) (TR 1 (aC (dC (.str "ways are 4 or 8")) aN)) dE)
def fB:List D->M D:=b7 1 (Ab)
def z5:DS:=(aG (ub 1) (aG (λZ=>noex ((cw (putN 2) (λZ=>(aC (dA cz (aC (dV 0) aN)) aN) Z>>=dQ) (bT [2] (Hw 1 (aD 2 cO (aC (dV 0) (aC (dV 2) aN)))))) Z)) (vk 1 (bz (dV 1)))))
def ej:List D->M D:=b7 3 (z5)
def xN:DS:=(aG (ub 3) (aG (λZ=>noex ((cw (putN 4) (λZ=>(aC (dA wk (aC (d2 AK (d2 bq (dV 1) (dC (.int 0))) (dC (.int 1))) (aC (dC (.int 0)) aN))) (aC (dA pZ (aC (d2 dw (d2 bq (dV 1) (dC (.int 0))) (dC (.int 2))) (aC (dA cz (aC (dV 0) aN)) aN))) aN)) Z>>=vj) (bT [4,5] (cw (putN 5) (λZ=>(aC (dA wk (aC (d2 AK (d2 bq (dV 1) (dC (.int 1))) (dC (.int 1))) (aC (dC (.int 0)) aN))) (aC (dA pZ (aC (d2 dw (d2 bq (dV 1) (dC (.int 1))) (dC (.int 2))) (aC (dA cz (aC (d2 bq (dV 0) (dC (.int 0))) aN)) aN))) aN)) Z>>=vj) (bT [5] (iI (dj (aD 3 d9 (aC (dV 1) (aC (dA a6 (aC (dV 4) (aC (dV 5) aN))) (aC (dV 2) aN))))) (oH 3 (dA a6 (aC (dV 4) (aC (dV 5) aN)))) dE))))) Z)) (vk 3 (bz (dV 3)))))
def b_:List D->M D:=b7 6 (xN)
def pI:DS:=(aG (bM 3 (d2 lZ (d2 dw (d2 iO (d2 lZ (aD 2 gp (aC (dV 0) (aC (dV 1) aN))) (dC (.int 2147483563))) (dC (.int 69069))) (d2 iO (dC (.int 104723)) (d2 dw (dV 1) (dC (.int 1))))) (dC (.int 2147483563)))) (aG (bM 3 (d2 lZ (d2 dw (d2 iO (dV 3) (dV 3)) (d2 tL (dV 3) (dC (.int 3)))) (dC (.int 2147483399)))) (bz (d2 lZ (d2 tL (d2 lZ (d2 dw (d2 iO (dV 3) (dV 3)) (d2 tL (dV 3) (dC (.int 7)))) (dC (.int 2147483647))) (dC (.int 11))) (dV 2)))))
def aW:List D->M D:=b7 4 (pI)
def tm:DS:=(aG (iI (tJ (e7 (dj (dA lA (aC (dV 0) (aC (dC (.raw (.ty "tuple"))) aN))))) (e7 (dH (Ae (λi j=>decide (i<=j)) (λi j=>decide (i<=j)) (dC (.int 1)) (dA cz (aC (dV 0) aN)) (dC (.int 8)))))) (bz (dC (.bl false))) dE) (aG (iI (e7 (dj (dA allM (aC (bB 0 (pU (dV 0)) bQ (aD 1 gm (aC (dV 0) aN))) aN)))) (bz (dC (.bl false))) dE) (bz (dA allM (aC (bB 0 (pU (dV 0)) bQ (d2 ly (dA cz (aC (dV 0) aN)) (dA cz (aC (d2 bq (dV 1) (dC (.int 0))) aN)))) aN)))))
def iN:List D->M D:=b7 1 (tm)
def xJ:DS:=(aG (bM 3 (aD 2 ek (aC (dV 0) (aC (dV 1) aN)))) (bz (bB 0 (cR (aD 3 b_ (aC (dV 0) (aC (dV 1) (aC (dV 2) aN))))) (dH (d2 ly (aD 2 ek (aC (dV 1) (aC (dV 0) aN))) (dV 4))) (dV 0))))
def cX:List D->M D:=b7 4 (xJ)
def Uc:DE:=bB 0 (λZ=>(aC (dV 4) aN) Z>>=dQ) bQ (d2 nN (dV 6) (aD 3 aW (aC (dV 1) (aC (d2 dw (d2 dw (d2 dw (dV 2) (dC (.int 3))) (d2 iO (dC (.int 7)) (dV 8))) (dV 0)) (aC (dA cz (aC (dV 6) aN)) aN)))))
def Ud:DS:=bM 6 (d2 B6 (dV 6) (dA a6 (aC (dM Rw joinM (dC (.str "")) (aC (dV 8) aN)) aN)))
def z9:DS:=(aG (bM 3 (d2 dw (dC (.int 1)) (aD 3 aW (aC (dV 0) (aC (dV 1) (aC (dV 2) aN)))))) (aG (bM 4 (d2 dw (dC (.int 1)) (aD 3 aW (aC (dV 0) (aC (d2 dw (dV 1) (dC (.int 1))) (aC (dV 2) aN)))))) (aG (bM 5 (d2 vQ (dA cK (aC (dC (.str "ab")) (aC (dC (.str "abc")) (aC (dC (.str "aab")) (aC (dC (.str "fa")) aN))))) (aD 3 aW (aC (dV 0) (aC (d2 dw (dV 1) (dC (.int 2))) (aC (dC (.int 4)) aN)))))) (aG (bM 6 (dA a6 aN)) (aG (λZ=>noex ((cw (putN 7) (λZ=>(aC (dV 3) aN) Z>>=dQ) (bT [7,8] (aG (bM 8 (Uc)) (Ud)))) Z)) (bz (dV 6)))))))
def dr:List D->M D:=b7 9 (z9)
def xK:DS:=(iI (e7 (dj (aD 1 iN (aC (dV 0) aN)))) (TR 0 (aC (dC (.str "a tuple of 1 to 8 texts of 1 to 8 letters, all as long, is asked for")) aN)) dE)
def eE:List D->M D:=b7 1 (xK)
def NZ:DS:=bT [7] (iI (EE (dH (d2 (kF true) (dV 7) (dV 3)))) (aG (eP 3 (dV 7) (dV 6)) (oH 5 (dV 7))) dE)
def xP:DS:=(aG (pE 3 (λZ=>(dV 1) Z>>=λx=>(dC .non) Z>>=λy=>lU x y)) (aG (bM 4 (dA cK (aC (dV 1) aN))) (aG (λZ=>noex ((xh (dj (dV 4)) (bT [5,6,7] (aG (ub 5) (aG (cw (putN 6) (cR (dV 4)) (bT [6,7] (cw (putN 7) (cR (aD 3 cX (aC (dV 0) (aC (dV 6) (aC (dV 2) aN))))) (NZ)))) (vk 5 (bM 4 (dV 5))))))) Z)) (vk 3 (bz (dV 3))))))
def dJ:List D->M D:=b7 8 (xP)
def xO:DS:=(aG (sM 1) (aG (λZ=>noex ((cw (pB [2,3]) (λZ=>(aC (dV 0) aN) Z>>=yz) (bT [2,3,4] (cw (putN 4) (cR (dV 3)) (bT [4] (eP 1 (dV 4) (dV 2)))))) Z)) (vk 1 (bz (dV 1)))))
def eF:List D->M D:=b7 5 (xO)
def L8:DS:=(bT [6] (iI (EE (dH (d2 (kF true) (dV 6) (dV 2)))) (aG (eP 2 (dV 6) (Fp (d2 dw (d2 bp (dV 2) (dV 5)) (dC (.int 1))))) (oH 4 (dV 6))) dE))
def L7:DS:=(bT [5,6] (cw (putN 6) (Jh (cR (d2 bp (dV 0) (dV 5))) (λZ=>(d2 bp (dV 0) (dV 5)) Z>>=eW)) L8))
def L6:DS:=(bT [4,5,6] (aG (ub 4) (aG (cw (putN 5) (cR (dV 3)) L7) (vk 4 (bM 3 (dV 4))))))
def z6:DS:=(aG (pE 2 (Me (λZ=>(dV 1) Z>>=λx=>(dC (.int 0)) Z>>=λy=>lU x y) (λZ=>(dV 1) Z>>=λx=>(dC (.int 0)) Z>>=λy=>lT x y))) (aG (bM 3 (dA cK (aC (dV 1) aN))) (aG (λZ=>noex ((xh (dj (dV 3)) L6) Z)) (vk 2 (bz (dV 2))))))
def cg:List D->M D:=b7 7 (z6)
def z_:DS:=(aG (bM 1 (dA cK aN)) (aG (λZ=>noex ((cw (putN 2) (λZ=>(aC (dA cz (aC (dV 0) aN)) aN) Z>>=dQ) (bT [2] (bM 1 (d2 kL (dV 1) (bB 0 (λZ=>(aC (dA cz (aC (d2 bq (dV 0) (dC (.int 0))) aN)) aN) Z>>=dQ) bQ (dA a6 (aC (dV 3) (aC (dV 0) aN)))))))) Z)) (bz (dV 1))))
def cT:List D->M D:=b7 3 (z_)
def Fb:DS:=(bT [5,6,7,8] (aG (bM 6 (d2 dw (d2 bq (dV 1) (dC (.int 0))) (dV 4))) (aG (bM 7 (d2 dw (d2 bq (dV 1) (dC (.int 1))) (dV 5))) (aG (bM 8 (fN (Ae (λi j=>decide (i<=j)) (λi j=>decide (i<j)) (dC (.int 0)) (dV 6) (dA cz (aC (dV 0) aN))) (Ae (λi j=>decide (i<=j)) (λi j=>decide (i<j)) (dC (.int 0)) (dV 7) (dA cz (aC (d2 bq (dV 0) (dC (.int 0))) aN))))) (iI (lr (dj (dV 8)) (lr (dH (d2 lz (dA a6 (aC (dV 4) (aC (dV 5) aN))) (dA a6 (aC (dC (.int 0)) (aC (dC (.int 0)) aN))))) (tJ (dH (d2 ly (dV 2) (dC (.int 8)))) (dH (d2 ly (d2 iO (dV 4) (dV 5)) (dC (.int 0))))))) (oH 3 (dA a6 (aC (dV 6) (aC (dV 7) aN)))) dE)))))
def xH:DS:=(aG (ub 3) (aG (λZ=>noex ((cw (putN 4) (pU (dA a6 (aC (d1 A2 (dC (.int 1))) (aC (dC (.int 0)) (aC (dC (.int 1)) aN))))) (bT [4,5,6,7,8] (cw (putN 5) (pU (dA a6 (aC (d1 A2 (dC (.int 1))) (aC (dC (.int 0)) (aC (dC (.int 1)) aN))))) Fb))) Z)) (vk 3 (bz (dV 3)))))
def dI:List D->M D:=b7 9 (xH)
def RF:DS:=(bT [7,8] (iI (EE (lr (dH (d2 (kF false) (dV 7) (dV 2))) (dH (d2 lz (d2 bp (dV 2) (dV 7)) (d2 bp (dV 2) (dV 5)))))) (aG (bM 8 (Fp (dA a6 (aC (dA pZ (aC (d2 bp (dV 2) (dV 5)) (aC (d2 bp (dV 2) (dV 7)) aN))) (aC (dA wk (aC (d2 bp (dV 2) (dV 5)) (aC (d2 bp (dV 2) (dV 7)) aN))) aN))))) (eP 6 (dV 8) (Fp (d2 dw (ju (dV 6) (dV 8) (dC (.int 0))) (dC (.int 1)))))) dE))
def tw:DS:=(aG (sM 2) (aG (λZ=>noex ((cw (pB [3,4]) (λZ=>(aC (dV 1) aN) Z>>=yz) (bT [3,4,5] (cw (putN 5) (cR (dV 4)) (bT [5] (eP 2 (dV 5) (dV 3)))))) Z)) (aG (sM 6) (aG (NX [5] (vk 2 (λZ=>noex ((cw (putN 5) (λZ=>(dV 2) Z>>=eW) (bT [5,7,8] (cw (putN 7) (cR (dA cK (aC (dA a6 (aC (d2 dw (d2 bq (dV 5) (dC (.int 0))) (dC (.int 1))) (aC (d2 bq (dV 5) (dC (.int 1))) aN))) (aC (dA a6 (aC (d2 bq (dV 5) (dC (.int 0))) (aC (d2 dw (d2 bq (dV 5) (dC (.int 1))) (dC (.int 1))) aN))) aN)))) RF))) Z)))) (vk 6 (bz (bB 0 (cR (dA pF (aC (dV 6) aN))) bQ (dA a6 (aC (dV 0) (aC (d2 bp (dV 7) (dV 0)) aN))))))))))
def du:List D->M D:=b7 9 (tw)
def um:DS:=(iI (tJ (e7 (dj (aD 1 e_ (aC (dV 1) aN)))) (e7 (dH (Ae (λi j=>decide (i<=j)) (λi j=>decide (i<j)) (dC (.int 0)) (dV 1) (dV 0))))) (TR 4 (aC (dC (.str "the number of a patch of the board is asked for")) aN)) dE)
def bN:List D->M D:=b7 2 (um)
def U7:DS:=(bT [8,9,10] (iI (EE (dH (d2 lz (d2 bp (dV 2) (dV 8)) (d2 bp (dV 2) (dV 9))))) (aG (bM 10 (Fp (dA y0 (aC (d2 bp (dV 2) (dV 8)) (aC (d2 bp (dV 2) (dV 9)) aN))))) (aG (eP 2 (dV 8) (dV 10)) (aG (eP 2 (dV 9) (dV 10)) (bM 7 (dC (.bl true)))))) dE))
def RC:DS:=(bT [5,6] (aG (bM 6 (d2 nN (d2 bq (dV 0) (d2 bq (dV 4) (dC (.int 0)))) (d2 bq (dV 4) (dC (.int 1))))) (iI (lr (dH (d2 AI (dV 4) (dV 5))) (dH (d2 ly (dV 6) (d2 nN (d2 bq (dV 0) (d2 bq (dV 5) (dC (.int 0)))) (d2 bq (dV 5) (dC (.int 1))))))) (oH 3 (dA a6 (aC (dV 4) (aC (dV 5) aN)))) dE)))
def Ti:DS:=(bT [8,9,10] (aG (bM 7 (dC (.bl false))) (vk 3 (cw (pB [8,9]) (cR (dV 3)) U7))))
def xI:DS:=(aG (pE 2 (λZ=>(aC (bB 0 (cR (aD 1 cT (aC (dV 0) aN))) bQ (dA a6 (aC (dV 0) (aC (dV 0) aN)))) aN) Z>>=BX)) (aG (ub 3) (aG (λZ=>noex ((cw (putN 4) (cR (aD 1 cT (aC (dV 0) aN))) (bT [4,5,6] (cw (putN 5) (cR (aD 3 dI (aC (dV 0) (aC (dV 4) (aC (dV 1) aN))))) RC))) Z)) (aG (bM 7 (dC (.bl true))) (aG (λZ=>noex ((xh (dj (dV 7)) Ti) Z)) (vk 2 (bz (dV 2))))))))
def fQ:List D->M D:=b7 11 (xI)
def tB:DS:=(aG (bM 3 (aD 1 eF (aC (dV 2) aN))) (aG (Lq 4) (aG (λZ=>noex ((zO 4 5 6 7 (cR (aD 1 ej (aC (dV 0) aN))) (d2 bp (dV 3) (dV 5)) (cR (aD 3 b_ (aC (dV 0) (aC (dV 5) (aC (dV 1) aN))))) (dH (d2 lz (d2 bp (dV 3) (dV 7)) (d2 bp (dV 3) (dV 5)))) (d2 bp (dV 3) (dV 7))) Z)) (vk 4 (bz (dV 4))))))
def eD:List D->M D:=b7 8 (tB)
def Tn:DS:=(bT [4] (eP 3 (d2 bp (dV 2) (dV 4)) (KR (d2 kL (ju (dV 3) (d2 bp (dV 2) (dV 4)) (dA cK aN)) (dA cK (aC (dV 4) aN))))))
def uk:DS:=(aG (bM 2 (aD 2 fQ (aC (dV 0) (aC (dV 1) aN)))) (aG (sM 3) (aG (λZ=>noex ((cw (putN 4) (cR (aD 1 cT (aC (dV 0) aN))) Tn) Z)) (vk 3 (bz (bB 0 (cR (dA pF (aC (dV 3) aN))) bQ (d2 bp (dV 4) (dV 0))))))))
def cH:List D->M D:=b7 5 (uk)
def RV:DS:=(bT [4,5] (iI (EE (dH (d2 (kF true) (dV 4) (dV 3)))) (aG (bM 5 (dA pF (aC (aD 3 dJ (aC (dV 0) (aC (dV 4) (aC (dV 1) aN)))) aN))) (aG (oH 2 (dV 5)) (Hx 3 (aD 1 qi (aC (dV 5) aN))))) dE))
def uj:DS:=(aG (ub 2) (aG (sM 3) (aG (λZ=>noex ((cw (putN 4) (cR (aD 1 ej (aC (dV 0) aN))) RV) Z)) (vk 2 (bz (dV 2))))))
def fj:List D->M D:=b7 6 (uj)
def HZ:DS:=(aG (qc (aD 1 eE (aC (dV 0) aN))) (aG (qc (aD 1 fB (aC (dV 1) aN))) (bz (aD 3 eD (aC (dV 0) (aC (dC (.int 4)) (aC (aD 2 fj (aC (dV 0) (aC (dV 1) aN))) aN)))))))
def de:List D->M D:=b7 2 (HZ)
def xM:DS:=(aG (bM 3 (aD 2 de (aC (dV 0) (aC (dV 1) aN)))) (aG (qc (aD 2 bN (aC (dA kM (aC (dV 3) aN)) (aC (dV 2) aN)))) (bz (dA HG (aC (d2 bp (dV 3) (dV 2)) aN)))))
def cY:List D->M D:=b7 4 (xM)
def EL:DS:=(aG (bM 4 (aD 2 de (aC (dV 0) (aC (dV 1) aN)))) (aG (qc (aD 2 bN (aC (dA kM (aC (dV 4) aN)) (aC (dV 2) aN)))) (aG (qc (aD 2 bN (aC (dA kM (aC (dV 4) aN)) (aC (dV 3) aN)))) (bz (d2 bp (aD 2 cg (aC (dV 4) (aC (dV 2) aN))) (dV 3))))))
def e9:List D->M D:=b7 5 (EL)
def H0:DS:=(aG (bM 2 (aD 2 de (aC (dV 0) (aC (dV 1) aN)))) (aG (bM 3 (bB 0 (λZ=>(aC (dA kM (aC (dV 2) aN)) aN) Z>>=dQ) bQ (d1 uX (aD 2 cg (aC (dV 3) (aC (dV 0) aN)))))) (bz (dM gG uK (dV 3) (aC (dA rN (aC (dV 3) aN)) aN)))))
def h7:List D->M D:=b7 4 (H0)
def R0:DS:=(bT [5] (eP 2 (dV 5) (Fp (dA pZ (aC (ju (dV 2) (dV 5) (dC (.int 99))) (aC (d2 dw (d2 bp (dV 2) (dV 4)) (dC (.int 1))) aN))))))
def Ur:DS:=(bT [4,5] (cw (putN 5) (cR (d2 vQ (dV 0) (dV 4))) R0))
def R1:DS:=(bT [3,4,5] (cw (putN 4) (cR (KR (dA Cf (aC (dV 2) aN)))) Ur))
def BD:DS:=(aG (pE 2 (λZ=>(dV 1) Z>>=λx=>(dC (.int 0)) Z>>=λy=>lT x y)) (aG (λZ=>noex ((cw (putN 3) (λZ=>(aC (dA cz (aC (dV 0) aN)) aN) Z>>=dQ) R1) Z)) (vk 2 (bz (dV 2)))))
def d_:List D->M D:=b7 6 (BD)
def dO(K:X5)(cA:Nat->Addr):DS:=(aG (bM 1 (dA cK (aC (dA (yO K (BR cA)) (aC (dV 0) (aC (dC (.raw (.ref (cA 0)))) aN))) (aC (dA (yO K (BR cA)) (aC (dV 0) (aC (dC (.raw (.ref (cA 1)))) aN))) (aC (dA (yO K (BR cA)) (aC (dV 0) (aC (dC (.raw (.ref (cA 4)))) aN))) aN))))) (aG (iI (tJ (dH (d2 lz (dM gG Dt (dV 1) (aC (dC (.bl true)) aN)) (dC (.int 1)))) (e7 (dj (dA (yO K (BR cA)) (aC (dV 0) (aC (dC (.raw (.ty "ValueError"))) aN)))))) (bz (dA a6 (aC (dC (.str "refused")) (aC (d1 A2 (dC (.int 1))) aN)))) dE) (bz (dA a6 (aC (dC (.str "refused")) (aC (dM gG MH (dV 1) (aC (dC (.bl true)) aN)) aN))))))
def bc(K:X5)(cA:Nat->Addr):List D->M D:=b7 2 (dO K cA)
def tu:DS:=(NY (aG (iI (dH (d2 ly (dV 0) (dC (.int 0)))) (bz (aD 3 cY (aC (dV 1) (aC (dV 2) (aC (dV 3) aN))))) dE) (bz (Um (dH (d2 ly (dV 0) (dC (.int 1)))) (aD 4 e9 (aC (dV 1) (aC (dV 2) (aC (dV 3) (aC (dV 4) aN))))) (aD 2 h7 (aC (dV 1) (aC (dV 2) aN)))))) λk=>noex (IY k))
def aH:List D->M D:=b7 6 (tu)
def pJ:DS:=(bM 1 (aD 3 dr (aC (dV 0) (aC (dC (.int 0)) (aC (dC (.int 5)) aN)))))
def pK:DS:=(bM 2 (d2 vQ (dA cK (aC (dC (.int 4)) (aC (dC (.int 8)) aN))) (aD 3 aW (aC (dV 0) (aC (dC (.int 60)) (aC (dC (.int 2)) aN))))))
def pL:DS:=(bM 3 (aD 2 cH (aC (dV 1) (aC (dV 2) aN))))
def pM:DS:=(zP 4 5 6 7 (cR (dV 3)) (cR (aD 2 du (aC (dV 1) (aC (dV 3) aN)))))
def pN:DS:=(bM 8 (dA cz (aC (dV 3) aN)))
def pO:DS:=(iI (dH (d2 lz (bB 0 (λZ=>(aC (dV 8) aN) Z>>=dQ) bQ (aD 5 aH (aC (dC (.int 0)) (aC (dV 2) (aC (dV 3) (aC (dV 0) (aC (dC .non) aN))))))) (bB 0 (cR (dV 4)) bQ (dA CV (aC (dV 0) aN))))) (bz (dC (.bl false))) dE)
def pP:DS:=(bM 5 (aD 3 aW (aC (dV 0) (aC (dC (.int 61)) (aC (dV 8) aN)))))
def pQ:DS:=(bM 9 (aD 2 d_ (aC (dV 4) (aC (dV 5) aN))))
def pR:DS:=(iI (dH (d2 lz (bB 0 (λZ=>(aC (dV 8) aN) Z>>=dQ) bQ (aD 5 aH (aC (dC (.int 1)) (aC (dV 2) (aC (dV 3) (aC (dV 6) (aC (dV 0) aN))))))) (bB 0 (λZ=>(aC (dV 8) aN) Z>>=dQ) bQ (d2 bp (dV 10) (dV 0))))) (bz (dC (.bl false))) dE)
def nj:DS:=(ub 10)
def Th:DS:=(bT [11,12] (aG (bM 12 (aD 2 d_ (aC (dV 4) (aC (dV 11) aN)))) (oH 10 (dA uW (aC (bB 0 (λZ=>(dV 12) Z>>=eW) bQ (d2 bp (dV 13) (dV 0))) aN)))))
def nq:DS:=(λZ=>noex ((cw (putN 11) (λZ=>(aC (dV 8) aN) Z>>=dQ) Th) Z))
def nu:DS:=(iI (EE (dH (d2 lz (aD 5 aH (aC (dC (.int 2)) (aC (dV 1) (aC (dV 2) (aC (dC .non) (aC (dC .non) aN)))))) (dM gG uK (dV 10) (aC (dA rN (aC (dV 10) aN)) aN))))) (bz (dC (.bl false))) dE)
def nv:DS:=(λZ=>noex ((cw (putN 13) (pU (dA a6 (aC (d1 A2 (dC (.int 1))) (aC (dV 8) (aC (dC .non) (aC (dC (.bl true)) (aC (dC (.str "0")) aN))))))) (bT [13] (aG (iI (dH (d2 lz (aD 5 aH (aC (dC (.int 0)) (aC (dV 1) (aC (dV 2) (aC (dV 13) (aC (dC .non) aN)))))) (dA a6 (aC (dC (.str "refused")) (aC (dC (.int 2)) aN))))) (bz (dC (.bl false))) dE) (aG (iI (dH (d2 lz (aD 5 aH (aC (dC (.int 1)) (aC (dV 1) (aC (dV 2) (aC (dC (.int 0)) (aC (dV 13) aN)))))) (dA a6 (aC (dC (.str "refused")) (aC (dC (.int 2)) aN))))) (bz (dC (.bl false))) dE) (iI (dH (d2 lz (aD 5 aH (aC (dC (.int 1)) (aC (dV 1) (aC (dV 2) (aC (dV 13) (aC (dC .non) aN)))))) (dA a6 (aC (dC (.str "refused")) (aC (dC (.int 2)) aN))))) (bz (dC (.bl false))) dE))))) Z))
def ny:DS:=(NX [13] (λZ=>noex ((cw (putN 13) (pU (dA a6 (aC (d1 A2 (dC (.int 4))) (aC (dC (.int 5)) (aC (dC .non) (aC (dC (.bl true)) (aC (dC (.str "4")) aN))))))) (bT [13] (iI (dH (d2 lz (bB 0 (λZ=>(aC (dC (.int 3)) aN) Z>>=dQ) bQ (aD 5 aH (aC (dV 0) (aC (dV 2) (aC (dV 14) (aC (dC .non) (aC (dC .non) aN))))))) (d2 IS (dA cK (aC (dA a6 (aC (dC (.str "refused")) (aC (dC (.int 1)) aN))) aN)) (dC (.int 3))))) (bz (dC (.bl false))) dE))) Z)))
def nz:DS:=(bz (d2 ly (bB 0 (λZ=>(aC (dC (.int 3)) aN) Z>>=dQ) bQ (aD 5 aH (aC (dV 0) (aC (dA a6 (aC (dC (.str "g")) aN)) (aC (dC (.int 5)) (aC (dC .non) (aC (dC .non) aN))))))) (d2 IS (dA cK (aC (dA a6 (aC (dC (.str "refused")) (aC (dC (.int 0)) aN))) aN)) (dC (.int 3)))))
def oP:DS:=(aG pJ (aG pK (aG pL (aG pM (aG pN (aG pO (aG pP (aG pQ (aG pR (aG nj (aG nq (aG nu (aG nv (aG ny nz))))))))))))))
def kg:List D->M D:=b7 14 oP
structure Bl (K:X5) (mg:Str->Option Value) (base:Heap) (cv:Nat->Value) (cA:Nat->Addr) (Cp:Addr):Prop where
 len:mg "len"=none
 isinstance:mg "isinstance"=none
 all:mg "all"=none
 abs:mg "abs"=none
 max:mg "max"=none
 min:mg "min"=none
 range:mg "range"=none
 str:mg "str"=none
 int:mg "int"=none
 bool:mg "bool"=none
 tuple:mg "tuple"=none
 list:mg "list"=none
 dict:mg "dict"=none
 sorted:mg "sorted"=none
 enumerate:mg "enumerate"=none
 ValueError:mg "ValueError"=none
 LETTERS:∃t,mg "LETTERS"=some (.str "abcdef" t)
 MOST_ROWS:∃t,mg "MOST_ROWS"=some (.int 8 t)
 MOST_COLUMNS:∃t,mg "MOST_COLUMNS"=some (.int 8 t)
 cls0:mg "NoBoard"=some (.ref (cA 0))
 cls1:mg "NoWays"=some (.ref (cA 1))
 cls4:mg "NoNumber"=some (.ref (cA 4))
 own0:OwnCls "NoBoard" (cA 0) [.type "ValueError", .type "Exception", .type "BaseException", .type "object"] "ValueError.__new__" mg base
 own1:OwnCls "NoWays" (cA 1) [.type "ValueError", .type "Exception", .type "BaseException", .type "object"] "ValueError.__new__" mg base
 own4:OwnCls "NoNumber" (cA 4) [.type "ValueError", .type "Exception", .type "BaseException", .type "object"] "ValueError.__new__" mg base
 cvE:∀n,cv n= .ref (cB cA n)
 top:mg "PatchError"=some (.ref Cp)
 exm:∀n,abd K (cv n) (.ref Cp)=some true
 exs:∀C∈BR cA,ExcC K C
 kit:∀n m,n∈[0,1,4]->m∈[0,1,4]->Yt K (.ref (cA n)) (.ref (cA m))=some (decide (n=m))
 kitV:∀n,n∈[0,1,4]->Yt K (.ref (cA n)) (.type "ValueError")=some true
section
variable{P:YK}{w:World}{K:X5}{mg:Str->Option Value}{base:Heap}{cv:Nat->Value}{cA:Nat->Addr}{Cp:Addr}{f:Addr}
abbrev lL:Stmt:=top 9
def rP:List Str:=["thing"]
def sr:List Str:=["thing"]
def mR{j k:Nat}{A:YX}(r:Room k A)(h:j<=k:=by decide):Room j A:=r.mono h
def dz{N Q:List Str}{sc:Scope}(k:sc.kind= .function:=by rfl)(c:sc.isCoroutine=false:=by rfl)(g:sc.isGenerator=false:=by rfl)(p:N.take Q.length=Q:=by rfl)(h:N.Nodup/\(∀x∈Q,sc.names.lookup x=some .local\/sc.names.lookup x=some .cell)/\∀y∈sc.names,y.2≠ .free:=by decide+kernel):FnScope N Q sc:=⟨k,c,g,h.1,p,h.2.1,h.2.2⟩
def zT:FnScope rP sr (ai lL):=dz
def zl(B:Bl K mg base cv cA Cp)(T:bJ K mg "is_whole" lL f):ax P w K mg base cv 1 "is_whole" 1 (e_):=
 aJ (N:=rP) (ps:=sr) T zT (λ_ _ _ _ _ _ us hl=>match us,hl with | [_],_=>rfl) λ_ _ _ _ _ _ hr=>
  (ao (aI (wL (sA rfl B.isinstance rfl (ae (af (pv 0)) (ae (u7 rfl B.int rfl) ah))) (Bi (Nv (sA rfl B.isinstance rfl (ae (af (pv 0)) (ae (u7 rfl B.bool rfl) ah))))))))
abbrev jX:Stmt:=top 10
def oX:List Str:=["thing"]
def pd:List Str:=["thing"]
def xj:FnScope oX pd (ai jX):=dz
def wD(B:Bl K mg base cv cA Cp)(T:bJ K mg "is_letter" jX f):ax P w K mg base cv 1 "is_letter" 1 (dq):=
 aJ (N:=oX) (ps:=pd) T xj (λ_ _ _ _ _ _ us hl=>match us,hl with | [_],_=>rfl) λ_ _ _ _ _ _ hr=>
  (ao (aI (wL (sA rfl B.isinstance rfl (ae (af (pv 0)) (ae (u7 rfl B.str rfl) ah))) (wL (zu hr.units (dg rfl B.len (ae (af (pv 0)) ah)) ar) (Bi (Nt (af (pv 0)) (JY rfl B.LETTERS (by decide))))))))
abbrev eQ:Stmt:=top 15
def eN:List Str:=["board","row"]
def jL:List Str:=["board","row"]
def qd:FnScope eN jL (ai eQ):=dz
def p0(B:Bl K mg base cv cA Cp)(T:bJ K mg "cells_of_row" eQ f):ax P w K mg base cv 1 "cells_of_row" 2 (cO):=
 aJ (N:=eN) (ps:=jL) T qd (λ_ _ _ _ _ _ us hl=>match us,hl with | [_,_],_=>rfl) λ_ _ _ _ _ _ hr=>
  (ao (aI (cN (tn:=["column"]) (n:=0) (bb (N:=eN) (osc:=(ai eQ)) rfl rfl (by decide+kernel)) rfl rfl (bx rfl B.range (ae (dg rfl B.len (ae (bF (af (pv 0)) ar) ah)) ah)) (λ_ _ _ _ _ _ _=>cf (show Zb (((["column"]:List Str))++bV ["column"] eN) by decide+kernel) rfl rfl) (λ_ _ _ _ _ _=>bL) (λ_ _ _ _ _ _=>(bG (ae (af (pv 2)) (ae (af (pv 0)) ah)))))))
abbrev jZ:Stmt:=top 17
def oZ:List Str:=["board","cell"]
def pj:List Str:=["board","cell"]
def xk:FnScope oZ pj (ai jZ):=dz
def wI(B:Bl K mg base cv cA Cp)(T:bJ K mg "letter_of" jZ f):ax P w K mg base cv 1 "letter_of" 2 (ek):=
 aJ (N:=oZ) (ps:=pj) T xk (λ_ _ _ _ _ _ us hl=>match us,hl with | [_,_],_=>rfl) λ_ _ _ _ _ _ hr=>
  (ao (aI (wU (bF (af (pv 0)) (bF (af (pv 1)) ar)) (bF (af (pv 1)) ar))))
abbrev lK:Stmt:=top 18
def rO:List Str:=["one","other","ways","down","along"]
def sm:List Str:=["one","other","ways"]
def j2:FnScope rO sm (ai lK):=dz
def zj(B:Bl K mg base cv cA Cp)(T:bJ K mg "are_next" lK f):ax P w K mg base cv 1 "are_next" 3 (d9):=
 aJ (N:=rO) (ps:=sm) T j2 (λ_ _ _ _ _ _ us hl=>match us,hl with | [_,_,_],_=>rfl) λ_ _ _ _ _ _ hr=>
  (aj (aQ j2.nd rfl (.inl rfl) (G0 rfl B.abs (ae (wY (bF (af (pv 0)) ar) (bF (af (pv 1)) ar)) ah) rfl)) (aj (aQ j2.nd rfl (.inl rfl) (G0 rfl B.abs (ae (wY (bF (af (pv 0)) ar) (bF (af (pv 1)) ar)) ah) rfl)) (aj (bY (pA hr.units (af (pv 2)) ar) (ao (aI (zu hr.units (cu (af (pv 3)) (af (pv 4))) ar))) br) (ao (aI (zu hr.units (wV rfl rfl B.max rfl (ae (af (pv 3)) (ae (af (pv 4)) ah))) ar))))))
abbrev xi:Stmt:=top 20
def Cm:List Str:=["things","found","thing"]
def Cy:List Str:=["things"]
def sP:FnScope Cm Cy (ai xi):=dz
def GP(B:Bl K mg base cv cA Cp)(T:bJ K mg "keyed" xi f):ax P w K mg base cv 1 "keyed" 1 (qi):=
 aJ (N:=Cm) (ps:=Cy) T sP (λ_ _ _ _ _ _ us hl=>match us,hl with | [_],_=>rfl) λ_ _ _ _ _ _ hr=>
  (aj (iA sP.nd rfl (.inl rfl)) (aj (bW (a8 Yk rfl (CG (a7 (af (pv 0))) (mM (af (pv 0)))) (aL sP.nd rfl (.inl rfl)) aX (aR (ao (dY hr.units (pv 1) (af (pv 2)) eX))))) (ao (cF (i:=1) (aI (af (pv 1)))))))
abbrev i9:Stmt:=top 25
def mx:List Str:=["found","numbers","number","patch","cell"]
def mK:List Str:=["found"]
def d6:FnScope mx mK (ai i9):=dz
def t8(B:Bl K mg base cv cA Cp)(T:bJ K mg "numbers_of" i9 f):ax P w K mg base cv 1 "numbers_of" 1 (eF):=
 aJ (N:=mx) (ps:=mK) T d6 (λ_ _ _ _ _ _ us hl=>match us,hl with | [_],_=>rfl) λ_ _ _ _ _ _ hr=>
  (aj (iA d6.nd rfl (.inl rfl)) (aj (bW (a8 Yk rfl (zw rfl B.enumerate (ae (af (pv 0)) ah)) (sF rfl (dX (aL d6.nd rfl (.inl rfl)) (dX (aL d6.nd rfl (.inl rfl)) mO))) (w_ (is:=[2,3])) (aR (ao (a8 Yk rfl (a7 (af (pv 3))) (aL d6.nd rfl (.inl rfl)) aX (aR (ao (dY hr.units (pv 1) (af (pv 4)) (af (pv 2)))))))))) (ao (cF (i:=1) (aI (af (pv 1)))))))
abbrev jW:Stmt:=top 27
def oW:List Str:=["near","start","far","ring","further","thing","other"]
def pb:List Str:=["near","start"]
def c7:FnScope oW pb (ai jW):=dz
def wC(B:Bl K mg base cv cA Cp)(T:bJ K mg "distances" jW f):ax P w K mg base cv 1 "distances" 2 (cg):=
 aJ (N:=oW) (ps:=pb) T c7 (λ_ _ _ _ _ _ us hl=>match us,hl with | [_,_],_=>rfl) λ_ _ _ _ _ _ hr=>
  (aj (mT c7.nd rfl (.inl rfl) (JZ (u_ hr.units (af (pv 1)) ar) (u9 hr.units (af (pv 1)) ar))) (aj (aQ c7.nd rfl (.inl rfl) (fL (ae (af (pv 1)) ah))) (aj (bW (oB Yk (d7 (af (pv 3))) (aR (aj (gL c7.nd rfl (.inl rfl)) (aj (a8 Yk rfl (a7 (af (pv 3))) (aL c7.nd rfl (.inl rfl)) aX (aR (ao (a8 Yk rfl (CG (a7 (bS hr.units (af (pv 0)) (af (pv 5)))) (mM (bS hr.units (af (pv 0)) (af (pv 5))))) (aL c7.nd rfl (.inl rfl)) aX (aR (ao (bY (oq (oC hr.units (af (pv 6)) (af (pv 2)))) (aj (dY hr.units (pv 2) (af (pv 6)) (zv (cu (bS hr.units (af (pv 2)) (af (pv 5))) ar))) (ao (iX (pv 4) (af (pv 6))))) br))))))) (ao (cF (i:=4) (aQ c7.nd rfl (.inl rfl) (af (pv 4)))))))))) (ao (cF (i:=2) (aI (af (pv 2))))))))
abbrev lM:Stmt:=top 36
def rQ:List Str:=["_law_script","_law_k"]
def su:List Str:=["_law_script","_law_k"]
def zU:FnScope rQ su (ai lM):=dz
def zm(B:Bl K mg base cv cA Cp)(T:bJ K mg "_law_cell" lM f):ax P w K mg base cv 1 "_law_cell" 2 (gp):=
 aJ (N:=rQ) (ps:=su) T zU (λ_ _ _ _ _ _ us hl=>match us,hl with | [_,_],_=>rfl) λ_ _ _ _ _ _ hr=>
  (aj (bY (pA hr.units (af (pv 0)) (fL ah)) (ao (aI (jQ ar (af (pv 1))))) br) (ao (aI (cu (Nu (af (pv 0)) (om (af (pv 1)) (dg rfl B.len (ae (af (pv 0)) ah)))) (jQ ar (wN (af (pv 1)) (dg rfl B.len (ae (af (pv 0)) ah))))))))
abbrev gO:Stmt:=top 39
def gK:List Str:=["_law_board_here","_law_found","_law_row"]
def pf:List Str:=["_law_board_here"]
def fW:FnScope gK pf (ai gO):=dz
def wG(B:Bl K mg base cv cA Cp)(T:bJ K mg "_law_cells" gO f):ax P w K mg base cv 1 "_law_cells" 1 (cT):=
 aJ (N:=gK) (ps:=pf) T fW (λ_ _ _ _ _ _ us hl=>match us,hl with | [_],_=>rfl) λ_ _ _ _ _ _ hr=>
  (aj (aQ fW.nd rfl (.inl rfl) (fL ah)) (aj (bW (a8 Yk rfl (bx rfl B.range (ae (dg rfl B.len (ae (af (pv 0)) ah)) ah)) (aL fW.nd rfl (.inr rfl)) aX (aR (ao (aQ fW.nd rfl (.inl rfl) (CA (af (pv 1)) (cN (tn:=["_law_column"]) (n:=0) (bb (N:=gK) (osc:=(ai gO)) rfl rfl (by decide+kernel)) rfl rfl (bx rfl B.range (ae (dg rfl B.len (ae (bF (af (pv 0)) ar) ah)) ah)) (λ_ _ _ _ _ _ _=>cf (show Zb (((["_law_column"]:List Str))++bV ["_law_column"] gK) by decide+kernel) rfl rfl) (λ_ _ _ _ _ _=>bL) (λ_ _ _ _ _ _=>(bG (ae (af (pv 3)) (ae (af (pv 0)) ah))))))))))) (ao (aI (af (pv 1))))))
abbrev iY:Stmt:=top 40
def mn:List Str:=["_law_board_here","_law_cell_here","_law_ways","_law_found","_law_down","_law_right","_law_row","_law_column","_law_inside"]
def mE:List Str:=["_law_board_here","_law_cell_here","_law_ways"]
def cI:FnScope mn mE (ai iY):=dz
def tX(B:Bl K mg base cv cA Cp)(T:bJ K mg "_law_beside" iY f):ax P w K mg base cv 1 "_law_beside" 3 (dI):=
 aJ (N:=mn) (ps:=mE) T cI (λ_ _ _ _ _ _ us hl=>match us,hl with | [_,_,_],_=>rfl) λ_ _ _ _ _ _ hr=>
  (aj (gL cI.nd rfl (.inl rfl)) (aj (bW (a8 Yk rfl (kr (bG (ae (sC ar) (ae ar (ae ar ah))))) (aL cI.nd rfl (.inl rfl)) aX (aR (ao (a8 Yk rfl (kr (bG (ae (sC ar) (ae ar (ae ar ah))))) (aL cI.nd rfl (.inl rfl)) aX (aR (aj (aQ cI.nd rfl (.inl rfl) (cu (bF (af (pv 1)) ar) (af (pv 4)))) (aj (aQ cI.nd rfl (.inl rfl) (cu (bF (af (pv 1)) ar) (af (pv 5)))) (aj (aQ cI.nd rfl (.inl rfl) (wL (G2 sk GU ar (af (pv 6)) (dg rfl B.len (ae (af (pv 0)) ah))) (Bi (G2 sk GU ar (af (pv 7)) (dg rfl B.len (ae (bF (af (pv 0)) ar) ah)))))) (ao (bY (PDW.t (qu (d7 (af (pv 8))) (qu (jh hr.units (bG (ae (af (pv 4)) (ae (af (pv 5)) ah))) (bG (ae ar (ae ar ah)))) (sE (PDW.t (ot (pA hr.units (af (pv 2)) ar) (ku (pA hr.units (jQ (af (pv 4)) (af (pv 5))) ar)))))))) (ao (iX (pv 3) (bG (ae (af (pv 6)) (ae (af (pv 7)) ah))))) br))))))))))) (ao (cF (i:=3) (aI (af (pv 3)))))))
abbrev eR:Stmt:=top 43
def eO:List Str:=["_law_board_here","_law_rows","_law_own","_law_number","_law_row","_law_cell_here","_law_found","_law_there","_law_pair"]
def jN:List Str:=["_law_board_here","_law_rows"]
def bt:FnScope eO jN (ai eR):=dz
def p9(B:Bl K mg base cv cA Cp)(T:bJ K mg "_law_touching" eR f):ax P w K mg base cv 1 "_law_touching" 2 (du):=
 aJ (N:=eO) (ps:=jN) T bt (λ_ _ _ _ _ _ us hl=>match us,hl with | [_,_],_=>rfl) λ_ _ _ _ _ _ hr=>
  (aj (iA bt.nd rfl (.inl rfl)) (aj (bW (a8 Yk rfl (zw rfl B.enumerate (ae (af (pv 1)) ah)) (sF rfl (dX (aL bt.nd rfl (.inl rfl)) (dX (aL bt.nd rfl (.inl rfl)) mO))) (w_ (is:=[3,4])) (aR (ao (a8 Yk rfl (a7 (af (pv 4))) (aL bt.nd rfl (.inl rfl)) aX (aR (ao (dY hr.units (pv 2) (af (pv 5)) (af (pv 3)))))))))) (aj (iA bt.nd rfl (.inr rfl)) (aj (CL (cF (i:=2) (bW (a8 Yk rfl (mM (af (pv 2))) (aL bt.nd rfl (.inl rfl)) aX (aR (ao (a8 Yk rfl (a7 (fL (ae (bG (ae (cu (bF (af (pv 5)) ar) ar) (ae (bF (af (pv 5)) ar) ah))) (ae (bG (ae (bF (af (pv 5)) ar) (ae (cu (bF (af (pv 5)) ar) ar) ah))) ah)))) (aL bt.nd rfl (.inl rfl)) aX (aR (ao (bY (oq (PDW.t (qu (NM hr.units (af (pv 7)) (af (pv 2))) (sE (jh hr.units (bS hr.units (af (pv 2)) (af (pv 7))) (bS hr.units (af (pv 2)) (af (pv 5)))))))) (aj (aQ bt.nd rfl (.inl rfl) (zv (bG (ae (wW rfl rfl B.min rfl (ae (bS hr.units (af (pv 2)) (af (pv 5))) (ae (bS hr.units (af (pv 2)) (af (pv 7))) ah))) (ae (wV rfl rfl B.max rfl (ae (bS hr.units (af (pv 2)) (af (pv 5))) (ae (bS hr.units (af (pv 2)) (af (pv 7))) ah))) ah))))) (ao (dY hr.units (pv 6) (af (pv 8)) (zv (cu (wO hr.units (af (pv 6)) (af (pv 8)) ar ⟨rfl,rfl,rfl,rfl⟩) ar))))) br)))))))))) (ao (cF (i:=6) (aI (cN (tn:=["_law_pair"]) (n:=0) (bb (N:=eO) (osc:=(ai eR)) rfl rfl (by decide+kernel)) rfl rfl (a7 (wX rfl rfl B.sorted rfl (ae (af (pv 6)) ah))) (λ_ _ _ _ _ _ _=>cf (show Zb (((["_law_pair"]:List Str))++bV ["_law_pair"] eO) by decide+kernel) rfl rfl) (λ_ _ _ _ _ _=>bL) (λ_ _ _ _ _ _=>(bG (ae (af (pv 0)) (ae (bS hr.units (af (pv 7)) (af (pv 0))) ah))))))))))))
abbrev lN:Stmt:=top 44
def rR:List Str:=["_law_rows","_law_start","_law_found","_law_turn","_law_one","_law_other"]
def sv:List Str:=["_law_rows","_law_start"]
def fE:FnScope rR sv (ai lN):=dz
def zo(B:Bl K mg base cv cA Cp)(T:bJ K mg "_law_fars" lN f):ax P w K mg base cv 1 "_law_fars" 2 (d_):=
 aJ (N:=rR) (ps:=sv) T fE (λ_ _ _ _ _ _ us hl=>match us,hl with | [_,_],_=>rfl) λ_ _ _ _ _ _ hr=>
  (aj (mT fE.nd rfl (.inl rfl) (u9 hr.units (af (pv 1)) ar)) (aj (bW (a8 Yk rfl (bx rfl B.range (ae (dg rfl B.len (ae (af (pv 0)) ah)) ah)) (aL fE.nd rfl (.inl rfl)) aX (aR (ao (a8 Yk rfl (a7 (Lj (G4 rfl rfl B.list rfl (ae (af (pv 2)) ah)))) (aL fE.nd rfl (.inl rfl)) aX (aR (ao (a8 Yk rfl (a7 (Bh (af (pv 0)) (af (pv 4)))) (aL fE.nd rfl (.inl rfl)) aX (aR (ao (dY hr.units (pv 2) (af (pv 5)) (zv (wW rfl rfl B.min rfl (ae (wO hr.units (af (pv 2)) (af (pv 5)) ar ⟨rfl,rfl,rfl,rfl⟩) (ae (cu (bS hr.units (af (pv 2)) (af (pv 4))) ar) ah))))))))))))))) (ao (cF (i:=2) (aI (af (pv 2)))))))
abbrev fg:Stmt:=top 45
def iq:List Str:=["_law_e","_law_flags"]
def iy:List Str:=["_law_e"]
def gP:FnScope iq iy (ai fg):=dz
def mD(B:Bl K mg base cv cA Cp)(T:bJ K mg "_law_refused" fg f):qe P w K mg base cv 1 "_law_refused" 1 (bc K cA):=
 As (N:=iq) (ps:=iy) T gP (λ_ _ _ _ _ _ us hl=>match us,hl with | [_],_=>rfl) λb9 A outer s H hr=>
  (aj (aQ gP.nd rfl (.inl rfl) (fL (ae (wR B.exs rfl B.isinstance rfl (ae (af (pv 0)) (ae (wM rfl B.cls0) ah))) (ae (wR B.exs rfl B.isinstance rfl (ae (af (pv 0)) (ae (wM rfl B.cls1) ah))) (ae (wR B.exs rfl B.isinstance rfl (ae (af (pv 0)) (ae (wM rfl B.cls4) ah))) ah))))) (aj (bY (PDW.t (ot (jh hr.units (Np (af (pv 1)) (ae eX ah)) ar) (ku (fm (d7 (wR B.exs rfl B.isinstance rfl (ae (af (pv 0)) (ae (u7 rfl B.ValueError rfl) ah)))))))) (ao (aI (bG (ae dh (ae (sC ar) ah))))) br) (ao (aI (bG (ae dh (ae (Nq (af (pv 1)) (ae eX ah)) ah)))))))
abbrev mZ:Stmt:=top 11
def ml:List Str:=["thing"]
def zp:List Str:=["thing"]
def Ey:FnScope ml zp (ai mZ):=dz
def Ed(B:Bl K mg base cv cA Cp)(yi:ax P w K mg base cv 1 "is_letter" 1 dq)(T:bJ K mg "is_row" mZ f):ax P w K mg base cv 2 "is_row" 1 (gm):=
 aJ (N:=ml) (ps:=zp) T Ey (λ_ _ _ _ _ _ us hl=>match us,hl with | [_],_=>rfl) λ_ _ _ _ _ _ hr=>
  (aj (bY (PDW.t (ot (fm (d7 (sA rfl B.isinstance rfl (ae (af (pv 0)) (ae (u7 rfl B.str rfl) ah))))) (ku (fm (Bn sk sk ar (dg rfl B.len (ae (af (pv 0)) ah)) (CC rfl B.MOST_COLUMNS)))))) (ao (aI eX)) br) (ao (aI (Bg rfl rfl B.all rfl (ae (cN (tn:=["sign"]) (n:=0) (bb (N:=ml) (osc:=(ai mZ)) rfl rfl (by decide+kernel)) rfl rfl (J0 (af (pv 0))) (λ_ _ _ _ _ _ _=>cf (show Zb (((["sign"]:List Str))++bV ["sign"] ml) by decide+kernel) rfl rfl) (λ_ _ _ _ _ _=>bL) (λ_ _ _ _ _ _=>(bE yi (mR hr) rfl df (ae (af (pv 0)) ah) rfl))) ah)))))
abbrev j1:Stmt:=top 14
def o3:List Str:=["thing"]
def pk:List Str:=["thing"]
def xl:FnScope o3 pk (ai j1):=dz
def wJ(B:Bl K mg base cv cA Cp)(lg:ax P w K mg base cv 1 "is_whole" 1 e_)(T:bJ K mg "need_ways" j1 f):ax P w K mg base cv 2 "need_ways" 1 (fB):=
 aJ (N:=o3) (ps:=pk) T xl (λ_ _ _ _ _ _ us hl=>match us,hl with | [_],_=>rfl) λ_ _ _ _ _ _ hr=>
  (ao (bY (PDW.t (ot (fm (d7 (bE lg (mR hr) rfl cC (ae (af (pv 0)) ah) rfl))) (ku (Ep (af (pv 0)) (bG (ae ar (ae ar ah))))))) (ao (oA B.own1 aa_ rfl rfl (B.cvE 1) Gk (ae dh ah))) br))
abbrev jV:Stmt:=top 16
def oV:List Str:=["board","found","row"]
def o_:List Str:=["board"]
def ja:FnScope oV o_ (ai jV):=dz
def wB(B:Bl K mg base cv cA Cp)(qG:ax P w K mg base cv 1 "cells_of_row" 2 cO)(T:bJ K mg "all_cells" jV f):ax P w K mg base cv 2 "all_cells" 1 (ej):=
 aJ (N:=oV) (ps:=o_) T ja (λ_ _ _ _ _ _ us hl=>match us,hl with | [_],_=>rfl) λ_ _ _ _ _ _ hr=>
  (aj (gL ja.nd rfl (.inl rfl)) (aj (bW (a8 Yk rfl (bx rfl B.range (ae (dg rfl B.len (ae (af (pv 0)) ah)) ah)) (aL ja.nd rfl (.inl rfl)) aX (aR (ao (Ke (pv 1) (bE qG (mR hr) rfl df (ae (af (pv 0)) (ae (af (pv 2)) ah)) rfl)))))) (ao (cF (i:=1) (aI (af (pv 1)))))))
abbrev i8:Stmt:=top 19
def mw:List Str:=["board","cell","ways","found","row","column"]
def mJ:List Str:=["board","cell","ways"]
def ft:FnScope mw mJ (ai i8):=dz
def t7(B:Bl K mg base cv cA Cp)(Ap:ax P w K mg base cv 1 "are_next" 3 d9)(T:bJ K mg "next_cells" i8 f):ax P w K mg base cv 2 "next_cells" 3 (b_):=
 aJ (N:=mw) (ps:=mJ) T ft (λ_ _ _ _ _ _ us hl=>match us,hl with | [_,_,_],_=>rfl) λ_ _ _ _ _ _ hr=>
  (aj (gL ft.nd rfl (.inl rfl)) (aj (bW (a8 Yk rfl (sD rfl B.range (ae (wV rfl rfl B.max rfl (ae (wY (bF (af (pv 1)) ar) ar) (ae ar ah))) (ae (wW rfl rfl B.min rfl (ae (cu (bF (af (pv 1)) ar) ar) (ae (dg rfl B.len (ae (af (pv 0)) ah)) ah))) ah))) (aL ft.nd rfl (.inl rfl)) aX (aR (ao (a8 Yk rfl (sD rfl B.range (ae (wV rfl rfl B.max rfl (ae (wY (bF (af (pv 1)) ar) ar) (ae ar ah))) (ae (wW rfl rfl B.min rfl (ae (cu (bF (af (pv 1)) ar) ar) (ae (dg rfl B.len (ae (bF (af (pv 0)) ar) ah)) ah))) ah))) (aL ft.nd rfl (.inl rfl)) aX (aR (ao (bY (d7 (bE Ap (mR hr) rfl df (ae (af (pv 1)) (ae (bG (ae (af (pv 4)) (ae (af (pv 5)) ah))) (ae (af (pv 2)) ah))) rfl)) (ao (iX (pv 3) (bG (ae (af (pv 4)) (ae (af (pv 5)) ah))))) br)))))))) (ao (cF (i:=3) (aI (af (pv 3)))))))
abbrev g6:Stmt:=top 29
def kQ:List Str:=["many","thing"]
def kX:List Str:=["many","thing"]
def sQ:FnScope kQ kX (ai g6):=dz
def sj(B:Bl K mg base cv cA Cp)(lg:ax P w K mg base cv 1 "is_whole" 1 e_)(T:bJ K mg "need_number" g6 f):ax P w K mg base cv 2 "need_number" 2 (bN):=
 aJ (N:=kQ) (ps:=kX) T sQ (λ_ _ _ _ _ _ us hl=>match us,hl with | [_,_],_=>rfl) λ_ _ _ _ _ _ hr=>
  (ao (bY (PDW.t (ot (fm (d7 (bE lg (mR hr) rfl cC (ae (af (pv 1)) ah) rfl))) (ku (fm (Bn sk GU ar (af (pv 1)) (af (pv 0))))))) (ao (oA B.own4 aa_ rfl rfl (B.cvE 4) Gk (ae dh ah))) br))
abbrev jY:Stmt:=top 37
def oY:List Str:=["_law_script","_law_k","_law_many","_law_cell_here"]
def ph:List Str:=["_law_script","_law_k","_law_many"]
def jb:FnScope oY ph (ai jY):=dz
def wH(B:Bl K mg base cv cA Cp)(Ar:ax P w K mg base cv 1 "_law_cell" 2 gp)(T:bJ K mg "_law_drawn" jY f):ax P w K mg base cv 2 "_law_drawn" 3 (aW):=
 aJ (N:=oY) (ps:=ph) T jb (λ_ _ _ _ _ _ us hl=>match us,hl with | [_,_,_],_=>rfl) λ_ _ _ _ _ _ hr=>
  (aj (aQ jb.nd rfl (.inl rfl) (om (cu (jQ (om (bE Ar (mR hr) rfl cC (ae (af (pv 0)) (ae (af (pv 1)) ah)) rfl) ar) ar) (jQ ar (cu (af (pv 1)) ar))) ar)) (aj (aQ jb.nd rfl (.inl rfl) (om (cu (jQ (af (pv 3)) (af (pv 3))) (wN (af (pv 3)) ar)) ar)) (ao (aI (om (wN (om (cu (jQ (af (pv 3)) (af (pv 3))) (wN (af (pv 3)) ar)) ar) ar) (af (pv 2)))))))
abbrev fU:Stmt:=top 41
def fS:List Str:=["_law_board_here","_law_ways","_law_found","_law_pairs","_law_cell_here","_law_there","_law_mine","_law_changed","_law_one","_law_other","_law_least"]
def mF:List Str:=["_law_board_here","_law_ways"]
def ba:FnScope fS mF (ai fU):=dz
def tY(B:Bl K mg base cv cA Cp)(gE:ax P w K mg base cv 1 "_law_cells" 1 cT)(vC:ax P w K mg base cv 1 "_law_beside" 3 dI)(T:bJ K mg "_law_labels" fU f):ax P w K mg base cv 2 "_law_labels" 2 (fQ):=
 aJ (N:=fS) (ps:=mF) T ba (λ_ _ _ _ _ _ us hl=>match us,hl with | [_,_],_=>rfl) λ_ _ _ _ _ _ hr=>
  (aj (mT ba.nd rfl (.inl rfl) (G6 hr.units rfl rfl B.dict rfl (ae (cN (tn:=["_law_cell_here"]) (n:=0) (bb (N:=fS) (osc:=(ai fU)) rfl rfl (by decide+kernel)) rfl rfl (a7 (bE gE (mR hr) rfl cC (ae (af (pv 0)) ah) rfl)) (λ_ _ _ _ _ _ _=>cf (show Zb (((["_law_cell_here"]:List Str))++bV ["_law_cell_here"] fS) by decide+kernel) rfl rfl) (λ_ _ _ _ _ _=>bL) (λ_ _ _ _ _ _=>(bG (ae (af (pv 0)) (ae (af (pv 0)) ah))))) ah))) (aj (gL ba.nd rfl (.inl rfl)) (aj (bW (a8 Yk rfl (a7 (bE gE (mR hr) rfl df (ae (af (pv 0)) ah) rfl)) (aL ba.nd rfl (.inl rfl)) aX (aR (ao (a8 Yk rfl (a7 (bE vC (mR hr) rfl df (ae (af (pv 0)) (ae (af (pv 4)) (ae (af (pv 1)) ah))) rfl)) (aL ba.nd rfl (.inl rfl)) aX (aR (aj (aQ ba.nd rfl (.inl rfl) (wU (bF (af (pv 0)) (bF (af (pv 4)) ar)) (bF (af (pv 4)) ar))) (ao (bY (PDW.t (qu (NN hr.units (af (pv 4)) (af (pv 5))) (sE (pA hr.units (af (pv 6)) (wU (bF (af (pv 0)) (bF (af (pv 5)) ar)) (bF (af (pv 5)) ar)))))) (ao (iX (pv 3) (bG (ae (af (pv 4)) (ae (af (pv 5)) ah))))) br))))))))) (aj (aQ ba.nd rfl (.inl rfl) eX) (aj (bW (oB Yk (d7 (af (pv 7))) (aR (aj (aQ ba.nd rfl (.inl rfl) eX) (ao (cF (i:=3) (a8 Yk rfl (a7 (af (pv 3))) (sF rfl (dX (aL ba.nd rfl (.inl rfl)) (dX (aL ba.nd rfl (.inl rfl)) mO))) (w_ (is:=[8,9])) (aR (ao (bY (oq (jh hr.units (bS hr.units (af (pv 2)) (af (pv 8))) (bS hr.units (af (pv 2)) (af (pv 9))))) (aj (aQ ba.nd rfl (.inl rfl) (zv (JV hr.units rfl rfl B.min rfl (ae (bS hr.units (af (pv 2)) (af (pv 8))) (ae (bS hr.units (af (pv 2)) (af (pv 9))) ah))))) (aj (dY hr.units (pv 2) (af (pv 8)) (af (pv 10))) (aj (dY hr.units (pv 2) (af (pv 9)) (af (pv 10))) (ao (aQ ba.nd rfl (.inl rfl) eX))))) br)))))))))) (ao (cF (i:=2) (aI (af (pv 2))))))))))
abbrev gx:Stmt:=top 12
def fe:List Str:=["thing"]
def sq:List Str:=["thing"]
def zS:FnScope fe sq (ai gx):=dz
def zk(B:Bl K mg base cv cA Cp)(Fc:ax P w K mg base cv 2 "is_row" 1 gm)(T:bJ K mg "is_board" gx f):ax P w K mg base cv 3 "is_board" 1 (iN):=
 aJ (N:=fe) (ps:=sq) T zS (λ_ _ _ _ _ _ us hl=>match us,hl with | [_],_=>rfl) λ_ _ _ _ _ _ hr=>
  (aj (bY (PDW.t (ot (fm (d7 (sA rfl B.isinstance rfl (ae (af (pv 0)) (ae (u7 rfl B.tuple rfl) ah))))) (ku (fm (Bn sk sk ar (dg rfl B.len (ae (af (pv 0)) ah)) (CC rfl B.MOST_ROWS)))))) (ao (aI eX)) br) (aj (bY (fm (d7 (Bg rfl rfl B.all rfl (ae (cN (tn:=["row"]) (n:=0) (bb (N:=fe) (osc:=(ai gx)) rfl rfl (by decide+kernel)) rfl rfl (kr (af (pv 0))) (λ_ _ _ _ _ _ _=>cf (show Zb (((["row"]:List Str))++bV ["row"] fe) by decide+kernel) rfl rfl) (λ_ _ _ _ _ _=>bL) (λ_ _ _ _ _ _=>(bE Fc (mR hr) rfl df (ae (af (pv 0)) ah) rfl))) ah)))) (ao (aI eX)) br) (ao (aI (Bg rfl rfl B.all rfl (ae (cN (tn:=["row"]) (n:=0) (bb (N:=fe) (osc:=(ai gx)) rfl rfl (by decide+kernel)) rfl rfl (kr (af (pv 0))) (λ_ _ _ _ _ _ _=>cf (show Zb (((["row"]:List Str))++bV ["row"] fe) by decide+kernel) rfl rfl) (λ_ _ _ _ _ _=>bL) (λ_ _ _ _ _ _=>(zu hr.units (dg rfl B.len (ae (af (pv 0)) ah)) (dg rfl B.len (ae (bF (af (pv 1)) ar) ah))))) ah))))))
abbrev fV:Stmt:=top 22
def fT:List Str:=["board","cell","ways","letter"]
def mG:List Str:=["board","cell","ways"]
def kY:FnScope fT mG (ai fV):=dz
def tZ(B:Bl K mg base cv cA Cp)(oQ:ax P w K mg base cv 1 "letter_of" 2 ek)(iL:ax P w K mg base cv 2 "next_cells" 3 b_)(T:bJ K mg "like_cells" fV f):ax P w K mg base cv 3 "like_cells" 3 (cX):=
 aJ (N:=fT) (ps:=mG) T kY (λ_ _ _ _ _ _ us hl=>match us,hl with | [_,_,_],_=>rfl) λ_ _ _ _ _ _ hr=>
  (aj (aQ kY.nd rfl (.inr rfl) (bE oQ (mR hr) rfl cC (ae (af (pv 0)) (ae (af (pv 1)) ah)) rfl)) (ao (aI (cN (tn:=["near"]) (n:=0) (bb (N:=fT) (osc:=(ai fV)) rfl rfl (by decide+kernel)) rfl rfl (a7 (bE iL (mR hr) rfl cC (ae (af (pv 0)) (ae (af (pv 1)) (ae (af (pv 2)) ah))) rfl)) (λ_ _ _ _ _ _ _=>cf (show Zb (((["near"]:List Str))++bV ["near"] fT) by decide+kernel) rfl rfl) (λ_ _ _ _ _ _=>(HQ (pA hr.units (bE oQ (mR hr) rfl df (ae (af (pv 1)) (ae (af (pv 0)) ah)) rfl) (af (pv 4))))) (λ_ _ _ _ _ _=>(af (pv 0)))))))
abbrev gz:Stmt:=top 26
def jI:List Str:=["board","ways","found","numbers","near","cell","mine","other"]
def jO:List Str:=["board","ways","found"]
def cx:FnScope jI jO (ai gz):=dz
def p_(B:Bl K mg base cv cA Cp)(vH:ax P w K mg base cv 1 "numbers_of" 1 eF)(jq:ax P w K mg base cv 2 "all_cells" 1 ej)(iL:ax P w K mg base cv 2 "next_cells" 3 b_)(T:bJ K mg "near_numbers" gz f):ax P w K mg base cv 3 "near_numbers" 3 (eD):=
 aJ (N:=jI) (ps:=jO) T cx (λ_ _ _ _ _ _ us hl=>match us,hl with | [_,_,_],_=>rfl) λ_ _ _ _ _ _ hr=>
  (aj (aQ cx.nd rfl (.inl rfl) (bE vH (mR hr) rfl cC (ae (af (pv 2)) ah) rfl)) (aj (Hh cx.nd rfl (.inl rfl)) (aj (bW (Hg Yk rfl hr.units (a7 (bE jq (mR hr) rfl df (ae (af (pv 0)) ah) rfl)) (aL cx.nd rfl (.inl rfl)) (pv 4) (bS hr.units (af (pv 3)) (af (pv 5))) ⟨rfl,rfl,rfl,rfl⟩ (aL cx.nd rfl (.inl rfl)) (a7 (bE iL (mR hr) rfl df (ae (af (pv 0)) (ae (af (pv 5)) (ae (af (pv 1)) ah))) rfl)) (aL cx.nd rfl (.inl rfl)) (jh hr.units (bS hr.units (af (pv 3)) (af (pv 7))) (bS hr.units (af (pv 3)) (af (pv 5)))) (pv 6) (bS hr.units (af (pv 3)) (af (pv 7))))) (ao (cF (i:=4) (aI (af (pv 4))))))))
abbrev gN:Stmt:=top 38
def gJ:List Str:=["_law_script","_law_at","_law_most","_law_rows","_law_wide","_law_alphabet","_law_found","_law_row","_law_signs"]
def pe:List Str:=["_law_script","_law_at","_law_most"]
def cG:FnScope gJ pe (ai gN):=dz
def wF(B:Bl K mg base cv cA Cp)(bP:ax P w K mg base cv 2 "_law_drawn" 3 aW)(T:bJ K mg "_law_board" gN f):ax P w K mg base cv 3 "_law_board" 3 (dr):=
 aJ (N:=gJ) (ps:=pe) T cG (λ_ _ _ _ _ _ us hl=>match us,hl with | [_,_,_],_=>rfl) λ_ _ _ _ _ _ hr=>
  (aj (aQ cG.nd rfl (.inl rfl) (cu ar (bE bP (mR hr) rfl cC (ae (af (pv 0)) (ae (af (pv 1)) (ae (af (pv 2)) ah))) rfl))) (aj (aQ cG.nd rfl (.inl rfl) (cu ar (bE bP (mR hr) rfl cC (ae (af (pv 0)) (ae (cu (af (pv 1)) ar) (ae (af (pv 2)) ah))) rfl))) (aj (aQ cG.nd rfl (.inr rfl) (Bh (fL (ae dh (ae dh (ae dh (ae dh ah))))) (bE bP (mR hr) rfl cC (ae (af (pv 0)) (ae (cu (af (pv 1)) ar) (ae ar ah))) rfl))) (aj (aQ cG.nd rfl (.inl rfl) (bG ah)) (aj (bW (a8 Yk rfl (bx rfl B.range (ae (af (pv 3)) ah)) (aL cG.nd rfl (.inr rfl)) aX (aR (aj (pz (tn:=["_law_k"]) (n:=0) cG.nd rfl (.inl rfl) (bb (N:=gJ) (osc:=(ai gN)) rfl rfl (by decide+kernel)) rfl rfl (bx rfl B.range (ae (af (pv 4)) ah)) (λ_ _ _ _ _ _ _=>cf (show Zb (((["_law_k"]:List Str))++bV ["_law_k"] gJ) by decide+kernel) rfl rfl) (λ_ _ _ _ _ _=>bL) (λ_ _ _ _ _ _=>(wU (af (pv 6)) (bE bP (mR hr) rfl df (ae (af (pv 1)) (ae (cu (cu (cu (af (pv 2)) ar) (jQ ar (af (pv 8)))) (af (pv 0))) (ae (dg rfl B.len (ae (af (pv 6)) ah)) ah))) rfl)))) (ao (aQ cG.nd rfl (.inl rfl) (JR (af (pv 6)) (bG (ae (JS dh (ae (af (pv 8)) ah)) ah))))))))) (ao (aI (af (pv 6)))))))))
abbrev fq:Stmt:=top 42
def fk:List Str:=["_law_board_here","_law_ways","_law_labels_here","_law_rows","_law_cell_here"]
def kW:List Str:=["_law_board_here","_law_ways"]
def eS:FnScope fk kW (ai fq):=dz
def sf(B:Bl K mg base cv cA Cp)(vD:ax P w K mg base cv 2 "_law_labels" 2 fQ)(gE:ax P w K mg base cv 1 "_law_cells" 1 cT)(T:bJ K mg "_law_patches" fq f):ax P w K mg base cv 3 "_law_patches" 2 (cH):=
 aJ (N:=fk) (ps:=kW) T eS (λ_ _ _ _ _ _ us hl=>match us,hl with | [_,_],_=>rfl) λ_ _ _ _ _ _ hr=>
  (aj (aQ eS.nd rfl (.inl rfl) (bE vD (mR hr) rfl cC (ae (af (pv 0)) (ae (af (pv 1)) ah)) rfl)) (aj (iA eS.nd rfl (.inr rfl)) (aj (bW (a8 Yk rfl (a7 (bE gE (mR hr) rfl df (ae (af (pv 0)) ah) rfl)) (aL eS.nd rfl (.inl rfl)) aX (aR (ao (dY hr.units (pv 3) (bS hr.units (af (pv 2)) (af (pv 4))) (Lj (CA (wO hr.units (af (pv 3)) (bS hr.units (af (pv 2)) (af (pv 4))) (fL ah) ⟨rfl,rfl,rfl,rfl⟩) (fL (ae (af (pv 4)) ah))))))))) (ao (cF (i:=3) (aI (cN (tn:=["_law_first"]) (n:=0) (bb (N:=fk) (osc:=(ai fq)) rfl rfl (by decide+kernel)) rfl rfl (a7 (wX rfl rfl B.sorted rfl (ae (af (pv 3)) ah))) (λ_ _ _ _ _ _ _=>cf (show Zb (((["_law_first"]:List Str))++bV ["_law_first"] fk) by decide+kernel) rfl rfl) (λ_ _ _ _ _ _=>bL) (λ_ _ _ _ _ _=>(bS hr.units (af (pv 4)) (af (pv 0)))))))))))
abbrev iZ:Stmt:=top 13
def mr:List Str:=["thing"]
def mH:List Str:=["thing"]
def uc:FnScope mr mH (ai iZ):=dz
def t5(B:Bl K mg base cv cA Cp)(Aq:ax P w K mg base cv 3 "is_board" 1 iN)(T:bJ K mg "need_board" iZ f):ax P w K mg base cv 4 "need_board" 1 (eE):=
 aJ (N:=mr) (ps:=mH) T uc (λ_ _ _ _ _ _ us hl=>match us,hl with | [_],_=>rfl) λ_ _ _ _ _ _ hr=>
  (ao (bY (fm (d7 (bE Aq (mR hr) rfl cC (ae (af (pv 0)) ah) rfl))) (ao (oA B.own0 aa_ rfl rfl (B.cvE 0) Gk (ae dh ah))) br))
abbrev i_:Stmt:=top 23
def my:List Str:=["board","start","ways","back","ring","further","cell","near"]
def mL:List Str:=["board","start","ways"]
def cJ:FnScope my mL (ai i_):=dz
def t9(B:Bl K mg base cv cA Cp)(vE:ax P w K mg base cv 3 "like_cells" 3 cX)(T:bJ K mg "steps_back" i_ f):ax P w K mg base cv 4 "steps_back" 3 (dJ):=
 aJ (N:=my) (ps:=mL) T cJ (λ_ _ _ _ _ _ us hl=>match us,hl with | [_,_,_],_=>rfl) λ_ _ _ _ _ _ hr=>
  (aj (mT cJ.nd rfl (.inl rfl) (u_ hr.units (af (pv 1)) fM)) (aj (aQ cJ.nd rfl (.inl rfl) (fL (ae (af (pv 1)) ah))) (aj (bW (oB Yk (d7 (af (pv 4))) (aR (aj (gL cJ.nd rfl (.inl rfl)) (aj (a8 Yk rfl (a7 (af (pv 4))) (aL cJ.nd rfl (.inl rfl)) aX (aR (ao (a8 Yk rfl (a7 (bE vE (mR hr) rfl df (ae (af (pv 0)) (ae (af (pv 6)) (ae (af (pv 2)) ah))) rfl)) (aL cJ.nd rfl (.inl rfl)) aX (aR (ao (bY (oq (oC hr.units (af (pv 7)) (af (pv 3)))) (aj (dY hr.units (pv 3) (af (pv 7)) (af (pv 6))) (ao (iX (pv 5) (af (pv 7))))) br))))))) (ao (cF (i:=5) (aQ cJ.nd rfl (.inl rfl) (af (pv 5)))))))))) (ao (cF (i:=3) (aI (af (pv 3))))))))
abbrev gZ:Stmt:=top 24
def kP:List Str:=["board","ways","found","seen","cell","patch"]
def kU:List Str:=["board","ways"]
def dF:FnScope kP kU (ai gZ):=dz
def se(B:Bl K mg base cv cA Cp)(jq:ax P w K mg base cv 2 "all_cells" 1 ej)(vI:ax P w K mg base cv 4 "steps_back" 3 dJ)(Iv:ax P w K mg base cv 1 "keyed" 1 qi)(T:bJ K mg "all_patches" gZ f):ax P w K mg base cv 5 "all_patches" 2 (fj):=
 aJ (N:=kP) (ps:=kU) T dF (λ_ _ _ _ _ _ us hl=>match us,hl with | [_,_],_=>rfl) λ_ _ _ _ _ _ hr=>
  (aj (gL dF.nd rfl (.inl rfl)) (aj (iA dF.nd rfl (.inl rfl)) (aj (bW (a8 Yk rfl (a7 (bE jq (mR hr) rfl df (ae (af (pv 0)) ah) rfl)) (aL dF.nd rfl (.inl rfl)) aX (aR (ao (bY (oq (oC hr.units (af (pv 4)) (af (pv 3)))) (aj (aQ dF.nd rfl (.inl rfl) (wX rfl rfl B.sorted rfl (ae (bE vI (mR hr) rfl df (ae (af (pv 0)) (ae (af (pv 4)) (ae (af (pv 1)) ah))) rfl) ah))) (aj (iX (pv 2) (af (pv 5))) (ao (Kg hr.units (pv 3) (bE Iv (mR hr) rfl df (ae (af (pv 5)) ah) rfl) ⟨rfl,rfl,rfl,rfl⟩)))) br))))) (ao (cF (i:=2) (aI (af (pv 2))))))))
abbrev sN:Stmt:=top 31
def y9:List Str:=["board","ways"]
def zq:List Str:=["board","ways"]
def Ez:FnScope y9 zq (ai sN):=dz
def Ee(B:Bl K mg base cv cA Cp)(vF:ax P w K mg base cv 4 "need_board" 1 eE)(yj:ax P w K mg base cv 2 "need_ways" 1 fB)(qH:ax P w K mg base cv 3 "near_numbers" 3 eD)(tI:ax P w K mg base cv 5 "all_patches" 2 fj)(T:bJ K mg "map_of" sN f):ax P w K mg base cv 6 "map_of" 2 (de):=
 aJ (N:=y9) (ps:=zq) T Ez (λ_ _ _ _ _ _ us hl=>match us,hl with | [_,_],_=>rfl) λ_ _ _ _ _ _ hr=>
  (aj (mS (bE vF (mR hr) rfl cC (ae (af (pv 0)) ah) rfl)) (aj (mS (bE yj (mR hr) rfl cC (ae (af (pv 1)) ah) rfl)) (ao (aI (bE qH (mR hr) rfl cC (ae (af (pv 0)) (ae ar (ae (bE tI (mR hr) rfl cC (ae (af (pv 0)) (ae (af (pv 1)) ah)) rfl) ah))) rfl)))))
abbrev i6:Stmt:=top 32
def mv:List Str:=["board","ways","number","near"]
def mI:List Str:=["board","ways","number"]
def kZ:FnScope mv mI (ai i6):=dz
def t6(B:Bl K mg base cv cA Cp)(jt:ax P w K mg base cv 6 "map_of" 2 de)(fi:ax P w K mg base cv 2 "need_number" 2 bN)(T:bJ K mg "neighbours" i6 f):ax P w K mg base cv 7 "neighbours" 3 (cY):=
 aJ (N:=mv) (ps:=mI) T kZ (λ_ _ _ _ _ _ us hl=>match us,hl with | [_,_,_],_=>rfl) λ_ _ _ _ _ _ hr=>
  (aj (aQ kZ.nd rfl (.inl rfl) (bE jt (mR hr) rfl cC (ae (af (pv 0)) (ae (af (pv 1)) ah)) rfl)) (aj (mS (bE fi (mR hr) rfl cC (ae (qt rfl B.len (ae (af (pv 3)) ah)) (ae (af (pv 2)) ah)) rfl)) (ao (aI (JX rfl rfl B.sorted rfl (ae (bS hr.units (af (pv 3)) (af (pv 2))) ah))))))
abbrev oJ:Stmt:=top 33
def uZ:List Str:=["board","ways","one","other","near"]
def u4:List Str:=["board","ways","one","other"]
def sO:FnScope uZ u4 (ai oJ):=dz
def Ba(B:Bl K mg base cv cA Cp)(jt:ax P w K mg base cv 6 "map_of" 2 de)(fi:ax P w K mg base cv 2 "need_number" 2 bN)(jr:ax P w K mg base cv 1 "distances" 2 cg)(T:bJ K mg "borders" oJ f):ax P w K mg base cv 7 "borders" 4 (e9):=
 aJ (N:=uZ) (ps:=u4) T sO (λ_ _ _ _ _ _ us hl=>match us,hl with | [_,_,_,_],_=>rfl) λ_ _ _ _ _ _ hr=>
  (aj (aQ sO.nd rfl (.inl rfl) (bE jt (mR hr) rfl cC (ae (af (pv 0)) (ae (af (pv 1)) ah)) rfl)) (aj (mS (bE fi (mR hr) rfl cC (ae (qt rfl B.len (ae (af (pv 4)) ah)) (ae (af (pv 2)) ah)) rfl)) (aj (mS (bE fi (mR hr) rfl cC (ae (qt rfl B.len (ae (af (pv 4)) ah)) (ae (af (pv 3)) ah)) rfl)) (ao (aI (bS hr.units (bE jr (mR hr) rfl cC (ae (af (pv 4)) (ae (af (pv 2)) ah)) rfl) (af (pv 3))))))))
abbrev m6:Stmt:=top 34
def mq:List Str:=["board","ways","near","farthest"]
def zr:List Str:=["board","ways"]
def oK:FnScope mq zr (ai m6):=dz
def Ef(B:Bl K mg base cv cA Cp)(jt:ax P w K mg base cv 6 "map_of" 2 de)(jr:ax P w K mg base cv 1 "distances" 2 cg)(T:bJ K mg "middle" m6 f):ax P w K mg base cv 7 "middle" 2 (h7):=
 aJ (N:=mq) (ps:=zr) T oK (λ_ _ _ _ _ _ us hl=>match us,hl with | [_,_],_=>rfl) λ_ _ _ _ _ _ hr=>
  (aj (aQ oK.nd rfl (.inr rfl) (bE jt (mR hr) rfl cC (ae (af (pv 0)) (ae (af (pv 1)) ah)) rfl)) (aj (pz (tn:=["number"]) (n:=0) oK.nd rfl (.inl rfl) (bb (N:=mq) (osc:=(ai m6)) rfl rfl (by decide+kernel)) rfl rfl (bx rfl B.range (ae (qt rfl B.len (ae (af (pv 2)) ah)) ah)) (λ_ _ _ _ _ _ _=>cf (show Zb (((["number"]:List Str))++bV ["number"] mq) by decide+kernel) rfl rfl) (λ_ _ _ _ _ _=>bL) (λ_ _ _ _ _ _=>(JU rfl rfl B.max rfl (bE jr (mR hr) rfl df (ae (af (pv 3)) (ae (af (pv 0)) ah)) rfl)))) (ao (aI (CB (af (pv 3)) (ae (CF rfl rfl B.min rfl (ae (af (pv 3)) ah)) ah))))))
def v8(B:Bl K mg base cv cA Cp){n m:Nat}(hn:n∈[0,1,4])(hm:m∈[0,1,4]):yO K (BR cA) [.exc (cA n), .raw (.ref (cA m))]=aa (.bl (decide (n=m))):=by
 have h:cA n∈BR cA:=by
  unfold BR;simp only[XY,Y3,or_false] at hn;rcases hn with rfl | rfl | rfl<;>simp
 show (if cA n∈BR cA then(match Yt K (.ref (cA n)) (.ref (cA m)) with | some b=>aa (D.bl b) | none=>ag) else ag)=_;rw[aex h,B.kit n m hn hm]
def F_(B:Bl K mg base cv cA Cp){n:Nat}(hn:n∈[0,1,4]):yO K (BR cA) [.exc (cA n), .raw (.ty "ValueError")]=aa (.bl true):=by
 have h:cA n∈BR cA:=by
  unfold BR;simp only[XY,Y3,or_false] at hn;rcases hn with rfl | rfl | rfl<;>simp
 show (if cA n∈BR cA then(match Yt K (.ref (cA n)) (.type "ValueError") with | some b=>aa (D.bl b) | none=>ag) else ag)=_;rw[aex h,B.kitV n hn]
def CQ(k:Nat):OA k∈[0,1,4]:=by
 unfold OA;split<;>simp
def zH(B:Bl K mg base cv cA Cp)(k:Nat):bc K cA [.exc (cB cA k)]=IY k:=by
 unfold IY cB;have hn:=CQ k;generalize OA k=n at hn;have hv:=F_ B hn;have x0:=v8 B (m:=0) hn (by decide);have x1:=v8 B (m:=1) hn (by decide);have x4:=v8 B (m:=4) hn (by decide);clear B;simp only[XY,Y3,or_false] at hn;rcases hn with rfl | rfl | rfl
 ·simp only[bc,dO,hv,x0,x1,x4,b7,aG,bM,dA,aC,aN,dV,dC,d1,d2,dM,tJ,e7,dj,iI,bz,dE,dH,aw,X3,ZT,ZP,Yw,Ye,X7,Y0,aak,aal,YG,YS,cK,Nat.reduceSub,Nat.reduceAdd,lim,Nat.reduceLeDiff,if_true,kL,gG,Dt,bools,decide_true,decide_false,Nat.reduceEqDiff];rfl
 ·simp only[bc,dO,hv,x0,x1,x4,b7,aG,bM,dA,aC,aN,dV,dC,d1,d2,dM,tJ,e7,dj,iI,bz,dE,dH,aw,X3,ZT,ZP,Yw,Ye,X7,Y0,aak,aal,YG,YS,cK,Nat.reduceSub,Nat.reduceAdd,lim,Nat.reduceLeDiff,if_true,kL,gG,Dt,bools,decide_true,decide_false,Nat.reduceEqDiff];rfl
 ·simp only[bc,dO,hv,x0,x1,x4,b7,aG,bM,dA,aC,aN,dV,dC,d1,d2,dM,tJ,e7,dj,iI,bz,dE,dH,aw,X3,ZT,ZP,Yw,Ye,X7,Y0,aak,aal,YG,YS,cK,Nat.reduceSub,Nat.reduceAdd,lim,Nat.reduceLeDiff,if_true,kL,gG,Dt,bools,decide_true,decide_false,Nat.reduceEqDiff];rfl
def hh(B:Bl K mg base cv cA Cp){i:Nat}(k:Nat)(Z:bH)(e:Z[i]? =some (some (.fz (.exc (cB cA k))))):bz (Fe 1 (bc K cA) (aC (dV i) aN)) Z=(IY k>>=λd=>aa (.rt d)):=by
 have h4:dV i Z=aa (.exc (cB cA k)):=by unfold dV;rw[e]
 show ((dV i Z>>=λx=>aN Z>>=λxs=>aa (x::xs))>>=λds=>if ds.length=1 then noex (noex (bc K cA ds)) else ag)>>=_=_;rw[h4];show (if [D.exc (cB cA k)].length=1 then noex (noex (bc K cA [.exc (cB cA k)])) else ag)>>=_=_;rw[zH B k];rfl
abbrev gy:Stmt:=top 46
def jH:List Str:=["_law_kind","_law_board_here","_law_ways","_law_one","_law_other","_law_e"]
def jM:List Str:=["_law_kind","_law_board_here","_law_ways","_law_one","_law_other"]
def jj:FnScope jH jM (ai gy):=dz
def p8(B:Bl K mg base cv cA Cp)(vG:ax P w K mg base cv 7 "neighbours" 3 cY)(Dd:ax P w K mg base cv 7 "borders" 4 e9)(Fd:ax P w K mg base cv 7 "middle" 2 h7)(nG:qe P w K mg base cv 1 "_law_refused" 1 (bc K cA))(T:bJ K mg "_law_told" gy f):ax P w K mg base cv 8 "_law_told" 5 (aH):=
 aJ (N:=jH) (ps:=jM) T jj (λ_ _ _ _ _ _ us hl=>match us,hl with | [_,_,_,_,_],_=>rfl) λ_ _ _ _ _ _ hr=>
  (ao (Kf (i:=5) (hd:=IY) B.cvE jj.nd rfl rfl rfl B.top B.exm (λpn Ec Xw' hp=>(aj (bY (pA hr.units (af (pv 0)) ar) (ao (aI (bE vG (mR hr) rfl hp (ae (af (pv 1)) (ae (af (pv 2)) (ae (af (pv 3)) ah))) rfl))) br) (ao (aI (Qs (pA hr.units (af (pv 0)) ar) (bE Dd (mR hr) rfl hp (ae (af (pv 1)) (ae (af (pv 2)) (ae (af (pv 3)) (ae (af (pv 4)) ah)))) rfl) (bE Fd (mR hr) rfl hp (ae (af (pv 1)) (ae (af (pv 2)) ah)) rfl)))))) (λea=>(ao (aI (Iw nG (RoomH.of (mR hr) _) rfl (ae (af (pv 5)) ah))))) (λk Z _ e=>hh B k Z e)))
abbrev aq:Stmt:=top 47
def aE:List Str:=["_law_script","_law_board_here","_law_ways","_law_some","_law_rows","_law_one","_law_other","_law_sides","_law_many","_law_mine","_law_most","_law_k","_law_fars_here","_law_bad"]
def og:List Str:=["_law_script"]
def bj:FnScope aE og (ai aq):=dz
def xn(B:Bl K mg base cv cA Cp)(js:ax P w K mg base cv 3 "_law_board" 3 dr){b9:Value}{A:YX}{outer:List Env}{s:X1}{H:Hp}{E:XK}(hr:Room 8 (A.deeper (ZE "law" (ai aq) s.heap.objs.size f b9))):
 Box (g8 (aY (c_ P w cv) P w K mg base aE "law" (ai aq) f b9 A outer s H E) (λn H'=>E (cv n) none H') ((aV aq).getD 0 (.Pass ⟨0,0,0,0⟩)) pJ):=
 ⟨(aQ bj.nd rfl (.inr rfl) (bE js (mR hr) rfl cC (ae (af (pv 0)) (ae ar (ae ar ah))) rfl))⟩
def xo(B:Bl K mg base cv cA Cp)(bP:ax P w K mg base cv 2 "_law_drawn" 3 aW){b9:Value}{A:YX}{outer:List Env}{s:X1}{H:Hp}{E:XK}(hr:Room 8 (A.deeper (ZE "law" (ai aq) s.heap.objs.size f b9))):
 Box (g8 (aY (c_ P w cv) P w K mg base aE "law" (ai aq) f b9 A outer s H E) (λn H'=>E (cv n) none H') ((aV aq).getD 1 (.Pass ⟨0,0,0,0⟩)) pK):=
 ⟨(aQ bj.nd rfl (.inr rfl) (Bh (fL (ae ar (ae ar ah))) (bE bP (mR hr) rfl cC (ae (af (pv 0)) (ae ar (ae ar ah))) rfl)))⟩
def xp(B:Bl K mg base cv cA Cp)(gT:ax P w K mg base cv 3 "_law_patches" 2 cH){b9:Value}{A:YX}{outer:List Env}{s:X1}{H:Hp}{E:XK}(hr:Room 8 (A.deeper (ZE "law" (ai aq) s.heap.objs.size f b9))):
 Box (g8 (aY (c_ P w cv) P w K mg base aE "law" (ai aq) f b9 A outer s H E) (λn H'=>E (cv n) none H') ((aV aq).getD 2 (.Pass ⟨0,0,0,0⟩)) pL):=
 ⟨(aQ bj.nd rfl (.inl rfl) (bE gT (mR hr) rfl cC (ae (af (pv 1)) (ae (af (pv 2)) ah)) rfl))⟩
def xq(B:Bl K mg base cv cA Cp)(gc:ax P w K mg base cv 1 "_law_touching" 2 du){b9:Value}{A:YX}{outer:List Env}{s:X1}{H:Hp}{E:XK}(hr:Room 8 (A.deeper (ZE "law" (ai aq) s.heap.objs.size f b9))):
 Box (LI (aY (c_ P w cv) P w K mg base aE "law" (ai aq) f b9 A outer s H E) (λn H'=>E (cv n) none H') ((aV aq).getD 3 (.Pass ⟨0,0,0,0⟩)) ((aV aq).getD 4 (.Pass ⟨0,0,0,0⟩)) pM):=
 ⟨(Hi (Xv:=λ_ _=>False) (He (Xw:=λ_ _=>False) (tn:=["_law_patch"]) bj.nd rfl (.inl rfl) (bb (N:=aE) (osc:=(ai aq)) rfl rfl (by decide+kernel)) rfl rfl (a7 (af (pv 3))) (λ_ _ _ _ _ _ _=>cf (show Zb (((["_law_patch"]:List Str))++bV ["_law_patch"] aE) by decide+kernel) rfl rfl) (λ_ _ _ _ _ _=>bL) (λ_ _ _ _ _ _=>J9)) (w6 Yk rfl (a7 (bE gc (mR hr) rfl df (ae (af (pv 1)) (ae (af (pv 3)) ah)) rfl)) (sF rfl (dX (sF rfl (dX (aL bj.nd rfl (.inr rfl)) (dX (aL bj.nd rfl (.inl rfl)) mO))) (dX (aL bj.nd rfl (.inl rfl)) mO))) (jS (Hd (pv 4) (pv 5) (pv 6)) (mU (Hd (pv 4) (pv 6) (pv 5))))) (show 4<aE.length by decide) (show 5<aE.length by decide) (show 6<aE.length by decide))⟩
def xr(B:Bl K mg base cv cA Cp){b9:Value}{A:YX}{outer:List Env}{s:X1}{H:Hp}{E:XK}(hr:Room 8 (A.deeper (ZE "law" (ai aq) s.heap.objs.size f b9))):
 Box (g8 (aY (c_ P w cv) P w K mg base aE "law" (ai aq) f b9 A outer s H E) (λn H'=>E (cv n) none H') ((aV aq).getD 5 (.Pass ⟨0,0,0,0⟩)) pN):=
 ⟨(aQ bj.nd rfl (.inl rfl) (dg rfl B.len (ae (af (pv 3)) ah)))⟩
def xt(B:Bl K mg base cv cA Cp)(aF:ax P w K mg base cv 8 "_law_told" 5 aH){b9:Value}{A:YX}{outer:List Env}{s:X1}{H:Hp}{E:XK}(hr:Room 8 (A.deeper (ZE "law" (ai aq) s.heap.objs.size f b9))):
 Box (g8 (aY (c_ P w cv) P w K mg base aE "law" (ai aq) f b9 A outer s H E) (λn H'=>E (cv n) none H') ((aV aq).getD 6 (.Pass ⟨0,0,0,0⟩)) pO):=
 ⟨(bY (jh hr.units (cN (tn:=["_law_k"]) (n:=0) (bb (N:=aE) (osc:=(ai aq)) rfl rfl (by decide+kernel)) rfl rfl (bx rfl B.range (ae (af (pv 8)) ah)) (λ_ _ _ _ _ _ _=>cf (show Zb (((["_law_k"]:List Str))++bV ["_law_k"] aE) by decide+kernel) rfl rfl) (λ_ _ _ _ _ _=>bL) (λ_ _ _ _ _ _=>(bE aF (mR hr) rfl df (ae ar (ae (af (pv 2)) (ae (af (pv 3)) (ae (af (pv 0)) (ae fM ah))))) rfl))) (cN (tn:=["_law_row"]) (n:=0) (bb (N:=aE) (osc:=(ai aq)) rfl rfl (by decide+kernel)) rfl rfl (a7 (af (pv 4))) (λ_ _ _ _ _ _ _=>cf (show Zb (((["_law_row"]:List Str))++bV ["_law_row"] aE) by decide+kernel) rfl rfl) (λ_ _ _ _ _ _=>bL) (λ_ _ _ _ _ _=>(JW rfl B.sorted rfl (ae (af (pv 0)) ah))))) (ao (aI eX)) br)⟩
def xu(B:Bl K mg base cv cA Cp)(bP:ax P w K mg base cv 2 "_law_drawn" 3 aW){b9:Value}{A:YX}{outer:List Env}{s:X1}{H:Hp}{E:XK}(hr:Room 8 (A.deeper (ZE "law" (ai aq) s.heap.objs.size f b9))):
 Box (g8 (aY (c_ P w cv) P w K mg base aE "law" (ai aq) f b9 A outer s H E) (λn H'=>E (cv n) none H') ((aV aq).getD 7 (.Pass ⟨0,0,0,0⟩)) pP):=
 ⟨(aQ bj.nd rfl (.inr rfl) (bE bP (mR hr) rfl cC (ae (af (pv 0)) (ae ar (ae (af (pv 8)) ah))) rfl))⟩
def xx(B:Bl K mg base cv cA Cp)(eZ:ax P w K mg base cv 1 "_law_fars" 2 d_){b9:Value}{A:YX}{outer:List Env}{s:X1}{H:Hp}{E:XK}(hr:Room 8 (A.deeper (ZE "law" (ai aq) s.heap.objs.size f b9))):
 Box (g8 (aY (c_ P w cv) P w K mg base aE "law" (ai aq) f b9 A outer s H E) (λn H'=>E (cv n) none H') ((aV aq).getD 8 (.Pass ⟨0,0,0,0⟩)) pQ):=
 ⟨(aQ bj.nd rfl (.inr rfl) (bE eZ (mR hr) rfl cC (ae (af (pv 4)) (ae (af (pv 5)) ah)) rfl))⟩
def xy(B:Bl K mg base cv cA Cp)(aF:ax P w K mg base cv 8 "_law_told" 5 aH){b9:Value}{A:YX}{outer:List Env}{s:X1}{H:Hp}{E:XK}(hr:Room 8 (A.deeper (ZE "law" (ai aq) s.heap.objs.size f b9))):
 Box (g8 (aY (c_ P w cv) P w K mg base aE "law" (ai aq) f b9 A outer s H E) (λn H'=>E (cv n) none H') ((aV aq).getD 9 (.Pass ⟨0,0,0,0⟩)) pR):=
 ⟨(bY (jh hr.units (cN (tn:=["_law_k"]) (n:=0) (bb (N:=aE) (osc:=(ai aq)) rfl rfl (by decide+kernel)) rfl rfl (bx rfl B.range (ae (af (pv 8)) ah)) (λ_ _ _ _ _ _ _=>cf (show Zb (((["_law_k"]:List Str))++bV ["_law_k"] aE) by decide+kernel) rfl rfl) (λ_ _ _ _ _ _=>bL) (λ_ _ _ _ _ _=>(bE aF (mR hr) rfl df (ae ar (ae (af (pv 2)) (ae (af (pv 3)) (ae (af (pv 6)) (ae (af (pv 0)) ah))))) rfl))) (cN (tn:=["_law_k"]) (n:=0) (bb (N:=aE) (osc:=(ai aq)) rfl rfl (by decide+kernel)) rfl rfl (bx rfl B.range (ae (af (pv 8)) ah)) (λ_ _ _ _ _ _ _=>cf (show Zb (((["_law_k"]:List Str))++bV ["_law_k"] aE) by decide+kernel) rfl rfl) (λ_ _ _ _ _ _=>bL) (λ_ _ _ _ _ _=>(bS hr.units (af (pv 10)) (af (pv 0)))))) (ao (aI eX)) br)⟩
def ud(B:Bl K mg base cv cA Cp){b9:Value}{A:YX}{outer:List Env}{s:X1}{H:Hp}{E:XK}(hr:Room 8 (A.deeper (ZE "law" (ai aq) s.heap.objs.size f b9))):
 Box (g8 (aY (c_ P w cv) P w K mg base aE "law" (ai aq) f b9 A outer s H E) (λn H'=>E (cv n) none H') ((aV aq).getD 10 (.Pass ⟨0,0,0,0⟩)) nj):=
 ⟨(gL bj.nd rfl (.inl rfl))⟩
def ue(B:Bl K mg base cv cA Cp)(eZ:ax P w K mg base cv 1 "_law_fars" 2 d_){b9:Value}{A:YX}{outer:List Env}{s:X1}{H:Hp}{E:XK}(hr:Room 8 (A.deeper (ZE "law" (ai aq) s.heap.objs.size f b9))):
 Box (g8 (aY (c_ P w cv) P w K mg base aE "law" (ai aq) f b9 A outer s H E) (λn H'=>E (cv n) none H') ((aV aq).getD 11 (.Pass ⟨0,0,0,0⟩)) nq):=
 ⟨(bW (a8 Yk rfl (bx rfl B.range (ae (af (pv 8)) ah)) (aL bj.nd rfl (.inl rfl)) aX (aR (aj (aQ bj.nd rfl (.inr rfl) (bE eZ (mR hr) rfl df (ae (af (pv 4)) (ae (af (pv 11)) ah)) rfl)) (ao (iX (pv 10) (JT rfl rfl B.max rfl (ae (cN (tn:=["_law_other"]) (n:=0) (bb (N:=aE) (osc:=(ai aq)) rfl rfl (by decide+kernel)) rfl rfl (mM (af (pv 12))) (λ_ _ _ _ _ _ _=>cf (show Zb (((["_law_other"]:List Str))++bV ["_law_other"] aE) by decide+kernel) rfl rfl) (λ_ _ _ _ _ _=>bL) (λ_ _ _ _ _ _=>(bS hr.units (af (pv 13)) (af (pv 0))))) ah))))))))⟩
def uf(B:Bl K mg base cv cA Cp)(aF:ax P w K mg base cv 8 "_law_told" 5 aH){b9:Value}{A:YX}{outer:List Env}{s:X1}{H:Hp}{E:XK}(hr:Room 8 (A.deeper (ZE "law" (ai aq) s.heap.objs.size f b9))):
 Box (g8 (aY (c_ P w cv) P w K mg base aE "law" (ai aq) f b9 A outer s H E) (λn H'=>E (cv n) none H') ((aV aq).getD 12 (.Pass ⟨0,0,0,0⟩)) nu):=
 ⟨(bY (oq (jh hr.units (bE aF (mR hr) rfl cC (ae ar (ae (af (pv 1)) (ae (af (pv 2)) (ae fM (ae fM ah))))) rfl) (CB (af (pv 10)) (ae (CF rfl rfl B.min rfl (ae (af (pv 10)) ah)) ah)))) (ao (aI eX)) br)⟩
def ug(B:Bl K mg base cv cA Cp)(aF:ax P w K mg base cv 8 "_law_told" 5 aH){b9:Value}{A:YX}{outer:List Env}{s:X1}{H:Hp}{E:XK}(hr:Room 8 (A.deeper (ZE "law" (ai aq) s.heap.objs.size f b9))):
 Box (g8 (aY (c_ P w cv) P w K mg base aE "law" (ai aq) f b9 A outer s H E) (λn H'=>E (cv n) none H') ((aV aq).getD 13 (.Pass ⟨0,0,0,0⟩)) nv):=
 ⟨(bW (a8 Yk rfl (kr (bG (ae (sC ar) (ae (af (pv 8)) (ae fM (ae eX (ae dh ah))))))) (aL bj.nd rfl (.inr rfl)) aX (aR (aj (bY (jh hr.units (bE aF (mR hr) rfl df (ae ar (ae (af (pv 1)) (ae (af (pv 2)) (ae (af (pv 13)) (ae fM ah))))) rfl) (bG (ae dh (ae ar ah)))) (ao (aI eX)) br) (aj (bY (jh hr.units (bE aF (mR hr) rfl df (ae ar (ae (af (pv 1)) (ae (af (pv 2)) (ae ar (ae (af (pv 13)) ah))))) rfl) (bG (ae dh (ae ar ah)))) (ao (aI eX)) br) (ao (bY (jh hr.units (bE aF (mR hr) rfl df (ae ar (ae (af (pv 1)) (ae (af (pv 2)) (ae (af (pv 13)) (ae fM ah))))) rfl) (bG (ae dh (ae ar ah)))) (ao (aI eX)) br)))))))⟩
def uh(B:Bl K mg base cv cA Cp)(aF:ax P w K mg base cv 8 "_law_told" 5 aH){b9:Value}{A:YX}{outer:List Env}{s:X1}{H:Hp}{E:XK}(hr:Room 8 (A.deeper (ZE "law" (ai aq) s.heap.objs.size f b9))):
 Box (g8 (aY (c_ P w cv) P w K mg base aE "law" (ai aq) f b9 A outer s H E) (λn H'=>E (cv n) none H') ((aV aq).getD 14 (.Pass ⟨0,0,0,0⟩)) ny):=
 ⟨(CL (bW (a8 Yk rfl (kr (bG (ae (sC ar) (ae ar (ae fM (ae eX (ae dh ah))))))) (aL bj.nd rfl (.inr rfl)) aX (aR (ao (bY (jh hr.units (cN (tn:=["_law_kind"]) (n:=0) (bb (N:=aE) (osc:=(ai aq)) rfl rfl (by decide+kernel)) rfl rfl (bx rfl B.range (ae ar ah)) (λ_ _ _ _ _ _ _=>cf (show Zb (((["_law_kind"]:List Str))++bV ["_law_kind"] aE) by decide+kernel) rfl rfl) (λ_ _ _ _ _ _=>bL) (λ_ _ _ _ _ _=>(bE aF (mR hr) rfl df (ae (af (pv 0)) (ae (af (pv 2)) (ae (af (pv 14)) (ae fM (ae fM ah))))) rfl))) (G5 (fL (ae (bG (ae dh (ae ar ah))) ah)) ar)) (ao (aI eX)) br))))))⟩
def ui(B:Bl K mg base cv cA Cp)(aF:ax P w K mg base cv 8 "_law_told" 5 aH){b9:Value}{A:YX}{outer:List Env}{s:X1}{H:Hp}{E:XK}(hr:Room 8 (A.deeper (ZE "law" (ai aq) s.heap.objs.size f b9))):
 Box (g8 (aY (c_ P w cv) P w K mg base aE "law" (ai aq) f b9 A outer s H E) (λn H'=>E (cv n) none H') ((aV aq).getD 15 (.Pass ⟨0,0,0,0⟩)) nz):=
 ⟨(aI (zu hr.units (cN (tn:=["_law_kind"]) (n:=0) (bb (N:=aE) (osc:=(ai aq)) rfl rfl (by decide+kernel)) rfl rfl (bx rfl B.range (ae ar ah)) (λ_ _ _ _ _ _ _=>cf (show Zb (((["_law_kind"]:List Str))++bV ["_law_kind"] aE) by decide+kernel) rfl rfl) (λ_ _ _ _ _ _=>bL) (λ_ _ _ _ _ _=>(bE aF (mR hr) rfl df (ae (af (pv 0)) (ae (bG (ae dh ah)) (ae ar (ae fM (ae fM ah))))) rfl))) (G5 (fL (ae (bG (ae dh (ae ar ah))) ah)) ar)))⟩
def zi{fd:aaz}(B:Bl K mg base cv cA Cp)(js:ax P w K mg base cv 3 "_law_board" 3 dr)(gT:ax P w K mg base cv 3 "_law_patches" 2 cH)(gc:ax P w K mg base cv 1 "_law_touching" 2 du)(bP:ax P w K mg base cv 2 "_law_drawn" 3 aW)(eZ:ax P w K mg base cv 1 "_law_fars" 2 d_)(aF:ax P w K mg base cv 8 "_law_told" 5 aH)(Fn:Fun K "law" "law" aq f fd):FnOk P w K mg base (c_ P w cv) 9 f fd og (Ij K cv 1 kg):=
 OZ (N:=aE) (ps:=og) (τ:=oP) Fn bj λb9 A outer s H E hr=>by
  obtain⟨XC⟩:Box (PSDs (aY (c_ P w cv) P w K mg base aE "law" (ai aq) f b9 A outer s H E) (λn H'=>E (cv n) none H') (aV aq) oP):=(eY (xn B js hr) (eY (xo B bP hr) (eY (xp B gT hr) (Ir (xq B gc hr) (eY (xr B hr) (eY (xt B aF hr) (eY (xu B bP hr) (eY (xx B eZ hr) (eY (xy B aF hr) (eY (ud B hr) (eY (ue B eZ hr) (eY (uf B aF hr) (eY (ug B aF hr) (eY (uh B aF hr) (LV (ui B aF hr))))))))))))))))
  assumption
end
end K1
namespace K1
open PySem L2 L3
def Gq{ds:List D}(h:ds.length<=lim):cK ds=aa (.lst ds):=aex h
def b6:lim=4096:=rfl
def g_{i:Nat}{x:α}(h:xs[i]? =some x):L2.atI xs (i:Int)=some x:=by
 obtain⟨hi,e⟩:=X0.mp h;unfold L2.atI Jo;rw[aex (Int.natCast_nonneg i),aex (by exact Int.ofNat_lt.mpr hi)];exact h
def au{δs:DA}(h:δs Z=aa ds)(hl:ds.length=m):aD m g δs Z=g ds:=by
 unfold aD;rw[h];exact aex hl
def aK{Z:bH}(h1:a Z=aa x)(h2:r Z=aa xs):aC a r Z=aa (x::xs):=by
 unfold aC;rw[h1,aw,h2];rfl
def aP{Z:bH}{x y:D}(h1:a Z=aa x)(h2:b Z=aa y):d2 g a b Z=g x y:=by
 unfold d2;rw[h1,aw,h2];rfl
def bD{Z:bH}{xs:List D}(h:a Z=aa xs):dA g a Z=g xs:=by
 unfold dA;rw[h];rfl
def h9{i j:Int}(h:0<j):lZ (.int i) (.int j)=aa (.int (i % j)):=by
 show (if decide (0<j)=true then _ else _)=_;rw[aex (aeA h)]
def lY{i j:Int}(h:0<j)(h2:j<1073741824):tL (.int i) (.int j)=aa (.int (i / j)):=by
 show (if decide (0<j/\j<1073741824)=true then _ else _)=_;rw[aex (aeA ⟨h,h2⟩)]
def gq{i j:Int}(h:(-(2 ^ 64)<i/\i<2 ^ 64)\/(-(2 ^ 64)<j/\j<2 ^ 64)):iO (.int i) (.int j)=aa (.int (i*j)):=by
 show (if decide _=true then _ else _)=_;rw[aex (aeA h)]
def jv{i j:Int}:dw (.int i) (.int j)=aa (.int (i+j)):=rfl
def Fi(ns:List Int)(hl:ns.length<=63)(k:Nat):∃v,gp [.scr ns, .int (k:Int)]=aa (.int v):=by
 cases ns with
 |nil=>
  refine⟨7*(k:Int),?_⟩;rfl
 |cons n r=>
  have hp:0<(n::r).length:=adR _;generalize e:(n::r)=ns at*;have he:lu 6 (.scr ns) (.lst [])=some false:=by subst e;rfl
  obtain⟨y,hy⟩:∃y,ns[k % ns.length]? =some y:=⟨_,XW (ado _ hp)⟩
  have Oq:(0:Int)<(ns.length:Int):=by omega
  have h1:lZ (.int (k:Int)) (.int (ns.length:Int))=aa (.int ((k % ns.length:Nat):Int)):=h9 Oq;have h2:tL (.int (k:Int)) (.int (ns.length:Int))=aa (.int ((k:Int) / (ns.length:Int))):=lY Oq (by omega);have h3:FK (.scr ns) (.int ((k % ns.length:Nat):Int))=aa (.int y):=by
   show (match L2.atI ns ((k % ns.length:Nat):Int) with | some n=>aa (D.int n) | none=>ag)=_;rw[g_ hy]
  have h4:iO (.int 6553) (.int ((k:Int) / (ns.length:Int)))=aa (.int (6553*((k:Int) / (ns.length:Int)))):=gq (.inl ⟨by decide,by decide⟩);refine⟨y+6553*((k:Int) / (ns.length:Int)),?_⟩;simp only[gp,tq,b7,aG,iI,bz,dE,dH,d2,dV,dC,dA,aC,aN,cK,cz,E7,ly,he,aw,h1,h2,h3,h4,X3,ZT,ZP,Yw,X7,Y0,YG,YS,b6,Nat.reduceAdd,YC,if_true,Y5,if_false,dw,gI]
def fX(ns:List Int)(hl:ns.length<=63)(k m:Nat)(hm:0<m):∃v:Nat,v<m/\aW [.scr ns, .int (k:Int), .int (m:Int)]=aa (.int (v:Int)):=by
 obtain⟨c,hc⟩:=Fi ns hl k;have b1:=ac5 (c % 2147483563*69069+104723*((k:Int)+1)) (b:=2147483563) (by decide);have b2:=acq (c % 2147483563*69069+104723*((k:Int)+1)) (b:=2147483563) (by decide);generalize hx:(c % 2147483563*69069+104723*((k:Int)+1)) % 2147483563=x at b1 b2;have b3:=ac5 (x*x+x / 3) (b:=2147483399) (by decide);have b4:=acq (x*x+x / 3) (b:=2147483399) (by decide);generalize hy:(x*x+x / 3) % 2147483399=y at b3 b4;have m1:iO (.int (c % 2147483563)) (.int 69069)=_:=gq (.inr ⟨by decide,by decide⟩);have m2:iO (.int 104723) (.int ((k:Int)+1))=_:=gq (.inl ⟨by decide,by decide⟩);have m3:iO (.int x) (.int x)=_:=gq (.inl ⟨by omega,by omega⟩);have m4:iO (.int y) (.int y)=_:=gq (.inl ⟨by omega,by omega⟩);have hM:(0:Int)<(m:Int):=Int.ofNat_lt.mpr hm;have n1:=ac5 ((y*y+y / 7) % 2147483647 / 11) (b:=(m:Int)) (by omega);have n2:=acq ((y*y+y / 7) % 2147483647 / 11) hM;have q1:lZ (.int c) (.int 2147483563)=_:=h9 (by decide);have q2:lZ (.int (c % 2147483563*69069+104723*((k:Int)+1))) (.int 2147483563)=_:=h9 (by decide);have q3:tL (.int x) (.int 3)=_:=lY (by decide) (by decide);have q4:lZ (.int (x*x+x / 3)) (.int 2147483399)=_:=h9 (by decide);have q5:tL (.int y) (.int 7)=_:=lY (by decide) (by decide);have q6:lZ (.int (y*y+y / 7)) (.int 2147483647)=_:=h9 (by decide);have q7:tL (.int ((y*y+y / 7) % 2147483647)) (.int 11)=_:=lY (by decide) (by decide);have q8:lZ (.int ((y*y+y / 7) % 2147483647 / 11)) (.int (m:Int))=_:=h9 hM;refine⟨((y*y+y / 7) % 2147483647 / 11 % (m:Int)).toNat,by omega,?_⟩;rw[abe n1];rw[hx] at q2;rw[hy] at q4;simp only[aW,pI,b7,aG,bM,bz,aD,d2,dV,dC,dA,aC,aN,aw,hc,X3,ZT,ZP,Yw,X7,Y0,YG,YS,Ye,aak,aal,Nat.reduceAdd,Nat.reduceSub,if_true,jv,m1,m2,m3,m4,q1,q2,q3,q4,q5,q6,q7,q8]
def Gz{α:Type}(a:α):noex (aa a)=aa a:=rfl
def yG{I:Nat->bH->Prop}:∀(ds:List D) (i:Nat) (Z:bH),I i Z->
 (∀j d,ds[j]? =some d->∀Z,I (i+j) Z->∃Z1 Z2,put d Z=some Z1/\body Z1=aa (.nx Z2)/\I (i+j+1) Z2)->∃Z',forL put body ds Z=aa (.nx Z')/\I (i+ds.length) Z'
 |[],i,Z,h,_=>⟨Z,rfl,h⟩
 |d::ds,i,Z,h,step=>by
  obtain⟨Z1,Z2,e1,e2,h2⟩:=step 0 d rfl Z h;obtain⟨Z',e3,h3⟩:=yG (I:=I) ds (i+1) Z2 h2 λj d' hd Z hI=>by
   have:=step (j+1) d' hd Z (by rw[show i+(j+1)=i+1+j by omega];exact hI);rw[show i+(j+1)+1=i+1+j+1 by omega] at this;exact this
  refine⟨Z',?_,?_⟩
  ·show (match put d Z with | none=>ag | some Z1=>body Z1>>=λo=>match o with | .nx Z2=>forL put body ds Z2 | .rt v=>aa (.rt v))=_;rw[e1];show (body Z1>>=λo=>match o with | .nx Z2=>forL put body ds Z2 | .rt v=>aa (.rt v))=_;rw[e2];exact e3
  ·rw[show i+(d::ds).length=i+1+ds.length by simp;omega];exact h3
def uz{Pr:D->Prop}:∀(ds:List D),(∀d∈ds,∃y,f d=aa (some y)/\Pr y)->∃ys,ei f ds=aa ys/\ys.length=ds.length/\∀y∈ys,Pr y
 |[],_=>⟨[],rfl,rfl,λ_ h=>by cases h⟩
 |d::ds,h=>by
  obtain⟨y,e,hy⟩:=h d (XU ..);obtain⟨ys,e2,hl,hp⟩:=uz ds λd' hd=>h d' (XT _ hd);refine⟨y::ys,?_,by simp[hl],λz hz=>?_⟩
  ·rw[gg,e,aw,e2];rfl
  ·cases hz with
   |head=>exact hy
   |tail _ hz=>exact hp z hz
def hJ{g:D->D}:∀(ds:List D),(∀d∈ds,f d=aa (some (g d)))->ei f ds=aa (ds.map g)
 |[],_=>rfl
 |d::ds,h=>by
  rw[gg,h d (XU ..),aw,hJ ds λd' hd=>h d' (XT _ hd)];rfl
def MJ(x:Str):Bool:=!(aaG ("abcdef":Str) x 0 ("abcdef":Str).length 1).isEmpty
structure Row (W:Nat) (r:Str):Prop where
 len:r.length=W
 let':∀c∈r.cps.toList,MJ ⟨#[c]⟩=true
structure Good (bd:List Str) (W:Nat):Prop where
 r1:1<=bd.length
 r5:bd.length<=5
 w1:1<=W
 w5:W<=5
 rows:∀r∈bd,Row W r
abbrev lE(c:Nat):Prop:=MJ ⟨#[c]⟩=true/\c≠101/\c≠100
def Vq(r:Str):Prop:=∀c∈r.cps.toList,c≠101
def Q8(r:Str):Prop:=∀c∈r.cps.toList,c≠101/\c≠100
def z0:∀(ys:List D),(∀y∈ys,∃c,y= .str ⟨#[c]⟩/\lE c)->∃xs,xE ys=some xs/\xs.length=ys.length/\(xs.map (·.length)).sum=ys.length/\Row ys.length (fH xs)/\Q8 (fH xs)
 |[],_=>⟨[],rfl,rfl,rfl,⟨rfl,λc h=>by cases h⟩,λc h=>by cases h⟩
 |y::ys,h=>by
  obtain⟨c,e,hc⟩:=h y (XU ..);obtain⟨xs,e1,e2,e3,e4,e5⟩:=z0 ys λz hz=>h z (XT _ hz);subst e;have tO:∀z,z∈((⟨#[c]⟩:Str)++fH xs).cps.toList->z=c\/z∈(fH xs).cps.toList:=λz hz=>by
   have:((⟨#[c]⟩:Str)++fH xs).cps= #[c]++(fH xs).cps:=rfl;rw[this] at hz;simpa using hz
  refine⟨⟨#[c]⟩::xs,?_,by simp[e2],?_,⟨?_,λz hz=>?_⟩,λz hz=>?_⟩
  ·show (xE ys).map _=_;rw[e1];rfl
  ·rw[X3,aac,e3];show 1+ys.length=_;simp;omega
  ·show ((⟨#[c]⟩:Str)++fH xs).length=_;rw[j3,e4.len];show 1+ys.length=_;simp;omega
  ·rcases tO z hz with rfl | q
   ·exact hc.1
   ·exact e4.let' z q
  ·rcases tO z hz with rfl | q
   ·exact hc.2
   ·exact e5 z q
def Hu{n:Nat}{d:D}(h:d∈iF lo n):∃i:Nat,i<n/\d= .int (lo+(i:Int)):=by
 unfold iF at h;obtain⟨i,hi,e⟩:=X9.mp h;exact⟨i,YQ.mp hi,e.symm⟩
def Kn{n j:Nat}{d:D}(h:(iF lo n)[j]? =some d):j<n/\d= .int (lo+(j:Int)):=by
 unfold iF at h;rw[X6] at h;by_cases hj:j<n
 ·rw[ad3 hj] at h;cases h;exact⟨hj,rfl⟩
 ·rw[abR (by simpa using hj)] at h;cases h
def jU(lo:Int)(n:Nat):(iF lo n).length=n:=by simp[iF]
abbrev iW(w:Nat):D:= .int w
abbrev fz(d:D):Option Sl:=some (.fz d)
def gU{Z:bH}{d:D}:je 0 bQ δe Z d=(δe (fz d::Z)>>=λy=>aa (some y)):=rfl
def LX{Z:bH}{d:D}:je 0 δt δe Z d=(δt (fz d::Z)>>=λb=>if b then δe (fz d::Z)>>=λy=>aa (some y) else aa none):=rfl
def ak{Z Z':bH}{o:M Out}(h:a Z=aa (.nx Z'))(h2:b Z'=o):aG a b Z=o:=by
 unfold aG;rw[h];exact h2
def kA{Z:bH}{d:D}(h:a Z=aa (.rt d)):aG a b Z=aa (.rt d):=by
 unfold aG;rw[h];rfl
def aS{Z:bH}{d:D}(h:δ Z=aa d):bM i δ Z=aa (.nx (Z.set i (fz d))):=by
 unfold bM;rw[h];rfl
def fP{Z:bH}{o:M Out}(h:c Z=aa true)(h2:a Z=o):iI c a b Z=o:=by
 unfold iI;rw[h];exact h2
def fO{Z:bH}{o:M Out}(h:c Z=aa false)(h2:b Z=o):iI c a b Z=o:=by
 unfold iI;rw[h];exact h2
def bh{Z:bH}{d:D}(h:δ Z=aa d):bz δ Z=aa (.rt d):=by
 unfold bz;rw[h];rfl
def fC{Z:bH}{d:D}(h:δ Z=aa d):qc δ Z=aa (.nx Z):=by
 unfold qc;rw[h];rfl
def a9{ds:List D}{d:D}(h:τ (ds.map (λd=>some (Sl.fz d))++Ye (n - ds.length) none)=aa (.rt d)):b7 n τ ds=aa d:=by
 unfold b7;rw[h];rfl
def CP{ds:List D}{Z:bH}(h:τ (ds.map (λd=>some (Sl.fz d))++Ye (n - ds.length) none)=aa (.nx Z)):b7 n τ ds=aa .non:=by
 unfold b7;rw[h];rfl
def fo{τ:DS}{ds:List D}(h:τ (ds.map (λd=>some (Sl.fz d))++Ye (n - ds.length) none)=bf k):b7 n τ ds=bf k:=by
 unfold b7;rw[h];rfl
def zN{Z:bH}(h:δi Z=aa ds)(h2:forL put b ds Z=aa o):noex (cw put δi b Z)=aa o:=by
 unfold cw;rw[h,aw,h2];rfl
def aM{τ:DS}{Z Z':bH}(h:τ Z=aa (.nx Z')):bT is τ Z=aa (.nx (fgt is Z')):=by
 unfold bT;rw[h];rfl
def bU{δe:DE}(h:δi Z=aa ds)(h2:ei (je n δt δe Z) ds=aa ys)(h3:ys.length<=lim):bB n δi δt δe Z=aa (.lst ys):=by
 unfold bB;rw[h,aw,h2,Gz,aw,Gq h3]
def oF{n:Nat}(h:n<=4096):dQ [.int (n:Int)]=aa (iF 0 n):=by
 show (if -4096<=(n:Int)/\(n:Int)<=4096 then aa (iF 0 (n:Int).toNat) else ag)=_;rw[aex ⟨by omega,by omega⟩];rfl
structure Alpha (al:Str):Prop where
 pos:0<al.length
 ok:∀c∈al.cps.toList,lE c
def LN:Alpha "ab"/\Alpha "abc"/\Alpha "aab"/\Alpha "fa":=by
 refine⟨⟨by decide+kernel,?_⟩,⟨by decide+kernel,?_⟩,⟨by decide+kernel,?_⟩,⟨by decide+kernel,?_⟩⟩<;>decide+kernel
def FL{i:Nat}(h:i<x.length):∃c,c∈x.cps.toList/\x.cps.toList[i]? =some c/\nN (.str x) (.int (i:Int))=aa (.str ⟨#[c]⟩):=by
 have h:i<x.cps.toList.length:=by rw[YB];exact h
 refine⟨x.cps.toList[i],ZO h,XW h,?_⟩;show (match L2.atI x.cps.toList (i:Int) with | some c=>aa (D.str ⟨#[c]⟩) | none=>ag)=_;rw[g_ (XW h)]
abbrev brd(bd:List Str):D:= .tup (bd.map D.str)
abbrev sgn(at' mo:Nat)(ns:List Int)(W:Nat)(al:Str)(bd:List Str)(R:Nat)(x7 x8:Option Sl):bH:=[fz (.scr ns),fz (.int (at':Int)),fz (.int (mo:Int)),fz (.int (R:Int)),fz (.int (W:Int)),fz (.str al),fz (brd bd),x7,x8]
def EB(at' mo:Nat)(ns:List Int)(hl:ns.length<=63)(al:Str)(ha:Alpha al)(j W R:Nat)(hW:W<=5)(bd:List Str)(x8:Option Sl):
 ∃ys,Uc (sgn at' mo ns W al bd R (fz (.int (0+(j:Int)))) x8)=aa (.lst ys)/\ys.length=W/\∀y∈ys,∃c,y= .str ⟨#[c]⟩/\lE c:=by
 obtain⟨ys,e,B_,hp⟩:=uz (f:=je 0 bQ (d2 nN (dV 6) (aD 3 aW (aC (dV 1) (aC (d2 dw (d2 dw (d2 dw (dV 2) (dC (.int 3))) (d2 iO (dC (.int 7)) (dV 8))) (dV 0)) (aC (dA cz (aC (dV 6) aN)) aN)))))
  (sgn at' mo ns W al bd R (fz (.int (0+(j:Int)))) x8)) (Pr:=λy=>∃c,y= .str ⟨#[c]⟩/\lE c) (iF 0 W) λd hd=>by
  obtain⟨i,hi,rfl⟩:=Hu hd;obtain⟨v,hv,e⟩:=fX ns hl (at'+3+7*j+i) al.length ha.pos;obtain⟨c,hc,_,e2⟩:=FL hv;refine⟨.str ⟨#[c]⟩,?_,c,rfl,ha.ok c hc⟩;rw[gU];have k:(at':Int)+3+7*(0+(j:Int))+(0+(i:Int))=((at'+3+7*j+i:Nat):Int):=by omega
  have m1:iO (.int 7) (.int (0+(j:Int)))=aa (.int (7*(0+(j:Int)))):=gq (.inl ⟨by decide,by decide⟩);simp only[aD,d2,dV,dC,dA,aC,aN,aw,X7,Y0,YG,YS,Nat.reduceAdd,if_true,jv,m1,k,cz,e,e2]
 refine⟨ys,bU (oF (n:=W) (by omega)) e (by rw[B_,jU,b6];omega),by rw[B_,jU],hp⟩
def Iy(at' mo:Nat)(ns:List Int)(W:Nat)(al:Str)(bd:List Str)(R:Nat)(x7:Option Sl)(ys:List D)(hb:bd.length<=5)(hy:ys.length<=5)(s3:∀y∈ys,∃c,y= .str ⟨#[c]⟩/\lE c):
 ∃r,(Row ys.length r/\Q8 r)/\Ud (sgn at' mo ns W al bd R x7 (fz (.lst ys)))=aa (.nx (sgn at' mo ns W al (bd++[r]) R x7 (fz (.lst ys)))):=by
 obtain⟨xs,t1,t2,t3,t4⟩:=z0 ys s3;refine⟨fH xs,t4,?_⟩;have jn:joinM (.str "") [.lst ys]=aa (.str (fH xs)):=by
  show (match xE ys with | some (xs:List Str)=>if ("":Str).length=0/\(xs.map (λx:Str=>x.length)).sum<=lim then aa (D.str (fH xs)) else ag | none=>ag)=_;rw[t1];show (if ("":Str).length=0/\(xs.map (λx:Str=>x.length)).sum<=lim then aa (D.str (fH xs)) else ag)=_;rw[aex ⟨rfl,by rw[t3,b6];omega⟩]
 have ct:B6 (brd bd) (.tup [.str (fH xs)])=aa (brd (bd++[fH xs])):=by
  show (if (bd.map D.str).length+1<=lim then aa (D.tup (bd.map D.str++[.str (fH xs)])) else ag)=_;rw[aex (by rw[XS,b6];omega)];simp[brd]
 refine(aS (d:=brd (bd++[fH xs])) ?_).trans rfl;simp only[d2,dV,dC,dA,aC,aN,dM,Rw,aw,YG,YS,if_true,jn,a6,X7,Y0,b6,Nat.reduceAdd,Nat.reduceLeDiff,ct]
def An(ns:List Int)(hl:ns.length<=63)(at' mo:Nat)(m0:0<mo)(m5:mo<=5):∃bd W,Good bd W/\(∀r∈bd,Q8 r)/\bd.length<=mo/\W<=mo/\dr [.scr ns, .int (at':Int), .int (mo:Int)]=aa (brd bd):=by
 obtain⟨r,hr,e1⟩:=fX ns hl at' mo m0;obtain⟨c,hc,e2⟩:=fX ns hl (at'+1) mo m0;obtain⟨a,ha,e3⟩:=fX ns hl (at'+2) 4 (by decide);obtain⟨al,Ia,e4⟩:∃al,Alpha al/\vQ (.lst [.str "ab", .str "abc", .str "aab", .str "fa"]) (.int (a:Int))=aa (.str al):=by
  obtain⟨a1,a2,a3,a4⟩:=LN
  match a,ha with
  |0,_=>exact⟨_,a1,rfl⟩
  |1,_=>exact⟨_,a2,rfl⟩
  |2,_=>exact⟨_,a3,rfl⟩
  |3,_=>exact⟨_,a4,rfl⟩
 have k1:(1:Int)+(r:Int)=((r+1:Nat):Int):=by omega
 have k2:(1:Int)+(c:Int)=((c+1:Nat):Int):=by omega
 have EM:aW [.scr ns, .int (at':Int), .int (mo:Int)]=aa (.int (r:Int)):=e1;have Of:aW [.scr ns, .int ((at':Int)+1), .int (mo:Int)]=aa (.int (c:Int)):=e2;have Ra:aW [.scr ns, .int ((at':Int)+2), .int 4]=aa (.int (a:Int)):=e3;obtain⟨Z',f1,bd,f2,f3,f4⟩:=yG (put:=putN 7) (body:=bT [7,8] (aG (bM 8 Uc) Ud))
  (I:=λi Z=>∃bd,Z=sgn at' mo ns (c+1) al bd (r+1) none none/\bd.length=i/\∀z∈bd,Row (c+1) z/\Q8 z)
  (iF 0 (r+1)) 0 (sgn at' mo ns (c+1) al [] (r+1) none none) ⟨[],rfl,rfl,λ_ h=>by cases h⟩ λj d hd Z ⟨bd,hZ,hb,hw⟩=>by
   obtain⟨hj,rfl⟩:=Kn hd;subst hZ;obtain⟨ys,s1,s2,s3⟩:=EB at' mo ns hl al Ia j (c+1) (r+1) (by omega) bd none;obtain⟨xW,t1,t2⟩:=Iy at' mo ns (c+1) al bd (r+1) (fz (.int (0+(j:Int)))) ys (by omega) (by omega) s3;refine⟨_,_,rfl,aM (ak (aS s1) t2),bd++[xW],rfl,by simp[hb],λz hz=>?_⟩;rcases Yr.mp hz with h | h
   ·exact hw z h
   ·have h:z=xW:=by simpa using h
    subst h;rw[s2] at t1;exact t1
 refine⟨bd,c+1,⟨by rw[f3,jU];omega,by rw[f3,jU];omega,by omega,by omega,λr q=>(f4 r q).1⟩,λr q=>(f4 r q).2,by rw[f3,jU];omega,by omega,?_⟩;subst f2;refine a9 ?_;refine ak (aS (d:= .int ((r+1:Nat):Int)) ?_) ?_
 ·simp only[aD,d2,dV,dC,aC,aN,aw,X3,ZT,ZP,Yw,X7,Y0,YG,YS,Nat.reduceAdd,if_true,jv,EM,k1]
 refine ak (aS (d:= .int ((c+1:Nat):Int)) ?_) ?_
 ·simp only[aD,d2,dV,dC,aC,aN,aw,X3,ZT,ZP,Yw,X7,Y0,Ye,aak,aal,Nat.reduceSub,YG,YS,Nat.reduceAdd,if_true,jv,Of,k2]
 refine ak (aS (d:= .str al) ?_) ?_
 ·simp only[aD,d2,dV,dC,dA,aC,aN,aw,X3,ZT,ZP,Yw,X7,Y0,Ye,aak,aal,Nat.reduceSub,YG,YS,Nat.reduceAdd,if_true,jv,Ra,cK,b6,Nat.reduceLeDiff,e4]
 refine ak (aS rfl) ?_;refine ak (zN (oF (by omega)) f1) ?_;exact bh rfl
def Am(ns:List Int)(hl:ns.length<=63)(at' mo:Nat)(m0:0<mo)(m5:mo<=5):∃bd W,Good bd W/\(∀r∈bd,Vq r)/\bd.length<=mo/\W<=mo/\dr [.scr ns, .int (at':Int), .int (mo:Int)]=aa (brd bd):=
 let ⟨bd,W,h1,h3,h2⟩:=An ns hl at' mo m0 m5
 ⟨bd,W,h1,λr hr c hc=>(h3 r hr c hc).1,h2⟩
def Ao(ns:List Int)(hl:ns.length<=63)(at' mo:Nat)(m0:0<mo)(m5:mo<=5):∃bd W,Good bd W/\bd.length<=mo/\W<=mo/\dr [.scr ns, .int (at':Int), .int (mo:Int)]=aa (brd bd):=
 let ⟨bd,W,h1,_,h2⟩:=Am ns hl at' mo m0 m5
 ⟨bd,W,h1,h2⟩
def Plain:D->Prop
 | .non | .bl _ | .int _ | .str _ | .tup _ | .lst _=>True
 |_=>False
def isStr:D->Bool
 | .str _=>true
 |_=>false
def isTup:D->Bool
 | .tup _=>true
 |_=>false
def gH{d:D}(h:Plain d):lA [d, .raw (.ty "str")]=aa (.bl (isStr d)):=by
 cases d<;>first | rfl | exact h.elim
def Cd{d:D}(h:Plain d):lA [d, .raw (.ty "tuple")]=aa (.bl (isTup d)):=by
 cases d<;>first | rfl | exact h.elim
def we:D->Bool
 | .str x=>(x.length==1)&&MJ x
 |_=>false
def gh{i:Nat}{d:D}(h:Z[i]? =some (fz d)):dV i Z=aa d:=by
 unfold dV;rw[h]
def eq_int(i j:Int):ly (.int i) (.int j)=aa (.bl (i==j)):=rfl
def ne_int(i j:Int):lz (.int i) (.int j)=aa (.bl (!(i==j))):=rfl
def len_str(x:Str):cz [.str x]=aa (.int (x.length:Int)):=rfl
def in_str(x:Str):FJ false (.str x) (.str "abcdef")=aa (.bl (MJ x)):=rfl
def mz(a b:Nat):((a:Int)==(b:Int))=(a==b):=by
 by_cases h:a=b
 ·subst h;simp
 ·have h2:¬(a:Int)=(b:Int):=by omega
  rw[aeF.mpr h,aeF.mpr h2]
def Jw(h:Plain d){i:Nat}{Z:bH}(hZ:Z[i]? =some (fz d)):
 fN (dA lA (aC (dV i) (aC (dC (.raw (.ty "str"))) aN))) (fN (d2 ly (dA cz (aC (dV i) aN)) (dC (.int 1))) (d2 (FJ false) (dV i) (dC (.str "abcdef")))) Z=aa (.bl (we d)):=by
 have hv:=gh hZ;have e1:=mz;cases d with
 |str x=>
  have k:((x.length:Int)==1)=(x.length==1):=mz x.length 1;simp only[fN,dA,aC,aN,dC,d2,hv,aw,gH h,isStr,E7,if_true,len_str,eq_int,k,in_str,we];cases x.length==1<;>rfl
 |non=>simp only[fN,dA,aC,aN,dC,d2,hv,aw,gH h,isStr,E7,if_false,Y5,we]
 |bl b=>simp only[fN,dA,aC,aN,dC,d2,hv,aw,gH h,isStr,E7,if_false,Y5,we]
 |int b=>simp only[fN,dA,aC,aN,dC,d2,hv,aw,gH h,isStr,E7,if_false,Y5,we]
 |tup b=>simp only[fN,dA,aC,aN,dC,d2,hv,aw,gH h,isStr,E7,if_false,Y5,we]
 |lst b=>simp only[fN,dA,aC,aN,dC,d2,hv,aw,gH h,isStr,E7,if_false,Y5,we]
 |raw _=>exact h.elim
 |exc _=>exact h.elim
 |scr _=>exact h.elim
 |dct _ _=>exact h.elim
 |dci _ _=>exact h.elim
def tP{d:D}(h:Plain d):dq [d]=aa (.bl (we d)):=a9 (bh (Jw h rfl))
def kj(x:Str):Bool:=x.cps.toList.all λc=>MJ ⟨#[c]⟩
def qa:D->Bool
 | .str x=>(decide (1<=x.length)&&decide (x.length<=8))&&kj x
 |_=>false
def C_(l:List Bool):bools (l.map D.bl)=some l:=by
 induction l with
 |nil=>rfl
 |cons b r ih=>show (bools (r.map D.bl)).map _=_;rw[ih];rfl
def all_map(l:List Bool):allM [.lst (l.map D.bl)]=aa (.bl (l.all id)):=by
 show (match bools (l.map D.bl) with | some bs=>aa (D.bl (bs.all id)) | none=>ag)=_;rw[C_]
def Fl{Z:bH}{n:Nat}(h:δ Z=aa (.int (n:Int))):
 dH (Ae (λi j=>decide (i<=j)) (λi j=>decide (i<=j)) (dC (.int 1)) δ (dC (.int 8))) Z=aa (decide (1<=n)&&decide (n<=8)):=by
 have k1:decide ((1:Int)<=(n:Int))=decide (1<=n):=by by_cases h:1<=n<;>simp[h]<;>omega
 have k2:decide ((n:Int)<=8)=decide (n<=8):=by by_cases h:n<=8<;>simp[h]<;>omega
 simp only[dH,Ae,dC,h,aw,k1,k2,gI,E7];cases decide (1<=n)<;>rfl
def AW(h:Plain d):gm [d]=aa (.bl (qa d)):=by
 refine a9 ?_;have hZ:([d].map (λd=>some (Sl.fz d))++Ye (1 - [d].length) none)=[fz d]:=rfl;rw[hZ];have hv:dV 0 [fz d]=aa d:=rfl;have no:isStr d=false->z8 [fz d]=aa (.rt (.bl false)):=λhs=>by
  refine kA (fP ?_ (bh rfl));simp only[tJ,e7,dj,dA,aC,aN,dC,hv,aw,gH h,hs,HU,ade,if_true]
 cases d with
 |str x=>
  have hi:dj (dA lA (aC (dV 0) (aC (dC (.raw (.ty "str"))) aN))) [fz (.str x)]=aa true:=by
   simp only[dj,dA,aC,aN,dC,hv,aw,gH h,isStr,HU]
  have hl:dA cz (aC (dV 0) aN) [fz (.str x)]=aa (.int (x.length:Int)):=rfl;have hc:=Fl hl;by_cases hr:(decide (1<=x.length)&&decide (x.length<=8))=true
  ·rw[hr] at hc;refine ak (fO ?_ rfl) (bh ?_)
   ·unfold tJ e7;rw[hi,aw,aw,hc];rfl
   ·have hb:x.length<=8:=by simp only[Yo,aez] at hr;exact hr.2
    have cm:bB 0 (λZ=>(dV 0) Z>>=N1) bQ (aD 1 dq (aC (dV 0) aN)) [fz (.str x)]=aa (.lst ((x.cps.toList.map λc=>MJ ⟨#[c]⟩).map D.bl)):=by
     refine bU rfl ?_ ?_
     ·have:=hJ (f:=je 0 bQ (aD 1 dq (aC (dV 0) aN)) [fz (.str x)]) (g:=λd=>D.bl (we d)) (signs x) λd hd=>by
       rw[gU];obtain⟨c,_,rfl⟩:=X9.mp hd;show (dq [.str ⟨#[c]⟩]>>=λy=>aa (some y))=_;rw[tP (d:= .str ⟨#[c]⟩) trivial];rfl
      rw[this];unfold signs;rw[Yu,Yu];congr 1
     ·rw[XS,XS,YB,b6];exact Yy hb (by decide)
    rw[bD (aK cm rfl),all_map];show aa (D.bl ((x.cps.toList.map λc=>MJ ⟨#[c]⟩).all id))=aa (D.bl ((decide (1<=x.length)&&decide (x.length<=8))&&kj x));rw[hr];unfold kj;rw[aaZ];rfl
  ·have hr:(decide (1<=x.length)&&decide (x.length<=8))=false:=by simpa using hr
   rw[hr] at hc;have:qa (.str x)=false:=by
    show ((decide (1<=x.length)&&decide (x.length<=8))&&kj x)=false;rw[hr];rfl
   rw[this];refine kA (fP ?_ (bh rfl));unfold tJ e7;rw[hi,aw,aw,hc];rfl
 |non=>exact no rfl
 |bl b=>exact no rfl
 |int b=>exact no rfl
 |tup b=>exact no rfl
 |lst b=>exact no rfl
 |raw _=>exact h.elim
 |exc _=>exact h.elim
 |scr _=>exact h.elim
 |dct _ _=>exact h.elim
 |dci _ _=>exact h.elim
def lC:D->Nat
 | .str x=>x.length
 |_=>0
def nE:D->Bool
 | .tup ds=>(decide (1<=ds.length)&&decide (ds.length<=8))&&(ds.all qa&&ds.all λd=>lC d==lC (ds.headD .non))
 |_=>false
def Plain2:D->Prop
 | .tup ds=>∀d∈ds,Plain d
 |d=>Plain d
def Plain2.plain{d:D}(h:Plain2 d):Plain d:=by
 cases d<;>first | exact h | exact trivial
def U6{r:List D}(h:ds=d::r):bq (.tup ds) (.int 0)=aa d:=by
 subst h;show (match L2.atI (d::r) ((0:Nat):Int) with | some d=>aa d | none=>ag)=_;rw[g_ (x:=d) rfl]
def Ko{d:D}(h:qa d=true):∃x,d= .str x:=by
 cases d<;>first | exact⟨_,rfl⟩ | cases h
def Dz{d:D}(h:Plain d):tJ (e7 (dj (dA lA (aC (dV 0) (aC (dC (.raw (.ty "tuple"))) aN))))) (e7 (dH (Ae (λi j=>decide (i<=j)) (λi j=>decide (i<=j)) (dC (.int 1)) (dA cz (aC (dV 0) aN)) (dC (.int 8))))) [fz d]=
 aa (match d with | .tup ds=>!(decide (1<=ds.length)&&decide (ds.length<=8)) | _=>true):=by
 have hv:dV 0 [fz d]=aa d:=rfl;have no:isTup d=false->tJ (e7 (dj (dA lA (aC (dV 0) (aC (dC (.raw (.ty "tuple"))) aN))))) (e7 (dH (Ae (λi j=>decide (i<=j)) (λi j=>decide (i<=j)) (dC (.int 1)) (dA cz (aC (dV 0) aN)) (dC (.int 8))))) [fz d]=aa true:=λhs=>by
  simp only[tJ,e7,dj,dA,aC,aN,dC,hv,aw,Cd h,hs,HU,ade,if_true]
 cases d with
 |tup ds=>
  have hi:dj (dA lA (aC (dV 0) (aC (dC (.raw (.ty "tuple"))) aN))) [fz (.tup ds)]=aa true:=by
   simp only[dj,dA,aC,aN,dC,hv,aw,Cd h,isTup,HU]
  have hl:dA cz (aC (dV 0) aN) [fz (.tup ds)]=aa (.int (ds.length:Int)):=rfl;unfold tJ e7;rw[hi,aw,aw,Fl hl];rfl
 |non=>exact no rfl
 |bl b=>exact no rfl
 |int b=>exact no rfl
 |str b=>exact no rfl
 |lst b=>exact no rfl
 |raw _=>exact h.elim
 |exc _=>exact h.elim
 |scr _=>exact h.elim
 |dct _ _=>exact h.elim
 |dci _ _=>exact h.elim
def all_rows(h:∀d∈ds,Plain d)(hl:ds.length<=8):dA allM (aC (bB 0 (pU (dV 0)) bQ (aD 1 gm (aC (dV 0) aN))) aN) [fz (.tup ds)]=aa (.bl (ds.all qa)):=by
 have cm:bB 0 (pU (dV 0)) bQ (aD 1 gm (aC (dV 0) aN)) [fz (.tup ds)]=aa (.lst ((ds.map qa).map D.bl)):=by
  refine bU (ds:=ds) rfl ?_ (by rw[XS,XS,b6];omega);rw[Yu];refine hJ (g:=D.bl∘qa) ds λd hd=>?_;rw[gU];show (gm [d]>>=λy=>aa (some y))=_;rw[AW (h d hd)];rfl
 rw[bD (aK cm rfl),all_map,aaZ];rfl
def all_lens(hs:∀d∈ds,∃x,d= .str x)(h0:1<=ds.length)(hl:ds.length<=8):
 dA allM (aC (bB 0 (pU (dV 0)) bQ (d2 ly (dA cz (aC (dV 0) aN)) (dA cz (aC (d2 bq (dV 1) (dC (.int 0))) aN)))) aN) [fz (.tup ds)]=aa (.bl (ds.all λd=>lC d==lC (ds.headD .non))):=by
 obtain⟨d0,r,e0⟩:∃d0 r,ds=d0::r:=by
  cases ds with
  |nil=>simp at h0
  |cons a r=>exact⟨a,r,rfl⟩
 have hh:ds.headD .non=d0:=by rw[e0];rfl
 obtain⟨x0,U1⟩:=hs d0 (by rw[e0];exact XU ..);have cm:bB 0 (pU (dV 0)) bQ (d2 ly (dA cz (aC (dV 0) aN)) (dA cz (aC (d2 bq (dV 1) (dC (.int 0))) aN))) [fz (.tup ds)]=aa (.lst ((ds.map λd=>lC d==lC (ds.headD .non)).map D.bl)):=by
  refine bU (ds:=ds) rfl ?_ (by rw[XS,XS,b6];omega);rw[Yu];refine hJ (g:=D.bl∘λd=>lC d==lC (ds.headD .non)) ds λd hd=>?_;rw[gU];obtain⟨x,rfl⟩:=hs d hd;have k:((x.length:Int)==(x0.length:Int))=(x.length==x0.length):=mz _ _;have i0:bq (.tup ds) (.int 0)=aa (.str x0):=by rw[U6 e0,U1]
  have Wa:ds.headD .non= .str x0:=by rw[hh,U1]
  simp only[d2,dA,aC,aN,dC,dV,aw,YG,YS,len_str,i0,eq_int,k,acR,lC,Wa]
 rw[bD (aK cm rfl),all_map,aaZ];rfl
def l9{d:D}(h:Plain2 d):iN [d]=aa (.bl (nE d)):=by
 refine a9 ?_;have hZ:([d].map (λd=>some (Sl.fz d))++Ye (1 - [d].length) none)=[fz d]:=rfl;rw[hZ];have hf:=Dz h.plain;have no:(∀ds,d≠ .tup ds)->tm [fz d]=aa (.rt (.bl (nE d))):=λhn=>by
  cases d<;>first | exact aeB rfl (hn _) | exact kA (fP hf (bh rfl))
 cases d with
 |tup ds=>
  have hf:_=aa (!(decide (1<=ds.length)&&decide (ds.length<=8))):=hf;by_cases hr:(decide (1<=ds.length)&&decide (ds.length<=8))=true
  ·rw[hr] at hf;have hb:=hr;simp only[Yo,aez] at hb;have e:nE (.tup ds)=(ds.all qa&&ds.all λd=>lC d==lC (ds.headD .non)):=by
    show ((decide (1<=ds.length)&&decide (ds.length<=8))&&_)=_;rw[hr,acn]
   rw[e];have a1:=all_rows h hb.2;refine ak (fO hf rfl) ?_;cases hc:ds.all qa with
   |false=>
    rw[hc] at a1;refine kA (fP ?_ (bh rfl));unfold e7 dj;rw[a1];rfl
   |true=>
    rw[hc] at a1;refine ak (fO ?_ rfl) (bh ?_)
    ·unfold e7 dj;rw[a1];rfl
    ·rw[acn];exact all_lens (λd hd=>Ko (Yn.mp hc d hd)) hb.1 hb.2
  ·have hr:(decide (1<=ds.length)&&decide (ds.length<=8))=false:=by simpa using hr
   rw[hr] at hf;have e:nE (.tup ds)=false:=by
    show ((decide (1<=ds.length)&&decide (ds.length<=8))&&_)=_;rw[hr];rfl
   rw[e];exact kA (fP hf (bh rfl))
 |non=>exact no λ_ z=>by cases z
 |bl b=>exact no λ_ z=>by cases z
 |int b=>exact no λ_ z=>by cases z
 |str b=>exact no λ_ z=>by cases z
 |lst b=>exact no λ_ z=>by cases z
 |raw _=>exact h.elim
 |exc _=>exact h.elim
 |scr _=>exact h.elim
 |dct _ _=>exact h.elim
 |dci _ _=>exact h.elim
structure Brd (ob:List Str) (V:Nat):Prop where
 r1:1<=ob.length
 r8:ob.length<=8
 w1:1<=V
 w8:V<=8
 rows:∀r∈ob,Row V r
def Good.brd(hg:Good bd W):Brd bd W:=⟨hg.r1,by have:=hg.r5;omega,hg.w1,by have:=hg.w5;omega,hg.rows⟩
def Brd.board{V:Nat}(h:Brd ob V):nE (brd ob)=true:=by
 have ME:∀r∈ob,qa (.str r)=true:=λr hr=>by
  have q:=h.rows r hr;show ((decide (1<=r.length)&&decide (r.length<=8))&&kj r)=true;rw[q.len];have a:decide (1<=V)=true:=aeA h.w1;have b:decide (V<=8)=true:=aeA h.w8;rw[a,b];show kj r=true;exact Yn.mpr λc hc=>q.let' c hc
 have h0:lC ((ob.map D.str).headD .non)=V:=by
  have:=h.r1;have hr:=h.rows;cases ob with
  |nil=>simp at this
  |cons x l=>exact(hr x (XU ..)).len
 show ((decide (1<=(ob.map D.str).length)&&decide ((ob.map D.str).length<=8))&&((ob.map D.str).all qa&&(ob.map D.str).all λd=>lC d==lC ((ob.map D.str).headD .non)))=true;rw[h0,XS,aeA h.r1,aeA h.r8];have a:(ob.map D.str).all qa=true:=Yn.mpr λd hd=>by
  obtain⟨r,hr,rfl⟩:=X9.mp hd;exact ME r hr
 have b:((ob.map D.str).all λd=>lC d==V)=true:=Yn.mpr λd hd=>by
  obtain⟨r,hr,rfl⟩:=X9.mp hd;show (r.length==V)=true;rw[(h.rows r hr).len];simp
 rw[a,b];rfl
def Dc:Plain2 (brd bd):=λd hd=>by
 obtain⟨r,_,rfl⟩:=X9.mp hd;trivial
def iM(h:δ Z=aa (.bl b)):dj δ Z=aa b:=by
 unfold dj;rw[h];rfl
def gB(h:δ Z=aa (.bl b)):dH δ Z=aa b:=by
 unfold dH;rw[h];rfl
def nJ(h:τ Z=aa b):e7 τ Z=aa (!b):=by
 unfold e7;rw[h];rfl
def Fo(h1:a Z=aa p)(h2:c Z=aa q):tJ a c Z=aa (p||q):=by
 unfold tJ;rw[h1,aw];cases p
 ·exact h2
 ·rfl
def vM(h1:a Z=aa p)(h2:c Z=aa q):lr a c Z=aa (p&&q):=by
 unfold lr;rw[h1,aw];cases p
 ·rfl
 ·exact h2
def LY(h1:a Z=aa false):lr a c Z=aa false:=by
 unfold lr;rw[h1];rfl
def Iz(h1:a Z=aa (.bl p))(h2:c Z=aa (.bl q)):fN a c Z=aa (.bl (p&&q)):=by
 unfold fN;rw[h1,aw];cases p
 ·rfl
 ·exact h2
def Brd.nb{V:Nat}(h:Brd ob V):eE [brd ob]=aa .non:=by
 refine CP (fO (nJ (iM (b:=true) ?_)) rfl);refine(au (ds:=[brd ob]) rfl rfl).trans ?_;rw[l9 Dc,h.board]
structure Ln (V:Nat) (r:Str):Prop where
 len:r.length=V
structure Wd (ob:List Str) (V:Nat):Prop where
 r1:1<=ob.length
 r8:ob.length<=8
 w1:1<=V
 w8:V<=8
 rows:∀r∈ob,Ln V r
def Brd.wd{V:Nat}(h:Brd ob V):Wd ob V:=⟨h.r1,h.r8,h.w1,h.w8,λr hr=>⟨(h.rows r hr).len⟩⟩
def Wd.len0{V:Nat}(h:Wd ob V)(hZ:Z[i]? =some (fz (brd ob))):dA cz (aC (d2 bq (dV i) (dC (.int 0))) aN) Z=aa (.int (V:Int)):=by
 have h1:=h.r1;have hr:=h.rows;obtain⟨x,l,e⟩:∃x l,ob=x::l:=by
  cases ob with
  |nil=>simp at h1
  |cons x l=>exact⟨x,l,rfl⟩
 have hx:x.length=V:=(hr x (by rw[e];exact XU ..)).len;have i0:bq (brd ob) (.int 0)=aa (.str x):=U6 (show ob.map D.str=D.str x::l.map D.str by rw[e];rfl);have k:=aP (g:=bq) (gh hZ) (show dC (.int 0) Z=aa (.int 0) from rfl);rw[i0] at k;rw[bD (aK k rfl)];show aa (D.int (x.length:Int))=_;rw[hx]
def Brd.len0{V:Nat}(h:Brd ob V)(hZ:Z[i]? =some (fz (brd ob))):dA cz (aC (d2 bq (dV i) (dC (.int 0))) aN) Z=aa (.int (V:Int)):=h.wd.len0 hZ
def Jv(hZ:Z[i]? =some (fz (brd bd))):dA cz (aC (dV i) aN) Z=aa (.int (bd.length:Int)):=by
 have:cz [brd bd]=aa (.int (bd.length:Int)):=by
  show aa (D.int ((bd.map D.str).length:Int))=_;rw[XS]
 simp only[dA,aC,aN,gh hZ,aw,this]
def Oc:D->Bool
 | .int _=>true
 |_=>false
def vq(h:Plain d):e_ [d]=aa (.bl (Oc d)):=by
 cases d<;>first | rfl | exact h.elim
def OL(h:δ Z=aa (.int i))(h2:ε Z=aa (.int n)):
 Ae (λi j=>decide (i<=j)) (λi j=>decide (i<j)) (dC (.int 0)) δ ε Z=aa (.bl (decide (0<=i)&&decide (i<n))):=by
 simp only[Ae,dC,h,h2,aw,gI];cases decide (0<=i)<;>rfl
def P7:bq (.tup [d,e]) (.int 0)=aa d/\bq (.tup [d,e]) (.int 1)=aa e:=⟨rfl,rfl⟩
abbrev Cell:=Nat×Nat
def cD(c:Cell):D:= .tup [.int (c.1:Int), .int (c.2:Int)]
def On(R W:Nat)(c:Cell):Prop:=c.1<R/\c.2<W
instance {R W:Nat}{c:Cell}:Decidable (On R W c):=by unfold On;infer_instance
def Ways(w:Nat):Prop:=w=4\/w=8
def Ways.nw(h:Ways w):fB [iW w]=aa .non:=by
 rcases h with rfl | rfl<;>rfl
def ch(x:Str)(j:Nat):Nat:=x.cps.toList.getD j 0
def at2(bd:List Str)(i j:Nat):Nat:=ch (bd.getD i ⟨#[]⟩) j
abbrev lt(bd:List Str)(c:Cell):Nat:=at2 bd c.1 c.2
def sg(n:Nat):D:= .str ⟨#[n]⟩
def CT{c:Nat}(h:c<x.length):nN (.str x) (.int (c:Int))=aa (sg (ch x c)):=by
 have h':c<x.cps.toList.length:=by rw[YB];exact h
 show (match L2.atI x.cps.toList (c:Int) with | some c=>aa (D.str ⟨#[c]⟩) | none=>ag)=_;rw[g_ (XW h')];unfold sg ch;rw[Yq,XW h'];rfl
def getD_mem{bd:List Str}(h:i<bd.length):bd.getD i ⟨#[]⟩∈bd:=by
 rw[Yq,XW h];exact ZO h
def Gf{i:Nat}(h:i<bd.length):bq (brd bd) (.int (i:Int))=aa (.str (bd.getD i ⟨#[]⟩)):=by
 show (match L2.atI (bd.map D.str) (i:Int) with | some d=>aa d | none=>ag)=_;rw[g_ ?_];rw[X6,XW h,Yq,XW h];rfl
def kO(hg:Brd bd W)(h:On bd.length W c):ek [brd bd,cD c]=aa (sg (lt bd c)):=by
 refine a9 (bh ?_);refine(aP ((aP rfl rfl).trans (Gf h.1)) rfl).trans ?_;exact CT (by rw[(hg.rows _ (getD_mem h.1)).len];exact h.2)
def KW(a b:Nat):ly (sg a) (sg b)=aa (.bl (decide (a=b))):=by
 show aa (D.bl (decide ((⟨#[a]⟩:Str)=⟨#[b]⟩)))=_;congr 2;by_cases h:a=b
 ·subst h;simp
 ·have:¬((⟨#[a]⟩:Str)=⟨#[b]⟩):=λz=>by
   injection z with z
   exact h (by simpa using z)
  rw[aeD h,aeD this]
def bO(a b:Nat):Nat:=max a b - min a b
def iw(w:Nat)(a b:Cell):Bool:=if w=4 then decide (bO a.1 b.1+bO a.2 b.2=1) else decide (max (bO a.1 b.1) (bO a.2 b.2)=1)
def BG(a b:Nat):E3 [.int ((a:Int) - (b:Int))]=aa (.int (bO a b:Int)):=by
 show aa (D.int _)=_;congr 2;unfold bO;omega
def vx(hw:Ways w)(a b:Cell):d9 [cD a,cD b,iW w]=aa (.bl (iw w a b)):=by
 refine a9 ?_;refine ak ((aS (BG a.1 b.1)).trans rfl) ?_;refine ak ((aS (BG a.2 b.2)).trans rfl) ?_;rcases hw with rfl | rfl
 ·refine kA (fP (gB rfl) (bh ?_));show aa (D.bl (((bO a.1 b.1:Int)+(bO a.2 b.2:Int))==1))=_;unfold iw;rw[aex rfl];congr 2;have:((bO a.1 b.1:Int)+(bO a.2 b.2:Int))=((bO a.1 b.1+bO a.2 b.2:Nat):Int):=by omega
  rw[this];have e:=mz (bO a.1 b.1+bO a.2 b.2) 1;exact e.trans rfl
 ·refine ak (fO (gB rfl) rfl) (bh ?_);show aa (D.bl ((if (bO a.1 b.1:Int)<(bO a.2 b.2:Int) then(bO a.2 b.2:Int) else(bO a.1 b.1:Int))==1))=_;have hn:iw 8 a b=decide (max (bO a.1 b.1) (bO a.2 b.2)=1):=rfl;rw[hn];congr 2;have:(if (bO a.1 b.1:Int)<(bO a.2 b.2:Int) then(bO a.2 b.2:Int) else(bO a.1 b.1:Int))=((max (bO a.1 b.1) (bO a.2 b.2):Nat):Int):=by split<;>omega
  rw[this];have e:=mz (max (bO a.1 b.1) (bO a.2 b.2)) 1;exact e.trans rfl
def mB(w:Nat)(a b:Cell):iw w a b=iw w b a:=by
 have e:∀x y:Nat,bO x y=bO y x:=λx y=>by unfold bO;rw[Nat.max_comm,Nat.min_comm]
 unfold iw;rw[e a.1,e a.2]
def M9(hw:Ways w):iw w a a=false:=by
 unfold iw bO;rcases hw with rfl | rfl<;>simp
def bA(h1:put d Z=some Z1)(h2:body Z1=aa (.nx Z2)):forL put body (d::ds) Z=forL put body ds Z2:=by
 show (match put d Z with | none=>ag | some Z1=>body Z1>>=λo=>match o with | .nx Z2=>forL put body ds Z2 | .rt v=>aa (.rt v))=_;rw[h1];show (body Z1>>=λo=>match o with | .nx Z2=>forL put body ds Z2 | .rt v=>aa (.rt v))=_;rw[h2];rfl
section
variable{α σ:Type}{put:D->bH->Option bH}{body:DS}
def kh(W1:α->D)(mk:σ->bH)(step:σ->α->σ)(I:σ->Prop):∀(xs:List α) (s:σ),I s->(∀s,I s->∀x∈xs,I (step s x)/\∃Z1,put (W1 x) (mk s)=some Z1/\body Z1=aa (.nx (mk (step s x))))->
 I (xs.foldl step s)/\forL put body (xs.map W1) (mk s)=aa (.nx (mk (xs.foldl step s)))
 |[],s,h,_=>⟨h,rfl⟩
 |x::xs,s,h,st=>by
  obtain⟨h2,Z1,e1,e2⟩:=st s h x (XU ..);obtain⟨h3,e3⟩:=kh W1 mk step I xs (step s x) h2 λs hs y hy=>st s hs y (XT _ hy);exact⟨h3,(bA e1 e2).trans e3⟩
def nM(W1:α->D)(Z:bH):∀(xs:List α),(∀x∈xs,∃Z1,put (W1 x) Z=some Z1/\body Z1=aa (.nx Z))->forL put body (xs.map W1) Z=aa (.nx Z)
 |[],_=>rfl
 |x::xs,st=>by
  obtain⟨Z1,e1,e2⟩:=st x (XU ..);exact(bA e1 e2).trans (nM W1 Z xs λy hy=>st y (XT _ hy))
def dU(W1:α->D)(mk:List D->bH)(g:α->List D):∀(xs:List α) (v6:List D),(v6++xs.flatMap g).length<=B->(∀x∈xs,∀v6,(v6++g x).length<=B->∃Z1,put (W1 x) (mk v6)=some Z1/\body Z1=aa (.nx (mk (v6++g x))))->
 forL put body (xs.map W1) (mk v6)=aa (.nx (mk (v6++xs.flatMap g)))
 |[],v6,_,_=>by simp;rfl
 |x::xs,v6,hB,st=>by
  have Uv:((v6++g x)++xs.flatMap g).length<=B:=by simpa[ZD,aaV] using hB
  obtain⟨Z1,e1,e2⟩:=st x (XU ..) v6 (Yy (by simp only[X8];omega) Uv);have e3:=dU W1 mk g xs (v6++g x) Uv λy hy=>st y (XT _ hy);rw[X3,bA e1 e2,e3,ZD,aaV]
end
def cM(h:δi Z=aa ds)(h2:forL put b ds Z=m):cw put δi b Z=m:=by
 unfold cw;rw[h];exact h2
def ck{τ:DS}(h:τ Z=aa o):(λZ=>noex (τ Z)) Z=aa o:=by
 show noex (τ Z)=_;rw[h];rfl
def zK(lo n:Nat):iF (lo:Int) n=(YW lo n).map λ(k:Nat)=>D.int (k:Int):=by
 unfold iF;rw[adU];have:∀(n a:Nat),(YW a n).map (λ(i:Nat)=>D.int ((lo:Int)+(i:Int)))=(YW (lo+a) n).map λ(k:Nat)=>D.int (k:Int):=by
  intro n;induction n with
  |zero=>intro a;rfl
  |succ n ih=>
   intro a;rw[aa2,aa2,X3,X3,ih (a+1)];rfl
 exact this n 0
def zJ(h:δ Z=aa (.int (n:Int)))(hn:n<=4096):(aC δ aN Z>>=dQ)=aa ((Yp n).map λ(k:Nat)=>D.int (k:Int)):=by
 rw[aK h rfl,aw,oF hn,show iF 0 n=iF ((0:Nat):Int) n from rfl,zK,adU]
def QO(h:δ Z=aa (.int (i:Int)))(h2:ε Z=aa (.int (j:Int)))(hi:i<=4096)(hj:j<=4096):(aC δ (aC ε aN) Z>>=vj)=aa ((YW i (j - i)).map λ(k:Nat)=>D.int (k:Int)):=by
 rw[aK h (aK h2 rfl),aw];show (if (-4096<=(i:Int)/\(i:Int)<=4096)/\(-4096<=(j:Int)/\(j:Int)<=4096) then aa (iF (i:Int) ((j:Int) - (i:Int)).toNat) else ag)=_;rw[aex ⟨⟨by omega,by omega⟩,by omega,by omega⟩,show ((j:Int) - (i:Int)).toNat=j - i by omega,zK]
def dD(W r:Nat):List Cell:=(Yp W).map λk=>(r,k)
def az(R W:Nat):List Cell:=(Yp R).flatMap (dD W)
def aA:c∈az R W↔On R W c:=by
 unfold az dD On;simp only[aaJ,YQ,X9];constructor
 ·rintro⟨r,hr,k,hk,rfl⟩;exact⟨hr,hk⟩
 ·rintro⟨h1,h2⟩;exact⟨c.1,h1,c.2,h2,rfl⟩
def aZ(R W:Nat):(az R W).length=R*W:=by
 unfold az;have:∀l:List Nat,(l.flatMap (dD W)).length=l.length*W:=by
  intro l;induction l with
  |nil=>simp
  |cons a l ih=>rw[ZD,X8,ih,X7,Nat.succ_mul];simp[dD];omega
 rw[this,YO]
def nH(hg:Brd bd W)(r:Nat):cO [brd bd, .int (r:Int)]=aa (.lst ((dD W r).map cD)):=by
 have:=hg.w8;refine a9 (bh (bU (zJ (hg.len0 rfl) (by omega)) ?_ (by simp[dD,b6];omega)));rw[show (dD W r).map cD=((Yp W).map λ(k:Nat)=>D.int (k:Int)).map (λe=> .tup [.int (r:Int),e]) by simp[dD,Yu];intro a _;rfl];exact hJ _ λe _=>rfl
def kI(hg:Brd bd W):ej [brd bd]=aa (.lst ((az bd.length W).map cD)):=by
 have h8:=hg.r8;have w8:=hg.w8;have hm:bd.length*W<=64:=ZW h8 w8;have DI:(Yp bd.length).flatMap (λr=>(dD W r).map cD)=(az bd.length W).map cD:=by
  unfold az;rw[aa3]
 have e:=dU (put:=putN 2) (body:=bT [2] (Hw 1 (aD 2 cO (aC (dV 0) (aC (dV 2) aN))))) (λ(k:Nat)=>D.int (k:Int)) (λv6=>[fz (brd bd),some (.ow (.lst v6)),none]) (λr=>(dD W r).map cD) (Yp bd.length) []
  (by rw[Yw,DI,XS,aZ];exact hm) λr hr v6 hB=>by
   refine⟨[fz (brd bd),some (.ow (.lst v6)),fz (.int (r:Int))],rfl,?_⟩;refine(aM (Z':=[fz (brd bd),some (.ow (.lst (v6++(dD W r).map cD))),fz (.int (r:Int))]) ?_).trans rfl;show (cO [brd bd, .int (r:Int)]>>=λd=>lstM d>>=λes=>if v6.length+es.length<=lim then aa (Out.nx (List.set [fz (brd bd),some (.ow (.lst v6)),fz (.int (r:Int))] 1 (some (.ow (.lst (v6++es)))))) else ag)=_;rw[nH hg,aw];show (if v6.length+((dD W r).map cD).length<=lim then aa (Out.nx [fz (brd bd),some (.ow (.lst (v6++(dD W r).map cD))),fz (.int (r:Int))]) else ag)=_;rw[aex (by rw[X8] at hB;rw[b6];omega)]
 rw[Yw,DI] at e;refine a9 (ak rfl (ak (ck (cM (zJ (Jv rfl) (by omega)) e)) ?_));rfl
def kR(R W w:Nat)(c:Cell):List Cell:=
 (YW (c.1 - 1) (min (c.1+2) R - (c.1 - 1))).flatMap λr=>((YW (c.2 - 1) (min (c.2+2) W - (c.2 - 1))).map λk=>(r,k)).filter (iw w c)
def ip(hw:Ways w):x∈kR R W w c↔On R W x/\iw w c x=true:=by
 unfold kR On;simp only[aaJ,YZ,X9,aet];constructor
 ·rintro⟨r,⟨h1,h2⟩,⟨k,⟨h3,h4⟩,rfl⟩,h5⟩;refine⟨⟨?_,?_⟩,h5⟩
  ·show r<R;omega
  ·show k<W;omega
 ·rintro⟨⟨h1,h2⟩,h5⟩;have h6:bO c.1 x.1<=1/\bO c.2 x.2<=1:=by
   unfold iw at h5;rcases hw with rfl | rfl
   ·have h5:=aeC h5;exact⟨h5▸Nat.le_add_right ..,h5▸Nat.le_add_left ..⟩
   ·have h5:=aeC h5;exact⟨h5▸abZ ..,h5▸abG ..⟩
  have g:∀{a b B:Nat},bO a b<=1->b<B->a - 1<=b/\b<a - 1+(min (a+2) B - (a - 1)):=λ{a b B} h k=>by
   have h1:b<=a+1/\a<=b+1:=by unfold bO at h;omega
   have h2:min (a+2) B=a+2\/min (a+2) B=B:=by omega
   omega
  exact⟨x.1,g h6.1 h1,⟨x.2,g h6.2 h2,rfl⟩,h5⟩
def uT(R W w:Nat)(c:Cell):(kR R W w c).length<=9:=by
 unfold kR;rw[ad2];have h:∀r,(((YW (c.2 - 1) (min (c.2+2) W - (c.2 - 1))).map λk=>(r,k)).filter (iw w c)).length<=3:=λr=>by
  refine Yy (Zp ..) ?_;rw[XS,acm];omega
 have:∀(l:List Nat),(l.map λr=>(((YW (c.2 - 1) (min (c.2+2) W - (c.2 - 1))).map λk=>(r,k)).filter (iw w c)).length).sum<=3*l.length:=by
  intro l;induction l with
  |nil=>simp
  |cons a l ih=>rw[X3,aac,X7];have:=h a;omega
 refine Yy (this _) ?_;rw[acm];omega
abbrev nc(b c w:D)(v6:List D)(x4 x5:Option Sl):bH:=[fz b,fz c,fz w,some (.ow (.lst v6)),x4,x5]
def jJ(hg:Brd bd W)(hw:Ways w)(hc:On bd.length W c):b_ [brd bd,cD c,iW w]=aa (.lst ((kR bd.length W w c).map cD)):=by
 have h8:=hg.r8;have w8:=hg.w8;obtain⟨c1,c2⟩:=hc;have Po:∀n:Nat,wk [.int ((n:Int) - 1), .int 0]=aa (.int ((n - 1:Nat):Int)):=λn=>by
  show aa (D.int (if (0:Int)>(n:Int) - 1 then 0 else(n:Int) - 1))=_;congr 2;split<;>omega
 have Pq:∀n m:Nat,pZ [.int ((n:Int)+2), .int (m:Int)]=aa (.int ((min (n+2) m:Nat):Int)):=λn m=>by
  show aa (D.int (if (m:Int)<(n:Int)+2 then(m:Int) else(n:Int)+2))=_;congr 2;split<;>omega
 have inner:∀(r:Nat) (v6:List D),v6.length<=16->forL (putN 5) (bT [5] (iI (dj (aD 3 d9 (aC (dV 1) (aC (dA a6 (aC (dV 4) (aC (dV 5) aN))) (aC (dV 2) aN))))) (oH 3 (dA a6 (aC (dV 4) (aC (dV 5) aN)))) dE))
  ((YW (c.2 - 1) (min (c.2+2) W - (c.2 - 1))).map λ(k:Nat)=>D.int (k:Int)) (nc (brd bd) (cD c) (iW w) v6 (fz (.int (r:Int))) none)=
  aa (.nx (nc (brd bd) (cD c) (iW w) (v6++(YW (c.2 - 1) (min (c.2+2) W - (c.2 - 1))).flatMap λk=>if iw w c (r,k) then [cD (r,k)] else []) (fz (.int (r:Int))) none)):=λr v6 nP=>by
  refine dU (λ(k:Nat)=>D.int (k:Int)) (λv6=>nc (brd bd) (cD c) (iW w) v6 (fz (.int (r:Int))) none) (λk=>if iw w c (r,k) then [cD (r,k)] else []) (B:=64) _ v6 ?_ λk hk v6 hB=>?_
  ·rw[X8,ad2];have:∀l:List Nat,(l.map λk=>(if iw w c (r,k) then [cD (r,k)] else []).length).sum<=l.length:=by
    intro l;induction l with
    |nil=>simp
    |cons a l ih=>rw[X3,aac,X7];split<;>simp<;>omega
   have h2:=this (YW (c.2 - 1) (min (c.2+2) W - (c.2 - 1)));rw[acm] at h2;omega
  ·refine⟨nc (brd bd) (cD c) (iW w) v6 (fz (.int (r:Int))) (fz (.int (k:Int))),rfl,?_⟩;have ht:dj (aD 3 d9 (aC (dV 1) (aC (dA a6 (aC (dV 4) (aC (dV 5) aN))) (aC (dV 2) aN)))) (nc (brd bd) (cD c) (iW w) v6 (fz (.int (r:Int))) (fz (.int (k:Int))))=aa (iw w c (r,k)):=
    iM ((au rfl rfl).trans (vx hw c (r,k)))
   cases hn:iw w c (r,k) with
   |true=>
    rw[hn] at ht;rw[hn,aex rfl,X8] at hB;refine(aM (Z':=nc (brd bd) (cD c) (iW w) (v6++[cD (r,k)]) (fz (.int (r:Int))) (fz (.int (k:Int)))) (fP ht ?_)).trans rfl;show (if v6.length<lim then aa (Out.nx (nc (brd bd) (cD c) (iW w) (v6++[cD (r,k)]) (fz (.int (r:Int))) (fz (.int (k:Int))))) else ag)=_;rw[aex (by rw[b6];simp at hB;omega)]
   |false=>
    rw[hn] at ht;refine(aM (fO ht rfl)).trans ?_;simp;rfl
 have flt:∀r,((YW (c.2 - 1) (min (c.2+2) W - (c.2 - 1))).flatMap λk=>if iw w c (r,k) then [cD (r,k)] else [])=(((YW (c.2 - 1) (min (c.2+2) W - (c.2 - 1))).map λk=>(r,k)).filter (iw w c)).map cD:=λr=>by
  generalize YW (c.2 - 1) (min (c.2+2) W - (c.2 - 1))=l;induction l with
  |nil=>rfl
  |cons a l ih=>
   rw[ZD,ih,X3,acG];cases iw w c (r,a)<;>rfl
 have tot:(YW (c.1 - 1) (min (c.1+2) bd.length - (c.1 - 1))).flatMap (λr=>(((YW (c.2 - 1) (min (c.2+2) W - (c.2 - 1))).map λk=>(r,k)).filter (iw w c)).map cD)=(kR bd.length W w c).map cD:=by
  unfold kR;rw[aa3]
 have outer:=dU (put:=putN 4) (body:=bT [4,5] (cw (putN 5) (λZ=>(aC (dA wk (aC (d2 AK (d2 bq (dV 1) (dC (.int 1))) (dC (.int 1))) (aC (dC (.int 0)) aN))) (aC (dA pZ (aC (d2 dw (d2 bq (dV 1) (dC (.int 1))) (dC (.int 2))) (aC (dA cz (aC (d2 bq (dV 0) (dC (.int 0))) aN)) aN))) aN)) Z>>=vj) (bT [5] (iI (dj (aD 3 d9 (aC (dV 1) (aC (dA a6 (aC (dV 4) (aC (dV 5) aN))) (aC (dV 2) aN))))) (oH 3 (dA a6 (aC (dV 4) (aC (dV 5) aN)))) dE))))
  (λ(k:Nat)=>D.int (k:Int)) (λv6=>nc (brd bd) (cD c) (iW w) v6 none none) (λr=>(((YW (c.2 - 1) (min (c.2+2) W - (c.2 - 1))).map λk=>(r,k)).filter (iw w c)).map cD) (YW (c.1 - 1) (min (c.1+2) bd.length - (c.1 - 1))) []
  (by rw[Yw,tot,XS];have:=uT bd.length W w c;omega) λr hr v6 hB=>by
   refine⟨nc (brd bd) (cD c) (iW w) v6 (fz (.int (r:Int))) none,rfl,?_⟩;have e:=inner r v6 (by rw[X8] at hB;omega);rw[flt r] at e;refine(aM (cM (QO ?_ ?_ (by omega) (by omega)) e)).trans rfl
   ·exact(bD rfl).trans (Po c.2)
   ·refine(bD ?_).trans (Pq c.2 W);exact aK (show d2 dw (d2 bq (dV 1) (dC (.int 1))) (dC (.int 2)) (nc (brd bd) (cD c) (iW w) v6 (fz (.int (r:Int))) none)=aa (.int ((c.2:Int)+2)) from rfl) (aK (hg.len0 rfl) rfl)
 rw[Yw,tot] at outer;refine a9 (ak rfl (ak (ck (cM (QO ?_ ?_ (by omega) (by omega)) outer)) ?_))
 ·exact(bD rfl).trans (Po c.1)
 ·refine(bD ?_).trans (Pq c.1 bd.length);exact aK (show d2 dw (d2 bq (dV 1) (dC (.int 0))) (dC (.int 2)) (nc (brd bd) (cD c) (iW w) [] none none)=aa (.int ((c.1:Int)+2)) from rfl) (aK (Jv rfl) rfl)
 ·rfl
def bw(bd:List Str)(W w:Nat)(c:Cell):List Cell:=(kR bd.length W w c).filter λx=>decide (lt bd x=lt bd c)
def fY(hw:Ways w):x∈bw bd W w c↔On bd.length W x/\iw w c x=true/\lt bd x=lt bd c:=by
 unfold bw;rw[YZ,ip hw,aez,and_assoc]
def D2(bd:List Str)(W w:Nat)(c:Cell):(bw bd W w c).length<=9:=Yy (Zp ..) (uT ..)
def uA(W1:α->D)(p:α->Bool):∀(xs:List α),(∀x∈xs,f (W1 x)=aa (if p x then some (W1 x) else none))->ei f (xs.map W1)=aa ((xs.filter p).map W1)
 |[],_=>rfl
 |x::xs,h=>by
  rw[X3,gg,h x (XU ..),aw,uA W1 p xs λy hy=>h y (XT _ hy),acG];cases p x<;>rfl
def rD(hg:Brd bd W)(hw:Ways w)(hc:On bd.length W c):cX [brd bd,cD c,iW w]=aa (.lst ((bw bd W w c).map cD)):=by
 refine a9 (ak (Z':=[fz (brd bd),fz (cD c),fz (iW w),fz (sg (lt bd c))]) ((aS ((au rfl rfl).trans (kO hg hc))).trans rfl) (bh ?_));refine bU ?_ (uA cD _ _ λx hx=>?_) (by rw[XS,b6];exact Yy (D2 bd W w c) (by decide))
 ·show (aD 3 b_ _ _>>=lstM)=_;have e:aD 3 b_ (aC (dV 0) (aC (dV 1) (aC (dV 2) aN))) [fz (brd bd),fz (cD c),fz (iW w),fz (sg (lt bd c))]=aa (.lst ((kR bd.length W w c).map cD)):=jJ hg hw hc;rw[e];rfl
 ·have yM:=(ip hw).mp hx;rw[LX];have e:dH (d2 ly (aD 2 ek (aC (dV 1) (aC (dV 0) aN))) (dV 4)) (fz (cD x)::[fz (brd bd),fz (cD c),fz (iW w),fz (sg (lt bd c))])=aa (decide (lt bd x=lt bd c)):=by
   refine gB ?_;exact(aP ((au rfl rfl).trans (kO hg yM.1)) rfl).trans (KW _ _)
  rw[e,aw];cases decide (lt bd x=lt bd c)<;>rfl
end K1
namespace K1
section
variable{α:Type}[DecidableEq α]
structure Bk (α:Type) where
 ks:List α
 ps:List (Option α)
 fu:List α
def cS(c:α)(s:Bk α)(x:α):Bk α:=if x∈s.ks then s else⟨s.ks++[x],s.ps++[some c],s.fu++[x]⟩
variable(nb:α->List α)
def gD(s:Bk α)(c:α):Bk α:=(nb c).foldl (cS c) s
def b0(s:Bk α)(P3:List α):Bk α:=P3.foldl (gD nb) s
def Rb(a:α):Nat->α->Prop
 |0,x=>x=a
 |k+1,x=>Rb a k x\/∃y,Rb a k y/\x∈nb y
variable{nb}{a:α}
def Rb.mono(h:i<=j)(r:Rb nb a i x):Rb nb a j x:=by
 induction h with
 |refl=>exact r
 |step _ ih=>exact .inl ih
structure Grown (P:α->α->Prop) (s t:Bk α):Prop where
 ex:∃fs:List (α×α),t.ks=s.ks++fs.map (·.1)/\t.ps=s.ps++fs.map (λp=>some p.2)/\t.fu=s.fu++fs.map (·.1)/\(∀p∈fs,P p.2 p.1)
 nd:s.ks.Nodup->t.ks.Nodup
def Grown.refl(s:Bk α):Grown P s s:=⟨⟨[],by simp,by simp,by simp,λ_ h=>by cases h⟩,id⟩
def Grown.trans(h1:Grown P s t)(h2:Grown P t u):Grown P s u:=by
 obtain⟨fs,a1,a2,a3,a4⟩:=h1.ex;obtain⟨gs,b1,b2,b3,b4⟩:=h2.ex;refine⟨⟨fs++gs,by rw[b1,a1];simp,by rw[b2,a2];simp,by rw[b3,a3];simp,λp hp=>?_⟩,λh=>h2.nd (h1.nd h)⟩;rcases Yr.mp hp with h | h
 ·exact a4 p h
 ·exact b4 p h
def yc(s:Bk α)(h:P c x):Grown P s (cS c s x):=by
 unfold cS;split
 ·exact Grown.refl s
 ·rename_i hx;refine⟨⟨[(x,c)],rfl,rfl,rfl,λp hp=>?_⟩,λhn=>?_⟩
  ·have:p=(x,c):=by simpa using hp
   subst this;exact h
  ·refine YT.mpr ⟨hn,by simp,λy hy z hz e=>?_⟩;have hz:z=x:=by simpa using hz
   rw[e,hz] at hy;exact hx hy
def ur(s:Bk α):y∈(cS c s x).ks↔y∈s.ks\/y=x:=by
 unfold cS;split
 ·rename_i hx;exact⟨.inl,λh=>h.elim id λe=>by rw[e];exact hx⟩
 ·simp
def foldStep:∀(l:List α) (s:Bk α),(∀x∈l,P c x)->Grown P s (l.foldl (cS c) s)/\∀y,y∈(l.foldl (cS c) s).ks↔y∈s.ks\/y∈l
 |[],s,_=>⟨Grown.refl s,λy=>by simp⟩
 |x::l,s,h=>by
  obtain⟨h1,h2⟩:=foldStep l (cS c s x) λy hy=>h y (XT _ hy);refine⟨(yc s (h x (XU ..))).trans h1,λy=>?_⟩;rw[abb,h2 y,ur];simp[or_assoc]
def yF:∀(l:List α) (s:Bk α),(∀c∈l,∀x∈nb c,P c x)->Grown P s (b0 nb s l)/\∀y,y∈(b0 nb s l).ks↔y∈s.ks\/∃c∈l,y∈nb c
 |[],s,_=>⟨Grown.refl s,λy=>by simp[b0]⟩
 |c::l,s,h=>by
  obtain⟨g1,m1⟩:=foldStep (nb c) s (h c (XU ..));obtain⟨g2,m2⟩:=yF l (gD nb s c) λc' hc=>h c' (XT _ hc);refine⟨g1.trans g2,λy=>?_⟩;show y∈(b0 nb (gD nb s c) l).ks↔_;rw[m2 y];show (y∈((nb c).foldl (cS c) s).ks\/_)↔_;rw[m1 y];simp[or_assoc]
structure Rng (nb:α->List α) (a:α) (k:Nat) (ks:List α) (ps:List (Option α)) (P3:List α):Prop where
 len:ks.length=ps.length
 nd:ks.Nodup
 mem:∀x,x∈ks↔Rb nb a k x
 rg:∀x,x∈P3↔Rb nb a k x/\∀j,Rb nb a j x->k<=j
 par:∀x p,(x,some p)∈ks.zip ps->x∈nb p/\p∈ks/\∀j,Rb nb a j x->∃i,j=i+1/\Rb nb a i p
 non:∀x,(x,none)∈ks.zip ps->x=a
 sz:k<=ks.length/\(P3≠[]->k+1<=ks.length)
def Rng.zero(nb:α->List α)(a:α):Rng nb a 0 [a] [none] [a] where
 len:=rfl
 nd:=by simp
 mem:=λx=>by simp[Rb]
 rg:=λx=>by simp[Rb]
 par:=λx p h=>by simp at h
 non:=λx h=>by simpa using h
 sz:=⟨by simp,λ_=>by simp⟩
def Rng.next(h:Rng nb a k ks ps P3)(hr:P3≠[]):Rng nb a (k+1) (b0 nb ⟨ks,ps,[]⟩ P3).ks (b0 nb ⟨ks,ps,[]⟩ P3).ps (b0 nb ⟨ks,ps,[]⟩ P3).fu:=by
 obtain⟨g,m⟩:=yF (P:=λc x=>c∈P3/\x∈nb c) P3 ⟨ks,ps,[]⟩ λc hc x hx=>⟨hc,hx⟩
 obtain⟨fs,e1,e2,e3,e4⟩:=g.ex;have DL:=g.nd h.nd;have hm:∀x,x∈(b0 nb ⟨ks,ps,[]⟩ P3).ks↔Rb nb a (k+1) x:=λx=>by
  rw[m x];show (x∈ks\/_)↔(Rb nb a k x\/_);constructor
  ·rintro(q | ⟨c,hc,hx⟩)
   ·exact .inl ((h.mem x).mp q)
   ·exact .inr ⟨c,((h.rg c).mp hc).1,hx⟩
  ·rintro(q | ⟨y,hy,hx⟩)
   ·exact .inl ((h.mem x).mpr q)
   ·by_cases hk:∀j,Rb nb a j y->k<=j
    ·exact .inr ⟨y,(h.rg y).mpr ⟨hy,hk⟩,hx⟩
    ·refine .inl ((h.mem x).mpr ?_);obtain⟨j,hj⟩:=adb.mp hk;obtain⟨Sx,We⟩:=adG.mp hj;exact Rb.mono (i:=j+1) (by omega) (.inr ⟨y,Sx,hx⟩)
 have EM:(b0 nb ⟨ks,ps,[]⟩ P3).ks=ks++fs.map (·.1):=e1;have Of:(b0 nb ⟨ks,ps,[]⟩ P3).ps=ps++fs.map (λp=>some p.2):=e2;have Ra:(b0 nb ⟨ks,ps,[]⟩ P3).fu=fs.map (·.1):=e3;have new:∀x,x∈fs.map (·.1)->¬Rb nb a k x:=λx hx hk=>by
  rw[EM] at DL;exact(YT.mp DL).2.2 x ((h.mem x).mpr hk) x hx rfl
 have Qb:∀x,¬Rb nb a k x->∀j,Rb nb a j x->k+1<=j:=λx hx j hj=>by
  by_cases Wf:k+1<=j
  ·exact Wf
  ·exact aeB (Rb.mono (by omega) hj) hx
 have PY:(b0 nb ⟨ks,ps,[]⟩ P3).ks.zip (b0 nb ⟨ks,ps,[]⟩ P3).ps=ks.zip ps++fs.map λp=>(p.1,some p.2):=by
  rw[EM,Of,abQ h.len];congr 1;rw[List.zip_map']
 refine⟨?_,DL,hm,λx=>?_,λx p hp=>?_,λx hx=>?_,?_⟩
 ·rw[EM,Of,X8,X8,XS,XS,h.len]
 ·rw[Ra];constructor
  ·intro hx;exact⟨(hm x).mp (by rw[EM];exact YE _ hx),Qb x (new x hx)⟩
  ·rintro⟨h1,h2⟩;have h3:=(hm x).mpr h1;rw[EM] at h3;rcases Yr.mp h3 with q | q
   ·have:=h2 k ((h.mem x).mp q);omega
   ·exact q
 ·rw[PY] at hp;rcases Yr.mp hp with q | q
  ·obtain⟨q1,q2,q3⟩:=h.par x p q;exact⟨q1,by rw[EM];exact Z4 _ q2,q3⟩
  ·obtain⟨f,hf,e⟩:=X9.mp q;cases e;obtain⟨f1,f2⟩:=e4 f hf;have hc:=(h.rg f.2).mp f1;refine⟨f2,by rw[EM];exact Z4 _ ((h.mem _).mpr hc.1),λj hj=>?_⟩;have:=Qb f.1 (new f.1 (X9.mpr ⟨f,hf,rfl⟩)) j hj;exact⟨j - 1,by omega,Rb.mono (by omega) hc.1⟩
 ·rw[PY] at hx;rcases Yr.mp hx with q | q
  ·exact h.non x q
  ·obtain⟨f,hf,e⟩:=X9.mp q;cases e
 ·have hs:=h.sz.2 hr;rw[EM,X8,XS];refine⟨by omega,λdm=>?_⟩;have:fs≠[]:=λz=>dm (by rw[Ra,z];rfl);have:=List.length_pos_iff.mpr this;omega
def Rng.last(h:Rng nb a k ks ps []):∀x,x∈ks↔∃j,Rb nb a j x:=by
 have none:∀x,¬(Rb nb a k x/\∀j,Rb nb a j x->k<=j):=λx q=>by
  have:=(h.rg x).mpr q;cases this
 have hk:∀x,Rb nb a k x->∃i,i<k/\Rb nb a i x:=λx hx=>by
  by_cases q:∀j,Rb nb a j x->k<=j
  ·exact aeB ⟨hx,q⟩ (none x)
  ·obtain⟨j,hj⟩:=adb.mp q;obtain⟨Sx,We⟩:=adG.mp hj;exact⟨j,by omega,Sx⟩
 have all:∀j x,Rb nb a j x->Rb nb a k x:=by
  intro j;induction j with
  |zero=>intro x hx;exact Rb.mono (YC _) hx
  |succ j ih=>
   rintro x (q | ⟨y,hy,hx⟩)
   ·exact ih x q
   ·obtain⟨i,hi,hr⟩:=hk y (ih y hy);exact Rb.mono (i:=i+1) (by omega) (.inr ⟨y,hr,hx⟩)
 exact λx=>⟨λq=>⟨k,(h.mem x).mp q⟩,λ⟨j,hj⟩=>(h.mem x).mpr (all j x hj)⟩
def bK{l U:List α}(hn:l.Nodup)(h:∀x∈l,x∈U):l.length<=U.length:=by
 induction l generalizing U with
 |nil=>simp
 |cons a l ih=>
  rw[Yz] at hn;have hl:∀x∈l,x∈U.erase a:=λx hx=>by
   have dm:x≠a:=λz=>hn.1 (by rw[<-z];exact hx);exact(adW dm).mpr (h x (XT _ hx))
  have h1:=ih hn.2 hl;have h2:=abu (h a (XU ..));have h3:=ZH (h a (XU ..));rw[X7];omega
end
end K1
namespace K1
open PySem L2 L3
def keyOf(c:Cell):List Key:=[.inl (c.1:Int), .inl (c.2:Int)]
def ij(h:keyOf a=keyOf b):a=b:=by
 unfold keyOf at h;injection h with h1 h2
 injection h1 with h1
 injection h2 with h2 _
 injection h2 with h2
 exact abX (abi h1) (abi h2)
def iQ(c:Cell):iP (cD c)=some (keyOf c):=rfl
def gb:∀{ks:List Cell}{ds:List D},c∉ks->di (ks.map keyOf) ds (keyOf c)=none
 |[],_,_=>by simp[di]
 |k::ks,[],_=>by simp[di]
 |k::ks,d::ds,h=>by
  rw[X3];unfold di;rw[aey (λz=>h (by rw[ij z];exact XU ..))];exact gb λz=>h (XT _ z)
def oN:∀{ks:List Cell}{ds:List D},ks.length=ds.length->c∈ks->∃d,di (ks.map keyOf) ds (keyOf c)=some d/\(c,d)∈ks.zip ds
 |[],_,_,h=>by cases h
 |k::ks,[],hl,_=>by simp at hl
 |k::ks,d::ds,hl,h=>by
  rw[X3];unfold di;by_cases hk:k=c
  ·subst hk;rw[aex rfl];exact⟨d,rfl,by simp⟩
  ·rw[aey (λz=>hk (ij z))];have hc:c∈ks:=by
    rcases XY.mp h with q | q
    ·exact aeB q.symm hk
    ·exact q
   obtain⟨d',e1,e2⟩:=oN (by simpa using hl) hc;exact⟨d',e1,by simp[e2]⟩
def vW{ks:List Cell}(hl:ks.length=ds.length):kF neg (cD c) (.dct (ks.map keyOf) ds)=aa (.bl (if neg then !decide (c∈ks) else decide (c∈ks))):=by
 show (match (iP (cD c)).map (di (ks.map keyOf) ds) with | some o=>aa (D.bl (if neg then !o.isSome else o.isSome)) | none=>ag)=_;rw[iQ];show aa (D.bl (if neg then !(di (ks.map keyOf) ds (keyOf c)).isSome else(di (ks.map keyOf) ds (keyOf c)).isSome))=_;by_cases h:c∈ks
 ·obtain⟨d,e,_⟩:=oN hl h;rw[e,aeA h];rfl
 ·rw[gb h,aeD h];rfl
def zy(h:c∉ks)(hl:ds.length<lim):jk (.dct (ks.map keyOf) ds) (cD c) d=some (.dct ((ks++[c]).map keyOf) (ds++[d])):=by
 show (match iP (cD c) with | some kk=>if ds.length<lim then some (C.dct (cU (ks.map keyOf) ds kk) (cp (ks.map keyOf) ds kk d)) else none | none=>none)=_;rw[iQ];show (if ds.length<lim then some (C.dct (cU (ks.map keyOf) ds (keyOf c)) (cp (ks.map keyOf) ds (keyOf c) d)) else none)=_;rw[aex hl];unfold cU cp;rw[gb h];simp
def sX(h:τ (oT Z)=aa b):EE τ Z=aa b:=by
 unfold EE;rw[h];rfl
def yn(h:δ (oT Z)=aa d)(hf:yC d=true):Fp δ Z=aa d:=by
 unfold Fp;rw[h];show qR d=_;unfold qR;rw[hf];rfl
def IL(c:Cell):yC (cD c)=true:=rfl
def nh(h1:c Z=aa true)(h2:body Z=aa (.nx Z'))(h3:eT c body n Z'=m):eT c body (n+1) Z=m:=by
 show (c Z>>=λb=>if b then body Z>>=λo=>match o with | .nx Z'=>eT c body n Z' | .rt d=>aa (.rt d) else aa (.nx Z))=_;rw[h1,aw,aex rfl,h2];exact h3
def tf(h1:c Z=aa false):eT c body (n+1) Z=aa (.nx Z):=by
 show (c Z>>=λb=>if b then body Z>>=λo=>match o with | .nx Z'=>eT c body n Z' | .rt d=>aa (.rt d) else aa (.nx Z))=_;rw[h1];rfl
def GZ:Option Cell->D
 |none=> .non
 |some c=>cD c
abbrev KO(ks:List Cell)(ps:List (Option Cell)):C:= .dct (ks.map keyOf) (ps.map GZ)
abbrev KP(ks:List Cell)(ps:List (Option Cell)):D:= .dct (ks.map keyOf) (ps.map GZ)
abbrev sb(b s w:D)(ks:List Cell)(ps:List (Option Cell))(x4 x5 x6 x7:Option Sl):bH:=[fz b,fz s,fz w,some (.ow (KO ks ps)),x4,x5,x6,x7]
structure Bok (R W:Nat) (s:Bk Cell):Prop where
 len:s.ks.length=s.ps.length
 nd:s.ks.Nodup
 on:∀x∈s.ks,On R W x
 fu:s.fu.length<=s.ks.length
def Bok.le(h:Bok R W s):s.ks.length<=R*W:=by
 rw[<-aZ R W];exact bK h.nd λx hx=>aA.mpr (h.on x hx)
def Bok.step(h:Bok R W s)(hx:On R W x):Bok R W (cS c s x):=by
 unfold cS;split
 ·exact h
 ·rename_i hn;refine⟨by simp[h.len],?_,λy hy=>?_,by simp;exact h.fu⟩
  ·refine YT.mpr ⟨h.nd,by simp,λy hy z hz e=>?_⟩;have hz:z=x:=by simpa using hz
   rw[e,hz] at hy;exact hn hy
  ·rcases Yr.mp hy with q | q
   ·exact h.on y q
   ·have:y=x:=by simpa using q
    rw[this];exact hx
def Ks(hg:Brd bd W)(h:Bok bd.length W s):
 NZ (sb (brd bd) (cD a) w s.ks s.ps r (some (.ow (.lst (s.fu.map cD)))) (fz (cD c)) (fz (cD x)))=aa (.nx (sb (brd bd) (cD a) w (cS c s x).ks (cS c s x).ps r (some (.ow (.lst ((cS c s x).fu.map cD)))) (fz (cD c)) none)):=by
 have hle:=h.le;have hm:bd.length*W<=64:=ZW hg.r8 hg.w8;have ht:EE (dH (d2 (kF true) (dV 7) (dV 3))) (sb (brd bd) (cD a) w s.ks s.ps r (some (.ow (.lst (s.fu.map cD)))) (fz (cD c)) (fz (cD x)))=aa (!decide (x∈s.ks)):=
  sX (gB ((aP rfl rfl).trans (vW (by rw[XS];exact h.len))))
 by_cases hx:x∈s.ks
 ·rw[aeA hx] at ht;have e:cS c s x=s:=aex hx;rw[e];exact(aM (fO ht rfl)).trans rfl
 ·rw[aeD hx] at ht;have e:cS c s x=⟨s.ks++[x],s.ps++[some c],s.fu++[x]⟩:=aey hx;rw[e];refine(aM (Z':=sb (brd bd) (cD a) w (s.ks++[x]) (s.ps++[some c]) r (some (.ow (.lst ((s.fu++[x]).map cD)))) (fz (cD c)) (fz (cD x))) (fP ht (ak (Z':=sb (brd bd) (cD a) w (s.ks++[x]) (s.ps++[some c]) r (some (.ow (.lst (s.fu.map cD)))) (fz (cD c)) (fz (cD x))) ?_ ?_))).trans rfl
  ·show (match jk (KO s.ks s.ps) (cD x) (cD c) with | some c'=>aa (Out.nx (List.set (sb (brd bd) (cD a) w s.ks s.ps r (some (.ow (.lst (s.fu.map cD)))) (fz (cD c)) (fz (cD x))) 3 (some (.ow c')))) | none=>ag)=_;rw[zy hx (by rw[XS,<-h.len,b6];omega)];rw[show s.ps.map GZ++[cD c]=(s.ps++[some c]).map GZ by simp[GZ]];rfl
  ·show (if (s.fu.map cD).length<lim then aa (Out.nx (sb (brd bd) (cD a) w (s.ks++[x]) (s.ps++[some c]) r (some (.ow (.lst (s.fu.map cD++[cD x])))) (fz (cD c)) (fz (cD x)))) else ag)=_;have:=h.fu;rw[aex (by rw[XS,b6];omega)];rw[show s.fu.map cD++[cD x]=(s.fu++[x]).map cD by simp]
def QQ:DS:=bT [6,7] (cw (putN 7) (cR (aD 3 cX (aC (dV 0) (aC (dV 6) (aC (dV 2) aN))))) NZ)
def CS(hg:Brd bd W)(hw:Ways w)(hc:On bd.length W c)(h:Bok bd.length W s):
 Bok bd.length W (gD (bw bd W w) s c)/\QQ (sb (brd bd) (cD a) (iW w) s.ks s.ps r (some (.ow (.lst (s.fu.map cD)))) (fz (cD c)) none)=
  aa (.nx (sb (brd bd) (cD a) (iW w) (gD (bw bd W w) s c).ks (gD (bw bd W w) s c).ps r (some (.ow (.lst ((gD (bw bd W w) s c).fu.map cD)))) none none)):=by
 obtain⟨h1,e⟩:=kh (put:=putN 7) cD (λs:Bk Cell=>sb (brd bd) (cD a) (iW w) s.ks s.ps r (some (.ow (.lst (s.fu.map cD)))) (fz (cD c)) none) (cS c) (Bok bd.length W) (bw bd W w c) s h λs hs x hx=>
  ⟨hs.step ((fY hw).mp hx).1,_,rfl,Ks hg hs⟩
 refine⟨h1,(aM (cM ?_ e)).trans rfl⟩;show (aD 3 cX (aC (dV 0) (aC (dV 6) (aC (dV 2) aN))) (sb (brd bd) (cD a) (iW w) s.ks s.ps r (some (.ow (.lst (s.fu.map cD)))) (fz (cD c)) none)>>=lstM)=_;have e2:aD 3 cX (aC (dV 0) (aC (dV 6) (aC (dV 2) aN))) (sb (brd bd) (cD a) (iW w) s.ks s.ps r (some (.ow (.lst (s.fu.map cD)))) (fz (cD c)) none)=aa (.lst ((bw bd W w c).map cD)):=rD hg hw hc;rw[e2];rfl
def QP:DS:=bT [5,6,7] (aG (ub 5) (aG (cw (putN 6) (cR (dV 4)) QQ) (vk 5 (bM 4 (dV 5)))))
def Kr(hg:Brd bd W)(hw:Ways w)(hr:∀c∈P3,On bd.length W c)(h:Bok bd.length W s)(hf:s.fu=[]):
 Bok bd.length W (b0 (bw bd W w) s P3)/\QP (sb (brd bd) (cD a) (iW w) s.ks s.ps (fz (.lst (P3.map cD))) none none none)=
  aa (.nx (sb (brd bd) (cD a) (iW w) (b0 (bw bd W w) s P3).ks (b0 (bw bd W w) s P3).ps (fz (.lst ((b0 (bw bd W w) s P3).fu.map cD))) none none none)):=by
 obtain⟨h1,e⟩:=kh (put:=putN 6) cD (λs:Bk Cell=>sb (brd bd) (cD a) (iW w) s.ks s.ps (fz (.lst (P3.map cD))) (some (.ow (.lst (s.fu.map cD)))) none none) (gD (bw bd W w)) (Bok bd.length W) P3 s h λs hs c hc=>
  ⟨(CS (a:=a) (r:=fz (.lst (P3.map cD))) hg hw (hr c hc) hs).1,_,rfl,(CS hg hw (hr c hc) hs).2⟩
 refine⟨h1,(aM (Z':=sb (brd bd) (cD a) (iW w) (b0 (bw bd W w) s P3).ks (b0 (bw bd W w) s P3).ps (fz (.lst ((b0 (bw bd W w) s P3).fu.map cD))) (fz (.lst ((b0 (bw bd W w) s P3).fu.map cD))) none none) ?_).trans rfl⟩;refine ak rfl (ak (Z':=sb (brd bd) (cD a) (iW w) (b0 (bw bd W w) s P3).ks (b0 (bw bd W w) s P3).ps (fz (.lst (P3.map cD))) (some (.ow (.lst ((b0 (bw bd W w) s P3).fu.map cD)))) none none) ?_ rfl);rw[hf] at e;exact cM rfl e
def zR(hg:Brd bd W)(hw:Ways w)(ha:On bd.length W a):∀(fuel k:Nat) (ks:List Cell) (ps:List (Option Cell)) (P3:List Cell),bd.length*W+2<=fuel+k->Rng (bw bd W w) a k ks ps P3->(∀x∈ks,On bd.length W x)->
 ∃k' ks' f9,Rng (bw bd W w) a k' ks' f9 []/\(∀x∈ks',On bd.length W x)/\eT (dj (dV 4)) QP fuel (sb (brd bd) (cD a) (iW w) ks ps (fz (.lst (P3.map cD))) none none none)=aa (.nx (sb (brd bd) (cD a) (iW w) ks' f9 (fz (.lst [])) none none none))
 |0,k,ks,ps,P3,hf,hR,gA=>by
  have h1:ks.length<=bd.length*W:=by
   rw[<-aZ bd.length W];exact bK hR.nd λx hx=>aA.mpr (gA x hx)
  have:=hR.sz.1;omega
 |fuel+1,k,ks,ps,[],hf,hR,gA=>⟨k,ks,ps,hR,gA,tf rfl⟩
 |fuel+1,k,ks,ps,c::P3,hf,hR,gA=>by
  have dm:c::P3≠[]:=by simp
  have hN:=hR.next dm;have PL:∀x∈c::P3,On bd.length W x:=λx hx=>gA x ((hR.mem x).mpr ((hR.rg x).mp hx).1);obtain⟨hb,e⟩:=Kr hg hw PL (s:=⟨ks,ps,[]⟩) ⟨hR.len,hR.nd,gA,YC _⟩ rfl;obtain⟨k',ks',f9,q1,q2,q3⟩:=zR hg hw ha fuel (k+1) _ _ _ (by omega) hN hb.on;exact⟨k',ks',f9,q1,q2,nh rfl e q3⟩
def sU(hg:Brd bd W)(hw:Ways w)(ha:On bd.length W a):
 ∃k ks ps,Rng (bw bd W w) a k ks ps []/\(∀x∈ks,On bd.length W x)/\dJ [brd bd,cD a,iW w]=aa (KP ks ps):=by
 have hm:bd.length*W<=64:=ZW hg.r8 hg.w8;obtain⟨k,ks,ps,h1,h2,h3⟩:=zR hg hw ha lim 0 [a] [none] [a] (by rw[b6];omega) (Rng.zero _ _) (λx hx=>(show x=a by simpa using hx)▸ha);refine⟨k,ks,ps,h1,h2,a9 (ak rfl (ak rfl (ak (ck h3) rfl)))⟩
def uo[DecidableEq α](n:Nat)(W1:α->D):Prop:=∀k x y,lu (n+k) (W1 x) (W1 y)=some (decide (x=y))
def IH(n:Nat)(xs ys:List D):lu (n+1) (.tup xs) (.tup ys)=oR (lu n) xs ys:=rfl
def kf(n:Nat)(i j:Int):lu n (.int i) (.int j)=some (i==j):=by cases n<;>rfl
def B2[DecidableEq α](h:∀x y,f (W1 x) (W1 y)=some (decide (x=y))):∀(xs ys:List α),oR f (xs.map W1) (ys.map W1)=some (decide (xs=ys))
 |[],[]=>rfl
 |[],_::_=>by simp[oR]
 |_::_,[]=>by simp[oR]
 |x::xs,y::ys=>by
  rw[X3,X3];show (match f (W1 x) (W1 y),oR f (xs.map W1) (ys.map W1) with | some b,some r=>some (b&&r) | _,_=>none)=_;rw[h,B2 h xs ys];show some (decide (x=y)&&decide (xs=ys))=_;congr 1;by_cases h1:x=y<;>by_cases h2:xs=ys<;>simp[h1,h2]
def L_:uo 1 cD:=λk a b=>by
 rw[ab0];show (match lu k (.int (a.1:Int)) (.int (b.1:Int)),oR (lu k) [.int (a.2:Int)] [.int (b.2:Int)] with | some b,some r=>some (b&&r) | _,_=>none)=_;rw[kf];show (match some ((a.1:Int)==(b.1:Int)),(match lu k (.int (a.2:Int)) (.int (b.2:Int)),oR (lu k) [] [] with | some b,some r=>some (b&&r) | _,_=>none) with | some b,some r=>some (b&&r) | _,_=>none)=_;rw[kf];show some (((a.1:Int)==(b.1:Int))&&(((a.2:Int)==(b.2:Int))&&true))=_;rw[mz,mz,adp];congr 1;obtain⟨a1,a2⟩:=a;obtain⟨b1,b2⟩:=b;by_cases h1:a1=b1<;>by_cases h2:a2=b2<;>simp[h1,h2]
def IF[DecidableEq α](h:uo n W1):uo (n+1) (λl:List α=> .lst (l.map W1)):=λk x y=>by
 rw[show n+1+k=(n+k)+1 by omega];exact B2 (h k) x y
def RY[DecidableEq α](h:uo n W1)(hn:n<=6)(x y:α):ly (W1 x) (W1 y)=aa (.bl (decide (x=y))):=by
 have:=h (6 - n) x y;rw[show n+(6 - n)=6 by omega] at this;unfold ly;rw[this]
def Ma[DecidableEq α](h:uo n W1)(hn:n<=6)(x y:α):lz (W1 x) (W1 y)=aa (.bl (!decide (x=y))):=by
 have:=h (6 - n) x y;rw[show n+(6 - n)=6 by omega] at this;unfold lz;rw[this]
abbrev cL(l:List Cell):D:= .lst (l.map cD)
def Qh(a b:Cell):lz (cD a) (cD b)=aa (.bl (!decide (a=b))):=Ma L_ (by decide) a b
def ic(c:Cell):List Int:=[(c.1:Int),(c.2:Int)]
def uy(a b:Cell):Bool:=if a.1=b.1 then decide (a.2<b.2) else decide (a.1<b.1)
def Ji(k:Cell):List Cell->List Cell
 |[]=>[k]
 |x::r=>if uy k x then k::x::r else x::Ji k r
def k7:List Cell->List Cell
 |[]=>[]
 |k::r=>Ji k (k7 r)
def AZ(a b:Cell):fb (ic a) (ic b)=uy a b:=by
 show (if (a.1:Int)=(b.1:Int) then(if (a.2:Int)=(b.2:Int) then false else decide ((a.2:Int)<(b.2:Int))) else decide ((a.1:Int)<(b.1:Int)))=_;unfold uy;by_cases h:a.1=b.1
 ·rw[aex h,aex (by omega)];by_cases h2:a.2=b.2
  ·rw[aex (by omega),h2];simp
  ·rw[aey (by omega)];by_cases h3:a.2<b.2
   ·rw[aeA h3,aeA (by omega)]
   ·rw[aeD h3,aeD (by omega)]
 ·rw[aey h,aey (by omega)];by_cases h3:a.1<b.1
  ·rw[aeA h3,aeA (by omega)]
  ·rw[aeD h3,aeD (by omega)]
def F7(k:Cell):∀l:List Cell,insI (ic k) (l.map ic)=(Ji k l).map ic
 |[]=>rfl
 |x::r=>by
  rw[X3];unfold insI Ji;rw[AZ];cases uy k x with
  |true=>rfl
  |false=>rw[aey (by decide),aey (by decide),X3,F7 k r]
def qw:∀l:List Cell,sortI (l.map ic)=(k7 l).map ic
 |[]=>rfl
 |k::r=>by
  rw[X3];unfold sortI k7;rw[qw r,F7]
def vV(h:ic a=ic b):a=b:=by
 unfold ic at h;injection h with h1 h2
 injection h2 with h2 _
 exact abX (abi h1) (abi h2)
def fZ:x∈k7 l↔x∈l:=by
 have h:=iG (x:=ic x) (l:=l.map ic);rw[qw] at h;constructor
 ·intro hx;obtain⟨y,hy,e⟩:=X9.mp (h.mp (X9.mpr ⟨x,hx,rfl⟩));rw[<-vV e];exact hy
 ·intro hx;obtain⟨y,hy,e⟩:=X9.mp (h.mpr (X9.mpr ⟨x,hx,rfl⟩));rw[<-vV e];exact hy
def RiseC(l:List Cell):Prop:=l.Pairwise λa b=>uy a b=true
def xf:Ak (l.map ic)↔RiseC l:=by
 unfold Ak RiseC;rw[aaU];constructor<;>intro h<;>refine abO ?_ h<;>intro a b q
 ·rw[<-AZ];exact q
 ·rw[AZ];exact q
def za{l:List Cell}(h:l.Nodup):(l.map ic).Nodup:=by
 unfold Zb at h⊢;rw[aaU];exact abO (λh z=>h (vV z)) h
def jc{l:List Cell}(h:l.Nodup):RiseC (k7 l):=by
 have:=lO (za h);rw[qw] at this;exact xf.mp this
def oE(ha:RiseC a)(hb:RiseC b)(h:∀x,x∈a↔x∈b):a=b:=by
 have e:=sJ (xf.mpr ha) (xf.mpr hb) λx=>by
  constructor
  ·intro hx;obtain⟨y,hy,rfl⟩:=X9.mp hx;exact X9.mpr ⟨y,(h y).mp hy,rfl⟩
  ·intro hx;obtain⟨y,hy,rfl⟩:=X9.mp hx;exact X9.mpr ⟨y,(h y).mpr hy,rfl⟩
 have inj:∀(a b:List Cell),a.map ic=b.map ic->a=b:=by
  intro a;induction a with
  |nil=>intro b h;cases b with
   |nil=>rfl
   |cons=>simp at h
  |cons x a ih=>intro b h;cases b with
   |nil=>simp at h
   |cons y b=>
    rw[X3,X3] at h;injection h with h1 h2
    rw[vV h1,ih b h2]
 exact inj a b e
def RiseC.nodup(h:RiseC l):l.Nodup:=by
 refine abO ?_ h;intro a b q z;subst z;unfold uy at q;rw[aex rfl] at q;have:=aeC q;omega
def nT:∀ks:List Cell,fJ (ks.map keyOf)=some (ks.map ic)
 |[]=>rfl
 |k::r=>by
  show (match jg (keyOf k),fJ (r.map keyOf) with | some x,some xs=>some (x::xs) | _,_=>none)=_;rw[nT r];rfl
def Ql{ks:List Cell}(h:ks.Nodup)(hl:ks.length<64):iV (ks.map ic)=true:=by
 unfold iV;rw[XS,aeA (za h),aeA hl];simp;intro a b _ z;cases z
def sT(h:ks.Nodup)(hl:ks.length<64):pF [.dct (ks.map keyOf) ds]=aa (cL (k7 ks)):=by
 show (match fJ (ks.map keyOf) with | some ks=>if iV ks&&ks.all (λk=>decide (k.length<=lim)) then aa (D.lst ((sortI ks).map tupI)) else ag | none=>ag)=_;rw[nT];show (if iV (ks.map ic)&&(ks.map ic).all (λk=>decide (k.length<=lim)) then aa (D.lst ((sortI (ks.map ic)).map tupI)) else ag)=_;rw[Ql h hl];have:(ks.map ic).all (λk=>decide (k.length<=lim))=true:=by
  simp;intro a b _;show 2<=lim
  decide
 rw[this,adp,aex rfl,qw,Yu];rfl
def Cn(bd:List Str)(W w:Nat)(a b:Cell):Prop:=∃j,Rb (bw bd W w) a j b
def Cn.refl:Cn bd W w a a:=⟨0,rfl⟩
def A0(hw:Ways w)(ha:On bd.length W a)(h:b∈bw bd W w a):a∈bw bd W w b:=by
 obtain⟨h1,h2,h3⟩:=(fY hw).mp h;exact(fY hw).mpr ⟨ha,by rw[mB];exact h2,h3.symm⟩
def zC(hw:Ways w)(ha:On bd.length W a):∀{j:Nat},Rb (bw bd W w) a j b->On bd.length W b
 |0,h=>by rw[show b=a from h];exact ha
 |j+1, .inl h=>zC hw ha h
 |j+1, .inr ⟨y,_,hy⟩=>((fY hw).mp hy).1
def sH(h:c∈bw bd W w a):∀{j:Nat},Rb (bw bd W w) c j b->Rb (bw bd W w) a (j+1) b
 |0,q=> .inr ⟨a,rfl,by rw[show b=c from q];exact h⟩
 |j+1, .inl q=> .inl (sH h q)
 |j+1, .inr ⟨y,q,hy⟩=> .inr ⟨y,sH h q,hy⟩
def xb(hw:Ways w)(ha:On bd.length W a):∀{j:Nat},Rb (bw bd W w) a j b->Rb (bw bd W w) b j a
 |0,h=>show a=b from(show b=a from h).symm
 |j+1, .inl h=> .inl (xb hw ha h)
 |j+1, .inr ⟨y,q,hy⟩=>sH (A0 hw (zC hw ha q) hy) (xb hw ha q)
def sI(h:Rb (bw bd W w) a i b):∀{j:Nat},Rb (bw bd W w) b j c->Rb (bw bd W w) a (i+j) c
 |0,q=>by rw[show c=b from q];exact h
 |j+1, .inl q=> .inl (sI h q)
 |j+1, .inr ⟨y,q,hy⟩=> .inr ⟨y,sI h q,hy⟩
section
variable{bd:List Str}{W w:Nat}{a b c:Cell}
def Cn.on(hw:Ways w)(ha:On bd.length W a)(h:Cn bd W w a b):On bd.length W b:=let ⟨_,q⟩:=h;zC hw ha q
def Cn.symm(hw:Ways w)(ha:On bd.length W a)(h:Cn bd W w a b):Cn bd W w b a:=let ⟨j,q⟩:=h;⟨j,xb hw ha q⟩
def Cn.trans(h:Cn bd W w a b)(h2:Cn bd W w b c):Cn bd W w a c:=let ⟨i,q⟩:=h;let ⟨j,r⟩:=h2;⟨i+j,sI q r⟩
def Cn.step(h:Cn bd W w a b)(h2:c∈bw bd W w b):Cn bd W w a c:=let ⟨j,q⟩:=h;⟨j+1, .inr ⟨b,q,h2⟩⟩
end
structure IsPatch (bd:List Str) (W w:Nat) (a:Cell) (P:List Cell):Prop where
 rise:RiseC P
 mem:∀x,x∈P↔Cn bd W w a x
def IsPatch.one(h:IsPatch bd W w a P)(h2:IsPatch bd W w a Q):P=Q:=oE h.rise h2.rise λx=>(h.mem x).trans (h2.mem x).symm
def vB{bd:List Str}{ks:List Cell}(hn:ks.Nodup)(gA:∀x∈ks,On bd.length W x):ks.length<=bd.length*W:=by
 rw[<-aZ bd.length W];exact bK hn λx hx=>aA.mpr (gA x hx)
def LM(w:Nat):List Cell->Bool
 |a::b::r=>iw w a b&&LM w (b::r)
 |_=>true
abbrev wr(bd w a b k t:D):bH:=[fz bd,fz w,fz a,fz b,fz k,fz t]
def cW(W1:α->D)(g:α->D):∀(xs:List α),(∀x∈xs,f (W1 x)=aa (some (g x)))->ei f (xs.map W1)=aa (xs.map g)
 |[],_=>rfl
 |x::xs,h=>by
  rw[X3,gg,h x (XU ..),aw,cW W1 g xs λy hy=>h y (XT _ hy)];rfl
def W4(h:Z[i]? =some (fz (.lst ds))):cR (dV i) Z=aa ds:=by
 unfold cR;rw[gh h];rfl
def C7:∀(p:List Cell) (c:Cell),(YW 1 (p.length - 1)).all (λi=>iw w (p.getD (i - 1) c) (p.getD i c))=LM w p
 |[],_=>rfl
 |[_],_=>rfl
 |a::b::r,c=>by
  have ih:=C7 (w:=w) (b::r) c;unfold LM;rw[<-ih];show (YW 1 (r.length+1)).all _=(_&&(YW 1 r.length).all _)
  rw[aa2,aaQ];congr 1;rw[show YW (1+1) r.length=(YW 1 r.length).map (1+ ·) from(List.map_add_range' 1 r.length 1).symm,aaZ];refine abV.mpr ?_;simp only[Yn,aet,acR];constructor
  ·intro h i hi;have:=h i hi;rw[show 1+i - 1=(i - 1)+1 by omega,ab0 1 i] at this;exact this
  ·intro h i hi;have:=h i hi;rw[show 1+i - 1=(i - 1)+1 by omega,ab0 1 i];exact this
def bZ(ks:List Cell)(c:Cell):List Cell:=if c∈ks then ks else ks++[c]
def bg(l:List Cell):List Cell:=l.foldl bZ []
def trues(ks:List Cell):List D:=ks.map λ_=> .bl true
def da:x∈bZ ks c↔x∈ks\/x=c:=by
 unfold bZ;split
 ·rename_i h;exact⟨.inl,λq=>q.elim id λe=>by rw[e];exact h⟩
 ·simp
def kK:∀(l ks:List Cell),(ks.Nodup->(l.foldl bZ ks).Nodup)/\(∀x,x∈l.foldl bZ ks↔x∈ks\/x∈l)/\(l.foldl bZ ks).length<=ks.length+l.length
 |[],ks=>⟨id,λx=>by simp,by simp⟩
 |c::l,ks=>by
  obtain⟨h1,h2,h3⟩:=kK l (bZ ks c);refine⟨λhn=>h1 ?_,λx=>?_,?_⟩
  ·unfold bZ;split
   ·exact hn
   ·rename_i hc;refine YT.mpr ⟨hn,by simp,λy hy z hz e=>?_⟩;have hz:z=c:=by simpa using hz
    rw[e,hz] at hy;exact hc hy
  ·rw[abb,h2 x,da];simp[or_assoc]
  ·rw[abb,X7];have:(bZ ks c).length<=ks.length+1:=by unfold bZ;split<;>simp
   omega
def il:x∈bg l↔x∈l:=by
 unfold bg;rw[(kK l []).2.1 x];simp
def rS(l:List Cell):(bg l).Nodup:=(kK l []).1 ZC
def nV(l:List Cell):(bg l).length<=l.length:=by have:=(kK l []).2.2;simpa[bg] using this
def vi:∀{ks:List (List Key)}{l:List Cell},ks.length=l.length->kH ks (trues l) k (.bl true)=trues l
 |[],[],_=>rfl
 |k'::ks,c::l,h=>by
  show (if k'=k then D.bl true else D.bl true)::kH ks (trues l) k (.bl true)=_;rw[vi (by simpa using h)];split<;>rfl
 |[],_::_,h=>by simp at h
 |_::_,[],h=>by simp at h
def Hm(hl:ks.length<lim):jk (.dct (ks.map keyOf) (trues ks)) (cD c) (.bl true)=some (.dct ((bZ ks c).map keyOf) (trues (bZ ks c))):=by
 have hlen:(trues ks).length=ks.length:=by simp[trues]
 unfold bZ;by_cases h:c∈ks
 ·rw[aex h];show (match iP (cD c) with | some kk=>if (trues ks).length<lim then some (C.dct (cU (ks.map keyOf) (trues ks) kk) (cp (ks.map keyOf) (trues ks) kk (.bl true))) else none | none=>none)=_;rw[iQ];show (if (trues ks).length<lim then some (C.dct (cU (ks.map keyOf) (trues ks) (keyOf c)) (cp (ks.map keyOf) (trues ks) (keyOf c) (.bl true))) else none)=_;rw[aex (by rw[hlen];exact hl)];obtain⟨d,e,_⟩:=oN hlen.symm h;unfold cU cp;rw[e];show some (C.dct (ks.map keyOf) (kH (ks.map keyOf) (trues ks) (keyOf c) (.bl true)))=_;rw[vi (by simp)]
 ·rw[aey h,zy h (by rw[hlen];exact hl)];simp[trues]
abbrev AX(l:List Cell):D:= .dct ((bg l).map keyOf) (trues (bg l))
def DY(hl:l.length<4000):qi [cL l]=aa (AX l):=by
 have e:∀(xs ks:List Cell),ks.length+xs.length<4000->forL (putN 2) (bT [2] (eP 1 (dV 2) (dC (.bl true)))) (xs.map cD) [fz (cL l),some (.ow (.dct (ks.map keyOf) (trues ks))),none]=aa (.nx [fz (cL l),some (.ow (.dct ((xs.foldl bZ ks).map keyOf) (trues (xs.foldl bZ ks)))),none]):=by
  intro xs;induction xs with
  |nil=>intro ks _;rfl
  |cons x xs ih=>
   intro ks hk;rw[X7] at hk;have hle:(bZ ks x).length<=ks.length+1:=by unfold bZ;split<;>simp
   refine(bA rfl ?_).trans (ih (bZ ks x) (by omega));refine(aM (Z':=[fz (cL l),some (.ow (.dct ((bZ ks x).map keyOf) (trues (bZ ks x)))),fz (cD x)]) ?_).trans rfl;show (match jk (.dct (ks.map keyOf) (trues ks)) (cD x) (.bl true) with | some c'=>aa (Out.nx [fz (cL l),some (.ow c'),fz (cD x)]) | none=>ag)=_;rw[Hm (by rw[b6];omega)]
 refine a9 (ak rfl (ak (ck (cM rfl (e l [] (by simpa using hl)))) rfl))
def DZ{ks:List Cell}:eW (.dct (ks.map keyOf) ds)=aa (ks.map cD):=by
 show (if (ks.map keyOf).all (λk=>decide (k.length<=lim)&&k.all o9) then aa ((ks.map keyOf).map tupK) else ag)=_;have:(ks.map keyOf).all (λk=>decide (k.length<=lim)&&k.all o9)=true:=by
  simp only[Yn,X9];rintro k ⟨c,_,rfl⟩;rfl
 rw[aex this,Yu];rfl
def LW(h:a.length+b.length<=4096):kL (cL a) (cL b)=aa (cL (a++b)):=by
 show (if (a.map cD).length+(b.map cD).length<=lim then aa (D.lst (a.map cD++b.map cD)) else ag)=_;rw[aex (by rw[XS,XS,b6];exact h),<-Yx]
def Lf(a b:Nat):lz (.int (a:Int)) (.int (b:Int))=aa (.bl (!(a==b))):=by
 rw[ne_int,mz]
def xR(ks:List Cell)(f:Cell->D):C:= .dct (ks.map keyOf) (ks.map f)
def lQ(ks:List Cell)(f:Cell->D):D:= .dct (ks.map keyOf) (ks.map f)
def dR(f:Cell->D)(x:Cell)(d:D):Cell->D:=λy=>if y=x then d else f y
def m9:∀{ks:List Cell},x∈ks->di (ks.map keyOf) (ks.map f) (keyOf x)=some (f x)
 |y::ks,h=>by
  show (if keyOf y=keyOf x then some (f y) else di (ks.map keyOf) (ks.map f) (keyOf x))=_;by_cases e:y=x
  ·subst e;rw[aex rfl]
  ·rw[aey (λz=>e (ij z))];rcases XY.mp h with q | q
   ·exact aeB q.symm e
   ·exact m9 q
def jA(h:x∈ks):bp (lQ ks f) (cD x)=aa (f x):=by
 show (match ((iP (cD x)).map λk=>di (ks.map keyOf) (ks.map f) k) with | some (some v)=>aa v | _=>ag)=_;rw[iQ];show (match some (di (ks.map keyOf) (ks.map f) (keyOf x)) with | some (some v)=>aa v | _=>ag)=_;rw[m9 h]
def B7(h:x∈ks):getM (lQ ks f) (cD x) v=aa (f x):=by
 show (match ((iP (cD x)).map λk=>di (ks.map keyOf) (ks.map f) k) with | some (some x)=>aa x | some none=>aa v | none=>ag)=_;rw[iQ];show (match some (di (ks.map keyOf) (ks.map f) (keyOf x)) with | some (some x)=>aa x | some none=>aa v | none=>ag)=_;rw[m9 h]
def yI(h:x∉ks):getM (lQ ks f) (cD x) v=aa v:=by
 show (match ((iP (cD x)).map λk=>di (ks.map keyOf) (ks.map f) k) with | some (some x)=>aa x | some none=>aa v | none=>ag)=_;rw[iQ];show (match some (di (ks.map keyOf) (ks.map f) (keyOf x)) with | some (some x)=>aa x | some none=>aa v | none=>ag)=_;rw[gb h]
def xc:∀{ks:List Cell},kH (ks.map keyOf) (ks.map f) (keyOf x) d=ks.map (dR f x d)
 |[]=>rfl
 |y::ks=>by
  show (if keyOf y=keyOf x then d else f y)::kH (ks.map keyOf) (ks.map f) (keyOf x) d=_;rw[xc,X3];congr 1;unfold dR;by_cases e:y=x
  ·subst e;rw[aex rfl,aex rfl]
  ·rw[aey (λz=>e (ij z)),aey e]
def Ki(hl:ks.length<lim):jk (xR ks f) (cD x) d=some (xR (bZ ks x) (dR f x d)):=by
 show (match iP (cD x) with | some kk=>if (ks.map f).length<lim then some (C.dct (cU (ks.map keyOf) (ks.map f) kk) (cp (ks.map keyOf) (ks.map f) kk d)) else none | none=>none)=_;rw[iQ];show (if (ks.map f).length<lim then some (C.dct (cU (ks.map keyOf) (ks.map f) (keyOf x)) (cp (ks.map keyOf) (ks.map f) (keyOf x) d)) else none)=_;rw[aex (by rw[XS];exact hl)];unfold xR bZ cU cp;by_cases h:x∈ks
 ·rw[m9 h,aex h];show some (C.dct (ks.map keyOf) (kH (ks.map keyOf) (ks.map f) (keyOf x) d))=_;rw[xc]
 ·rw[gb h,aey h];show some (C.dct (ks.map keyOf++[keyOf x]) (ks.map f++[d]))=_;have e1:ks.map f=ks.map (dR f x d):=Y9 λy hy=>by
   unfold dR;rw[aey (λz:y=x=>h (z▸hy))]
  have e2:(ks++[x]).map (dR f x d)=ks.map (dR f x d)++[d]:=by
   rw[Yx];congr 1;show [dR f x d x]=[d]
   unfold dR;rw[aex rfl]
  rw[Yx,e1,e2];rfl
def kz(h0:Z[i]? =some (some (.ow (xR ks f))))(hv:δv Z=aa d)(hk:δk Z=aa (cD x))(hl:ks.length<lim):
 eP i δk δv Z=aa (.nx (Z.set i (some (.ow (xR (bZ ks x) (dR f x d)))))):=by
 unfold eP t_;rw[h0];show (δv Z>>=λv=>δk Z>>=λk=>match jk (xR ks f) k v with | some c'=>aa (Out.nx (Z.set i (some (.ow c')))) | none=>ag)=_;rw[hv,aw,hk,aw,Ki hl]
def jC(hg:Wd bd W):cT [brd bd]=aa (cL (az bd.length W)):=by
 have h8:=hg.r8;have w8:=hg.w8;have hm:bd.length*W<=64:=ZW h8 w8;have DI:(Yp bd.length).flatMap (λr=>(dD W r).map cD)=(az bd.length W).map cD:=by
  unfold az;rw[aa3]
 have e:=dU (put:=putN 2) (body:=bT [2] (bM 1 (d2 kL (dV 1) (bB 0 (λZ=>(aC (dA cz (aC (d2 bq (dV 0) (dC (.int 0))) aN)) aN) Z>>=dQ) bQ (dA a6 (aC (dV 3) (aC (dV 0) aN))))))) (λ(k:Nat)=>D.int (k:Int)) (λv6=>[fz (brd bd),fz (.lst v6),none]) (λr=>(dD W r).map cD) (Yp bd.length) []
  (by rw[Yw,DI,XS,aZ];exact hm) λr hr v6 hB=>by
   refine⟨[fz (brd bd),fz (.lst v6),fz (.int (r:Int))],rfl,?_⟩;refine(aM (Z':=[fz (brd bd),fz (.lst (v6++(dD W r).map cD)),fz (.int (r:Int))]) ?_).trans rfl;have hc:bB 0 (λZ=>(aC (dA cz (aC (d2 bq (dV 0) (dC (.int 0))) aN)) aN) Z>>=dQ) bQ (dA a6 (aC (dV 3) (aC (dV 0) aN))) [fz (brd bd),fz (.lst v6),fz (.int (r:Int))]=aa (.lst ((dD W r).map cD)):=by
    refine bU (zJ (hg.len0 rfl) (by omega)) ?_ (by simp[dD,b6];omega);rw[show (dD W r).map cD=(Yp W).map (λk=>cD (r,k)) by simp[dD,Yu]];exact cW (λ(k:Nat)=>D.int (k:Int)) (λk=>cD (r,k)) _ λk _=>rfl
   refine(aS ((aP rfl hc).trans ?_)).trans rfl;show (if v6.length+((dD W r).map cD).length<=lim then aa (D.lst (v6++(dD W r).map cD)) else ag)=_;rw[aex (by rw[X8] at hB;rw[b6];omega)]
 rw[Yw,DI] at e;refine a9 (ak rfl (ak (ck (cM (zJ (Jv rfl) (by omega)) e)) ?_));rfl
def yd(R W w:Nat)(c:Cell)(d e:Int):Bool:=((decide (0<=(c.1:Int)+d)&&decide ((c.1:Int)+d<(R:Int)))&&(decide (0<=(c.2:Int)+e)&&decide ((c.2:Int)+e<(W:Int))))&&((!(d==0&&e==0))&&((w==8)||(d*e==0)))
def k_(R W w:Nat)(c:Cell)(d e:Int):List Cell:=if yd R W w c d e then [(((c.1:Int)+d).toNat,((c.2:Int)+e).toNat)] else []
def lS(R W w:Nat)(c:Cell):List Cell:=[-1,0,1].flatMap λd=>[-1,0,1].flatMap λe=>k_ R W w c d e
def E6(R W w:Nat)(c:Cell)(d e:Int):(k_ R W w c d e).length<=1:=by unfold k_;split<;>simp
def ye(R W w:Nat)(c:Cell):(lS R W w c).length<=9:=by
 have h:=E6 R W w c;simp only[lS,ZD,List.flatMap_nil,X8,YR];have:=h (-1) (-1);have:=h (-1) 0;have:=h (-1) 1;have:=h 0 (-1);have:=h 0 0;have:=h 0 1;have:=h 1 (-1);have:=h 1 0;have:=h 1 1;omega
def BH(h:d.natAbs<=1):d∈[(-1:Int),0,1]:=by
 have:d= -1\/d=0\/d=1:=by omega
 rcases this with rfl | rfl | rfl<;>decide
def BP:∀d∈[(-1:Int),0,1],∀e∈[(-1:Int),0,1],∀w∈[4,8],((!(d==0&&e==0))&&((w==8)||(d*e==0)))=if w=4 then decide (d.natAbs+e.natAbs=1) else decide (max d.natAbs e.natAbs=1):=by decide
def BY{a x:Nat}(h:(x:Int)=a+d):bO a x=d.natAbs:=by
 unfold bO;rcases aa1 a x with q | q
 ·rw[ZR q,Ze q];omega
 ·rw[Z8 q,ZQ q];omega
def Cv{a1 a2 x1 x2:Nat}(h1:(x1:Int)=a1+d)(h2:(x2:Int)=a2+e):iw w (a1,a2) (x1,x2)=if w=4 then decide (d.natAbs+e.natAbs=1) else decide (max d.natAbs e.natAbs=1):=by
 show (if w=4 then decide (bO a1 x1+bO a2 x2=1) else decide (max (bO a1 x1) (bO a2 x2)=1))=_;rw[BY h1,BY h2]
def rF(hw:Ways w)(hc:On R W c):x∈lS R W w c↔On R W x/\iw w c x=true:=by
 obtain⟨c1,c2⟩:=c;obtain⟨x1,x2⟩:=x;have Rk:c1<R:=hc.1;have DD:c2<W:=hc.2;have key:(x1,x2)∈lS R W w (c1,c2)↔∃d∈[(-1:Int),0,1],∃e∈[(-1:Int),0,1],yd R W w (c1,c2) d e=true/\(x1:Int)=c1+d/\(x2:Int)=c2+e:=by
  unfold lS k_;simp only[aaJ];constructor
  ·rintro⟨d,hd,e,he,h⟩;by_cases hb:yd R W w (c1,c2) d e=true
   ·rw[aex hb] at h;have B9:=hb;unfold yd at B9;simp only[Yo,aez] at B9;have h:=Yb.mp h;rw[ac3] at h;exact⟨d,hd,e,he,hb,by omega,by omega⟩
   ·rw[aey hb] at h;cases h
  ·rintro⟨d,hd,e,he,hb,h1,h2⟩;refine⟨d,hd,e,he,?_⟩;rw[aex hb];exact Yb.mpr (by rw[ac3];exact⟨by omega,by omega⟩)
 rw[key];constructor
 ·rintro⟨d,hd,e,he,hb,h1,h2⟩;unfold yd at hb;rw[Yo] at hb;have h3:=hb.1;simp only[Yo,aez] at h3;refine⟨⟨show x1<R by omega,show x2<W by omega⟩,?_⟩;rw[Cv h1 h2,<-BP d hd e he w (by rcases hw with rfl | rfl<;>decide)];exact hb.2
 ·rintro⟨⟨h1,h2⟩,h3⟩;have e1:(x1:Int)=c1+((x1:Int) - c1):=by omega
  have e2:(x2:Int)=c2+((x2:Int) - c2):=by omega
  rw[Cv e1 e2] at h3;have hn:((x1:Int) - c1).natAbs<=1/\((x2:Int) - c2).natAbs<=1:=by
   rcases hw with rfl | rfl
   ·have:=aeC h3;omega
   ·have:=aeC h3;omega
  have m1:=BH hn.1;have m2:=BH hn.2;rw[<-BP _ m1 _ m2 w (by rcases hw with rfl | rfl<;>decide)] at h3;refine⟨_,m1,_,m2,?_,e1,e2⟩;unfold yd;rw[Yo];refine⟨?_,h3⟩;have h1:x1<R:=h1;have h2:x2<W:=h2;rw[<-e1,<-e2];simp only[Yo,aez];omega
section
variable{α:Type}[DecidableEq α]
def m_[DecidableEq β]{g:α->β}(hg:∀a b,g a=g b->a=b):∀{ks:List α}{ds:List D},di (ks.map g) ds (g x)=di ks ds x
 |[],ds=>by cases ds<;>rfl
 |k::ks,[]=>rfl
 |k::ks,d::ds=>by
  show (if g k=g x then some d else di (ks.map g) ds (g x))=if k=x then some d else di ks ds x
  by_cases e:k=x
  ·rw[aex (by rw[e]),aex e]
  ·rw[aey (λz=>e (hg _ _ z)),aey e,m_ hg]
def kE{x:α}:∀{ks:List α}{ds:List D},x∉ks->di ks ds x=none
 |[],ds,_=>by cases ds<;>rfl
 |k::ks,[],_=>rfl
 |k::ks,d::ds,h=>by
  show (if k=x then some d else di ks ds x)=none;rw[aey (λz:k=x=>h (z▸XU)),kE λz=>h (XT _ z)]
def ng:∀{ks:List α}{ds:List D},ks.length=ds.length->x∈ks->∃d,di ks ds x=some d/\(x,d)∈ks.zip ds
 |k::ks,d::ds,hl,h=>by
  by_cases e:k=x
  ·exact⟨d,by show (if k=x then some d else _)=_;rw[aex e],by rw[e];exact XU⟩
  ·obtain⟨d',h1,h2⟩:=ng (ks:=ks) (by simpa using hl) ((XY.mp h).resolve_left λz=>e z.symm);exact⟨d',by show (if k=x then some d else _)=_;rw[aey e,h1],XT _ h2⟩
 |k::ks,[],hl,h=>by simp at hl
structure KOk (W1:α->D) (mk:List α->List D->C):Prop where
 at':∀ks ds x,BM (mk ks ds).d (W1 x)=some (di ks ds x)
 put:∀ks ds x d,x∉ks->ds.length<lim->jk (mk ks ds) (W1 x) d=some (mk (ks++[x]) (ds++[d]))
 ini:∀x,orM (lU (W1 x) (.int 0)) (lT (W1 x) (.int 0))=aa (mk [x] [.int 0])
def kN(n:Nat):Key:= .inl (n:Int)
def nU(a b:Nat)(h:kN a=kN b):a=b:=abi (Sum.inl.inj h)
def nI(n:Nat):D:= .int (n:Int)
abbrev Vc(ks:List Nat)(ds:List D):C:= .dci (ks.map kN) ds
def DU:KOk nI Vc:=
 ⟨λks ds x=>aeE some (m_ nU),λks ds x d h hl=>by
  show (if ds.length<lim then some (C.dci (cU (ks.map kN) ds (kN x)) (cp (ks.map kN) ds (kN x) d)) else none)=_;rw[aex hl];unfold cU cp;rw[m_ nU,kE h];show some (C.dci (ks.map kN++[kN x]) (ds++[d]))=some (C.dci ((ks++[x]).map kN) (ds++[d]));rw[Yx];rfl,λx=>rfl⟩
variable{W1:α->D}{mk:List α->List D->C}
def KOk.inn(k:KOk W1 mk){x:α}(hl:ks.length=ds.length):kF neg (W1 x) (mk ks ds).d=aa (.bl (if neg then !decide (x∈ks) else decide (x∈ks))):=by
 unfold kF;rw[k.at'];by_cases h:x∈ks
 ·obtain⟨d,e,_⟩:=ng hl h;rw[e,aeA h];rfl
 ·rw[kE h,aeD h];rfl
def KOk.ix(k:KOk W1 mk){ds:List D}(hl:ks.length=ds.length)(h:x∈ks):∃d,(x,d)∈ks.zip ds/\bp (mk ks ds).d (W1 x)=aa d:=by
 obtain⟨d,e,h2⟩:=ng hl h;refine⟨d,h2,?_⟩;unfold bp;rw[k.at',e]
def KOk.get(k:KOk W1 mk){x:α}(hl:ks.length=ds.length):(x∈ks->∃d,(x,d)∈ks.zip ds/\getM (mk ks ds).d (W1 x) v=aa d)/\(x∉ks->getM (mk ks ds).d (W1 x) v=aa v):=by
 unfold getM;rw[k.at'];constructor
 ·intro h;obtain⟨d,e,h2⟩:=ng hl h;exact⟨d,h2,by rw[e]⟩
 ·intro h;rw[kE h]
def Ds(nb:α->List α)(a x:α)(n:Nat):Prop:=Rb nb a n x/\∀j,Rb nb a j x->n<=j
def CN{Z:bH}(h0:Z[i]? =some (some (.ow c)))(hv:δv Z=aa d)(hk:δk Z=aa k)(hp:jk c k d=some c'):eP i δk δv Z=aa (.nx (Z.set i (some (.ow c')))):=by
 unfold eP t_;rw[h0];show (δv Z>>=λv=>δk Z>>=λk=>match jk c k v with | some c'=>aa (Out.nx (Z.set i (some (.ow c')))) | none=>ag)=_;rw[hv,aw,hk,aw,hp]
def BA{x:β}:∀{ks:List β}{vs:List Nat},(x,d)∈ks.zip (vs.map nI)->∃n,d=nI n/\(x,n)∈ks.zip vs
 |k::ks,v::vs,h=>by
  rw[X3,Y4] at h;rcases XY.mp h with e | h
  ·cases e;exact⟨v,rfl,XU⟩
  ·obtain⟨n,h1,h2⟩:=BA h;exact⟨n,h1,XT _ h2⟩
 |[],_,h=>by simp at h
 |_::_,[],h=>by simp at h
def qz(W1:α->D)(S:List α)(nb:α->List α)(nr:D):Prop:=∀c∈S,∃d,bp nr (W1 c)=aa d/\orM (lstM d) (eW d)=aa ((nb c).map W1)
def qS{put:D->bH->Option bH}(W1:β->D)(I:σ->bH->Prop)(step:σ->β->σ):∀(xs:List β) (s:σ) (Z:bH),I s Z->(∀s Z,I s Z->∀x∈xs,∃Z1 Z2,put (W1 x) Z=some Z1/\body Z1=aa (.nx Z2)/\I (step s x) Z2)->
 ∃Z',forL put body (xs.map W1) Z=aa (.nx Z')/\I (xs.foldl step s) Z'
 |[],s,Z,h,_=>⟨Z,rfl,h⟩
 |x::xs,s,Z,h,st=>by
  obtain⟨Z1,Z2,e1,e2,h2⟩:=st s Z h x (XU ..);obtain⟨Z',e3,h3⟩:=qS W1 I step xs (step s x) Z2 h2 λs Z h y hy=>st s Z h y (XT _ hy);exact⟨Z',by rw[X3,bA e1 e2,e3],h3⟩
end
def JD(a b c d:Int):lz (.tup [.int a, .int b]) (.tup [.int c, .int d])=aa (.bl (!(a==c&&b==d))):=by
 show (match lu 6 (.tup [.int a, .int b]) (.tup [.int c, .int d]) with | some b=>aa (D.bl (!b)) | none=>ag)=_;have:lu 6 (.tup [.int a, .int b]) (.tup [.int c, .int d])=some (a==c&&b==d):=by
  rw[show (6:Nat)=5+1 from rfl,IH];unfold oR;rw[kf];cases h:(a==c)
  ·rfl
  ·unfold oR;rw[kf];cases h2:(b==d)
   ·rfl
   ·rfl
 rw[this]
def Iu(hg:Wd bd W)(hd:d∈[(-1:Int),0,1])(he:e∈[(-1:Int),0,1])(hl:(v6++(k_ bd.length W w c d e).map cD).length<=64):
 Fb [fz (brd bd),fz (cD c),fz (iW w),some (.ow (.lst v6)),fz (.int d),fz (.int e),none,none,none]=aa (.nx [fz (brd bd),fz (cD c),fz (iW w),some (.ow (.lst (v6++(k_ bd.length W w c d e).map cD))),fz (.int d),none,none,none,none]):=by
 have tO:fN (Ae (λi j=>decide (i<=j)) (λi j=>decide (i<j)) (dC (.int 0)) (dV 6) (dA cz (aC (dV 0) aN))) (Ae (λi j=>decide (i<=j)) (λi j=>decide (i<j)) (dC (.int 0)) (dV 7) (dA cz (aC (d2 bq (dV 0) (dC (.int 0))) aN))) [fz (brd bd),fz (cD c),fz (iW w),some (.ow (.lst v6)),fz (.int d),fz (.int e),fz (.int ((c.1:Int)+d)),fz (.int ((c.2:Int)+e)),none]=
  aa (.bl ((decide (0<=(c.1:Int)+d)&&decide ((c.1:Int)+d<(bd.length:Int)))&&(decide (0<=(c.2:Int)+e)&&decide ((c.2:Int)+e<(W:Int))))):=Iz (OL rfl (Jv rfl)) (OL rfl (hg.len0 rfl))
 have US: -(2:Int) ^ 64<d/\d<2 ^ 64:=by
  simp only[XY,Y3,or_false] at hd;rcases hd with rfl | rfl | rfl<;>decide
 have ht:∀{b8:Bool},lr (dj (dV 8)) (lr (dH (d2 lz (dA a6 (aC (dV 4) (aC (dV 5) aN))) (dA a6 (aC (dC (.int 0)) (aC (dC (.int 0)) aN))))) (tJ (dH (d2 ly (dV 2) (dC (.int 8)))) (dH (d2 ly (d2 iO (dV 4) (dV 5)) (dC (.int 0)))))) [fz (brd bd),fz (cD c),fz (iW w),some (.ow (.lst v6)),fz (.int d),fz (.int e),fz (.int ((c.1:Int)+d)),fz (.int ((c.2:Int)+e)),fz (.bl b8)]=
  aa (b8&&((!(d==0&&e==0))&&((w==8)||(d*e==0)))):=λ{b8}=>
  vM (iM rfl) (vM (gB ((aP rfl rfl).trans (JD ..))) (Fo (gB ((aP rfl rfl).trans ((eq_int _ _).trans (by rw[show ((w:Int)==8)=(w==8) from mz w 8])))) (gB ((aP ((aP rfl rfl).trans (gq (.inl US))) rfl).trans (eq_int _ _)))))
 have pre:∀{Z':bH},iI (lr (dj (dV 8)) (lr (dH (d2 lz (dA a6 (aC (dV 4) (aC (dV 5) aN))) (dA a6 (aC (dC (.int 0)) (aC (dC (.int 0)) aN))))) (tJ (dH (d2 ly (dV 2) (dC (.int 8)))) (dH (d2 ly (d2 iO (dV 4) (dV 5)) (dC (.int 0))))))) (oH 3 (dA a6 (aC (dV 6) (aC (dV 7) aN)))) dE [fz (brd bd),fz (cD c),fz (iW w),some (.ow (.lst v6)),fz (.int d),fz (.int e),fz (.int ((c.1:Int)+d)),fz (.int ((c.2:Int)+e)),fz (.bl ((decide (0<=(c.1:Int)+d)&&decide ((c.1:Int)+d<(bd.length:Int)))&&(decide (0<=(c.2:Int)+e)&&decide ((c.2:Int)+e<(W:Int)))))]=aa (.nx Z')->
  Fb [fz (brd bd),fz (cD c),fz (iW w),some (.ow (.lst v6)),fz (.int d),fz (.int e),none,none,none]=aa (.nx (fgt [5,6,7,8] Z')):=λ{Z'} h=>
  aM (ak rfl
   (ak rfl (ak ((aS tO).trans rfl) h)))
 have Ib:yd bd.length W w c d e=(((decide (0<=(c.1:Int)+d)&&decide ((c.1:Int)+d<(bd.length:Int)))&&(decide (0<=(c.2:Int)+e)&&decide ((c.2:Int)+e<(W:Int))))&&((!(d==0&&e==0))&&((w==8)||(d*e==0)))):=rfl;have ht:=ht (b8:=(decide (0<=(c.1:Int)+d)&&decide ((c.1:Int)+d<(bd.length:Int)))&&(decide (0<=(c.2:Int)+e)&&decide ((c.2:Int)+e<(W:Int))));rw[<-Ib] at ht;by_cases hb:yd bd.length W w c d e=true
 ·have B9:=hb;rw[Ib] at B9;simp only[Yo,aez] at B9;have eg:(k_ bd.length W w c d e).map cD=[.tup [.int ((c.1:Int)+d), .int ((c.2:Int)+e)]]:=by
   unfold k_;rw[aex hb];show [D.tup [.int ((((c.1:Int)+d).toNat:Nat):Int), .int ((((c.2:Int)+e).toNat:Nat):Int)]]=_;rw[abe (by omega),abe (by omega)]
  rw[eg] at hl⊢;rw[hb] at ht;refine(pre (Z':=[fz (brd bd),fz (cD c),fz (iW w),some (.ow (.lst (v6++[.tup [.int ((c.1:Int)+d), .int ((c.2:Int)+e)]]))),fz (.int d),fz (.int e),fz (.int ((c.1:Int)+d)),fz (.int ((c.2:Int)+e)),fz (.bl ((decide (0<=(c.1:Int)+d)&&decide ((c.1:Int)+d<(bd.length:Int)))&&(decide (0<=(c.2:Int)+e)&&decide ((c.2:Int)+e<(W:Int)))))]) (fP ht ?_)).trans rfl;show (if v6.length<lim then aa (Out.nx [fz (brd bd),fz (cD c),fz (iW w),some (.ow (.lst (v6++[.tup [.int ((c.1:Int)+d), .int ((c.2:Int)+e)]]))),fz (.int d),fz (.int e),fz (.int ((c.1:Int)+d)),fz (.int ((c.2:Int)+e)),_]) else ag)=_;rw[aex (by rw[X8] at hl;rw[b6];simp at hl;omega)]
 ·have eg:(k_ bd.length W w c d e).map cD=[]:=by
   unfold k_;rw[aey hb];rfl
  rw[eg,YR];rw[aaA.mpr hb] at ht;exact(pre (fO ht rfl)).trans rfl
def wc{W w:Nat}(hg:Wd bd W):dI [brd bd,cD c,iW w]=aa (cL (lS bd.length W w c)):=by
 have tO:∀d∈[(-1:Int),0,1],∀v6:List D,(v6++([(-1:Int),0,1].flatMap λe=>(k_ bd.length W w c d e).map cD)).length<=64->
  forL (putN 5) Fb ([(-1:Int),0,1].map D.int) [fz (brd bd),fz (cD c),fz (iW w),some (.ow (.lst v6)),fz (.int d),none,none,none,none]=
   aa (.nx [fz (brd bd),fz (cD c),fz (iW w),some (.ow (.lst (v6++([(-1:Int),0,1].flatMap λe=>(k_ bd.length W w c d e).map cD)))),fz (.int d),none,none,none,none]):=λd hd v6 hl=>
  dU D.int (λv6=>[fz (brd bd),fz (cD c),fz (iW w),some (.ow (.lst v6)),fz (.int d),none,none,none,none]) (λe=>(k_ bd.length W w c d e).map cD) [(-1:Int),0,1] v6 hl λe he RU B_=>⟨_,rfl,Iu hg hd he B_⟩
 have DI:([(-1:Int),0,1].flatMap λd=>[(-1:Int),0,1].flatMap λe=>(k_ bd.length W w c d e).map cD)=(lS bd.length W w c).map cD:=by
  unfold lS;simp only[aa3]
 have Pz:=dU (put:=putN 4) (body:=bT [4,5,6,7,8] (cw (putN 5) (pU (dA a6 (aC (d1 A2 (dC (.int 1))) (aC (dC (.int 0)) (aC (dC (.int 1)) aN))))) Fb)) D.int (λv6=>[fz (brd bd),fz (cD c),fz (iW w),some (.ow (.lst v6)),none,none,none,none,none]) (λd=>[(-1:Int),0,1].flatMap λe=>(k_ bd.length W w c d e).map cD) [(-1:Int),0,1] []
  (by rw[Yw,DI,XS];have:=ye bd.length W w c;omega) λd hd v6 hl=>⟨_,rfl,(aM (cM rfl (tO d hd v6 hl))).trans rfl⟩
 rw[Yw,DI] at Pz;refine a9 (ak rfl (ak (ck (cM rfl Pz)) ?_));rfl
def HB(hg:Wd bd W)(hx:On bd.length W x)(hb:dV b Z=aa (brd bd))(hi:dV i Z=aa (cD x)):d2 nN (d2 bq (dV b) (d2 bq (dV i) (dC (.int 0)))) (d2 bq (dV i) (dC (.int 1))) Z=aa (sg (lt bd x)):=by
 have h1:d2 bq (dV i) (dC (.int 0)) Z=aa (.int (x.1:Int)):=(aP hi rfl).trans P7.1;have h2:d2 bq (dV i) (dC (.int 1)) Z=aa (.int (x.2:Int)):=(aP hi rfl).trans P7.2;refine(aP ((aP hb h1).trans (Gf hx.1)) h2).trans (CT ?_);rw[(hg.rows _ (getD_mem hx.1)).len];exact hx.2
def Gi(a b:Cell):HT.lexLt (ic a) (ic b)=uy a b:=by
 show (if (a.1:Int)=(b.1:Int) then(if (a.2:Int)=(b.2:Int) then false else decide ((a.2:Int)<(b.2:Int))) else decide ((a.1:Int)<(b.1:Int)))=_;unfold uy;by_cases h1:a.1=b.1
 ·rw[aex (by omega),aex h1];by_cases h2:a.2=b.2
  ·rw[aex (by omega),aeD (by omega)]
  ·rw[aey (by omega),aeG];omega
 ·rw[aey (by omega),aey h1,aeG];omega
def Gj(a b:Cell):Ow (cD a) (cD b)=some (uy a b):=by
 show some (HT.lexLt (ic a) (ic b))=_;rw[Gi]
def IP(a b:Cell):AI (cD a) (cD b)=aa (.bl (uy a b)):=by
 unfold AI;rw[Gj]
def cq(a b:Cell):Cell:=if uy b a then b else a
def Jy(a b:Cell):y0 [cD a,cD b]=aa (cD (cq a b)):=by
 show (match Ow (cD b) (cD a) with | some r=>aa (if r then cD b else cD a) | none=>ag)=_;rw[Gj];unfold cq;cases uy b a<;>rfl
def rank(W:Nat)(x:Cell):Nat:=x.1*W+x.2
def dS(ha:On R W a)(hb:On R W b):uy a b=true↔rank W a<rank W b:=by
 unfold uy rank;have h1:=ha.2;have h2:=hb.2;by_cases h:a.1=b.1
 ·rw[aex h,aez,h];omega
 ·rw[aey h,aez];constructor
  ·intro q;have:(a.1+1)*W<=b.1*W:=aa8 _ q;rw[aej,aeh] at this;omega
  ·intro q;refine Classical.byContradiction λz=>?_;have:(b.1+1)*W<=a.1*W:=aa8 _ (by omega);rw[aej,aeh] at this;omega
def mV(ha:On R W a)(hb:On R W b)(h:rank W a=rank W b):a=b:=by
 have n1:¬uy a b=true:=λz=>by have:=(dS ha hb).mp z;omega
 have n2:¬uy b a=true:=λz=>by have:=(dS hb ha).mp z;omega
 unfold uy at n1 n2;obtain⟨a1,a2⟩:=a;obtain⟨b1,b2⟩:=b;simp only at n1 n2;by_cases h1:a1=b1
 ·rw[aex h1,aez] at n1;rw[aex h1.symm,aez] at n2;rw[ac3];exact⟨h1,by omega⟩
 ·rw[aey h1,aez] at n1;rw[aey (YJ h1),aez] at n2;omega
def Kl(ha:On R W a):rank W a<R*W:=by
 unfold rank;have:(a.1+1)*W<=R*W:=aa8 _ ha.1;rw[aej,aeh] at this;have:=ha.2;omega
def D4(a b:Cell):cq a b=a\/cq a b=b:=by unfold cq;split;exact .inr rfl;exact .inl rfl
def D3(ha:On R W a)(hb:On R W b):rank W (cq a b)<=rank W a/\rank W (cq a b)<=rank W b:=by
 unfold cq;by_cases h:uy b a=true
 ·rw[aex h];have:=(dS hb ha).mp h;omega
 ·rw[aey h];have:¬rank W b<rank W a:=λz=>h ((dS hb ha).mpr z);omega
def Bt{f g:α->Nat}:∀{l:List α},(∀x∈l,f x<=g x)->(l.map f).sum<=(l.map g).sum
 |[],_=>X4 _
 |a::l,h=>by
  rw[X3,X3,aac,aac];exact adm (h a (XU ..)) (Bt λx hx=>h x (XT _ hx))
def HI{f g:α->Nat}:∀{l:List α},(∀x∈l,f x<=g x)->(∃x∈l,f x<g x)->(l.map f).sum<(l.map g).sum
 |[],_,⟨x,hx,_⟩=>by cases hx
 |a::l,h,⟨x,hx,hl⟩=>by
  rw[X3,X3,aac,aac];have h1:=h a (XU ..);have h2:=Bt λx hx=>h x (XT _ hx);rcases XY.mp hx with rfl | hx
  ·omega
  ·have:=HI (λx hx=>h x (XT _ hx)) ⟨x,hx,hl⟩;omega
section
variable{bd:List Str}{W w:Nat}
def dP(s:(Cell->Cell)×Bool)(p:Cell×Cell):(Cell->Cell)×Bool:=
 if s.1 p.1=s.1 p.2 then s else(λz=>if z=p.2 then cq (s.1 p.1) (s.1 p.2) else if z=p.1 then cq (s.1 p.1) (s.1 p.2) else s.1 z,true)
structure Lab (bd:List Str) (W w:Nat) (L:Cell->Cell):Prop where
 on:∀x,On bd.length W x->On bd.length W (L x)
 cn:∀x,On bd.length W x->Cn bd W w x (L x)
 le:∀x,On bd.length W x->rank W (L x)<=rank W x
def mu(R W:Nat)(L:Cell->Cell):Nat:=((az R W).map λx=>rank W (L x)).sum
def Aj(bd:List Str)(W w:Nat)(p:Cell×Cell):Prop:=On bd.length W p.1/\On bd.length W p.2/\Cn bd W w p.1 p.2
def yX(hw:Ways w){p:Cell×Cell}(hp:Aj bd W w p)(h:Lab bd W w s.1):
 Lab bd W w (dP s p).1/\mu bd.length W (dP s p).1<=mu bd.length W s.1/\((dP s p).2=s.2/\(dP s p).1=s.1/\s.1 p.1=s.1 p.2\/(dP s p).2=true/\mu bd.length W (dP s p).1<mu bd.length W s.1):=by
 obtain⟨h1,h2,h3⟩:=hp;unfold dP;by_cases e:s.1 p.1=s.1 p.2
 ·rw[aex e];exact⟨h,X4 _, .inl ⟨rfl,rfl,e⟩⟩
 ·rw[aey e];have o1:=h.on _ h1;have o2:=h.on _ h2;have hle:=D3 o1 o2;have UX:=D4 (s.1 p.1) (s.1 p.2);have gA:On bd.length W (cq (s.1 p.1) (s.1 p.2)):=by rcases UX with q | q<;>rw[q]<;>assumption
  have c1:Cn bd W w p.1 (cq (s.1 p.1) (s.1 p.2)):=by
   rcases UX with q | q<;>rw[q]
   ·exact h.cn _ h1
   ·exact h3.trans (h.cn _ h2)
  have c2:Cn bd W w p.2 (cq (s.1 p.1) (s.1 p.2)):=(h3.symm hw h1).trans c1;have U8:∀z,On bd.length W z->rank W (if z=p.2 then cq (s.1 p.1) (s.1 p.2) else if z=p.1 then cq (s.1 p.1) (s.1 p.2) else s.1 z)<=rank W (s.1 z):=λz hz=>by
   by_cases z1:z=p.2
   ·rw[aex z1,z1];exact hle.2
   ·rw[aey z1];by_cases z2:z=p.1
    ·rw[aex z2,z2];exact hle.1
    ·rw[aey z2];exact X4 _
  have lt':mu bd.length W (λz=>if z=p.2 then cq (s.1 p.1) (s.1 p.2) else if z=p.1 then cq (s.1 p.1) (s.1 p.2) else s.1 z)<mu bd.length W s.1:=by
   refine HI (λx hx=>U8 x (aA.mp hx)) ?_;have dm:rank W (s.1 p.1)≠rank W (s.1 p.2):=λz=>e (mV o1 o2 z);by_cases q:rank W (s.1 p.1)<rank W (s.1 p.2)
   ·refine⟨p.2,aA.mpr h2,?_⟩;show rank W (if p.2=p.2 then _ else _)<_;rw[aex rfl];omega
   ·refine⟨p.1,aA.mpr h1,?_⟩;by_cases q2:p.1=p.2
    ·rw[q2] at dm;exact aeB rfl dm
    ·show rank W (if p.1=p.2 then _ else if p.1=p.1 then _ else _)<_;rw[aey q2,aex rfl];omega
  refine⟨⟨λx hx=>?_,λx hx=>?_,λx hx=>Yy (U8 x hx) (h.le x hx)⟩,YY lt', .inr ⟨rfl,lt'⟩⟩
  ·show On _ _ (if x=p.2 then _ else if x=p.1 then _ else s.1 x);split
   ·exact gA
   ·split
    ·exact gA
    ·exact h.on x hx
  ·show Cn _ _ _ _ (if x=p.2 then _ else if x=p.1 then _ else s.1 x);by_cases z1:x=p.2
   ·rw[aex z1,z1];exact c2
   ·rw[aey z1];by_cases z2:x=p.1
    ·rw[aex z2,z2];exact c1
    ·rw[aey z2];exact h.cn x hx
def Le(hw:Ways w):∀(ps:List (Cell×Cell)) (s:(Cell->Cell)×Bool),(∀p∈ps,Aj bd W w p)->Lab bd W w s.1->
 Lab bd W w (ps.foldl dP s).1/\mu bd.length W (ps.foldl dP s).1<=mu bd.length W s.1/\((ps.foldl dP s).2=s.2/\(ps.foldl dP s).1=s.1/\(∀p∈ps,s.1 p.1=s.1 p.2)\/(ps.foldl dP s).2=true/\mu bd.length W (ps.foldl dP s).1<mu bd.length W s.1)
 |[],s,_,h=>⟨h,X4 _, .inl ⟨rfl,rfl,λp hp=>by cases hp⟩⟩
 |p::ps,s,hp,h=>by
  obtain⟨a1,a2,a3⟩:=yX hw (hp p (XU ..)) h;obtain⟨b1,b2,b3⟩:=Le hw ps (dP s p) (λq hq=>hp q (XT _ hq)) a1;rw[abb];refine⟨b1,Yy b2 a2,?_⟩;rcases b3 with⟨c1,c2,c3⟩ | ⟨c1,c2⟩
  ·rcases a3 with⟨d1,d2,d3⟩ | ⟨d1,d2⟩
   ·refine .inl ⟨c1.trans d1,c2.trans d2,λq hq=>?_⟩;rcases XY.mp hq with rfl | hq
    ·exact d3
    ·rw[<-d2];exact c3 q hq
   ·exact .inr ⟨c1.trans d1,by rw[c2];exact d2⟩
  ·exact .inr ⟨c1,YD c2 a2⟩
def pD(p:Cell×Cell):D:= .tup [cD p.1,cD p.2]
def Js(bd:List Str)(W w:Nat)(ps:List (Cell×Cell))(s:(Cell->Cell)×Bool)(x8 x9 Q6:Option Sl):bH:=[fz (brd bd),fz (iW w),some (.ow (xR (az bd.length W) λx=>cD (s.1 x))),fz (.lst (ps.map pD)),none,none,none,fz (.bl s.2),x8,x9,Q6]
def vv(h:x∈ks):bZ ks x=ks:=aex h
def Ju(hg:Wd bd W)(h1:On bd.length W p.1)(h2:On bd.length W p.2):
 U7 (Js bd W w ps s (fz (cD p.1)) (fz (cD p.2)) none)=aa (.nx (Js bd W w ps (dP s p) none none none)):=by
 have hm:bd.length*W<=64:=ZW hg.r8 hg.w8;have K4:(az bd.length W).length<lim:=by rw[aZ,b6];omega
 have m1:=aA.mpr h1;have m2:=aA.mpr h2;have i1:∀{Q6:Option Sl},d2 bp (dV 2) (dV 8) (oT (Js bd W w ps s (fz (cD p.1)) (fz (cD p.2)) Q6))=aa (cD (s.1 p.1)):=(aP (y:=cD p.1) rfl rfl).trans (jA m1);have i2:∀{Q6:Option Sl},d2 bp (dV 2) (dV 9) (oT (Js bd W w ps s (fz (cD p.1)) (fz (cD p.2)) Q6))=aa (cD (s.1 p.2)):=(aP (y:=cD p.2) rfl rfl).trans (jA m2);have ht:EE (dH (d2 lz (d2 bp (dV 2) (dV 8)) (d2 bp (dV 2) (dV 9)))) (Js bd W w ps s (fz (cD p.1)) (fz (cD p.2)) none)=aa (!decide (s.1 p.1=s.1 p.2)):=sX (gB ((aP i1 i2).trans (Qh _ _)));unfold dP;by_cases e:s.1 p.1=s.1 p.2
 ·rw[aeA e] at ht;rw[aex e];exact(aM (fO ht rfl)).trans rfl
 ·rw[aeD e] at ht;rw[aey e];have Om:Fp (dA y0 (aC (d2 bp (dV 2) (dV 8)) (aC (d2 bp (dV 2) (dV 9)) aN))) (Js bd W w ps s (fz (cD p.1)) (fz (cD p.2)) none)=aa (cD (cq (s.1 p.1) (s.1 p.2))):=
   yn ((bD (aK i1 (aK i2 rfl))).trans (Jy _ _)) (IL _)
  refine(aM (fP ht (ak ((aS Om).trans rfl) (ak ((kz rfl rfl rfl K4).trans rfl) (ak ((kz rfl rfl rfl (by rw[vv m1];exact K4)).trans rfl) rfl))))).trans ?_;rw[vv m1,vv m2];unfold Js;have ef:dR (dR (λx=>cD (s.1 x)) p.1 (cD (cq (s.1 p.1) (s.1 p.2)))) p.2 (cD (cq (s.1 p.1) (s.1 p.2)))=λx=>cD (if x=p.2 then cq (s.1 p.1) (s.1 p.2) else if x=p.1 then cq (s.1 p.1) (s.1 p.2) else s.1 x):=by
   funext x;unfold dR;by_cases z1:x=p.2
   ·rw[aex z1,aex z1]
   ·rw[aey z1,aey z1];by_cases z2:x=p.1
    ·rw[aex z2,aex z2]
    ·rw[aey z2,aey z2]
  rw[ef];rfl
end
def Gv(h:δ Z=aa c):pE i δ Z=aa (.nx (Z.set i (some (.ow c)))):=by
 unfold pE;rw[h];rfl
def v9(h:δ Z=aa (cL l)):cR δ Z=aa (l.map cD):=by
 show (δ Z>>=lstM)=_;rw[h];rfl
def eh(R W:Nat):RiseC (az R W):=by
 unfold RiseC az dD;rw[List.pairwise_flatMap];constructor
 ·intro r _;rw[aaU];exact List.pairwise_lt_range.imp λh=>by show (if _ then _ else _)=true;rw[aex rfl,aez];exact h
 ·refine List.pairwise_lt_range.imp λ{a b} h x hx y hy=>?_;obtain⟨i,_,rfl⟩:=X9.mp hx;obtain⟨j,_,rfl⟩:=X9.mp hy;show (if a=b then _ else decide (a<b))=true;rw[aey (by omega),aez];exact h
section
variable{bd:List Str}{W w:Nat}
def yh(bd:List Str)(x y:Cell):Bool:=uy x y&&decide (lt bd x=lt bd y)
def Iq(bd:List Str)(x y:Cell):List D:=if yh bd x y then [pD (x,y)] else []
def bR(bd:List Str)(W w:Nat):List (Cell×Cell):=(az bd.length W).flatMap λx=>((lS bd.length W w x).filter (yh bd x)).map λy=>(x,y)
def lF(hw:Ways w):p∈bR bd W w↔On bd.length W p.1/\On bd.length W p.2/\iw w p.1 p.2=true/\lt bd p.1=lt bd p.2/\uy p.1 p.2=true:=by
 unfold bR yh;simp only[aaJ,X9,YZ,Yo,aez];constructor
 ·rintro⟨x,hx,y,⟨hy,h1,h2⟩,rfl⟩;have hx:=aA.mp hx;have:=(rF hw hx).mp hy;exact⟨hx,this.1,this.2,h2,h1⟩
 ·rintro⟨h1,h2,h3,h4,h5⟩;exact⟨p.1,aA.mpr h1,p.2,⟨(rF hw h1).mpr ⟨h2,h3⟩,h5,h4⟩,rfl⟩
def sx(hw:Ways w)(h:p∈bR bd W w):Aj bd W w p:=by
 obtain⟨h1,h2,h3,h4,_⟩:=(lF hw).mp h;exact⟨h1,h2,Cn.refl.step ((fY hw).mpr ⟨h2,h3,h4.symm⟩)⟩
def yg(x:Cell):∀l:List Cell,l.flatMap (Iq bd x)=((l.filter (yh bd x)).map λy=>(x,y)).map pD
 |[]=>rfl
 |y::l=>by
  rw[ZD,yg x l];unfold Iq;by_cases h:yh bd x y=true
  ·rw[aex h,abA h];rfl
  ·rw[aey h,abB h];rfl
def EW(bd:List Str)(w:Nat)(o:Option Sl)(v6:List D)(x4 x5 x6:Option Sl):bH:=[fz (brd bd),fz (iW w),o,some (.ow (.lst v6)),x4,x5,x6,none,none,none,none]
def Kd(hg:Wd bd W)(hx:On bd.length W x)(hy:On bd.length W y)(hl:(v6++Iq bd x y).length<=600):
 RC (EW bd w o v6 (fz (cD x)) (fz (cD y)) none)=aa (.nx (EW bd w o (v6++Iq bd x y) (fz (cD x)) none none)):=by
 have ht:lr (dH (d2 AI (dV 4) (dV 5))) (dH (d2 ly (dV 6) (d2 nN (d2 bq (dV 0) (d2 bq (dV 5) (dC (.int 0)))) (d2 bq (dV 5) (dC (.int 1)))))) (EW bd w o v6 (fz (cD x)) (fz (cD y)) (fz (sg (lt bd x))))=aa (yh bd x y):=
  vM (gB ((aP rfl rfl).trans (IP _ _))) (gB ((aP rfl (HB hg hy rfl rfl)).trans (KW _ _)))
 have h6:d2 nN (d2 bq (dV 0) (d2 bq (dV 4) (dC (.int 0)))) (d2 bq (dV 4) (dC (.int 1))) (EW bd w o v6 (fz (cD x)) (fz (cD y)) none)=aa (sg (lt bd x)):=HB hg hx rfl rfl;unfold Iq at hl⊢;by_cases hb:yh bd x y=true
 ·rw[aex hb] at hl⊢;rw[hb] at ht;refine(aM (Z':=EW bd w o (v6++[pD (x,y)]) (fz (cD x)) (fz (cD y)) (fz (sg (lt bd x)))) (ak ((aS h6).trans rfl) (fP ht ?_))).trans rfl;show (if v6.length<lim then aa (Out.nx (EW bd w o (v6++[pD (x,y)]) (fz (cD x)) (fz (cD y)) (fz (sg (lt bd x))))) else ag)=_;rw[aex (by rw[X8] at hl;rw[b6];simp at hl;omega)]
 ·rw[aey hb,YR];rw[aaA.mpr hb] at ht;exact(aM (ak ((aS h6).trans rfl) (fO ht rfl))).trans rfl
def rA(f:α->List β)(h:∀a,(f a).length<=n):∀l:List α,(l.flatMap f).length<=n*l.length
 |[]=>YC _
 |a::l=>by
  rw[ZD,X8,X7,Nat.mul_add,Nat.mul_one];have:=h a;have:=rA f h l;omega
def Kc(hg:Wd bd W)(hw:Ways w):forL (putN 4) (bT [4,5,6] (cw (putN 5) (cR (aD 3 dI (aC (dV 0) (aC (dV 4) (aC (dV 1) aN))))) RC)) ((az bd.length W).map cD) (EW bd w o [] none none none)=aa (.nx (EW bd w o ((bR bd W w).map pD) none none none)):=by
 have hm:bd.length*W<=64:=ZW hg.r8 hg.w8;have DI:(az bd.length W).flatMap (λx=>(lS bd.length W w x).flatMap (Iq bd x))=(bR bd W w).map pD:=by
  unfold bR;rw[aa3];congr 1;funext x;exact yg x _
 have XF:((bR bd W w).map pD).length<=576:=by
  rw[XS];have:=rA (λx=>((lS bd.length W w x).filter (yh bd x)).map λy=>(x,y)) (λx=>by rw[XS];exact Yy (Zp ..) (ye ..)) (az bd.length W);rw[aZ] at this;exact Yy this (by omega)
 have:=dU (put:=putN 4) (body:=bT [4,5,6] (cw (putN 5) (cR (aD 3 dI (aC (dV 0) (aC (dV 4) (aC (dV 1) aN))))) RC)) (B:=600) cD (λv6=>EW bd w o v6 none none none) (λx=>(lS bd.length W w x).flatMap (Iq bd x)) (az bd.length W) [] (by rw[Yw,DI];omega) λx hx v6 hl=>by
  have hx:=aA.mp hx;refine⟨EW bd w o v6 (fz (cD x)) none none,rfl,(aM (Z':=EW bd w o (v6++(lS bd.length W w x).flatMap (Iq bd x)) (fz (cD x)) none none) (cM (ds:=(lS bd.length W w x).map cD) ?_ ?_)).trans rfl⟩
  ·exact v9 ((au rfl rfl).trans (wc hg))
  ·exact dU cD (λv6=>EW bd w o v6 (fz (cD x)) none none) (Iq bd x) _ v6 hl λy hy RU B_=>⟨_,rfl,Kd hg hx ((rF hw hx).mp hy).1 B_⟩
 rw[Yw,DI] at this;exact this
def Qc(bd:List Str)(W w:Nat)(s:(Cell->Cell)×Bool)(x3:Option Sl):bH:=[fz (brd bd),fz (iW w),some (.ow (xR (az bd.length W) λx=>cD (s.1 x))),x3,none,none,none,fz (.bl s.2),none,none,none]
def Jt(hg:Wd bd W)(hw:Ways w)(h3:x3=some (.ow (.lst ((bR bd W w).map pD)))\/x3=fz (.lst ((bR bd W w).map pD)))(h:Lab bd W w L):
 Ti (Qc bd W w (L,b) x3)=aa (.nx (Qc bd W w ((bR bd W w).foldl dP (L,false)) (fz (.lst ((bR bd W w).map pD))))):=by
 have hf:=(kh (put:=pB [8,9]) pD (λs=>Js bd W w (bR bd W w) s none none none) dP (λs=>Lab bd W w s.1) (bR bd W w) (L,false) h λs hs p hp=>by
  obtain⟨q1,q2,q3⟩:=sx hw hp;exact⟨(yX hw (sx hw hp) hs).1,_,rfl,Ju hg q1 q2⟩).2
 refine(aM (Z':=Js bd W w (bR bd W w) ((bR bd W w).foldl dP (L,false)) none none none) (ak rfl ?_)).trans rfl;rcases h3 with rfl | rfl
 ·exact cM rfl hf
 ·exact cM rfl hf
def yT(hg:Wd bd W)(hw:Ways w):∀(fuel:Nat) (L:Cell->Cell) (x3:Option Sl),x3=some (.ow (.lst ((bR bd W w).map pD)))\/x3=fz (.lst ((bR bd W w).map pD))->Lab bd W w L->mu bd.length W L+2<=fuel->
 ∃L',Lab bd W w L'/\(∀p∈bR bd W w,L' p.1=L' p.2)/\eT (dj (dV 7)) Ti fuel (Qc bd W w (L,true) x3)=aa (.nx (Qc bd W w (L',false) (fz (.lst ((bR bd W w).map pD)))))
 |0,_,_,_,_,hf=>by omega
 |1,_,_,_,_,hf=>by omega
 |fuel+2,L,x3,h3,h,hf=>by
  have hp:=Jt (b:=true) hg hw h3 h;obtain⟨a1,a2,a3⟩:=Le hw (bR bd W w) (L,false) (λp hp=>sx hw hp) h;rcases a3 with⟨b1,b2,b3⟩ | ⟨b1,b2⟩
  ·have e:(bR bd W w).foldl dP (L,false)=(L,false):=abX b2 b1;rw[e] at hp;exact⟨L,h,b3,nh (iM rfl) hp (tf (iM rfl))⟩
  ·have e:(bR bd W w).foldl dP (L,false)=(((bR bd W w).foldl dP (L,false)).1,true):=abX rfl b1;obtain⟨L',c1,c2,c3⟩:=yT hg hw (fuel+1) _ _ (.inr rfl) a1 (by have b2:mu bd.length W _<mu bd.length W L:=b2;omega);rw[e] at hp;exact⟨L',c1,c2,nh (iM rfl) hp c3⟩
def Least(bd:List Str)(W w:Nat)(x m:Cell):Prop:=Cn bd W w x m/\∀z,Cn bd W w x z->rank W m<=rank W z
def sV(hw:Ways w){L:Cell->Cell}(h:∀p∈bR bd W w,L p.1=L p.2)(hx:On bd.length W x):∀{j:Nat}{y:Cell},Rb (bw bd W w) x j y->L x=L y
 |0,y,h0=>by rw[show y=x from h0]
 |j+1,y,h0=>by
  rcases h0 with q | ⟨z,q1,q2⟩
  ·exact sV hw h hx q
  ·rw[sV hw h hx q1];have hz:=zC hw hx q1;obtain⟨y1,y2,y3⟩:=(fY hw).mp q2;by_cases dW:rank W z<rank W y
   ·exact h (z,y) ((lF hw).mpr ⟨hz,y1,y2,y3.symm,(dS hz y1).mpr dW⟩)
   ·have dm:rank W z≠rank W y:=λe=>by
     have:=mV hz y1 e;subst this;rw[M9 hw] at y2;cases y2
    exact(h (y,z) ((lF hw).mpr ⟨y1,hz,by rw[mB];exact y2,y3,(dS y1 hz).mpr (by omega)⟩)).symm
def rp(hg:Wd bd W)(hw:Ways w):∃L:Cell->Cell,(∀x,On bd.length W x->Least bd W w x (L x))/\fQ [brd bd,iW w]=aa (lQ (az bd.length W) λx=>cD (L x)):=by
 have hm:bd.length*W<=64:=ZW hg.r8 hg.w8;have l0:Lab bd W w id:=⟨λx hx=>hx,λx hx=>Cn.refl,λx hx=>X4 _⟩
 have XI:mu bd.length W id<=4032:=by
  unfold mu;have:=Bt (l:=az bd.length W) λx hx=>by
   have:=Kl (aA.mp hx);show rank W x<=63;omega
  refine Yy this ?_;rw[List.map_const',List.sum_replicate_nat,aZ];have:bd.length*W*63<=64*63:=aa8 _ hm;omega
 obtain⟨L,h1,h2,h3⟩:=yT hg hw lim id (some (.ow (.lst ((bR bd W w).map pD)))) (.inl rfl) l0 (by rw[b6];omega);refine⟨L,λx hx=>⟨h1.cn x hx,λz hz=>?_⟩,?_⟩
 ·obtain⟨j,q⟩:=hz;rw[sV hw h2 hx q];exact h1.le z (zC hw hx q)
 ·have DL:((az bd.length W).map keyOf).Nodup:=by
   exact(eh _ _).nodup.map (f:=keyOf) λa b h z=>h (ij z)
  have qY:(aC (bB 0 (cR (aD 1 cT (aC (dV 0) aN))) bQ (dA a6 (aC (dV 0) (aC (dV 0) aN)))) aN) [fz (brd bd),fz (iW w),none,none,none,none,none,none,none,none,none]=aa [.lst ((az bd.length W).map λx=>pD (x,x))]:=by
   refine aK (bU ?_ (cW cD (λx=>pD (x,x)) _ λx _=>rfl) (by rw[XS,aZ,b6];omega)) rfl;exact v9 ((au rfl rfl).trans (jC hg))
  have SM:∀l:List Cell,lI (l.map λx=>pD (x,x))=some (l.map keyOf,l.map cD):=λl=>by
   induction l with
   |nil=>rfl
   |cons a l ih=>
    show (match iP (cD a),lI (l.map λx=>pD (x,x)) with | some kk,some q=>some (kk::q.1,cD a::q.2) | _,_=>none)=_;rw[ih];rfl
  refine a9 (ak (Z':=[fz (brd bd),fz (iW w),some (.ow (xR (az bd.length W) cD)),none,none,none,none,none,none,none,none]) ?_ (ak rfl (ak (ck (cM ?_ (Kc hg hw))) (ak rfl (ak (Z':=Qc bd W w (L,false) (fz (.lst ((bR bd W w).map pD)))) ?_ rfl)))))
  ·refine Gv ?_;refine(aeE (· >>=BX) qY).trans ?_;show (match lI ((az bd.length W).map λx=>pD (x,x)) with | some q=>if q.1.Nodup/\q.2.length<=lim then aa (C.dct q.1 q.2) else ag | none=>ag)=_;rw[SM];show (if ((az bd.length W).map keyOf).Nodup/\((az bd.length W).map cD).length<=lim then aa (C.dct ((az bd.length W).map keyOf) ((az bd.length W).map cD)) else ag)=_;rw[aex ⟨DL,by rw[XS,aZ,b6];omega⟩];rfl
  ·exact v9 ((au rfl rfl).trans (jC hg))
  ·exact ck h3
end
def O6:((az 8 8).map λc=>gF (ic c)).Nodup:=by decide+kernel
def nY:∀{l:List α},(l.map f).Nodup->∀a∈l,∀b∈l,f a=f b->a=b
 |x::l,h,a,ha,b,hb,e=>by
  rw[X3,Yz] at h;by_cases h1:a=x
  ·by_cases h2:b=x
   ·rw[h1,h2]
   ·have hb:b∈l:=(XY.mp hb).resolve_left h2;exact aeB (X9.mpr ⟨b,hb,by rw[<-h1];exact e.symm⟩) h.1
  ·have ha:a∈l:=(XY.mp ha).resolve_left h1;by_cases h2:b=x
   ·exact aeB (X9.mpr ⟨a,ha,by rw[<-h2];exact e⟩) h.1
   ·exact nY h.2 a ha b ((XY.mp hb).resolve_left h2) e
def IW(hR:R<=8)(hW:W<=8){l:List Cell}(hn:l.Nodup)(gA:∀x∈l,On R W x):(l.map λc=>gF (ic c)).Nodup:=by
 have h8:∀x∈l,x∈az 8 8:=λx hx=>aA.mpr ⟨by have:=(gA x hx).1;omega,by have:=(gA x hx).2;omega⟩;rw[Zb,aaU];refine List.Pairwise.imp_of_mem (λ{a b} ha hb h z=>h ?_) hn;exact nY O6 a (h8 a ha) b (h8 b hb) z
def NP{ks:List Cell}{f:Cell->D}{x:Cell}{d:D}:cU (ks.map keyOf) (ks.map f) (keyOf x)=(bZ ks x).map keyOf/\cp (ks.map keyOf) (ks.map f) (keyOf x) d=(bZ ks x).map (dR f x d):=by
 unfold bZ cU cp;by_cases h:x∈ks
 ·rw[m9 h,aex h];exact⟨rfl,xc⟩
 ·rw[gb h,aey h];have e1:ks.map f=ks.map (dR f x d):=Y9 λy hy=>by
   unfold dR;rw[aey (λz:y=x=>h (z▸hy))]
  have e2:(ks++[x]).map (dR f x d)=ks.map (dR f x d)++[d]:=by
   rw[Yx];congr 1;show [dR f x d x]=[d]
   unfold dR;rw[aex rfl]
  exact⟨by rw[Yx];rfl,by rw[e2,<-e1];rfl⟩
def rL:∀(l ks:List Cell),cZ (ks.map keyOf) (trues ks) (l.map keyOf) (trues l)=((l.foldl bZ ks).map keyOf,trues (l.foldl bZ ks))
 |[],ks=>rfl
 |x::l,ks=>by
  show cZ (cU (ks.map keyOf) (trues ks) (keyOf x)) (cp (ks.map keyOf) (trues ks) (keyOf x) (.bl true)) (l.map keyOf) (trues l)=_;have h:=NP (ks:=ks) (f:=λ_=>D.bl true) (x:=x) (d:= .bl true);have e:dR (λ_=>D.bl true) x (.bl true)=λ_=>D.bl true:=by
   funext y;unfold dR;split<;>rfl
  rw[e] at h;rw[show trues ks=ks.map (λ_=>D.bl true) from rfl,h.1,h.2];exact rL l (bZ ks x)
def FH{l ks:List Cell}(h:ks.Nodup):(l.foldl bZ ks).Nodup:=(kK l ks).1 h
section
open Classical
variable{bd:List Str}{W w:Nat}
noncomputable def bu(bd:List Str)(W w:Nat)(m:Cell):List Cell:=(az bd.length W).filter λx=>decide (Cn bd W w m x)
noncomputable def cj(bd:List Str)(W w:Nat)(l:List Cell):List Cell:=l.filter λx=>decide (Least bd W w x x)
def ez(hw:Ways w){m:Cell}(hm:On bd.length W m):IsPatch bd W w m (bu bd W w m):=by
 refine⟨(eh _ _).filter _,λx=>?_⟩;unfold bu;rw[YZ,aA,aez];exact⟨λh=>h.2,λh=>⟨h.on hw hm,h⟩⟩
def Least.on(hw:Ways w){x m:Cell}(hx:On bd.length W x)(h:Least bd W w x m):On bd.length W m:=h.1.on hw hx
def Least.move(hw:Ways w){x y m:Cell}(hx:On bd.length W x)(h:Least bd W w x m)(hy:Cn bd W w x y):Least bd W w y m:=
 ⟨(hy.symm hw hx).trans h.1,λz hz=>h.2 z (hy.trans hz)⟩
def Least.one(hw:Ways w){x m n:Cell}(hx:On bd.length W x)(h:Least bd W w x m)(h2:Least bd W w x n):m=n:=
 mV (h.on hw hx) (h2.on hw hx) (aau (h.2 n h2.1) (h2.2 m h.1))
def Least.self(hw:Ways w){x m:Cell}(hx:On bd.length W x)(h:Least bd W w x m):Least bd W w m m:=h.move hw hx h.1
variable(L:Cell->Cell)
def uS(hw:Ways w):∃L:Cell->Cell,∀x,On bd.length W x->Least bd W w x (L x):=by
 have h:∀x,∃m,On bd.length W x->Least bd W w x m:=λx=>by
  by_cases hx:On bd.length W x
  ·have hP:=ez hw hx;cases hp:bu bd W w x with
   |nil=>have:=(hP.mem x).mpr Cn.refl;rw[hp] at this;cases this
   |cons m r=>
    rw[hp] at hP;have hm:=(hP.mem m).mp (XU ..);refine⟨m,λ_=>⟨hm,λz hz=>?_⟩⟩;rcases XY.mp ((hP.mem z).mpr hz) with rfl | W2
    ·exact X4 _
    ·exact YY ((dS (hm.on hw hx) (hz.on hw hx)).mp ((YU.mp hP.rise).1 z W2))
  ·exact⟨x,λz=>aeB z hx⟩
 exact⟨λx=>adO (h x),λx=>ac8 (h x)⟩
noncomputable def qb(L:Cell->Cell)(s:List Cell):Cell->D:=λk=>cL (s.filter λx=>decide (L x=k))
noncomputable def U_(L:Cell->Cell)(s:List Cell):C:=xR (bg (s.map L)) (qb L s)
noncomputable def Ih(bd:List Str)(W w:Nat)(L:Cell->Cell)(s:List Cell)(x4:Option Sl):bH:=[fz (brd bd),fz (iW w),fz (lQ (az bd.length W) λx=>cD (L x)),some (.ow (U_ L s)),x4]
def BV:∀l:List Cell,kJ (l.map cD)=true
 |[]=>rfl
 |x::l=>by
  show (qN (cD x)&&kJ (l.map cD))=true;rw[BV l];rfl
def IA{δ:DE}{Z:bH}{l:List Cell}(h1:kT Z=true)(h:δ (oT Z)=aa (cL l)):KR δ Z=aa (cL l):=by
 unfold KR;rw[aex h1,h];show (if qN (cL l) then aa (cL l) else ag)=_;rw[aex (show qN (cL l)=true from BV l)]
def AY(l:List Cell)(x:Cell):bg (l++[x])=bZ (bg l) x:=by
 unfold bg;rw[aeu];rfl
def FO{i:Nat}{Z:bH}{δk:DE}{ks:List Cell}{f:Cell->D}{k:Cell}(h1:dV i Z=aa (lQ ks f))(h2:δk Z=aa (cD k)):ju (dV i) δk (dA cK aN) Z=aa (if k∈ks then f k else .lst []):=by
 unfold ju;rw[h1,aw];show (δk Z>>=λk=>dA cK aN Z>>=λv=>getM (lQ ks f) k v)=_;rw[h2,aw];show getM (lQ ks f) (cD k) (.lst [])=_;by_cases h:k∈ks
 ·rw[B7 h,aex h]
 ·rw[yI h,aey h]
def Jx(hg:Wd bd W){L:Cell->Cell}{s:List Cell}{x:Cell}(hx:On bd.length W x)(hs:s.length<64):Tn (Ih bd W w L s (fz (cD x)))=aa (.nx (Ih bd W w L (s++[x]) none)):=by
 have hl:(bg (s.map L)).length<lim:=by
  have:=nV (s.map L);rw[XS] at this;rw[b6];omega
 have i1:∀{o:Option Sl},d2 bp (dV 2) (dV 4) [fz (brd bd),fz (iW w),fz (lQ (az bd.length W) λx=>cD (L x)),o,fz (cD x)]=aa (cD (L x)):=(aP (x:=lQ (az bd.length W) λx=>cD (L x)) (y:=cD x) rfl rfl).trans (jA (aA.mpr hx));have hv:KR (d2 kL (ju (dV 3) (d2 bp (dV 2) (dV 4)) (dA cK aN)) (dA cK (aC (dV 4) aN))) (Ih bd W w L s (fz (cD x)))=aa (cL ((s.filter λy=>decide (L y=L x))++[x])):=by
  refine IA rfl ?_;have g:ju (dV 3) (d2 bp (dV 2) (dV 4)) (dA cK aN) (oT (Ih bd W w L s (fz (cD x))))=aa (cL (s.filter λy=>decide (L y=L x))):=by
   refine(FO (i:=3) (ks:=bg (s.map L)) (f:=qb L s) (k:=L x) rfl i1).trans ?_;by_cases h:L x∈bg (s.map L)
   ·rw[aex h];rfl
   ·rw[aey h];have:s.filter (λy=>decide (L y=L x))=[]:=List.filter_eq_nil_iff.mpr λy hy=>by
     rw[aez];exact λz=>h (il.mpr (X9.mpr ⟨y,hy,z⟩))
    rw[this];rfl
  exact(aP (y:=cL [x]) g rfl).trans (LW (by have:=Zp (λy=>decide (L y=L x)) s;show _+1<=4096;omega))
 refine(aM ((kz (ks:=bg (s.map L)) (f:=qb L s) (x:=L x) rfl hv i1 hl).trans rfl)).trans ?_;have ef:dR (qb L s) (L x) (cL ((s.filter λy=>decide (L y=L x))++[x]))=qb L (s++[x]):=by
  funext k;unfold dR qb;rw[ael];by_cases e:k=L x
  ·subst e;rw[aex rfl,abA (by simp),abS]
  ·rw[aey e,abB (by simp;exact λz=>e z.symm),abS,YR]
 show aa (Out.nx [fz (brd bd),fz (iW w),fz (lQ (az bd.length W) λx=>cD (L x)),some (.ow (xR (bZ (bg (s.map L)) (L x)) (dR (qb L s) (L x) (cL ((s.filter λy=>decide (L y=L x))++[x]))))),none])=_;rw[ef,<-AY];unfold Ih U_;rw[Yx];rfl
def Ce(hg:Wd bd W){L:Cell->Cell}:∀(l s:List Cell),(∀x∈l,On bd.length W x)->s.length+l.length<=64->forL (putN 4) Tn (l.map cD) (Ih bd W w L s none)=aa (.nx (Ih bd W w L (s++l) none))
 |[],s,_,_=>by rw[YR];rfl
 |x::l,s,h,hl=>by
  rw[X7] at hl;have:=Ce hg (L:=L) l (s++[x]) (λy hy=>h y (XT _ hy)) (by rw[X8];show _+1+_<=_;omega);rw[aaV] at this;exact(bA rfl (Jx hg (h x (XU ..)) (by omega))).trans this
noncomputable def jP(bd:List Str)(W w:Nat):D:= .lst ((cj bd W w (az bd.length W)).map λm=>cL (bu bd W w m))
def tQ(hg:Wd bd W)(hs:bd.length*W<64)(hw:Ways w):cH [brd bd,iW w]=aa (jP bd W w):=by
 have hm:bd.length*W<=64:=ZW hg.r8 hg.w8;obtain⟨L,hL,eL⟩:=rp hg hw;have hlen:(az bd.length W).length<=64:=by rw[aZ];omega
 have lp:=Ce (w:=w) (L:=L) hg (az bd.length W) [] (λx hx=>aA.mp hx) (by simpa using hlen);rw[Yw] at lp;have ES:(bg ((az bd.length W).map L)).length<64:=by
  have:=nV ((az bd.length W).map L);rw[XS,aZ] at this;omega
 have La:k7 (bg ((az bd.length W).map L))=cj bd W w (az bd.length W):=by
  refine oE (jc (rS _)) ((eh _ _).filter _) λk=>?_;rw[fZ,il,X9];unfold cj;rw[YZ,aez];constructor
  ·rintro⟨x,hx,rfl⟩;have hx:=aA.mp hx;exact⟨aA.mpr ((hL x hx).on hw hx),(hL x hx).self hw hx⟩
  ·rintro⟨hk,h⟩;exact⟨k,hk,(hL k (aA.mp hk)).one hw (aA.mp hk) h⟩
 have ME:∀k∈cj bd W w (az bd.length W),qb L (az bd.length W) k=cL (bu bd W w k):=λk hk=>by
  unfold cj at hk;rw[YZ,aez] at hk;have Wg:=aA.mp hk.1;unfold qb bu;congr 1;refine List.filter_congr λx hx=>?_;have hx:=aA.mp hx;rw[aeG];constructor
  ·intro e;have:=(hL x hx).1;rw[e] at this;exact this.symm hw hx
  ·intro e;exact(hL x hx).one hw hx (hk.2.move hw Wg e)
 refine a9 (ak (Z':=[fz (brd bd),fz (iW w),fz (lQ (az bd.length W) λx=>cD (L x)),none,none]) ((aS (d:=lQ (az bd.length W) λx=>cD (L x)) ((au (ds:=[brd bd,iW w]) rfl rfl).trans eL)).trans rfl) (ak (Z':=Ih bd W w L [] none) rfl (ak (Z':=Ih bd W w L (az bd.length W) none) (ck (cM (ds:=(az bd.length W).map cD) (v9 ((au (ds:=[brd bd]) rfl rfl).trans (jC hg))) lp)) ?_)));refine bh (bU (ds:=(cj bd W w (az bd.length W)).map cD) (ys:=(cj bd W w (az bd.length W)).map λm=>cL (bu bd W w m)) (v9 ?_) (cW cD (λm=>cL (bu bd W w m)) _ λm hm=>?_) ?_)
 ·rw[<-La];exact(bD (xs:=[lQ (bg ((az bd.length W).map L)) (qb L (az bd.length W))]) rfl).trans (sT (rS _) ES)
 ·rw[gU,<-ME m hm];have Wq:m∈bg ((az bd.length W).map L):=by rw[<-fZ,La];exact hm
  have:d2 bp (dV 4) (dV 0) (fz (cD m)::frz 3 (Ih bd W w L (az bd.length W) none))=aa (qb L (az bd.length W) m):=(aP (x:=lQ (bg ((az bd.length W).map L)) (qb L (az bd.length W))) (y:=cD m) rfl rfl).trans (jA Wq);rw[this];rfl
 ·rw[XS,b6];have:=Zp (λx=>decide (Least bd W w x x)) (az bd.length W);unfold cj;omega
def pY(hg:Brd bd W)(hs:bd.length*W<64)(hw:Ways w):cH [brd bd,iW w]=aa (jP bd W w):=tQ hg.wd hs hw
end
section
open Classical
variable{bd:List Str}{W w:Nat}
noncomputable def C8(bd:List Str)(W w:Nat)(s:List Cell):List D:=(cj bd W w s).map λm=>cL (bu bd W w m)
noncomputable def LO(bd:List Str)(W w:Nat)(s ks:List Cell)(x4 x5:Option Sl):bH:=[fz (brd bd),fz (iW w),some (.ow (.lst (C8 bd W w s))),some (.ow (.dct (ks.map keyOf) (trues ks))),x4,x5]
structure Seen (bd:List Str) (W w:Nat) (s ks:List Cell):Prop where
 nd:ks.Nodup
 on:∀y∈ks,On bd.length W y
 mem:∀y,y∈ks↔∃m∈cj bd W w s,Cn bd W w m y
def HX(h0:Z[i]? =some (some (.ow (.dct (ks.map keyOf) (trues ks)))))(hd:δ Z=aa (AX l))(hz:ks.length+l.length<=4096)(hh:ks=[]->((bg l).map λc=>gF (ic c)).Nodup):
 Hx i δ Z=aa (.nx (Z.set i (some (.ow (.dct (((bg l).foldl bZ ks).map keyOf) (trues ((bg l).foldl bZ ks))))))):=by
 unfold Hx t_;rw[h0];show (δ Z>>=λd=>match HW (ks.map keyOf) (trues ks) d with | some c'=>aa (Out.nx (Z.set i (some (.ow c')))) | none=>ag)=_;rw[hd,aw];have:HW (ks.map keyOf) (trues ks) (AX l)=some (.dct (((bg l).foldl bZ ks).map keyOf) (trues ((bg l).foldl bZ ks))):=by
  show (match fJ ((bg l).map keyOf) with | some ns=>if (trues ks).length+(trues (bg l)).length<=lim/\((ks.map keyOf).isEmpty=true->(ns.map gF).Nodup) then some (C.dct (cZ (ks.map keyOf) (trues ks) ((bg l).map keyOf) (trues (bg l))).1 (cZ (ks.map keyOf) (trues ks) ((bg l).map keyOf) (trues (bg l))).2) else none | none=>none)=_;rw[nT];show (if (trues ks).length+(trues (bg l)).length<=lim/\((ks.map keyOf).isEmpty=true->(((bg l).map ic).map gF).Nodup) then some (C.dct (cZ (ks.map keyOf) (trues ks) ((bg l).map keyOf) (trues (bg l))).1 (cZ (ks.map keyOf) (trues ks) ((bg l).map keyOf) (trues (bg l))).2) else none)=_;have c1:(trues ks).length+(trues (bg l)).length<=lim:=by
   have:=nV l;unfold trues;rw[XS,XS,b6];omega
  have c2:(ks.map keyOf).isEmpty=true->(((bg l).map ic).map gF).Nodup:=λz=>by
   rw[Yu];exact hh (by cases ks with | nil=>rfl | cons _ _=>cases z)
  rw[aex ⟨c1,c2⟩,rL]
 rw[this]
def zW(hg:Brd bd W)(hs:bd.length*W<64)(hw:Ways w)(hx:On bd.length W x)(h0:dV 0 Z=aa (brd bd))(h1:dV 1 Z=aa (iW w))(h4:dV 4 Z=aa (cD x)):
 dA pF (aC (aD 3 dJ (aC (dV 0) (aC (dV 4) (aC (dV 1) aN)))) aN) Z=aa (cL (bu bd W w x)):=by
 obtain⟨k,ks,ps,q1,q2,q3⟩:=sU hg hw hx;have e1:aD 3 dJ (aC (dV 0) (aC (dV 4) (aC (dV 1) aN))) Z=aa (KP ks ps):=(au (aK h0 (aK h4 (aK h1 rfl))) rfl).trans q3;refine(bD (aK e1 rfl)).trans ((sT q1.nd (abk (vB q1.nd q2) hs)).trans ?_);have:k7 ks=bu bd W w x:=IsPatch.one ⟨jc q1.nd,λx=>fZ.trans (q1.last x)⟩ (ez hw hx);rw[this]
def iT(s:List Cell)(x:Cell):cj bd W w (s++[x])=if Least bd W w x x then cj bd W w s++[x] else cj bd W w s:=by
 unfold cj;rw[ael];by_cases h:Least bd W w x x
 ·rw[aex h,abA (by rw[aez];exact h),abS]
 ·rw[aey h,abB (by rw[aez];exact h),abS,YR]
def Io(hg:Brd bd W)(hs:bd.length*W<64)(hw:Ways w){L:Cell->Cell}(hL:∀x,On bd.length W x->Least bd W w x (L x))(e:s++x::r=az bd.length W)(h:Seen bd W w s ks):
 ∃ks',Seen bd W w (s++[x]) ks'/\RV (LO bd W w s ks (fz (cD x)) none)=aa (.nx (LO bd W w (s++[x]) ks' none none)):=by
 have hx:On bd.length W x:=aA.mp (by rw[<-e];simp);have F0:=eh bd.length W;rw[<-e] at F0;have Ro:∀y∈s,On bd.length W y:=λy hy=>aA.mp (by rw[<-e];simp[hy]);have PL:∀y∈r,On bd.length W y:=λy hy=>aA.mp (by rw[<-e];simp[hy]);have IX:∀y∈s,rank W y<rank W x:=λy hy=>(dS (Ro y hy) hx).mp ((adV.mp F0).2.2 y hy x (XU ..));have Mo:∀y∈r,rank W x<rank W y:=λy hy=>(dS hx (PL y hy)).mp ((YU.mp (adV.mp F0).2.1).1 y hy);have Rl:ks.length<=64:=by have:=vB h.nd h.on;omega
 have Ca:s.length<64:=by
  have:=aeE ab7 e;rw[aZ,X8,X7] at this;omega
 have ht:EE (dH (d2 (kF true) (dV 4) (dV 3))) (LO bd W w s ks (fz (cD x)) none)=aa (!decide (x∈ks)):=
  sX (gB ((aP rfl rfl).trans (vW (by simp[trues]))))
 by_cases hl:Least bd W w x x
 ·have Ig:x∉ks:=λz=>by
   obtain⟨m,hm,hc⟩:=(h.mem x).mp z;unfold cj at hm;rw[YZ,aez] at hm;have h1:=IX m hm.1;have h2:=hl.2 m (hc.symm hw (Ro m hm.1));omega
  rw[aeD Ig] at ht;have hP:=ez hw hx;have Mn:∀y∈bu bd W w x,On bd.length W y:=λy hy=>((hP.mem y).mp hy).on hw hx;have Sa:(bu bd W w x).length<=64:=by have:=vB hP.rise.nodup Mn;omega
  have DI:(C8 bd W w s).length<lim:=by
   unfold C8;rw[XS,b6];have:=Zp (λx=>decide (Least bd W w x x)) s;unfold cj;omega
  refine⟨(bg (bu bd W w x)).foldl bZ ks,⟨FH h.nd,λy hy=>?_,λy=>?_⟩,?_⟩
  ·rcases((kK (bg (bu bd W w x)) ks).2.1 y).mp hy with q | q
   ·exact h.on y q
   ·exact Mn y (il.mp q)
  ·rw[(kK (bg (bu bd W w x)) ks).2.1 y,il,h.mem y,iT,aex hl,hP.mem y];constructor
   ·rintro(⟨m,hm,hc⟩ | hc)
    ·exact⟨m,Yr.mpr (.inl hm),hc⟩
    ·exact⟨x,by simp,hc⟩
   ·rintro⟨m,hm,hc⟩;rcases Yr.mp hm with hm | hm
    ·exact .inl ⟨m,hm,hc⟩
    ·rw[Yb.mp hm] at hc;exact .inr hc
  ·have ef:C8 bd W w (s++[x])=C8 bd W w s++[cL (bu bd W w x)]:=by
    unfold C8;rw[iT,aex hl,Yx];rfl
   refine(aM (Z':=[fz (brd bd),fz (iW w),some (.ow (.lst (C8 bd W w s++[cL (bu bd W w x)]))),some (.ow (.dct (((bg (bu bd W w x)).foldl bZ ks).map keyOf) (trues ((bg (bu bd W w x)).foldl bZ ks)))),fz (cD x),fz (cL (bu bd W w x))]) (fP ht (ak ((aS (zW hg hs hw hx rfl rfl rfl)).trans rfl) (ak (Z':=[fz (brd bd),fz (iW w),some (.ow (.lst (C8 bd W w s++[cL (bu bd W w x)]))),some (.ow (.dct (ks.map keyOf) (trues ks))),fz (cD x),fz (cL (bu bd W w x))]) ?_ ?_)))).trans ?_
   ·show (if (C8 bd W w s).length<lim then aa (Out.nx [fz (brd bd),fz (iW w),some (.ow (.lst (C8 bd W w s++[cL (bu bd W w x)]))),some (.ow (.dct (ks.map keyOf) (trues ks))),fz (cD x),fz (cL (bu bd W w x))]) else ag)=_;rw[aex DI]
   ·exact(HX rfl ((au rfl rfl).trans (DY (by omega))) (by omega) (λ_=>IW hg.r8 hg.w8 (rS _) λy hy=>Mn y (il.mp hy))).trans rfl
   ·unfold LO;rw[ef];rfl
 ·have hm:=hL x hx;have dm:L x≠x:=λz=>hl (by rw[z] at hm;exact hm);have dW:rank W (L x)<rank W x:=by
   have h1:=hm.2 x Cn.refl;have h2:rank W (L x)≠rank W x:=λz=>dm (mV (hm.on hw hx) hx z);omega
  have Ws:L x∈s:=by
   have:L x∈s++x::r:=by rw[e];exact aA.mpr (hm.on hw hx)
   rcases Yr.mp this with q | q
   ·exact q
   ·rcases XY.mp q with q | q
    ·exact aeB q dm
    ·have:=Mo _ q;omega
  have Ig:x∈ks:=(h.mem x).mpr ⟨L x,by unfold cj;rw[YZ,aez];exact⟨Ws,hm.self hw hx⟩,hm.1.symm hw hx⟩;rw[aeA Ig] at ht;refine⟨ks,⟨h.nd,h.on,λy=>by rw[iT,aey hl];exact h.mem y⟩,?_⟩;have ef:C8 bd W w (s++[x])=C8 bd W w s:=by
   unfold C8;rw[iT,aey hl]
  refine(aM (fO ht rfl)).trans ?_;unfold LO;rw[ef];rfl
def BL(hg:Brd bd W)(hs:bd.length*W<64)(hw:Ways w){L:Cell->Cell}(hL:∀x,On bd.length W x->Least bd W w x (L x)):∀(r s ks:List Cell),s++r=az bd.length W->Seen bd W w s ks->
 ∃ks',forL (putN 4) RV (r.map cD) (LO bd W w s ks none none)=aa (.nx (LO bd W w (az bd.length W) ks' none none))
 |[],s,ks,e,h=>by
  rw[YR] at e;exact⟨ks,by rw[e];rfl⟩
 |x::r,s,ks,e,h=>by
  obtain⟨Ou,h1,e1⟩:=Io hg hs hw hL e h;obtain⟨Ov,e2⟩:=BL hg hs hw hL r (s++[x]) Ou (by rw[aaV];exact e) h1;exact⟨Ov,(bA rfl e1).trans e2⟩
def jd(hg:Brd bd W)(hs:bd.length*W<64)(hw:Ways w):fj [brd bd,iW w]=aa (jP bd W w):=by
 obtain⟨L,hL⟩:=uS hw;obtain⟨ks,e⟩:=BL hg hs hw hL (az bd.length W) [] [] rfl ⟨ZC,(λy hy=>(by cases hy)),(λy=>⟨λz=>(by cases z),λ⟨m,hm,_⟩=>(by cases hm)⟩)⟩;refine a9 (ak rfl (ak rfl (ak (ck (cM (v9 ((au rfl rfl).trans (kI hg))) e)) rfl)))
end
structure NumOk (R W:Nat) (Ps:List (List Cell)) (ks:List Cell) (f:Cell->Nat):Prop where
 nd:ks.Nodup
 on:∀y∈ks,On R W y
 num:∀y∈ks,∃P,Ps[f y]? =some P/\y∈P
def Vf:DS:=bT [4] (eP 1 (dV 4) (dV 2))
def Ry(Ps:List (List Cell))(ks:List Cell)(f:Cell->Nat)(x2 x3 x4:Option Sl):bH:=[fz (.lst (Ps.map cL)),some (.ow (xR ks λy=> .int (f y:Int))),x2,x3,x4]
def nA:x∈bZ ks x:=da.mpr (.inr rfl)
def Li(hm:R*W<=64){i:Nat}(hP:Ps[i]? =some P)(gA:∀y∈P,On R W y):∀(l ks:List Cell) (f:Cell->Nat),(∀y∈l,y∈P)->NumOk R W Ps ks f->
 ∃ks' f',NumOk R W Ps ks' f'/\(∀y∈ks,y∈ks')/\(∀y∈l,y∈ks')/\forL (putN 4) Vf (l.map cD) (Ry Ps ks f (fz (.int (i:Int))) x3 none)=aa (.nx (Ry Ps ks' f' (fz (.int (i:Int))) x3 none))
 |[],ks,f,_,h=>⟨ks,f,h,λy hy=>hy,(λy hy=>(by cases hy)),rfl⟩
 |x::l,ks,f,hl,h=>by
  have hx:=hl x (XU ..);have Rl:ks.length<=64:=by
   have h1:=bK h.nd λy hy=>aA.mpr (h.on y hy);rw[aZ] at h1;omega
  have h1:NumOk R W Ps (bZ ks x) (λy=>if y=x then i else f y):=by
   refine⟨(kK [x] ks).1 h.nd,λy hy=>?_,λy hy=>?_⟩
   ·rcases da.mp hy with q | q
    ·exact h.on y q
    ·rw[q];exact gA x hx
   ·by_cases e:y=x
    ·refine⟨P,?_,by rw[e];exact hx⟩;show Ps[if y=x then i else f y]? =_;rw[aex e];exact hP
    ·rcases da.mp hy with q | q
     ·obtain⟨Q,q1,q2⟩:=h.num y q;refine⟨Q,?_,q2⟩;show Ps[if y=x then i else f y]? =_;rw[aey e];exact q1
     ·exact aeB q e
  obtain⟨ks',f',a1,a2,a3,a4⟩:=Li hm hP gA l (bZ ks x) _ (λy hy=>hl y (XT _ hy)) h1;refine⟨ks',f',a1,λy hy=>a2 y (da.mpr (.inl hy)),λy hy=>?_,?_⟩
  ·rcases XY.mp hy with rfl | hy
   ·exact a2 _ nA
   ·exact a3 y hy
  ·refine(bA rfl ?_).trans a4;refine(aM ((kz rfl rfl rfl (by rw[b6];omega)).trans rfl)).trans ?_;have ef:dR (λy=>D.int (f y:Int)) x (.int (i:Int))=λy=>D.int ((if y=x then i else f y:Nat):Int):=by
    funext y;unfold dR;by_cases e:y=x
    ·rw[aex e,aex e]
    ·rw[aey e,aey e]
   show aa (Out.nx [fz (.lst (Ps.map cL)),some (.ow (xR (bZ ks x) (dR (λy=>D.int (f y:Int)) x (.int (i:Int))))),fz (.int (i:Int)),x3,none])=_;rw[ef];rfl
def Rc(q:Nat×List Cell):D:= .tup [.int (q.1:Int),cL q.2]
def Gw(hm:R*W<=64){Ps:List (List Cell)}(gA:∀P∈Ps,∀y∈P,On R W y):∀(qs:List (Nat×List Cell)) (ks:List Cell) (f:Cell->Nat),(∀q∈qs,Ps[q.1]? =some q.2)->NumOk R W Ps ks f->
 ∃ks' f',NumOk R W Ps ks' f'/\(∀y∈ks,y∈ks')/\(∀q∈qs,∀y∈q.2,y∈ks')/\forL (pB [2,3]) (bT [2,3,4] (cw (putN 4) (cR (dV 3)) Vf)) (qs.map Rc) (Ry Ps ks f none none none)=aa (.nx (Ry Ps ks' f' none none none))
 |[],ks,f,_,h=>⟨ks,f,h,λy hy=>hy,(λq hq=>(by cases hq)),rfl⟩
 |q::qs,ks,f,hq,h=>by
  have hP:=hq q (XU ..);obtain⟨Ou,f1,a1,a2,a3,a4⟩:=Li hm hP (gA q.2 (Yi hP)) q.2 ks f (λy hy=>hy) h;obtain⟨Ov,f2,b1,b2,b3,b4⟩:=Gw hm gA qs Ou f1 (λq' Je=>hq q' (XT _ Je)) a1;refine⟨Ov,f2,b1,λy hy=>b2 y (a2 y hy),λq' Je y hy=>?_,?_⟩
  ·rcases XY.mp Je with rfl | Je
   ·exact b2 y (a3 y hy)
   ·exact b3 q' Je y hy
  ·exact(bA rfl ((aM (cM (W4 rfl) a4)).trans rfl)).trans b4
def uV(Ps:List (List Cell)):(Ps.map cL).mapIdx (λi d=>D.tup [.int (i:Int),d])=(Ps.zipIdx.map λq:List Cell×Nat=>(q.2,q.1)).map Rc:=by
 apply aew;intro i;simp only[adX,X6,List.getElem?_zipIdx,Option.map_map,abY];cases Ps[i]? <;>simp[Rc]
def rT(hm:R*W<=64)(gA:∀P∈Ps,∀y∈P,On R W y):∃ks f,NumOk R W Ps ks f/\(∀P∈Ps,∀y∈P,y∈ks)/\eF [.lst (Ps.map cL)]=aa (lQ ks λy=> .int (f y:Int)):=by
 have hq:∀q∈Ps.zipIdx.map (λq:List Cell×Nat=>(q.2,q.1)),Ps[q.1]? =some q.2:=λq hq=>by
  obtain⟨⟨P,i⟩,h1,rfl⟩:=X9.mp hq;exact aam.mp h1
 obtain⟨ks,f,a1,a2,a3,a4⟩:=Gw hm gA (Ps.zipIdx.map λq:List Cell×Nat=>(q.2,q.1)) [] (λ_=>0) hq ⟨ZC,(λy hy=>(by cases hy)),(λy hy=>(by cases hy))⟩;refine⟨ks,f,a1,λP hP y hy=>?_,?_⟩
 ·obtain⟨i,hi,rfl⟩:=Y_ hP;refine a3 (i,Ps[i]) (X9.mpr ⟨(Ps[i],i),aam.mpr (by rw[XW hi]),rfl⟩) y hy
 ·refine a9 (ak rfl (ak (ck (cM ?_ a4)) rfl));show aa ((Ps.map cL).mapIdx λi d=>D.tup [.int (i:Int),d])=_;rw[uV]
section
open Classical
variable{bd:List Str}{W w:Nat}
noncomputable def ay(bd:List Str)(W w:Nat):List (List Cell):=(cj bd W w (az bd.length W)).map (bu bd W w)
def lJ:jP bd W w= .lst ((ay bd W w).map cL):=by
 unfold jP ay;rw[Yu];rfl
def eM(h:m∈cj bd W w (az bd.length W)):On bd.length W m:=by
 unfold cj at h;exact aA.mp (YZ.mp h).1
def u6(hw:Ways w):∀P∈ay bd W w,∀y∈P,On bd.length W y:=λP hP y hy=>by
 unfold ay at hP;obtain⟨m,hm,rfl⟩:=X9.mp hP;exact(((ez hw (eM hm)).mem y).mp hy).on hw (eM hm)
def Be(hg:Brd bd W)(hw:Ways w)(hx:On bd.length W x):∃P∈ay bd W w,x∈P:=by
 obtain⟨L,hL⟩:=uS hw;have hm:=hL x hx;have UU:=hm.on hw hx;refine⟨bu bd W w (L x),X9.mpr ⟨L x,?_,rfl⟩,((ez hw UU).mem x).mpr (hm.1.symm hw hx)⟩;unfold cj;rw[YZ,aez];exact⟨aA.mpr UU,hm.self hw hx⟩
def gu:(ay bd W w).length<=bd.length*W:=by
 unfold ay cj;rw[XS,<-aZ bd.length W];exact Zp ..
end
end K1
namespace K1
open PySem L2 L3 HT
end K1
namespace K1
open PySem PySem.Spec L2 L3
open PyProof.Rows hiding St
section
open Classical
variable{bd:List Str}{W w:Nat}
def JA:(cj bd W w (az bd.length W)).Nodup:=by
 unfold cj;exact(RiseC.nodup (eh _ _)).filter _
def yZ:m∈cj bd W w l↔m∈l/\Least bd W w m m:=by
 unfold cj;rw[YZ,aez]
def yU(hw:Ways w){m x:Cell}(hm:m∈cj bd W w (az bd.length W))(hx:x∈bu bd W w m):Least bd W w x m:=
 (yZ.mp hm).2.move hw (eM hm) (((ez hw (eM hm)).mem x).mp hx)
def kq{i:Nat}(h:(ay bd W w)[i]? =some P):∃m,(cj bd W w (az bd.length W))[i]? =some m/\P=bu bd W w m:=by
 unfold ay at h;rw[X6] at h;cases q:(cj bd W w (az bd.length W))[i]? with
 |none=>rw[q] at h;cases h
 |some m=>rw[q] at h;cases h;exact⟨m,rfl,rfl⟩
def Gp{i j:Nat}(h:(cj bd W w (az bd.length W))[i]? =some m)(h2:(cj bd W w (az bd.length W))[j]? =some m):i=j:=
 (abv (X0.mp h).1 JA).mp (h.trans h2.symm)
def wm{l:List α}{i:Nat}(h:l[i]? =some x):x∈l:=Yi h
def qk(hw:Ways w){i j:Nat}(hi:(ay bd W w)[i]? =some P)(hj:(ay bd W w)[j]? =some Q)(hx:x∈P)(hy:x∈Q):i=j:=by
 obtain⟨m,e1,rfl⟩:=kq hi;obtain⟨n,e2,rfl⟩:=kq hj;have hm:=wm e1;have hn:=wm e2;have gA:On bd.length W x:=(((ez hw (eM hm)).mem x).mp hx).on hw (eM hm);have:=(yU hw hm hx).one hw gA (yU hw hn hy);subst this;exact Gp e1 e2
def sy(hw:Ways w){m:Cell}(hm:m∈cj bd W w (az bd.length W)):∃r,bu bd W w m=m::r:=by
 have ho:=eM hm;have hP:=ez hw ho;cases hp:bu bd W w m with
 |nil=>have:=(hP.mem m).mpr Cn.refl;rw[hp] at this;cases this
 |cons a r=>
  refine⟨r,?_⟩;rw[hp] at hP;by_cases e:a=m
  ·rw[e]
  ·have tO:m∈a::r:=(hP.mem m).mpr Cn.refl;have tO:m∈r:=by
    cases tO with
    |head=>exact aeB rfl e
    |tail _ q=>exact q
   have hc:=(hP.mem a).mp (XU ..);have h1:=(dS (hc.on hw ho) ho).mp ((YU.mp hP.rise).1 m tO);have:=(yZ.mp hm).2.2 a hc;omega
def D_(hw:Ways w)(i j:Nat):iw w (i,j) (i,j+1)=true:=by
 rcases hw with rfl | rfl
 ·simp[iw,bO]
 ·simp[iw,bO]
def GI(hw:Ways w)(i j:Nat):iw w (i,j) (i+1,j)=true:=by
 rcases hw with rfl | rfl
 ·simp[iw,bO]
 ·simp[iw,bO]
end
end K1
namespace K1
open PySem L2 L3
abbrev NT:=List (Nat×List Nat)
def cy(p:Nat×List Nat):Key×List Key:=(kN p.1,p.2.map kN)
def Hy(l:NT)(n:Nat):NT:=if n∈l.map (·.1) then l else l++[(n,[])]
def E4(l:NT)(n m:Nat):NT:=l.map λp=>if p.1=n then(p.1,if m∈p.2 then p.2 else p.2++[m]) else p
def B8(ks:List Nat)(n:Nat):tN (ks.map kN) (kN n)=decide (n∈ks):=by
 rw[abV,l5,aez,X9];exact⟨λ⟨a,h,e⟩=>nU _ _ e▸h,λh=>⟨n,h,rfl⟩⟩
def B5(l:NT):(l.map cy).map (·.1)=(l.map (·.1)).map kN:=by rw[Yu,Yu];rfl
def Hz(l:NT)(n:Nat):xm (l.map cy) (kN n)=(Hy l n).map cy:=by
 unfold xm Hy;rw[B5,B8];by_cases h:n∈l.map (·.1)
 ·rw[aex h,aex (aeA h)]
 ·rw[aey h,aey (λz=>h (aeC z)),Yx];rfl
def E5(l:NT)(n m:Nat):qC (l.map cy) (kN n) (kN m)=(E4 l n m).map cy:=by
 unfold qC E4;rw[Yu,Yu];refine Y9 λp _=>?_;show (if kN p.1=kN n then(kN p.1,if tN (p.2.map kN) (kN m) then p.2.map kN else p.2.map kN++[kN m]) else cy p)=cy (if p.1=n then(p.1,if m∈p.2 then p.2 else p.2++[m]) else p);by_cases h:p.1=n
 ·rw[aex (by rw[h]),aex h,B8];by_cases q:m∈p.2
  ·rw[aex (aeA q),aex q];rfl
  ·rw[aey (λz=>q (aeC z)),aey q];show _=(kN p.1,(p.2++[m]).map kN)
   rw[Yx];rfl
 ·rw[aey (λz=>h (nU _ _ z)),aey h]
structure NrS (T:Nat->Prop) (E:Nat->Nat->Prop) (l:NT):Prop where
 nd:(l.map (·.1)).Nodup
 key:∀n,n∈l.map (·.1)↔T n
 nb:∀p∈l,p.2.Nodup/\∀m,m∈p.2↔E p.1 m
 hT:∀n,T n->n<64
 hE:∀n m,E n m->m<64
def le64{l:List Nat}(hn:l.Nodup)(h:∀n∈l,n<64):l.length<=64:=by
 have:=bK (U:=Yp 64) hn λx hx=>YQ.mpr (h x hx);simpa using this
section
variable{T:Nat->Prop}{E:Nat->Nat->Prop}{l:NT}
def NrS.ok(h:NrS T E l):xV (l.map cy)=true:=by
 unfold xV;rw[Z5,aez,Yn];have:=le64 h.nd λn hn=>h.hT n ((h.key n).mp hn);refine⟨by rw[XS] at this⊢;rw[b6];omega,λp hp=>?_⟩;obtain⟨q,hq,rfl⟩:=X9.mp hp;have:=le64 (h.nb q hq).1 λm hm=>h.hE q.1 m (((h.nb q hq).2 m).mp hm);show decide ((q.2.map kN).length<lim)=true;rw[aez,XS,b6];omega
def NrS.cong{T':Nat->Prop}{E':Nat->Nat->Prop}(h:NrS T E l)(h1:∀n,T n↔T' n)(h2:∀n m,E n m↔E' n m):NrS T' E' l:=
 ⟨h.nd,λn=>(h.key n).trans (h1 n),λp hp=>⟨(h.nb p hp).1,λm=>((h.nb p hp).2 m).trans (h2 _ _)⟩,λn hn=>h.hT n ((h1 n).mpr hn),λn m hm=>h.hE n m ((h2 n m).mpr hm)⟩
def NrS.set(h:NrS T E l){n:Nat}(hn:n<64)(hE:∀m,E n m->T n):NrS (λk=>T k\/k=n) E (Hy l n):=by
 unfold Hy;split
 ·rename_i q;have hq:=(h.key n).mp q;exact h.cong (λk=>⟨.inl,λz=>z.elim id λe=>e▸hq⟩) λ_ _=>ab2
 ·rename_i q;refine⟨?_,λk=>?_,λp hp=>?_,λk hk=>hk.elim (h.hT k) λe=>e▸hn,h.hE⟩
  ·rw[Yx,YT];exact⟨h.nd,by simp,λx hx y hy z=>q (by rw[z] at hx;cases Yb.mp hy;exact hx)⟩
  ·rw[Yx,Yr,h.key];exact or_congr ab2 (by simp)
  ·rcases Yr.mp hp with z | z
   ·exact h.nb p z
   ·cases Yb.mp z;exact⟨ZC,λm=>⟨λz=>(nomatch z),λz=>aeB ((h.key n).mpr (hE m z)) q⟩⟩
def xZ(l:NT)(n m:Nat):(E4 l n m).map (·.1)=l.map (·.1):=by
 unfold E4;rw[Yu];refine Y9 λp _=>?_;show (if p.1=n then(p.1,_) else p).1=p.1;split<;>rfl
def NrS.add(h:NrS T E l){n m:Nat}(hm:m<64):NrS T (λa b=>E a b\/(a=n/\b=m)) (E4 l n m):=by
 refine⟨by rw[xZ];exact h.nd,λk=>by rw[xZ];exact h.key k,λp hp=>?_,h.hT,λa b q=>q.elim (h.hE a b) λe=>e.2▸hm⟩;obtain⟨q,hq,rfl⟩:=X9.mp hp;have:=h.nb q hq;by_cases e:q.1=n
 ·rw[aex e];by_cases z:m∈q.2
  ·rw[aex z];exact⟨this.1,λb=>⟨λy=> .inl ((this.2 b).mp y),λy=>y.elim (λy=>(this.2 b).mpr y) λy=>y.2▸z⟩⟩
  ·rw[aey z];refine⟨YT.mpr ⟨this.1,by simp,λx hx y hy e=>z (by rw[e] at hx;cases Yb.mp hy;exact hx)⟩,λb=>?_⟩;show b∈q.2++[m]↔E q.1 b\/(q.1=n/\b=m);rw[Yr,this.2 b,Yb];exact or_congr ab2 ⟨λy=>⟨e,y⟩,λy=>y.2⟩
 ·rw[aey e];exact⟨this.1,λb=>(this.2 b).trans ⟨.inl,λy=>y.elim id λy=>aeB y.1 e⟩⟩
end
def GD{oi:Nat}{tc:DT}{δk:DE}{Z:bH}{f:Cell->Nat}{n:Nat}(iH:∀y,f y<64):∀(ys:List Cell) {T:Nat->Prop}{E:Nat->Nat->Prop}{l:NT},NrS T E l->
 (∀y∈ys,tc (Z.set oi (fz (cD y)))=aa (!decide (f y=n))/\δk (Z.set oi (fz (cD y)))=aa (nI (f y)))->
 ∃l',lG oi tc δk (kN n) Z (ys.map cD) (l.map cy)=aa (l'.map cy)/\NrS T (λa b=>E a b\/(a=n/\b≠n/\∃y∈ys,f y=b)) l'
 |[],T,E,l,h,_=>⟨l,rfl,h.cong (λ_=>ab2) λa b=>⟨.inl,λz=>z.elim id λ⟨_,_,y,hy,_⟩=>nomatch hy⟩⟩
 |y::ys,T,E,l,h,Pg=>by
  obtain⟨h1,h2⟩:=Pg y XU;have Ph:=λz hz=>Pg z (XT _ hz);by_cases e:f y=n
  ·rw[aeA e] at h1;obtain⟨l',g1,g2⟩:=GD (n:=n) iH ys h Ph;refine⟨l',?_,g2.cong (λ_=>ab2) λa b=>or_congr ab2 (and_congr_right λ_=>and_congr_right λhb=>?_)⟩
   ·rw[X3];unfold lG;rw[show some (Sl.fz (cD y))=fz (cD y) from rfl,h1];exact g1
   ·exact⟨λ⟨z,hz,q⟩=>⟨z,XT _ hz,q⟩,λ⟨z,hz,q⟩=>(XY.mp hz).elim (λx=>aeB (q.symm.trans (by rw[x,e])) hb) λx=>⟨z,x,q⟩⟩
  ·rw[aeD e] at h1;obtain⟨l',g1,g2⟩:=GD (n:=n) iH ys (h.add (n:=n) (iH y)) Ph;refine⟨l',?_,g2.cong (λ_=>ab2) λa b=>?_⟩
   ·rw[X3];unfold lG;rw[show some (Sl.fz (cD y))=fz (cD y) from rfl,h1,h2];show (if xV (l.map cy) then lG oi tc δk (kN n) Z (ys.map cD) (qC (l.map cy) (kN n) (kN (f y))) else ag)=_;rw[aex h.ok,E5];exact g1
   ·constructor
    ·rintro((q | ⟨q1,q2⟩) | ⟨q1,q2,z,hz,q3⟩)
     ·exact .inl q
     ·exact .inr ⟨q1,λz=>e (q2.symm.trans z),y,XU,q2.symm⟩
     ·exact .inr ⟨q1,q2,z,XT _ hz,q3⟩
    ·rintro(q | ⟨q1,q2,z,hz,q3⟩)
     ·exact .inl (.inl q)
     ·rcases XY.mp hz with x | x
      ·exact .inl (.inr ⟨q1,by rw[<-q3,x]⟩)
      ·exact .inr ⟨q1,q2,z,x,q3⟩
def GF{ci oi:Nat}{δk:DE}{δj:DA}{tc:DT}{δk2:DE}{Z:bH}{f:Cell->Nat}{nx:Cell->List Cell}(iH:∀y,f y<64):∀(xs:List Cell) {T:Nat->Prop}{E:Nat->Nat->Prop}{l:NT},NrS T E l->(∀n m,E n m->T n)->
 (∀x∈xs,δk (Z.set ci (fz (cD x)))=aa (nI (f x))/\δj (Z.set ci (fz (cD x)))=aa ((nx x).map cD)/\∀y∈nx x,tc ((Z.set ci (fz (cD x))).set oi (fz (cD y)))=aa (!decide (f y=f x))/\δk2 ((Z.set ci (fz (cD x))).set oi (fz (cD y)))=aa (nI (f y)))->
 ∃l',gw ci oi δk δj tc δk2 Z (xs.map cD) (l.map cy)=aa (l'.map cy)/\NrS (λn=>T n\/∃x∈xs,f x=n) (λa b=>E a b\/(a≠b/\∃x∈xs,f x=a/\∃y∈nx x,f y=b)) l'
 |[],T,E,l,h,_,_=>⟨l,rfl,h.cong (λn=>⟨.inl,λz=>z.elim id λ⟨_,hx,_⟩=>nomatch hx⟩) λa b=>⟨.inl,λz=>z.elim id λ⟨_,_,hx,_⟩=>nomatch hx⟩⟩
 |x::xs,T,E,l,h,Uy,Pg=>by
  obtain⟨h1,h2,h3⟩:=Pg x XU;obtain⟨l1,g1,g2⟩:=GD (n:=f x) iH (nx x) (h.set (iH x) λm hm=>Uy _ m hm) h3;obtain⟨l2,k1,k2⟩:=GF iH xs g2 (λn m z=>z.elim (λz=> .inl (Uy n m z)) λz=> .inr z.1) λz hz=>Pg z (XT _ hz);refine⟨l2,?_,k2.cong (λn=>?_) λa b=>?_⟩
  ·rw[X3];unfold gw;rw[show some (Sl.fz (cD x))=fz (cD x) from rfl,h1];show (if xV (l.map cy) then noex (δj (Z.set ci (fz (cD x))))>>=λes=>lG oi tc δk2 (kN (f x)) (Z.set ci (fz (cD x))) es (xm (l.map cy) (kN (f x)))>>=λf9=>gw ci oi δk δj tc δk2 Z (xs.map cD) f9 else ag)=_;rw[aex h.ok,h2,Hz];show (lG oi tc δk2 (kN (f x)) (Z.set ci (fz (cD x))) ((nx x).map cD) ((Hy l (f x)).map cy)>>=λf9=>gw ci oi δk δj tc δk2 Z (xs.map cD) f9)=_;rw[g1];exact k1
  ·constructor
   ·rintro((q | q) | ⟨z,hz,q⟩)
    ·exact .inl q
    ·exact .inr ⟨x,XU,q.symm⟩
    ·exact .inr ⟨z,XT _ hz,q⟩
   ·rintro(q | ⟨z,hz,q⟩)
    ·exact .inl (.inl q)
    ·rcases XY.mp hz with e | e
     ·exact .inl (.inr (by rw[<-q,e]))
     ·exact .inr ⟨z,e,q⟩
  ·constructor
   ·rintro((q | ⟨q1,q2,y,hy,q3⟩) | ⟨q1,z,hz,q2⟩)
    ·exact .inl q
    ·exact .inr ⟨λe=>q2 (e.symm.trans q1),x,XU,q1.symm,y,hy,q3⟩
    ·exact .inr ⟨q1,z,XT _ hz,q2⟩
   ·rintro(q | ⟨q1,z,hz,q2,y,hy,q3⟩)
    ·exact .inl (.inl q)
    ·rcases XY.mp hz with e | e
     ·subst e;exact .inl (.inr ⟨q2.symm,λe=>q1 (q2.symm.trans e.symm),y,hy,q3⟩)
     ·exact .inr ⟨q1,z,e,q2,y,hy,q3⟩
def Ew{ni ci mi oi:Nat}{δi:DA}{δk:DE}{δj:DA}{tc:DT}{δk2:DE}{Z Z0:bH}{ds:List D}{ps:qB}(h0:t_ Z ni=some (.dci [] []))(h1:fgt [ni,ci,mi,oi] Z=Z0)(h2:jo Z0=true)(h3:δi Z0=aa ds)
 (h4:gw ci oi δk δj tc δk2 Z0 ds []=aa ps)(h5:xV ps=true):zO ni ci mi oi δi δk δj tc δk2 Z=aa (.nx (Z0.set ni (fz (jR ps)))):=by
 unfold zO;rw[h0,h1];show (if jo Z0=true then noex (δi Z0)>>=_ else ag)=_;rw[aex h2,h3];show (noex (gw ci oi δk δj tc δk2 Z0 ds [])>>=_)=_;rw[h4];show (if xV ps=true then _ else ag)=_;rw[aex h5]
def tT(l:NT)(n:Nat):List Nat:=match l.find? (λp=>p.1==n) with
 |some p=>p.2
 |none=>[]
def Co{l:NT}{p:Nat×List Nat}(hn:(l.map (·.1)).Nodup)(hp:p∈l):tT l p.1=p.2:=by
 unfold tT;cases q:l.find? (λr=>r.1==p.1) with
 |none=>have:=List.find?_eq_none.mp q p hp;simp at this
 |some r=>
  have h1:=List.find?_some q;have h2:=List.mem_of_find?_eq_some q;have h1:r.1=p.1:=by simpa using h1
  have:r=p:=nY (f:=(·.1)) hn r h2 p hp h1;rw[this]
def NrS.mem{T:Nat->Prop}{E:Nat->Nat->Prop}{l:NT}(h:NrS T E l){n m:Nat}(hn:T n):m∈tT l n↔E n m:=by
 obtain⟨p,hp,rfl⟩:=X9.mp ((h.key n).mpr hn);rw[Co h.nd hp];exact(h.nb p hp).2 m
def wZ(l:NT):jR (l.map cy)=(Vc (l.map (·.1)) (l.map λp=>inD (p.2.map kN))).d:=by
 unfold jR;rw[B5];exact aeE (D.dci _) (Yu ..)
def Gg(ks:List Nat):eW (inD (ks.map kN))=aa (ks.map nI):=by
 show (if (ks.map kN).all o9 then aa ((ks.map kN).map DV) else ag)=_;rw[aex (Yn.mpr λk hk=>by obtain⟨n,_,rfl⟩:=X9.mp hk;rfl),Yu];rfl
def NrS.near{T:Nat->Prop}{E:Nat->Nat->Prop}{l:NT}(h:NrS T E l):qz nI (l.map (·.1)) (tT l) (jR (l.map cy)):=λn hn=>by
 rw[wZ];obtain⟨d,h1,h2⟩:=DU.ix (ds:=l.map λp=>inD (p.2.map kN)) (by simp) hn;refine⟨d,h2,?_⟩;rw[List.zip_map'] at h1;obtain⟨p,hp,e⟩:=X9.mp h1;cases e;rw[Co h.nd hp];exact Gg p.2
section
variable{α:Type}{E:α->α->Prop}{a b x:α}
def Rr(E:α->α->Prop)(a:α):Nat->α->Prop
 |0,x=>x=a
 |k+1,x=>Rr E a k x\/∃y,Rr E a k y/\E y x
def Dr(E:α->α->Prop)(a x:α)(n:Nat):Prop:=Rr E a n x/\∀j,Rr E a j x->n<=j
def Rr.mono{i j:Nat}(h:i<=j)(r:Rr E a i x):Rr E a j x:=by
 induction h with
 |refl=>exact r
 |step _ ih=>exact .inl ih
def Rr.trans{i:Nat}(h:Rr E a i b):∀{j:Nat}{x:α},Rr E b j x->Rr E a (i+j) x
 |0,_,r=>by cases r;exact h
 |_+1,_, .inl r=> .inl (Rr.trans h r)
 |_+1,_, .inr ⟨y,r,e⟩=> .inr ⟨y,Rr.trans h r,e⟩
def Dr.one{n m:Nat}(h:Dr E a x n)(h2:Dr E a x m):n=m:=aau (h.2 _ h2.1) (h2.2 _ h.1)
def Dr.zero{n:Nat}(h:Dr E a x n):n=0↔x=a:=
 ⟨λe=>by have:=h.1;rw[e] at this;exact this,λe=>aei.mp (h.2 0 e)⟩
def iB{nb:α->List α}{P:α->Prop}(ha:P a)(hP:∀y,P y->∀x,x∈nb y->P x)(h:∀y,P y->∀x,x∈nb y↔E y x):∀{j:Nat}{x:α},(Rb nb a j x↔Rr E a j x)/\(Rb nb a j x->P x)
 |0,x=>⟨ab2,λr=>by cases (show x=a from r);exact ha⟩
 |j+1,x=>by
  refine⟨⟨λr=>?_,λr=>?_⟩,λr=>?_⟩
  ·rcases r with r | ⟨y,r,q⟩
   ·exact .inl ((iB ha hP h).1.mp r)
   ·exact .inr ⟨y,(iB ha hP h).1.mp r,(h y ((iB ha hP h).2 r) x).mp q⟩
  ·rcases r with r | ⟨y,r,q⟩
   ·exact .inl ((iB ha hP h).1.mpr r)
   ·have r':=(iB (nb:=nb) ha hP h).1.mpr r;exact .inr ⟨y,r',(h y ((iB ha hP h).2 r') x).mpr q⟩
  ·rcases r with r | ⟨y,r,q⟩
   ·exact(iB ha hP h).2 r
   ·exact hP y ((iB ha hP h).2 r) x q
def Fx[DecidableEq α]{nb:α->List α}{P:α->Prop}(ha:P a)(hP:∀y,P y->∀x,x∈nb y->P x)(h:∀y,P y->∀x,x∈nb y↔E y x){n:Nat}:Ds nb a x n↔Dr E a x n:=
 and_congr (iB ha hP h).1 (forall_congr' λj=>imp_congr (iB ha hP h).1 ab2)
end
def gd(w:Nat)(a b:Cell):Nat:=if w=4 then bO a.1 b.1+bO a.2 b.2 else max (bO a.1 b.1) (bO a.2 b.2)
def Nx(R W w:Nat)(y x:Cell):Prop:=On R W y/\On R W x/\iw w y x=true
def gk(a:Nat):bO a a=0:=by unfold bO;rw[Nat.max_self,adT,Nat.sub_self]
def gj{a b:Nat}(h:a<=b):bO a b=b - a:=by unfold bO;rw[ZR h,Ze h]
def gi{a b:Nat}(h:b<=a):bO a b=a - b:=by unfold bO;rw[Z8 h,ZQ h]
def BZ(a b c:Nat):bO a c<=bO a b+bO b c:=by
 rcases aa1 a b with h | h<;>rcases aa1 b c with h2 | h2
 ·rw[gj h,gj h2,gj (Yy h h2)];omega
 ·rw[gj h,gi h2];rcases aa1 a c with h3 | h3
  ·rw[gj h3];omega
  ·rw[gi h3];omega
 ·rw[gi h,gj h2];rcases aa1 a c with h3 | h3
  ·rw[gj h3];omega
  ·rw[gi h3];omega
 ·rw[gi h,gi h2,gi (Yy h2 h)];omega
def FN{R W w:Nat}(hw:Ways w){a:Cell}:∀{j:Nat}{x:Cell},Rr (Nx R W w) a j x->gd w a x<=j
 |0,x,r=>by
  cases (show x=a from r);rcases hw with rfl | rfl
  ·show bO a.1 a.1+bO a.2 a.2<=0;rw[gk,gk];exact X4 _
  ·show max (bO a.1 a.1) (bO a.2 a.2)<=0;rw[gk,gk];exact X4 _
 |j+1,x, .inl r=>Nat.le_succ_of_le (FN hw r)
 |j+1,x, .inr ⟨y,r,e⟩=>by
  have h:=FN hw r;have e:=e.2.2;have t1:=BZ a.1 y.1 x.1;have t2:=BZ a.2 y.2 x.2;rcases hw with rfl | rfl
  ·have e:bO y.1 x.1+bO y.2 x.2=1:=aeC e;show bO a.1 x.1+bO a.2 x.2<=j+1;have h:bO a.1 y.1+bO a.2 y.2<=j:=h;omega
  ·have e:max (bO y.1 x.1) (bO y.2 x.2)=1:=aeC e;have h:max (bO a.1 y.1) (bO a.2 y.2)<=j:=h;have e1:=abZ (bO y.1 x.1) (bO y.2 x.2);have e2:=abG (bO y.1 x.1) (bO y.2 x.2);have e3:=Yy (abZ ..) h;have e4:=Yy (abG ..) h;rw[e] at e1 e2;exact Nat.max_le.mpr ⟨Yy t1 (adm e3 e1),Yy t2 (adm e4 e2)⟩
def toward(a b:Nat):Nat:=if b<a then b+1 else if a<b then b - 1 else b
def oM(a b:Nat):(toward a b<=max a b)/\bO a (toward a b)=bO a b - 1/\bO (toward a b) b=min 1 (bO a b):=by
 unfold toward;by_cases h:b<a
 ·rw[aex h,gi h,gi (YY h),gi (ac4 b),Z8 (YY h),Ze (by omega)];omega
 ·rw[aey h];by_cases h2:a<b
  ·rw[aex h2,gj (show a<=b - 1 by omega),gj (YY h2),gj (Nat.sub_le b 1),ZR (YY h2),Ze (by omega)];omega
  ·rw[aey h2];have:a=b:=by omega
   subst this;rw[gk,Nat.max_self];exact⟨X4 _,rfl,rfl⟩
def kD{a b R:Nat}(ha:a<R)(hb:b<R):toward a b<R:=abk (oM a b).1 (Nat.max_lt.mpr ⟨ha,hb⟩)
def IU{R W w:Nat}(hw:Ways w){a b:Cell}(ha:On R W a)(hb:On R W b){n:Nat}(h:gd w a b=n+1):∃c,Nx R W w c b/\gd w a c=n:=by
 obtain⟨a1,a2⟩:=a;obtain⟨b1,b2⟩:=b;obtain⟨_,t2,t3⟩:=oM a1 b1;obtain⟨_,u2,u3⟩:=oM a2 b2;rcases hw with rfl | rfl
 ·have h:bO a1 b1+bO a2 b2=n+1:=h;by_cases e:bO a1 b1=0
  ·refine⟨(b1,toward a2 b2),⟨⟨hb.1,kD ha.2 hb.2⟩,hb,aeA (show bO b1 b1+bO (toward a2 b2) b2=1 from ?_)⟩,show bO a1 b1+bO a2 (toward a2 b2)=n from ?_⟩
   ·rw[gk,u3,Ze (by omega)]
   ·rw[u2];omega
  ·refine⟨(toward a1 b1,b2),⟨⟨kD ha.1 hb.1,hb.2⟩,hb,aeA (show bO (toward a1 b1) b1+bO b2 b2=1 from ?_)⟩,show bO a1 (toward a1 b1)+bO a2 b2=n from ?_⟩
   ·rw[gk,t3,Ze (by omega)]
   ·rw[t2];omega
 ·have h:max (bO a1 b1) (bO a2 b2)=n+1:=h;refine⟨(toward a1 b1,toward a2 b2),⟨⟨kD ha.1 hb.1,kD ha.2 hb.2⟩,hb,aeA (show max (bO (toward a1 b1) b1) (bO (toward a2 b2) b2)=1 from ?_)⟩,show max (bO a1 (toward a1 b1)) (bO a2 (toward a2 b2))=n from ?_⟩
  ·rw[t3,u3];generalize bO a1 b1=p at*;generalize bO a2 b2=q at*;omega
  ·rw[t2,u2];generalize bO a1 b1=p at*;generalize bO a2 b2=q at*;omega
def yt{a b:Nat}(h:bO a b=0):b=a:=by
 rcases aa1 a b with q | q
 ·rw[gj q] at h;omega
 ·rw[gi q] at h;omega
def IV{w:Nat}(hw:Ways w){a b:Cell}(h:gd w a b=0):b=a:=by
 have:bO a.1 b.1=0/\bO a.2 b.2=0:=by
  rcases hw with rfl | rfl
  ·exact Nat.add_eq_zero_iff.mp h
  ·have h:max (bO a.1 b.1) (bO a.2 b.2)=0:=h;exact⟨aei.mp (h▸abZ ..),aei.mp (h▸abG ..)⟩
 exact abX (yt this.1) (yt this.2)
def K2{R W w:Nat}(hw:Ways w){a:Cell}(ha:On R W a):∀(n:Nat) {b:Cell},On R W b->gd w a b=n->Rr (Nx R W w) a n b
 |0,b,_,h=>IV hw h
 |n+1,b,hb,h=>by
  obtain⟨c,e,h2⟩:=IU hw ha hb h;exact .inr ⟨c,K2 hw ha n e.1 h2,e⟩
def K0{R W w:Nat}(hw:Ways w){a b:Cell}(ha:On R W a)(hb:On R W b):Dr (Nx R W w) a b (gd w a b):=⟨K2 hw ha _ hb rfl,λj r=>FN hw r⟩
section
variable{bd:List Str}{W w v:Nat}{f g:Cell->Nat}
def NumF(bd:List Str)(W w:Nat)(f:Cell->Nat):Prop:=∀x,On bd.length W x->∃P,(ay bd W w)[f x]? =some P/\x∈P
def NumF.eq(hw:Ways w)(hf:NumF bd W w f)(hg:NumF bd W w g){x:Cell}(hx:On bd.length W x):f x=g x:=by
 obtain⟨P,h1,h2⟩:=hf x hx;obtain⟨Q,h3,h4⟩:=hg x hx;exact qk hw h1 h3 h2 h4
def NumF.lt(hf:NumF bd W w f){x:Cell}(hx:On bd.length W x):f x<(ay bd W w).length:=by
 obtain⟨P,h1,_⟩:=hf x hx;exact(X0.mp h1).1
def Ad(R W v:Nat)(f:Cell->Nat)(n m:Nat):Prop:=n≠m/\∃x y,Nx R W v x y/\f x=n/\f y=m
def sL{R W v:Nat}{f:Cell->Nat}{a:Cell}:∀{j:Nat}{x:Cell},Rr (Nx R W v) a j x->Rr (Ad R W v f) (f a) j (f x)
 |0,x,r=>by cases (show x=a from r);rfl
 |j+1,x, .inl r=> .inl (sL r)
 |j+1,x, .inr ⟨y,r,e⟩=>by
  by_cases q:f y=f x
  ·rw[<-q];exact .inl (sL r)
  ·exact .inr ⟨f y,sL r,q,y,x,e,rfl,rfl⟩
end
section
variable{bd:List Str}{W w v:Nat}{f:Cell->Nat}
def o4(hg:Brd bd W)(hs:bd.length*W<64)(hw:Ways w):∃ks f,NumF bd W w f/\(∀x,On bd.length W x->x∈ks)/\eF [.lst ((ay bd W w).map cL)]=aa (lQ ks λy=>nI (f y)):=by
 obtain⟨ks,f,a1,a2,a3⟩:=rT (R:=bd.length) (W:=W) (by omega) (u6 (bd:=bd) hw);have ES:∀x,On bd.length W x->x∈ks:=λx hx=>by
  obtain⟨P,hP,h⟩:=Be hg hw hx;exact a2 P hP x h
 exact⟨ks,f,λx hx=>a1.num x (ES x hx),ES,a3⟩
def ir(hg:Brd bd W)(hs:bd.length*W<64)(hw:Ways w)(hv:Ways v)(hf:NumF bd W w f):
 ∃l,NrS (λn=>∃x,On bd.length W x/\f x=n) (Ad bd.length W v f) l/\eD [brd bd, .int (v:Int), .lst ((ay bd W w).map cL)]=aa (jR (l.map cy)):=by
 obtain⟨ks,g,UO,ES,e0⟩:=o4 hg hs hw;have UN:∀x,On bd.length W x->f x % 64=g x:=λx hx=>by
  have:=hf.lt hx;have:=gu (bd:=bd) (W:=W) (w:=w);rw[Nat.mod_eq_of_lt (by omega)];exact hf.eq hw UO hx
 have Oj:∀x,On bd.length W x->f x % 64=f x:=λx hx=>(UN x hx).trans (UO.eq hw hf hx);have ev:∀{Z:bH}{i:Nat}{x:Cell},Z[3]? =some (fz (lQ ks λy=>nI (g y)))->Z[i]? =some (fz (cD x))->On bd.length W x->d2 bp (dV 3) (dV i) Z=aa (nI (f x % 64)):=λh3 hi hx=>by
  rw[UN _ hx];exact(aP (gh h3) (gh hi)).trans (jA (f:=λy=>nI (g y)) (ES _ hx))
 obtain⟨l,k1,k2⟩:=GF (ci:=5) (oi:=7) (δk:=d2 bp (dV 3) (dV 5)) (δj:=cR (aD 3 b_ (aC (dV 0) (aC (dV 5) (aC (dV 1) aN))))) (tc:=dH (d2 lz (d2 bp (dV 3) (dV 7)) (d2 bp (dV 3) (dV 5)))) (δk2:=d2 bp (dV 3) (dV 7))
  (Z:=[fz (brd bd),fz (.int (v:Int)),fz (.lst ((ay bd W w).map cL)),fz (lQ ks λy=>nI (g y)),none,none,none,none]) (f:=λx=>f x % 64) (nx:=kR bd.length W v) (λy=>ado _ (by decide)) (az bd.length W) (T:=λ_=>False) (E:=λ_ _=>False) (l:=[])
  ⟨ZC,λn=>by simp,λp hp=>(nomatch hp),λn h=>h.elim,λn m h=>h.elim⟩ (λ_ _ h=>h.elim) λx hx=>by
   have hx:=aA.mp hx;refine⟨ev rfl rfl hx,?_,λy hy=>?_⟩
   ·exact v9 ((au (ds:=[brd bd,cD x, .int (v:Int)]) rfl rfl).trans (jJ hg hv hx))
   ·have hy:=((ip hv).mp hy).1;refine⟨gB ((aP (ev rfl rfl hy) (ev rfl rfl hx)).trans ((Lf _ _).trans ?_)),ev rfl rfl hy⟩;by_cases e:f y % 64=f x % 64
    ·rw[e];simp
    ·rw[aeD e,aeF.mpr e]
 refine⟨l,k2.cong (λn=>?_) (λn m=>?_),a9 (ak (Z':=[fz (brd bd),fz (.int (v:Int)),fz (.lst ((ay bd W w).map cL)),fz (lQ ks λy=>nI (g y)),none,none,none,none]) ((aS ((au (ds:=[.lst ((ay bd W w).map cL)]) rfl rfl).trans e0)).trans rfl) (ak (Z':=[fz (brd bd),fz (.int (v:Int)),fz (.lst ((ay bd W w).map cL)),fz (lQ ks λy=>nI (g y)),some (.ow (.dci [] [])),none,none,none]) rfl (ak (Z':=[fz (brd bd),fz (.int (v:Int)),fz (.lst ((ay bd W w).map cL)),fz (lQ ks λy=>nI (g y)),fz (jR (l.map cy)),none,none,none]) (ck ?_) rfl)))⟩
 ·constructor
  ·rintro(z | ⟨x,hx,e⟩)
   ·exact z.elim
   ·have hx:=aA.mp hx;exact⟨x,hx,(Oj x hx).symm.trans e⟩
  ·rintro⟨x,hx,e⟩;exact .inr ⟨x,aA.mpr hx,(Oj x hx).trans e⟩
 ·constructor
  ·rintro(z | ⟨dm,x,hx,e,y,hy,e2⟩)
   ·exact z.elim
   ·have hx:=aA.mp hx;have hy:=(ip hv).mp hy;exact⟨dm,x,y,⟨hx,hy.1,hy.2⟩,(Oj x hx).symm.trans e,(Oj y hy.1).symm.trans e2⟩
  ·rintro⟨dm,x,y,⟨hx,hy,q⟩,e,e2⟩;exact .inr ⟨dm,x,aA.mpr hx,(Oj x hx).trans e,y,(ip hv).mpr ⟨hy,q⟩,(Oj y hy).trans e2⟩
 ·exact Ew rfl rfl rfl (v9 ((au (ds:=[brd bd]) rfl rfl).trans (kI hg))) k1 k2.ok
end
section
variable{α:Type}[DecidableEq α]{W1:α->D}{mk:List α->List D->C}
structure SokG (S:List α) (s:Bk α):Prop where
 len:s.ks.length=s.ps.length
 nd:s.ks.Nodup
 on:∀x∈s.ks,x∈S
 fu:s.fu.length<=s.ks.length
def SokG.step{S:List α}{s:Bk α}(h:SokG S s){c x:α}(hx:x∈S):SokG S (cS c s x):=by
 unfold cS;split
 ·exact h
 ·rename_i hn;refine⟨by simp[h.len],?_,λy hy=>?_,by simp;exact h.fu⟩
  ·refine YT.mpr ⟨h.nd,by simp,λy hy z hz e=>?_⟩;have hz:z=x:=by simpa using hz
   rw[e,hz] at hy;exact hn hy
  ·rcases Yr.mp hy with q | q
   ·exact h.on y q
   ·have:y=x:=by simpa using q
    rw[this];exact hx
abbrev gR(mk:List α->List D->C)(nr a:D)(ks:List α)(vs:List Nat)(x3 x4 x5 x6:Option Sl):bH:=[fz nr,fz a,some (.ow (mk ks (vs.map nI))),x3,x4,x5,x6]
def Val(nb:α->List α)(a:α)(ks:List α)(vs:List Nat):Prop:=ks.length=vs.length/\∀x n,(x,n)∈ks.zip vs->Ds nb a x n
variable{S:List α}{nb:α->List α}{a0:α}
def IE(kk:KOk W1 mk)(iH:S.length<=64){nr a:D}{c x:α}{r:Option Sl}{s:Bk α}{k:Nat}(h:SokG S s)(hc:c∈s.ks)(hk:Ds nb a0 c k)(nQ:∀y,Rb nb a0 k y->y∈s.ks)(hx:x∈nb c){vs:List Nat}(hv:Val nb a0 s.ks vs):
 ∃g9,Val nb a0 (cS c s x).ks g9/\L8 (gR mk nr a s.ks vs r (some (.ow (.lst (s.fu.map W1)))) (fz (W1 c)) (fz (W1 x)))=aa (.nx (gR mk nr a (cS c s x).ks g9 r (some (.ow (.lst ((cS c s x).fu.map W1)))) (fz (W1 c)) none)):=by
 have hle:s.ks.length<=S.length:=bK h.nd h.on;have hl:s.ks.length=(vs.map nI).length:=by rw[XS];exact hv.1
 have ht:EE (dH (d2 (kF true) (dV 6) (dV 2))) (gR mk nr a s.ks vs r (some (.ow (.lst (s.fu.map W1)))) (fz (W1 c)) (fz (W1 x)))=aa (!decide (x∈s.ks)):=
  sX (gB ((aP (x:=W1 x) (y:=(mk s.ks (vs.map nI)).d) rfl rfl).trans (kk.inn (neg:=true) hl)))
 by_cases Ig:x∈s.ks
 ·rw[aeA Ig] at ht;have e:cS c s x=s:=aex Ig;rw[e];exact⟨vs,hv,(aM (fO ht rfl)).trans rfl⟩
 ·rw[aeD Ig] at ht;have e:cS c s x=⟨s.ks++[x],s.ps++[some c],s.fu++[x]⟩:=aey Ig;rw[e];obtain⟨d,hd,hi⟩:=kk.ix hl hc;obtain⟨n,rfl,hn⟩:=BA hd;have Wv:n=k:=aau ((hv.2 c n hn).2 k hk.1) (hk.2 n (hv.2 c n hn).1);subst Wv;have hp:jk (mk s.ks (vs.map nI)) (W1 x) (nI (n+1))=some (mk (s.ks++[x]) ((vs++[n+1]).map nI)):=by
   rw[kk.put _ _ _ _ Ig (by rw[XS,<-hv.1,b6];omega),Yx];rfl
  refine⟨vs++[n+1],⟨by simp[hv.1],λy m hy=>?_⟩,(aM (Z':=gR mk nr a (s.ks++[x]) (vs++[n+1]) r (some (.ow (.lst ((s.fu++[x]).map W1)))) (fz (W1 c)) (fz (W1 x))) (fP ht (ak (Z':=gR mk nr a (s.ks++[x]) (vs++[n+1]) r (some (.ow (.lst (s.fu.map W1)))) (fz (W1 c)) (fz (W1 x))) ((CN (c:=mk s.ks (vs.map nI)) (k:=W1 x) (d:=nI (n+1)) rfl (yn ((aP (x:=nI n) (y:= .int 1) ((aP (x:=(mk s.ks (vs.map nI)).d) (y:=W1 c) rfl rfl).trans hi) rfl).trans rfl) rfl) rfl hp).trans rfl) ?_))).trans rfl⟩
  ·rw[abQ hv.1] at hy;rcases Yr.mp hy with q | q
   ·exact hv.2 y m q
   ·cases Yb.mp q;refine⟨.inr ⟨c,hk.1,hx⟩,λj hj=>Nat.lt_of_not_le λz=>Ig (nQ _ (Rb.mono z hj))⟩
  ·show (if (s.fu.map W1).length<lim then aa (Out.nx (gR mk nr a (s.ks++[x]) (vs++[n+1]) r (some (.ow (.lst (s.fu.map W1++[W1 x])))) (fz (W1 c)) (fz (W1 x)))) else ag)=_;have:=h.fu;rw[aex (by rw[XS,b6];omega),show s.fu.map W1++[W1 x]=(s.fu++[x]).map W1 by simp]
def qV{c x y:α}{s:Bk α}(h:y∈s.ks):y∈(cS c s x).ks:=(ur s).mpr (.inl h)
def qU{y c:α}{s:Bk α}(h:y∈s.ks):y∈(gD nb s c).ks:=((foldStep (P:=λ_ _=>True) (nb c) s λ_ _=>trivial).2 y).mpr (.inl h)
def IC(kk:KOk W1 mk)(iH:S.length<=64)(hS:∀y∈S,∀x∈nb y,x∈S){nr:D}(hN:qz W1 S nb nr){a:D}{c:α}{r:Option Sl}{s:Bk α}{k:Nat}(h:SokG S s)(hc:c∈s.ks)(hk:Ds nb a0 c k)(nQ:∀y,Rb nb a0 k y->y∈s.ks){vs:List Nat}(hv:Val nb a0 s.ks vs):
 SokG S (gD nb s c)/\∃g9,Val nb a0 (gD nb s c).ks g9/\L7 (gR mk nr a s.ks vs r (some (.ow (.lst (s.fu.map W1)))) (fz (W1 c)) none)=aa (.nx (gR mk nr a (gD nb s c).ks g9 r (some (.ow (.lst ((gD nb s c).fu.map W1)))) none none)):=by
 have UH:=h.on c hc;obtain⟨Z',e,h1,h2,h4,g9,h3,rfl⟩:=qS (put:=putN 6) (body:=L8) W1 (λ(s:Bk α) Z=>SokG S s/\c∈s.ks/\(∀y,Rb nb a0 k y->y∈s.ks)/\∃vs:List Nat,Val nb a0 s.ks vs/\Z=gR mk nr a s.ks vs r (some (.ow (.lst (s.fu.map W1)))) (fz (W1 c)) none) (cS c) (nb c) s _ ⟨h,hc,nQ,vs,hv,rfl⟩ λs Z ⟨h,hc,nQ,vs,hv,e⟩ x hx=>by
  subst e;obtain⟨g9,h1,h2⟩:=IE (nr:=nr) (a:=a) (x:=x) (r:=r) kk iH h hc hk nQ hx hv;exact⟨_,_,rfl,h2,h.step (hS c UH x hx),qV hc,λy hy=>qV (nQ y hy),g9,h1,rfl⟩
 refine⟨h1,g9,h3,(aM (cM ?_ e)).trans rfl⟩;obtain⟨d,hd,hd2⟩:=hN c UH;have e0:d2 bp (dV 0) (dV 5) (gR mk nr a s.ks vs r (some (.ow (.lst (s.fu.map W1)))) (fz (W1 c)) none)=aa d:=(aP (x:=nr) (y:=W1 c) rfl rfl).trans hd;show orM (d2 bp (dV 0) (dV 5) _>>=lstM) (d2 bp (dV 0) (dV 5) _>>=eW)=_;rw[e0];exact hd2
def ID(kk:KOk W1 mk)(iH:S.length<=64)(hS:∀y∈S,∀x∈nb y,x∈S){nr:D}(hN:qz W1 S nb nr){a:D}{P3:List α}{s:Bk α}{k:Nat}(hr:∀c∈P3,c∈s.ks/\Ds nb a0 c k)(nQ:∀y,Rb nb a0 k y->y∈s.ks)(h:SokG S s)(hf:s.fu=[]){vs:List Nat}(hv:Val nb a0 s.ks vs):
 SokG S (b0 nb s P3)/\∃g9,Val nb a0 (b0 nb s P3).ks g9/\L6 (gR mk nr a s.ks vs (fz (.lst (P3.map W1))) none none none)=aa (.nx (gR mk nr a (b0 nb s P3).ks g9 (fz (.lst ((b0 nb s P3).fu.map W1))) none none none)):=by
 obtain⟨Z',e,h1,h2,h4,g9,h3,rfl⟩:=qS (put:=putN 5) (body:=L7) W1 (λ(s:Bk α) Z=>SokG S s/\(∀c∈P3,c∈s.ks/\Ds nb a0 c k)/\(∀y,Rb nb a0 k y->y∈s.ks)/\∃vs:List Nat,Val nb a0 s.ks vs/\Z=gR mk nr a s.ks vs (fz (.lst (P3.map W1))) (some (.ow (.lst (s.fu.map W1)))) none none) (gD nb) P3 s _ ⟨h,hr,nQ,vs,hv,rfl⟩ λs Z ⟨h,hr,nQ,vs,hv,e⟩ c hc=>by
  subst e;obtain⟨g1,g9,g2,g3⟩:=IC (nb:=nb) (a:=a) (r:=fz (.lst (P3.map W1))) kk iH hS hN h (hr c hc).1 (hr c hc).2 nQ hv;exact⟨_,_,rfl,g3,g1,λc' xS=>⟨qU (hr c' xS).1,(hr c' xS).2⟩,λy hy=>qU (nQ y hy),g9,g2,rfl⟩
 rw[hf] at e;refine⟨h1,g9,h3,(aM (Z':=gR mk nr a (b0 nb s P3).ks g9 (fz (.lst ((b0 nb s P3).fu.map W1))) (fz (.lst ((b0 nb s P3).fu.map W1))) none none) ?_).trans rfl⟩;refine ak (Z':=gR mk nr a s.ks vs (fz (.lst (P3.map W1))) (some (.ow (.lst []))) none none) rfl (ak (Z':=gR mk nr a (b0 nb s P3).ks g9 (fz (.lst (P3.map W1))) (some (.ow (.lst ((b0 nb s P3).fu.map W1)))) none none) ?_ rfl);exact cM rfl e
def yq(kk:KOk W1 mk)(iH:S.length<=64)(hS:∀y∈S,∀x∈nb y,x∈S){nr:D}(hN:qz W1 S nb nr)(ha:a0∈S):∀(fuel k:Nat) (ks:List α) (ps:List (Option α)) (P3:List α) (vs:List Nat),S.length+2<=fuel+k->Rng nb a0 k ks ps P3->(∀x∈ks,x∈S)->Val nb a0 ks vs->
 ∃k' ks' f9 g9,Rng nb a0 k' ks' f9 []/\(∀x∈ks',x∈S)/\Val nb a0 ks' g9/\eT (dj (dV 3)) L6 fuel (gR mk nr (W1 a0) ks vs (fz (.lst (P3.map W1))) none none none)=aa (.nx (gR mk nr (W1 a0) ks' g9 (fz (.lst [])) none none none))
 |0,k,ks,ps,P3,vs,hf,hR,gA,hv=>by
  have h1:ks.length<=S.length:=bK hR.nd gA;have:=hR.sz.1;omega
 |fuel+1,k,ks,ps,[],vs,hf,hR,gA,hv=>⟨k,ks,ps,vs,hR,gA,hv,tf rfl⟩
 |fuel+1,k,ks,ps,c::P3,vs,hf,hR,gA,hv=>by
  have VN:=hR.next (by simp);have PL:∀x∈c::P3,x∈ks/\Ds nb a0 x k:=λx hx=>⟨(hR.mem x).mpr ((hR.rg x).mp hx).1,(hR.rg x).mp hx⟩
  obtain⟨hb,Xu,WS,e⟩:=ID (nb:=nb) (a:=W1 a0) kk iH hS hN (s:=⟨ks,ps,[]⟩) PL (λy hy=>(hR.mem y).mpr hy) ⟨hR.len,hR.nd,gA,YC _⟩ rfl hv;obtain⟨k',ks',f9,g9,q1,q2,q3,q4⟩:=yq kk iH hS hN ha fuel (k+1) _ _ _ Xu (by omega) VN hb.on WS;exact⟨k',ks',f9,g9,q1,q2,q3,nh rfl e q4⟩
def qP(kk:KOk W1 mk)(iH:S.length<=64)(hS:∀y∈S,∀x∈nb y,x∈S){nr:D}(hN:qz W1 S nb nr)(ha:a0∈S):
 ∃(ks:List α) (vs:List Nat),(∀x,x∈ks↔∃j,Rb nb a0 j x)/\Val nb a0 ks vs/\cg [nr,W1 a0]=aa (mk ks (vs.map nI)).d:=by
 obtain⟨k,ks,ps,vs,h1,h2,h3,h4⟩:=yq (nb:=nb) kk iH hS hN ha lim 0 [a0] [none] [a0] [0] (by rw[b6];omega) (Rng.zero _ _) (λx hx=>(show x=a0 by simpa using hx)▸ha) ⟨rfl,λx n h=>by
  have h:x=a0/\n=0:=by simpa using h
  rw[h.1,h.2];exact⟨rfl,λj _=>YC _⟩⟩
 refine⟨ks,vs,h1.last,h3,a9 (ak (Z':=gR mk nr (W1 a0) [a0] [0] none none none none) ?_ (ak (Z':=gR mk nr (W1 a0) [a0] [0] (fz (.lst [W1 a0])) none none none) rfl (ak (Z':=gR mk nr (W1 a0) ks vs (fz (.lst [])) none none none) (ck h4) rfl)))⟩;show (orM (lU (W1 a0) (.int 0)) (lT (W1 a0) (.int 0))>>=_)=_;rw[kk.ini];rfl
end
section
variable{bd:List Str}{W v:Nat}{f:Cell->Nat}
def GH(hv:Ways v){l:NT}(hl:NrS (λn=>∃x,On bd.length W x/\f x=n) (Ad bd.length W v f) l){a b:Cell}(ha:On bd.length W a)(hb:On bd.length W b):
 ∃n,Dr (Ad bd.length W v f) (f a) (f b) n/\∃d,cg [jR (l.map cy),nI (f a)]=aa d/\bp d (nI (f b))=aa (nI n):=by
 have hP:∀y,(∃x,On bd.length W x/\f x=y)->∀x,x∈tT l y->∃z,On bd.length W z/\f z=x:=λy hy x hx=>by
  obtain⟨_,p,q,h1,_,h2⟩:=(hl.mem hy).mp hx;exact⟨q,h1.2.1,h2⟩
 have hE:∀y,(∃x,On bd.length W x/\f x=y)->∀x,x∈tT l y↔Ad bd.length W v f y x:=λy hy x=>hl.mem hy;have iH:(l.map (·.1)).length<=64:=le64 hl.nd λn hn=>hl.hT n ((hl.key n).mp hn);obtain⟨ks,vs,h1,h2,h3⟩:=qP (nb:=tT l) DU iH (λy hy x hx=>(hl.key x).mpr (hP y ((hl.key y).mp hy) x hx)) hl.near ((hl.key (f a)).mpr ⟨a,ha,rfl⟩);have hr:=sL (f:=f) (K0 hv ha hb).1;have tO:f b∈ks:=(h1 _).mpr ⟨_,(iB ⟨a,ha,rfl⟩ hP hE).1.mpr hr⟩;obtain⟨d,e1,e2⟩:=DU.ix (ds:=vs.map nI) (by rw[XS];exact h2.1) tO;obtain⟨n,rfl,e3⟩:=BA e1;exact⟨n,(Fx ⟨a,ha,rfl⟩ hP hE).mp (h2.2 _ _ e3),_,h3,e2⟩
end
section
variable{bd:List Str}{W w v:Nat}{f:Cell->Nat}
def fK{n i:Nat}(h:i<n):bN [nI n,nI i]=aa .non:=by
 refine CP (Z:=[fz (nI n),fz (nI i)]) (fO (Fo (p:=false) (q:=false) (nJ (b:=true) (iM ((au (ds:=[nI i]) rfl rfl).trans ((vq (d:=nI i) trivial).trans rfl)))) (nJ (b:=true) (gB ?_))) rfl);show (if decide ((0:Int)<=(i:Int))=true then aa (D.bl (decide ((i:Int)<(n:Int)))) else aa (D.bl false))=_;rw[aex (by rw[aez];omega),aeA (by omega)]
def Ct(hw:Ways w)(hf:NumF bd W w f){E:Nat->Nat->Prop}{l:NT}(hl:NrS (λn=>∃x,On bd.length W x/\f x=n) E l):(ay bd W w).length<=l.length:=by
 have:=bK (l:=Yp (ay bd W w).length) (U:=l.map (·.1)) List.nodup_range λi hi=>by
  have hi:=YQ.mp hi;obtain⟨m,e1,e2⟩:=kq (XW hi);have hm:=wm e1;have ho:=eM hm;obtain⟨r,hr⟩:=sy hw hm;obtain⟨P,h1,h2⟩:=hf m ho;have h3:(ay bd W w)[i]? =some (m::r):=by rw[XW hi,e2,hr]
  exact(hl.key i).mpr ⟨m,ho,qk hw h1 h3 h2 XU⟩
 simpa using this
def yf(hg:Brd bd W)(hs:bd.length*W<64)(hw:Ways w)(hf:NumF bd W w f){a b:Cell}(ha:On bd.length W a)(hb:On bd.length W b):
 ∃n,Dr (Ad bd.length W 4 f) (f a) (f b) n/\e9 [brd bd,iW w,nI (f a),nI (f b)]=aa (nI n):=by
 obtain⟨l,hl,e1⟩:=ir (v:=4) hg hs hw (.inl rfl) hf;obtain⟨n,hn,d,e2,e3⟩:=GH (.inl rfl) hl ha hb;have hlen:=Ct hw hf hl;have la:=hf.lt ha;have lb:=hf.lt hb;have em:de [brd bd,iW w]=aa (jR (l.map cy)):=a9 (ak (fC ((au (ds:=[brd bd]) rfl rfl).trans hg.nb)) (ak (fC ((au (ds:=[iW w]) rfl rfl).trans hw.nw)) (bh ((au (ds:=[brd bd, .int 4, .lst ((ay bd W w).map cL)]) (aK rfl (aK rfl (aK ((au (ds:=[brd bd,iW w]) rfl rfl).trans ((jd hg hs hw).trans (by rw[lJ]))) rfl))) rfl).trans e1))));have el:kM [jR (l.map cy)]=aa (nI l.length):=by
  rw[wZ];show aa (D.int (((l.map (·.1)).map kN).length:Int))=_;rw[XS,XS];rfl
 have nn:∀{i:Nat}{Z:bH}{k:Nat},Z[4]? =some (fz (jR (l.map cy)))->Z[k]? =some (fz (nI i))->i<(ay bd W w).length->qc (aD 2 bN (aC (dA kM (aC (dV 4) aN)) (aC (dV k) aN))) Z=aa (.nx Z):=λh4 hk hi=>
  fC ((au (ds:=[nI l.length,nI _]) (aK ((bD (xs:=[jR (l.map cy)]) (aK (gh h4) rfl)).trans el) (aK (gh hk) rfl)) rfl).trans (fK (by omega)))
 exact⟨n,hn,a9 (ak (Z':=[fz (brd bd),fz (iW w),fz (nI (f a)),fz (nI (f b)),fz (jR (l.map cy))]) ((aS ((au (ds:=[brd bd,iW w]) rfl rfl).trans em)).trans rfl) (ak (nn rfl rfl la) (ak (nn rfl rfl lb) (bh ((aP (x:=d) (y:=nI (f b)) ((au (ds:=[jR (l.map cy),nI (f a)]) rfl rfl).trans e2) rfl).trans e3)))))⟩
end
section
open Classical
variable{W:Nat}
noncomputable def Ml(ks:List Cell)(g:Cell->Int)(k:Cell):Int:=if k∈ks then g k else 0
def TB(f:Cell->Nat)(k x y:Cell):Bool:=decide (f x<f y/\(f x,f y)=k)
def len_same{α:Type}[DecidableEq α]{a b:List α}(ha:a.Nodup)(hb:b.Nodup)(h:∀x,x∈a↔x∈b):a.length=b.length:=aau (nZ ha λx hx=>(h x).mp hx) (nZ hb λx hx=>(h x).mpr hx)
def B0(x:Cell):List Cell:=[(x.1+1,x.2),(x.1,x.2+1)]
def Gn{x y:Cell}:y∈B0 x↔(y.1=x.1+1/\y.2=x.2)\/(y.1=x.1/\y.2=x.2+1):=by
 unfold B0;obtain⟨y1,y2⟩:=y;simp
def GJ{x y:Cell}:iw 4 x y=true↔y∈B0 x\/x∈B0 y:=by
 rw[Gn,Gn];unfold iw bO;rw[aex rfl,aez];omega
def T7(ks:List Cell)(g:Cell->Int):D:= .lst (ks.map λk=> .tup [cD k, .int (g k)])
def LJ(R W:Nat)(f:Cell->Nat)(k:Cell):Prop:=∃x y,On R W x/\On R W y/\iw 4 x y=true/\f x<f y/\k=(f x,f y)
def KA{ks:List Cell}(hn:ks.Nodup)(h:∀k∈ks,LJ R W f k):ks.length<=2*(R*W):=by
 have:ks.length<=((az R W).flatMap λx=>(B0 x).map λy=>((min (f x) (f y),max (f x) (f y)):Cell)).length:=bK hn λk hk=>by
  obtain⟨x,y,hx,hy,h1,h2,rfl⟩:=h k hk;rcases GJ.mp h1 with q | q
  ·exact aaJ.mpr ⟨x,aA.mpr hx,X9.mpr ⟨y,q,by rw[Ze (by omega),ZR (by omega)]⟩⟩
  ·exact aaJ.mpr ⟨y,aA.mpr hy,X9.mpr ⟨x,q,by rw[ZQ (by omega),Z8 (by omega)]⟩⟩
 have l2:=rA (n:=2) (λx=>(B0 x).map λy=>((min (f x) (f y),max (f x) (f y)):Cell)) (λx=>by unfold B0;simp) (az R W);rw[aZ] at l2;omega
end
end K1
namespace K1
open PySem PySem.Spec L2 L3
open PyProof.Rows hiding St
def Jk(h:δ Z=aa (.lst ds)):cR δ Z=aa ds:=by
 unfold cR;rw[h];rfl
def jK:∀l:List Int,nums (l.map D.int)=some l
 |[]=>rfl
 |x::l=>by
  show (nums (l.map D.int)).map _=_;rw[jK l];rfl
def Tq(h:0<l.length):rN [.lst (l.map D.int)]=aa (.int (jG l)):=by
 show (match nums (l.map D.int) with | some ns=>if 0<ns.length then aa (D.int (jG ns)) else ag | none=>ag)=_;rw[jK];exact aex h
def Tp(h:0<l.length):uW [.lst (l.map D.int)]=aa (.int (eV l)):=by
 show (match nums (l.map D.int) with | some ns=>if 0<ns.length then aa (D.int (eV ns)) else ag | none=>ag)=_;rw[jK];exact aex h
def ne_self{d:D}(h:lu 6 d d=some true):lz d d=aa (.bl false):=by
 unfold lz;rw[h];rfl
def Jn{i:Nat}(h:l[i]? =some d):vQ (.lst l) (.int (i:Int))=aa d:=by
 show (match L2.atI l (i:Int) with | some x=>aa x | none=>ag)=_;rw[g_ h]
def yY(m:Nat)(hm:m<=64)(hn:δn Z=aa (.int (m:Int)))(h:∀k:Nat,k<m->δ (fz (.int (k:Int))::Z)=aa (g k)):bB 0 (λZ=>(aC δn aN) Z>>=dQ) bQ δ Z=aa (.lst ((Yp m).map g)):=by
 refine bU (zJ hn (by omega)) (cW (λ(k:Nat)=>D.int (k:Int)) g (Yp m) λk hk=>?_) (by rw[XS,YO,b6];omega);rw[gU,h k (YQ.mp hk)];rfl
end K1
namespace K1
open PySem L2 L3
section
open Classical
variable{bd:List Str}{W w:Nat}{f:Cell->Nat}
def iu(hw:Ways w)(hf:NumF bd W w f){i:Nat}(hi:i<(ay bd W w).length):∃x,On bd.length W x/\f x=i:=by
 obtain⟨m,e1,e2⟩:=kq (XW hi);have hm:=wm e1;have ho:=eM hm;obtain⟨r,hr⟩:=sy hw hm;obtain⟨P,h1,h2⟩:=hf m ho;have h3:(ay bd W w)[i]? =some (m::r):=by rw[XW hi,e2,hr]
 exact⟨m,ho,qk hw h1 h3 h2 XU⟩
def A3(hf:NumF bd W w f){i:Nat}(h:∃x,On bd.length W x/\f x=i):i<(ay bd W w).length:=by
 obtain⟨x,hx,rfl⟩:=h;exact hf.lt hx
def BI(hf:NumF bd W w f){i j:Nat}(h:Ad bd.length W 4 f i j):i<(ay bd W w).length/\j<(ay bd W w).length:=by
 obtain⟨_,x,y,⟨hx,hy,_⟩,rfl,rfl⟩:=h;exact⟨hf.lt hx,hf.lt hy⟩
noncomputable def dN(E:Nat->Nat->Prop)(i j:Nat):Nat:=if h:∃m,Dr E i j m then adO h else 0
def BU{E:Nat->Nat->Prop}(h:Dr E i j m):dN E i j=m:=by
 unfold dN;have q:∃m,Dr E i j m:=⟨m,h⟩
 rw[dif_pos q];exact(ac8 q).one h
noncomputable def M4(E:Nat->Nat->Prop)(n i:Nat):List Nat:=(Yp n).filter λj=>decide (E i j)
def Ci{E:Nat->Nat->Prop}:j∈M4 E n i↔j<n/\E i j:=by
 unfold M4;rw[YZ,YQ,aez]
def Hr(n:Nat):(Yp n).Pairwise (· < ·):=List.pairwise_lt_range
def eU(l:List Nat):List Int:=l.map λ(j:Nat)=>(j:Int)
def Ob{l:List Nat}(h:l.Pairwise (· < ·)):(eU l).Pairwise (· <= ·):=by
 unfold eU;rw[aaU];exact h.imp λ{a b} q=>by omega
def Gr{E:Nat->Nat->Prop}:(M4 E n i).Pairwise (· < ·):=(Hr n).filter _
def Qg{l:List Nat}(h:l.Pairwise (· < ·)):l.Nodup:=h.imp λ{a b} q=>by omega
def CU{l m:List Nat}(hl:l.Nodup)(hm:m.Pairwise (· < ·))(h:∀j,j∈l↔j∈m):eA (eU l)=eU m:=by
 have p:l.Perm m:=(List.perm_ext_iff_of_nodup hl (Qg hm)).mpr h;exact qp ((dG _).trans (p.map _)) (kB _) (Ob hm)
def lD(hg:Brd bd W)(hs:bd.length*W<64)(hw:Ways w)(hf:NumF bd W w f):∃l,NrS (λn=>∃x,On bd.length W x/\f x=n) (Ad bd.length W 4 f) l/\l.length=(ay bd W w).length/\de [brd bd,iW w]=aa (jR (l.map cy))/\kM [jR (l.map cy)]=aa (nI (ay bd W w).length):=by
 obtain⟨l,hl,e1⟩:=ir (v:=4) hg hs hw (.inl rfl) hf;have h1:=Ct hw hf hl;have h2:=bK (U:=Yp (ay bd W w).length) hl.nd λn hn=>YQ.mpr (A3 hf ((hl.key n).mp hn));rw[XS,YO] at h2;have hlen:l.length=(ay bd W w).length:=by omega
 refine⟨l,hl,hlen,?_,?_⟩
 ·exact a9 (ak (fC ((au (ds:=[brd bd]) rfl rfl).trans hg.nb)) (ak (fC ((au (ds:=[iW w]) rfl rfl).trans hw.nw)) (bh ((au (ds:=[brd bd, .int 4, .lst ((ay bd W w).map cL)]) (aK rfl (aK rfl (aK ((au (ds:=[brd bd,iW w]) rfl rfl).trans ((jd hg hs hw).trans (by rw[lJ]))) rfl))) rfl).trans e1))))
 ·rw[wZ,<-hlen];show aa (D.int (((l.map (·.1)).map kN).length:Int))=_;rw[XS,XS];rfl
def rf:∀ks:List Nat,jg (ks.map kN)=some (eU ks)
 |[]=>rfl
 |k::ks=>by
  show (jg (ks.map kN)).map ((k:Int):: ·)=_;rw[rf ks];rfl
def iU(l:List Nat):(eU l).map D.int=l.map nI:=by unfold eU;rw[Yu];rfl
def D8(hg:Brd bd W)(hs:bd.length*W<64)(hw:Ways w)(hf:NumF bd W w f){i:Nat}(hi:i<(ay bd W w).length):cY [brd bd,iW w,nI i]=aa (.lst ((M4 (Ad bd.length W 4 f) (ay bd W w).length i).map nI)):=by
 obtain⟨l,hl,hlen,em,el⟩:=lD hg hs hw hf;obtain⟨p,hp,rfl⟩:=X9.mp ((hl.key i).mpr (iu hw hf hi));have Oo:=hl.nb p hp;have kG:=gu (bd:=bd) (W:=W) (w:=w);obtain⟨d,d1,d2⟩:=DU.ix (ds:=l.map λp=>inD (p.2.map kN)) (by rw[XS,XS]) (X9.mpr ⟨p,hp,rfl⟩:p.1∈l.map (·.1));have ed:d=inD (p.2.map kN):=by
  have:∀(l:NT),(l.map (·.1)).Nodup->p∈l->(p.1,d)∈(l.map (·.1)).zip (l.map λp=>inD (p.2.map kN))->d=inD (p.2.map kN):=λl=>by
   induction l with
   |nil=>intro _ h;cases h
   |cons q l ih=>
    intro hn Oq hz;rw[X3,X3,Y4] at hz;rw[X3,Yz] at hn;rcases XY.mp hz with z | z
    ·have z1:p.1=q.1:=(Prod.mk.inj z).1;have z2:d=inD (q.2.map kN):=(Prod.mk.inj z).2;rcases XY.mp Oq with y | y
     ·rw[y];exact z2
     ·exact aeB (X9.mpr ⟨p,y,z1⟩) hn.1
    ·rcases XY.mp Oq with y | y
     ·have:=(aba z).1;rw[y] at this;exact aeB this hn.1
     ·exact ih hn.2 y z
  exact this l hl.nd hp d1
 subst ed;have XO:=le64 Oo.1 λm hm=>hl.hE p.1 m ((Oo.2 m).mp hm);have hb:p.2.length<64:=by
  have:=bK (U:=Yp (ay bd W w).length) Oo.1 λm hm=>YQ.mpr (BI hf ((Oo.2 m).mp hm)).2;rw[YO] at this;omega
 refine a9 (ak (Z':=[fz (brd bd),fz (iW w),fz (nI p.1),fz (jR (l.map cy))]) ((aS ((au (ds:=[brd bd,iW w]) rfl rfl).trans em)).trans rfl) (ak (fC ((au (ds:=[nI (ay bd W w).length,nI p.1]) (aK ((bD (xs:=[jR (l.map cy)]) (aK rfl rfl)).trans el) (aK rfl rfl)) rfl).trans (fK hi))) (bh ((bD (xs:=[inD (p.2.map kN)]) (aK ((aP (x:=jR (l.map cy)) (y:=nI p.1) rfl rfl).trans (by rw[wZ];exact d2)) rfl)).trans ?_))));show (match jg (p.2.map kN) with | some ns=>if ns.length<64 then aa (D.lst ((eA ns).map D.int)) else ag | none=>ag)=_;rw[rf];show (if (eU p.2).length<64 then aa (D.lst ((eA (eU p.2)).map D.int)) else ag)=_;rw[aex (by unfold eU;rw[XS];exact hb),CU Oo.1 Gr λj=>?_,iU];rw[Oo.2,Ci];exact⟨λh=>⟨(BI hf h).2,h⟩,λh=>h.2⟩
def KS(hw:Ways w)(hf:NumF bd W w f){i j:Nat}(hi:i<(ay bd W w).length)(hj:j<(ay bd W w).length):Dr (Ad bd.length W 4 f) i j (dN (Ad bd.length W 4 f) i j):=by
 obtain⟨x,hx,rfl⟩:=iu hw hf hi;obtain⟨y,hy,rfl⟩:=iu hw hf hj;have r:=sL (f:=f) (K0 (.inl rfl) hx hy).1;obtain⟨m,hm,h⟩:∃m,Rr (Ad bd.length W 4 f) (f x) m (f y)/\∀j,Rr (Ad bd.length W 4 f) (f x) j (f y)->m<=j:=by
  have:∀k,Rr (Ad bd.length W 4 f) (f x) k (f y)->∃m,Rr (Ad bd.length W 4 f) (f x) m (f y)/\∀j,Rr (Ad bd.length W 4 f) (f x) j (f y)->m<=j:=λk=>by
   induction k with
   |zero=>exact λh=>⟨0,h,λj _=>YC _⟩
   |succ k ih=>
    intro h;by_cases q:Rr (Ad bd.length W 4 f) (f x) k (f y)
    ·exact ih q
    ·refine⟨k+1,h,λj hj=>?_⟩;apply byContradiction;intro z;exact q (hj.mono (by omega))
  exact this _ r
 rw[BU ⟨hm,h⟩];exact⟨hm,h⟩
def E9(hg:Brd bd W)(hs:bd.length*W<64)(hw:Ways w)(hf:NumF bd W w f){i j:Nat}(hi:i<(ay bd W w).length)(hj:j<(ay bd W w).length):e9 [brd bd,iW w,nI i,nI j]=aa (nI (dN (Ad bd.length W 4 f) i j)):=by
 obtain⟨x,hx,rfl⟩:=iu hw hf hi;obtain⟨y,hy,rfl⟩:=iu hw hf hj;obtain⟨n,h1,h2⟩:=yf hg hs hw hf hx hy;rw[BU h1,h2]
end
section
open Classical
variable{bd:List Str}{W w:Nat}{f:Cell->Nat}
noncomputable def oG(E:Nat->Nat->Prop)(n i:Nat):List Nat:=(Yp n).map (dN E i)
noncomputable def EV(E:Nat->Nat->Prop)(n:Nat):List Int:=(Yp n).map λi=>eV (eU (oG E n i))
def uY{a b:List Int}(ha:0<a.length)(h:∀x,x∈a↔x∈b):eV a=eV b:=by
 have hb:0<b.length:=by
  obtain⟨x,hx⟩:∃x,x∈a:=⟨a[0],ZO ha⟩
  exact ZH ((h x).mp hx)
 obtain⟨a1,a2⟩:=ik ha;obtain⟨b1,b2⟩:=ik hb;exact ab1 (b2 _ ((h _).mp a1)) (a2 _ ((h _).mpr b1))
def Cu(l:List Nat):nums (l.map nI)=some (eU l):=by rw[<-iU];exact jK _
def IK(hw:Ways w)(hf:NumF bd W w f){l:NT}(hl:NrS (λn=>∃x,On bd.length W x/\f x=n) (Ad bd.length W 4 f) l){i:Nat}(hi:i<(ay bd W w).length):
 d1 uX δ Z=aa (.int (eV (eU (oG (Ad bd.length W 4 f) (ay bd W w).length i))))\/δ Z≠cg [jR (l.map cy),nI i]:=by
 by_cases hδ:δ Z=cg [jR (l.map cy),nI i]
 ·refine .inl ?_;have hP:∀y,(∃x,On bd.length W x/\f x=y)->∀x,x∈tT l y->∃z,On bd.length W z/\f z=x:=λy hy x hx=>by
   obtain⟨_,p,q,h1,_,h2⟩:=(hl.mem hy).mp hx;exact⟨q,h1.2.1,h2⟩
  have hE:∀y,(∃x,On bd.length W x/\f x=y)->∀x,x∈tT l y↔Ad bd.length W 4 f y x:=λy hy x=>hl.mem hy;have iH:(l.map (·.1)).length<=64:=le64 hl.nd λn hn=>hl.hT n ((hl.key n).mp hn);have O_:=iu hw hf hi;obtain⟨ks,vs,h1,h2,h3⟩:=qP (nb:=tT l) DU iH (λy hy x hx=>(hl.key x).mpr (hP y ((hl.key y).mp hy) x hx)) hl.near ((hl.key i).mpr O_);have Pp:∀m,m∈vs↔m∈oG (Ad bd.length W 4 f) (ay bd W w).length i:=λm=>by
   unfold oG;rw[X9];constructor
   ·intro hm;obtain⟨k,hk,rfl⟩:=Y_ hm;have DK:k<ks.length:=by rw[h2.1];exact hk
    have hz:(ks[k],vs[k])∈ks.zip vs:=ZZ.mpr ⟨k,by rw[aar];omega,by rw[List.getElem_zip]⟩;have hd:=(Fx (P:=λy=>∃x,On bd.length W x/\f x=y) O_ hP hE).mp (h2.2 _ _ hz);obtain⟨j',Wc⟩:=(h1 _).mp (ZO DK);have:=(iB (P:=λy=>∃x,On bd.length W x/\f x=y) (x:=ks[k]) O_ hP hE).2 Wc;exact⟨ks[k],YQ.mpr (A3 hf this),BU hd⟩
   ·rintro⟨j,hj,rfl⟩;have hj:=YQ.mp hj;have hd:=KS hw hf hi hj;have tO:j∈ks:=(h1 _).mpr ⟨_,(iB (P:=λy=>∃x,On bd.length W x/\f x=y) O_ hP hE).1.mpr hd.1⟩;obtain⟨k,hk,rfl⟩:=Y_ tO;have DK:k<vs.length:=by rw[<-h2.1];exact hk
    have hz:(ks[k],vs[k])∈ks.zip vs:=ZZ.mpr ⟨k,by rw[aar];omega,by rw[List.getElem_zip]⟩;rw[BU ((Fx (P:=λy=>∃x,On bd.length W x/\f x=y) O_ hP hE).mp (h2.2 _ _ hz))];exact ZO DK
  have MD:0<vs.length:=by
   rw[<-h2.1];exact ZH ((h1 i).mpr ⟨0,rfl⟩)
  show (δ Z>>=uX)=_;rw[hδ,h3,aw];show (match nums (vs.map nI) with | some ns=>if 0<ns.length then aa (D.int (eV ns)) else ag | none=>ag)=_;rw[Cu];show (if 0<(eU vs).length then aa (D.int (eV (eU vs))) else ag)=_;have hz:0<(eU vs).length:=by unfold eU;rw[XS];exact MD
  rw[aex hz,uY hz λx=>?_];unfold eU;rw[X9,X9];exact⟨λ⟨m,a,b⟩=>⟨m,(Pp m).mp a,b⟩,λ⟨m,a,b⟩=>⟨m,(Pp m).mpr a,b⟩⟩
 ·exact .inr hδ
def Ck{L:List Int}(hl:0<L.length)(h:Z[i]? =some (fz (.lst (L.map D.int)))):dM gG uK (dV i) (aC (dA rN (aC (dV i) aN)) aN) Z=aa (nI (L.idxOf (jG L))):=by
 show (dV i Z>>=λd=>if gG d then(aC (dA rN (aC (dV i) aN)) aN Z>>=λds=>uK d ds) else ag)=_;rw[gh h,aw,aex (show gG (.lst (L.map D.int))=true from rfl),aK ((bD (aK (gh h) rfl)).trans (Tq hl)) rfl,aw];show (match nums (L.map D.int) with | some ns=>if ns.contains (jG L) then aa (D.int (ns.idxOf (jG L))) else ag | none=>ag)=_;rw[jK];exact aex (by simpa using (nX hl).1)
noncomputable def MZ(E:Nat->Nat->Prop)(n:Nat):Nat:=(EV E n).idxOf (jG (EV E n))
def rM(hg:Brd bd W)(hs:bd.length*W<64)(hw:Ways w)(hf:NumF bd W w f):h7 [brd bd,iW w]=aa (nI (MZ (Ad bd.length W 4 f) (ay bd W w).length))/\0<(ay bd W w).length:=by
 obtain⟨l,hl,hlen,em,el⟩:=lD hg hs hw hf;have kG:=gu (bd:=bd) (W:=W) (w:=w);have hn:0<(ay bd W w).length:=A3 hf ⟨(0,0),⟨hg.r1,hg.w1⟩,rfl⟩ |>λh=>by omega
 have K7:0<(EV (Ad bd.length W 4 f) (ay bd W w).length).length:=by unfold EV;rw[XS,YO];exact hn
 refine⟨a9 (ak (Z':=[fz (brd bd),fz (iW w),fz (jR (l.map cy)),none]) ((aS ((au (ds:=[brd bd,iW w]) rfl rfl).trans em)).trans rfl) (ak (Z':=[fz (brd bd),fz (iW w),fz (jR (l.map cy)),fz (.lst ((EV (Ad bd.length W 4 f) (ay bd W w).length).map D.int))]) ((aS ((bU (zJ ((bD (xs:=[jR (l.map cy)]) (aK rfl rfl)).trans el) (by omega)) (cW (λ(k:Nat)=>D.int (k:Int)) (λk=> .int (eV (eU (oG (Ad bd.length W 4 f) (ay bd W w).length k)))) (Yp (ay bd W w).length) λk hk=>?_) (by rw[XS,YO,b6];omega)).trans (by unfold EV;rw[Yu];rfl))).trans rfl) (bh ?_))),hn⟩
 ·rw[gU,(IK (δ:=aD 2 cg (aC (dV 3) (aC (dV 0) aN))) hw hf hl (YQ.mp hk)).resolve_right λz=>z (au (ds:=[jR (l.map cy),nI k]) rfl rfl)];rfl
 ·exact Ck K7 rfl
end
section
variable{E:Nat->Nat->Prop}{a n:Nat}{ps:List (List Nat)}
def L9{x m:Nat}(h:Dr E a x (m+1)):∃y,Dr E a y m/\E y x:=by
 rcases h.1 with q | ⟨y,q,e⟩
 ·have:=h.2 m q;omega
 ·refine⟨y,⟨q,λj hj=>?_⟩,e⟩;have:=h.2 (j+1) (.inr ⟨y,hj,e⟩);omega
def B1(hn:∀i j,E i j->j<n)(ha:a<n):∀{m x:Nat},Dr E a x m->∃l:List Nat,l.length=m+1/\l.Nodup/\∀y∈l,y<n/\∃k,k<=m/\Dr E a y k
 |0,x,h=>⟨[x],rfl,by simp,λy hy=>by
  cases Yb.mp hy;exact⟨by rw[h.zero.mp rfl];exact ha,0,X4 _,h⟩⟩
 |m+1,x,h=>by
  obtain⟨y,hy,e⟩:=L9 h;obtain⟨l,h1,h2,h3⟩:=B1 hn ha hy;refine⟨x::l,by rw[X7,h1],Yz.mpr ⟨λz=>?_,h2⟩,λz hz=>?_⟩
  ·obtain⟨_,k,hk,hd⟩:=h3 x z;have:=h.one hd;omega
  ·rcases XY.mp hz with rfl | hz
   ·exact⟨hn _ _ e,m+1,X4 _,h⟩
   ·obtain⟨q1,k,q2,q3⟩:=h3 z hz;exact⟨q1,k,by omega,q3⟩
def OU(hn:∀i j,E i j->j<n)(ha:a<n){m x:Nat}(h:Dr E a x m):m<n:=by
 obtain⟨l,h1,h2,h3⟩:=B1 hn ha h;have:=bK (U:=Yp n) h2 λy hy=>YQ.mpr (h3 y hy).1;rw[YO] at this;omega
def C6(ks:List Nat)(x:Nat):List Nat:=if x∈ks then ks else ks++[x]
def lR{ks:List Nat}{x y:Nat}:y∈C6 ks x↔y∈ks\/y=x:=by
 unfold C6;split
 ·rename_i h;exact⟨.inl,λq=>q.elim id λz=>z▸h⟩
 ·simp
def LK{ks:List Nat}{x:Nat}(h:ks.Nodup):(C6 ks x).Nodup:=by
 unfold C6;split
 ·exact h
 ·rename_i hx;exact YT.mpr ⟨h,by simp,λy hy z hz e=>hx (by rw[e] at hy;cases Yb.mp hz;exact hy)⟩
def Ik(ks:List Nat)(x:Nat):ks.length<=(C6 ks x).length/\(x∉ks->(C6 ks x).length=ks.length+1):=by
 unfold C6;split
 ·rename_i h;exact⟨X4 _,λz=>aeB h z⟩
 ·simp
def lP(v:Nat->Nat)(x m:Nat):Nat->Nat:=λy=>if y=x then m else v y
def jl(ks:List Nat)(v:Nat->Nat)(c x:Nat):Nat:=min (if x∈ks then v x else 99) (v c+1)
structure Bf (E:Nat->Nat->Prop) (n a:Nat) (ks:List Nat) (v:Nat->Nat):Prop where
 nd:ks.Nodup
 on:∀x∈ks,x<n
 snd:∀x∈ks,Rr E a (v x) x
 lt:∀x∈ks,v x<ks.length
def Bf.len{ks:List Nat}{v:Nat->Nat}(h:Bf E n a ks v):ks.length<=n:=by
 have:=bK (U:=Yp n) h.nd λx hx=>YQ.mpr (h.on x hx)
 rwa [YO] at this
def Bf.step{ks:List Nat}{v:Nat->Nat}(h:Bf E n a ks v)(hs:n<64){c x:Nat}(hc:c∈ks)(hx:x<n)(hn:E c x):
 Bf E n a (C6 ks x) (lP v x (jl ks v c x))/\(∀y∈ks,lP v x (jl ks v c x) y<=v y)/\lP v x (jl ks v c x) x<=v c+1:=by
 have hl:=h.len;have WT:=h.lt c hc;obtain⟨XD,qY⟩:=Ik ks x;have self:lP v x (jl ks v c x) x=jl ks v c x:=aex rfl;have Tx:∀y,y≠x->lP v x (jl ks v c x) y=v y:=λy hy=>aey hy;have WH:jl ks v c x<=v c+1:=Nat.min_le_right ..;have UY:x∈ks->jl ks v c x<=v x:=λyM=>by unfold jl;rw[aex yM];exact Nat.min_le_left ..
 have WI:(x∈ks/\jl ks v c x=v x)\/jl ks v c x=v c+1:=by
  by_cases yM:x∈ks
  ·unfold jl;rw[aex yM];rcases aa1 (v x) (v c+1) with q | q
   ·exact .inl ⟨yM,Ze q⟩
   ·exact .inr (ZQ q)
  ·refine .inr ?_;unfold jl;rw[aey yM];omega
 refine⟨⟨LK h.nd,λy hy=>?_,λy hy=>?_,λy hy=>?_⟩,λy hy=>?_,by rw[self];exact WH⟩
 ·rcases lR.mp hy with q | q
  ·exact h.on y q
  ·rw[q];exact hx
 ·by_cases e:y=x
  ·subst e;rw[self];rcases WI with⟨q1,q2⟩ | q
   ·rw[q2];exact h.snd y q1
   ·rw[q];exact .inr ⟨c,h.snd c hc,hn⟩
  ·rw[Tx y e];exact h.snd y ((lR.mp hy).resolve_right e)
 ·by_cases e:y=x
  ·subst e;rw[self];by_cases q:y∈ks
   ·have:=UY q;have:=h.lt y q;omega
   ·have:=qY q;omega
  ·rw[Tx y e];have:=h.lt y ((lR.mp hy).resolve_right e);omega
 ·by_cases e:y=x
  ·subst e;rw[self];exact UY hy
  ·rw[Tx y e];exact X4 _
abbrev OT(ks:List Nat)(v:Nat->Nat):C:= .dci (ks.map kN) (ks.map λy=>nI (v y))
abbrev yx(ks:List Nat)(v:Nat->Nat):D:= .dci (ks.map kN) (ks.map λy=>nI (v y))
def valN{v:Nat->Nat}{x:Nat}:∀{ks:List Nat},x∈ks->di ks (ks.map λy=>nI (v y)) x=some (nI (v x))
 |k::ks,h=>by
  show (if k=x then some (nI (v k)) else di ks (ks.map λy=>nI (v y)) x)=_;by_cases e:k=x
  ·rw[aex e,e]
  ·rw[aey e];exact valN ((XY.mp h).resolve_left λz=>e z.symm)
def Ul{ks:List Nat}{v:Nat->Nat}{x:Nat}:BM (yx ks v) (nI x)=some (di ks (ks.map λy=>nI (v y)) x):=DU.at' ks _ x
def MP{ks:List Nat}{v:Nat->Nat}{x:Nat}(h:x∈ks):bp (yx ks v) (nI x)=aa (nI (v x)):=by
 unfold bp;rw[Ul,valN h]
def R3{ks:List Nat}{v:Nat->Nat}{x:Nat}{d:D}(hd:d=nI m):getM (yx ks v) (nI x) d=aa (nI (if x∈ks then v x else m)):=by
 unfold getM;rw[Ul];by_cases h:x∈ks
 ·rw[valN h,aex h]
 ·rw[kE h,aey h,hd]
def QN{v:Nat->Nat}{x m:Nat}:∀(ks:List Nat),kH (ks.map kN) (ks.map λy=>nI (v y)) (kN x) (nI m)=ks.map λy=>nI (lP v x m y)
 |[]=>rfl
 |k::ks=>by
  show (if kN k=kN x then nI m else nI (v k))::kH (ks.map kN) (ks.map λy=>nI (v y)) (kN x) (nI m)=_;rw[QN ks,X3];congr 1;unfold lP;by_cases e:k=x
  ·rw[aex (by rw[e]),aex e]
  ·rw[aey (λz=>e (nU _ _ z)),aey e]
def Qv{ks:List Nat}{v:Nat->Nat}{x m:Nat}(hl:ks.length<lim):jk (OT ks v) (nI x) (nI m)=some (OT (C6 ks x) (lP v x m)):=by
 show (if (ks.map λy=>nI (v y)).length<lim then some (C.dci (cU (ks.map kN) (ks.map λy=>nI (v y)) (kN x)) (cp (ks.map kN) (ks.map λy=>nI (v y)) (kN x) (nI m))) else none)=_;rw[aex (by rw[XS];exact hl)];unfold cU cp C6;rw[m_ nU];by_cases h:x∈ks
 ·rw[valN h,aex h];show some (C.dci (ks.map kN) (kH (ks.map kN) (ks.map λy=>nI (v y)) (kN x) (nI m)))=_;rw[QN]
 ·rw[kE h,aey h];show some (C.dci (ks.map kN++[kN x]) ((ks.map λy=>nI (v y))++[nI m]))=_;unfold OT;rw[Yx,Yx];have e1:(ks.map λy=>nI (v y))=ks.map λy=>nI (lP v x m y):=Y9 λy hy=>by
   unfold lP;rw[aey (λz:y=x=>h (z▸hy))]
  rw[e1];congr 3;show [nI m]=[nI (lP v x m x)]
  unfold lP;rw[aex rfl]
def To{ks:List Nat}{v:Nat->Nat}(hl:ks.length<=lim):Cf [yx ks v]=aa (.lst (ks.map nI)):=by
 show (match jg (ks.map kN) with | some ns=>if ns.length<=lim then aa (D.lst (ns.map D.int)) else ag | none=>ag)=_;rw[rf];show (if (eU ks).length<=lim then aa (D.lst ((eU ks).map D.int)) else ag)=_;rw[aex (by unfold eU;rw[XS];exact hl),iU]
def tU(ps:List (List Nat)):D:= .lst (ps.map λp=> .lst (p.map nI))
def tK(ps:List (List Nat))(a:Nat)(ks:List Nat)(v:Nat->Nat)(x3 x4 x5:Option Sl):bH:=[fz (tU ps),fz (nI a),some (.ow (OT ks v)),x3,x4,x5]
def Jz(n m:Nat):pZ [nI n,nI m]=aa (nI (min n m)):=by
 unfold pZ nI
 dsimp only
 split<;>(congr 2;omega)
def Mf(hs:n<64){ks:List Nat}{v:Nat->Nat}(h:Bf E n a ks v){t:Option Sl}{c x:Nat}(hc:c∈ks):
 R0 (tK ps a ks v t (fz (nI c)) (fz (nI x)))=aa (.nx (tK ps a (C6 ks x) (lP v x (jl ks v c x)) t (fz (nI c)) none)):=by
 have hl:=h.len;have hm:Fp (dA pZ (aC (ju (dV 2) (dV 5) (dC (.int 99))) (aC (d2 dw (d2 bp (dV 2) (dV 4)) (dC (.int 1))) aN))) (tK ps a ks v t (fz (nI c)) (fz (nI x)))=aa (nI (jl ks v c x)):=by
  refine yn ((bD (xs:=[nI (if x∈ks then v x else 99),nI (v c+1)]) (aK ?_ (aK ?_ rfl))).trans (Jz _ _)) rfl
  ·exact R3 (m:=99) rfl
  ·exact(aP (x:=nI (v c)) (y:= .int 1) ((aP (x:=yx ks v) (y:=nI c) rfl rfl).trans (MP hc)) rfl).trans rfl
 exact(aM (Z':=tK ps a (C6 ks x) (lP v x (jl ks v c x)) t (fz (nI c)) (fz (nI x))) ((CN (c:=OT ks v) (k:=nI x) (d:=nI (jl ks v c x)) rfl hm rfl (Qv (by rw[b6];omega))).trans rfl)).trans rfl
def MoN(ks:List Nat)(v:Nat->Nat)(ks':List Nat)(v':Nat->Nat):Prop:=∀y∈ks,y∈ks'/\v' y<=v y
def MoN.trans{ks Ou Ov:List Nat}{v v1 v2:Nat->Nat}(h:MoN ks v Ou v1)(h2:MoN Ou v1 Ov v2):MoN ks v Ov v2:=λy hy=>⟨(h2 y (h y hy).1).1,Yy (h2 y (h y hy).1).2 (h y hy).2⟩
def KY(hs:n<64){t:Option Sl}{c:Nat}:∀(l ks:List Nat) (v:Nat->Nat),(∀x∈l,x<n/\E c x)->Bf E n a ks v->c∈ks->
 ∃ks' v',Bf E n a ks' v'/\MoN ks v ks' v'/\(∀x∈l,x∈ks'/\v' x<=v c+1)/\forL (putN 5) R0 (l.map nI) (tK ps a ks v t (fz (nI c)) none)=aa (.nx (tK ps a ks' v' t (fz (nI c)) none))
 |[],ks,v,_,h,_=>⟨ks,v,h,λy hy=>⟨hy,X4 _⟩,(λx hx=>by cases hx),rfl⟩
 |x::l,ks,v,hl,h,hc=>by
  obtain⟨x1,x2⟩:=hl x (XU ..);obtain⟨b1,b2,b3⟩:=h.step hs hc x1 x2;have m1:MoN ks v (C6 ks x) (lP v x (jl ks v c x)):=λy hy=>⟨lR.mpr (.inl hy),b2 y hy⟩
  obtain⟨ks',v',c1,c2,c3,c4⟩:=KY hs (t:=t) l _ _ (λy hy=>hl y (XT _ hy)) b1 (m1 c hc).1;have WT:=(m1 c hc).2;refine⟨ks',v',c1,m1.trans c2,λy hy=>?_,(bA (Z1:=tK ps a ks v t (fz (nI c)) (fz (nI x))) rfl (Mf hs h hc)).trans c4⟩;rcases XY.mp hy with rfl | hy
  ·have:=c2 y (lR.mpr (.inr rfl));exact⟨this.1,by omega⟩
  ·have:=c3 y hy;exact⟨this.1,by omega⟩
structure RwOk (E:Nat->Nat->Prop) (n:Nat) (ps:List (List Nat)):Prop where
 len:ps.length=n
 nd:∀p∈ps,p.Nodup
 mem:∀i p,ps[i]? =some p->∀j,j∈p↔E i j
def FG(hs:n<64)(hE:∀i j,E i j->j<n)(hr:RwOk E n ps){t:Option Sl}:∀(l ks:List Nat) (v:Nat->Nat),(∀x∈l,x∈ks)->Bf E n a ks v->
 ∃ks' v',Bf E n a ks' v'/\MoN ks v ks' v'/\(∀c∈l,∀x,E c x->x∈ks'/\v' x<=v c+1)/\forL (putN 4) Ur (l.map nI) (tK ps a ks v t none none)=aa (.nx (tK ps a ks' v' t none none))
 |[],ks,v,_,h=>⟨ks,v,h,λy hy=>⟨hy,X4 _⟩,(λx hx=>by cases hx),rfl⟩
 |c::l,ks,v,hl,h=>by
  have hc:=hl c (XU ..);have gA:=h.on c hc;obtain⟨p,hp⟩:∃p,ps[c]? =some p:=⟨_,XW (by rw[hr.len];exact gA)⟩
  have hm:=hr.mem c p hp;obtain⟨k1,v1,b1,b2,b3,b4⟩:=KY hs (t:=t) (ps:=ps) (c:=c) p ks v (λx hx=>⟨hE _ _ ((hm x).mp hx),(hm x).mp hx⟩) h hc;obtain⟨ks',v',c1,c2,c3,c4⟩:=FG hs hE hr (t:=t) l k1 v1 (λx hx=>(b2 x (hl x (XT _ hx))).1) b1;refine⟨ks',v',c1,b2.trans c2,λd hd x hx=>?_,(bA (Z1:=tK ps a ks v t (fz (nI c)) none) (Z2:=tK ps a k1 v1 t none none) rfl ((aM (Z':=tK ps a k1 v1 t (fz (nI c)) none) (cM (Jk ((aP (x:=tU ps) (y:=nI c) rfl rfl).trans (Jn (by rw[X6,hp];rfl)))) b4)).trans rfl)).trans c4⟩;rcases XY.mp hd with rfl | hd
  ·have q1:=b3 x ((hm x).mpr hx);have q2:=c2 x q1.1;exact⟨q2.1,by omega⟩
  ·have q1:=c3 d hd x hx;have q2:=b2 d (hl d (XT _ hd));exact⟨q1.1,by omega⟩
def OF(E:Nat->Nat->Prop)(a T:Nat)(ks:List Nat)(v:Nat->Nat):Prop:=∀t x,t<=T->Rr E a t x->x∈ks/\v x<=t
def BW:∀l:List Nat,kJ (l.map nI)=true
 |[]=>rfl
 |x::l=>by
  show (qN (nI x)&&kJ (l.map nI))=true;rw[BW l];rfl
def LZ{δ:DE}{Z:bH}{l:List Nat}(h1:kT Z=true)(h:δ (oT Z)=aa (.lst (l.map nI))):KR δ Z=aa (.lst (l.map nI)):=by
 unfold KR;rw[aex h1,h];show (if kJ (l.map nI)=true then aa (D.lst (l.map nI)) else ag)=_;rw[aex (BW l)]
def IJ(hs:n<64)(hE:∀i j,E i j->j<n)(hr:RwOk E n ps){k T:Nat}{ks:List Nat}{v:Nat->Nat}(h:Bf E n a ks v)(hT:OF E a T ks v):
 ∃ks' v',Bf E n a ks' v'/\OF E a (T+1) ks' v'/\R1 (tK ps a ks v (fz (nI k)) none none)=aa (.nx (tK ps a ks' v' none none none)):=by
 have hl:=h.len;obtain⟨ks',v',c1,c2,c3,c4⟩:=FG hs hE hr (t:=fz (nI k)) ks ks v (λx hx=>hx) h;refine⟨ks',v',c1,λt x ht hx=>?_,(aM (Z':=tK ps a ks' v' (fz (nI k)) none none) (cM (Jk (LZ rfl ((bD (xs:=[yx ks v]) (aK rfl rfl)).trans (To (by rw[b6];omega))))) c4)).trans rfl⟩;cases t with
 |zero=>
  have q:=hT 0 x (YC _) hx;have q2:=c2 x q.1;exact⟨q2.1,by omega⟩
 |succ t=>
  rcases hx with hx | ⟨y,h1,h2⟩
  ·have q:=hT t x (by omega) hx;have q2:=c2 x q.1;exact⟨q2.1,by omega⟩
  ·have q:=hT t y (by omega) h1;have q2:=c3 y q.1 x h2;exact⟨q2.1,by omega⟩
def FF(hs:n<64)(hE:∀i j,E i j->j<n)(hr:RwOk E n ps):∀(l:List Nat) (T:Nat) (ks:List Nat) (v:Nat->Nat),Bf E n a ks v->OF E a T ks v->
 ∃ks' v',Bf E n a ks' v'/\OF E a (T+l.length) ks' v'/\forL (putN 3) R1 (l.map nI) (tK ps a ks v none none none)=aa (.nx (tK ps a ks' v' none none none))
 |[],T,ks,v,h,hT=>⟨ks,v,h,hT,rfl⟩
 |k::l,T,ks,v,h,hT=>by
  obtain⟨k1,v1,b1,b2,b3⟩:=IJ hs hE hr (k:=k) h hT;obtain⟨ks',v',c1,c2,c3⟩:=FF hs hE hr l (T+1) k1 v1 b1 b2;exact⟨ks',v',c1,by rw[X7,show T+(l.length+1)=T+1+l.length by omega];exact c2,(bA (Z1:=tK ps a ks v (fz (nI k)) none none) rfl b3).trans c3⟩
def yB(hs:n<64)(hE:∀i j,E i j->j<n)(hr:RwOk E n ps)(ha:a<n):
 ∃(ks:List Nat) (v:Nat->Nat),d_ [tU ps,nI a]=aa (yx ks v)/\ks.Nodup/\(∀x∈ks,x<n)/\∀x m,Dr E a x m->x∈ks/\v x=m:=by
 have h0:Bf E n a [a] (λ_=>0):=⟨by simp,λx hx=>by cases Yb.mp hx;exact ha,λx hx=>by cases Yb.mp hx;exact rfl,λx hx=>by simp⟩
 have VX:OF E a 0 [a] (λ_=>0):=λt x ht hx=>by
  obtain rfl:t=0:=by omega
  obtain rfl:x=a:=hx;exact⟨by simp,X4 _⟩
 obtain⟨ks,v,b1,b2,b3⟩:=FF hs hE hr (Yp n) 0 [a] (λ_=>0) h0 VX;rw[YO,abY] at b2;refine⟨ks,v,?_,b1.nd,b1.on,λx m hm=>?_⟩
 ·have SO:(λZ=>(aC (dA cz (aC (dV 0) aN)) aN) Z>>=dQ) (tK ps a [a] (λ_=>0) none none none)=aa ((Yp n).map nI):=zJ ((bD (xs:=[tU ps]) (aK rfl rfl)).trans (by
   show aa (D.int ((ps.map λp=>D.lst (p.map nI)).length:Int))=_;rw[XS,hr.len])) (by omega)
  refine a9 (ak (Z':=tK ps a [a] (λ_=>0) none none none) rfl (ak (Z':=tK ps a ks v none none none) (zN SO b3) ?_));rfl
 ·have:=OU hE ha hm;have q:=b2 m x (by omega) hm.1;exact⟨q.1,aau q.2 (hm.2 _ (b1.snd x q.1))⟩
end
section
open Classical
variable{bd:List Str}{W:Nat}
def QZ:DS:=(bT [5] (eP 2 (dV 5) (dV 3)))
def toN(bd:List Str)(Ps:List (List Cell))(ks:List Cell)(f:Cell->Nat)(x3 x4 x5:Option Sl):bH:=[fz (brd bd),fz (.lst (Ps.map cL)),some (.ow (xR ks λy=> .int (f y:Int))),x3,x4,x5,none,none,none]
def HS(hm:R*W<=64){i:Nat}(hP:Ps[i]? =some P)(gA:∀y∈P,On R W y):∀(l ks:List Cell) (f:Cell->Nat),(∀y∈l,y∈P)->NumOk R W Ps ks f->
 ∃ks' f',NumOk R W Ps ks' f'/\(∀y∈ks,y∈ks')/\(∀y∈l,y∈ks')/\forL (putN 5) QZ (l.map cD) (toN bd Ps ks f (fz (.int (i:Int))) x4 none)=aa (.nx (toN bd Ps ks' f' (fz (.int (i:Int))) x4 none))
 |[],ks,f,_,h=>⟨ks,f,h,λy hy=>hy,(λy hy=>(by cases hy)),rfl⟩
 |x::l,ks,f,hl,h=>by
  have hx:=hl x (XU ..);have Rl:ks.length<=64:=by
   have h1:=bK h.nd λy hy=>aA.mpr (h.on y hy);rw[aZ] at h1;omega
  have h1:NumOk R W Ps (bZ ks x) (λy=>if y=x then i else f y):=by
   refine⟨(kK [x] ks).1 h.nd,λy hy=>?_,λy hy=>?_⟩
   ·rcases da.mp hy with q | q
    ·exact h.on y q
    ·rw[q];exact gA x hx
   ·by_cases e:y=x
    ·exact⟨P,by rw[aex e];exact hP,by rw[e];exact hx⟩
    ·rcases da.mp hy with q | q
     ·obtain⟨Q,q1,q2⟩:=h.num y q;exact⟨Q,by rw[aey e];exact q1,q2⟩
     ·exact aeB q e
  obtain⟨ks',f',a1,a2,a3,a4⟩:=HS hm hP gA l (bZ ks x) _ (λy hy=>hl y (XT _ hy)) h1;refine⟨ks',f',a1,λy hy=>a2 y (da.mpr (.inl hy)),λy hy=>?_,?_⟩
  ·rcases XY.mp hy with rfl | hy
   ·exact a2 _ nA
   ·exact a3 y hy
  ·refine(bA rfl ?_).trans a4;refine(aM ((kz rfl rfl rfl (by rw[b6];omega)).trans rfl)).trans ?_;have ef:dR (λy=>D.int (f y:Int)) x (.int (i:Int))=λy=>D.int ((if y=x then i else f y:Nat):Int):=by
    funext y;unfold dR;by_cases e:y=x
    ·rw[aex e,aex e]
    ·rw[aey e,aey e]
   show aa (Out.nx [fz (brd bd),fz (.lst (Ps.map cL)),some (.ow (xR (bZ ks x) (dR (λy=>D.int (f y:Int)) x (.int (i:Int))))),fz (.int (i:Int)),x4,none,none,none,none])=_;rw[ef];rfl
def C5(hm:R*W<=64){Ps:List (List Cell)}(gA:∀P∈Ps,∀y∈P,On R W y):∀(qs:List (Nat×List Cell)) (ks:List Cell) (f:Cell->Nat),(∀q∈qs,Ps[q.1]? =some q.2)->NumOk R W Ps ks f->
 ∃ks' f',NumOk R W Ps ks' f'/\(∀y∈ks,y∈ks')/\(∀q∈qs,∀y∈q.2,y∈ks')/\forL (pB [3,4]) (bT [3,4,5] (cw (putN 5) (cR (dV 4)) QZ)) (qs.map Rc) (toN bd Ps ks f none none none)=aa (.nx (toN bd Ps ks' f' none none none))
 |[],ks,f,_,h=>⟨ks,f,h,λy hy=>hy,(λq hq=>(by cases hq)),rfl⟩
 |q::qs,ks,f,hq,h=>by
  have hP:=hq q (XU ..);obtain⟨k1,f1,a1,a2,a3,a4⟩:=HS hm hP (gA q.2 (Yi hP)) q.2 ks f (λy hy=>hy) h;obtain⟨k2,f2,b1,b2,b3,b4⟩:=C5 hm gA qs k1 f1 (λr hr=>hq r (XT _ hr)) a1;refine⟨k2,f2,b1,λy hy=>b2 y (a2 y hy),λr hr y hy=>?_,(bA rfl ((aM (cM rfl a4)).trans rfl)).trans b4⟩;rcases XY.mp hr with rfl | hr
  ·exact b2 y (a3 y hy)
  ·exact b3 r hr y hy
def EY(f:Cell->Nat)(k x y:Cell):Bool:=TB f k x y||TB f k y x
def GQ(R W:Nat)(y:Cell):Bool:=decide (y.1<R)&&decide (y.2<W)
def qo:GQ R W y=true↔On R W y:=by
 unfold GQ On;rw[Yo,aez,aez]
abbrev C2(bd:List Str)(S:D)(nk:List Cell)(f:Cell->Nat)(ks:List Cell)(g:Cell->Int)(x5 x7 x8:Option Sl):bH:=[fz (brd bd),fz S,fz (lQ nk λy=> .int (f y:Int)),none,none,x5,some (.ow (xR ks λk=> .int (g k))),x7,x8]
structure TOk (R W:Nat) (f:Cell->Nat) (ks:List Cell):Prop where
 nd:ks.Nodup
 is:∀k∈ks,∃x y,On R W x/\On R W y/\iw 4 x y=true/\f x<f y/\k=(f x,f y)
def Fw(h:y∈B0 x):iw 4 x y=true:=by
 unfold B0 at h;simp only[XY,Y3,or_false] at h;rcases h with rfl | rfl
 ·exact GI (.inl rfl) _ _
 ·exact D_ (.inl rfl) _ _
def mP:EY f k x y=true↔f x≠f y/\(min (f x) (f y),max (f x) (f y))=k:=by
 unfold EY TB;rw[Bool.or_eq_true,aez,aez];constructor
 ·rintro(⟨h1,h2⟩ | ⟨h1,h2⟩)
  ·exact⟨by omega,by rw[<-h2,Ze (by omega),ZR (by omega)]⟩
  ·exact⟨by omega,by rw[<-h2,ZQ (by omega),Z8 (by omega)]⟩
 ·rintro⟨h1,h2⟩;rcases acp h1 with h | h
  ·exact .inl ⟨h,by rw[<-h2,Ze (by omega),ZR (by omega)]⟩
  ·exact .inr ⟨h,by rw[<-h2,ZQ (by omega),Z8 (by omega)]⟩
def KC(hn:∀z,z∈nk↔On bd.length W z)(iH:∀z,On bd.length W z->f z<64)(hx:On bd.length W x)(hy:y∈B0 x)(h:TOk bd.length W f ks):
 ∃ks' g',TOk bd.length W f ks'/\(∀k∈ks,k∈ks')/\(∀k,GQ bd.length W y=true->EY f k x y=true->k∈ks')/\(∀k,Ml ks' g' k=Ml ks g k+(if GQ bd.length W y&&EY f k x y then 1 else 0))/\RF (C2 bd S nk f ks g (fz (cD x)) (fz (cD y)) none)=aa (.nx (C2 bd S nk f ks' g' (fz (cD x)) none none)):=by
 have Rl:ks.length<lim:=by
  have:ks.length<=(az 63 64).length:=bK h.nd λk hk=>by
   obtain⟨a,b,ha,hb,_,Rj,rfl⟩:=h.is k hk;have:=iH b hb;exact aA.mpr ⟨by show f a<63;omega,this⟩
  rw[aZ] at this;rw[b6];omega
 have i5:∀{c6 x7 x8:Option Sl},d2 bp (dV 2) (dV 5) (oT [fz (brd bd),fz S,fz (lQ nk λy=> .int (f y:Int)),none,none,fz (cD x),c6,x7,x8])=aa (.int (f x:Int)):=(aP rfl rfl).trans (jA ((hn x).mpr hx));have h1:dH (d2 (kF false) (dV 7) (dV 2)) (oT (C2 bd S nk f ks g (fz (cD x)) (fz (cD y)) none))=aa (GQ bd.length W y):=gB ((aP rfl rfl).trans ((vW (by simp)).trans (by
  rw[aey (by decide)];congr 2;rw[abV,aez,qo];exact hn y)))
 by_cases ho:GQ bd.length W y=true
 ·have S9:=qo.mp ho;have i7:∀{c6 x8:Option Sl},d2 bp (dV 2) (dV 7) (oT [fz (brd bd),fz S,fz (lQ nk λy=> .int (f y:Int)),none,none,fz (cD x),c6,fz (cD y),x8])=aa (.int (f y:Int)):=(aP rfl rfl).trans (jA ((hn y).mpr S9));have RI:EE (lr (dH (d2 (kF false) (dV 7) (dV 2))) (dH (d2 lz (d2 bp (dV 2) (dV 7)) (d2 bp (dV 2) (dV 5))))) (C2 bd S nk f ks g (fz (cD x)) (fz (cD y)) none)=aa (!decide (f y=f x)):=by
   refine sX ((vM h1 (gB ((aP i7 i5).trans (Lf _ _)))).trans ?_);rw[ho,acn];congr 1
  by_cases dm:f y=f x
  ·rw[aeA dm] at RI;refine⟨ks,g,h,λk hk=>hk,λk _ q=>aeB dm.symm (mP.mp q).1,λk=>?_,(aM (fO RI rfl)).trans rfl⟩;rw[show EY f k x y=false from aaA.mpr λq=>(mP.mp q).1 dm.symm,adf];simp
  ·rw[aeD dm] at RI;have Wr:∃p:Cell,p=(min (f x) (f y),max (f x) (f y)):=⟨_,rfl⟩
   obtain⟨p,hp⟩:=Wr;have SQ:Fp (dA a6 (aC (dA pZ (aC (d2 bp (dV 2) (dV 5)) (aC (d2 bp (dV 2) (dV 7)) aN))) (aC (dA wk (aC (d2 bp (dV 2) (dV 5)) (aC (d2 bp (dV 2) (dV 7)) aN))) aN))) (C2 bd S nk f ks g (fz (cD x)) (fz (cD y)) none)=aa (cD p):=by
    refine yn ((bD (aK ((bD (aK i5 (aK i7 rfl))).trans ?_) (aK ((bD (aK i5 (aK i7 rfl))).trans ?_) rfl))).trans rfl) rfl
    ·show aa (D.int (if (f y:Int)<(f x:Int) then(f y:Int) else(f x:Int)))=_;rw[hp];congr 2
     dsimp only
     split<;>omega
    ·show aa (D.int (if (f x:Int)<(f y:Int) then(f y:Int) else(f x:Int)))=_;rw[hp];congr 2
     dsimp only
     split<;>omega
   have PJ:∀k,EY f k x y=true↔k=p:=λk=>by
    rw[mP,hp];exact⟨λq=>q.2.symm,λq=>⟨λz=>dm z.symm,q.symm⟩⟩
   refine⟨bZ ks p,λk=>if k=p then(if p∈ks then g p else 0)+1 else g k,⟨(kK [p] ks).1 h.nd,λk hk=>?_⟩,λk hk=>da.mpr (.inl hk),λk _ q=>by rw[(PJ k).mp q];exact nA,λk=>?_,?_⟩
   ·rcases da.mp hk with q | q
    ·exact h.is k q
    ·rw[q,hp];rcases acp dm with z | z
     ·exact⟨y,x,S9,hx,by rw[mB];exact Fw hy,z,by rw[ZQ (by omega),Z8 (by omega)]⟩
     ·exact⟨x,y,hx,S9,Fw hy,z,by rw[Ze (by omega),ZR (by omega)]⟩
   ·rw[ho,acn];unfold Ml;by_cases e:k=p
    ·subst e;rw[aex (da.mpr (.inr rfl)),(PJ k).mpr rfl];simp only[if_true]
    ·rw[show EY f k x y=false from aaA.mpr λq=>e ((PJ k).mp q)];have:k∈bZ ks p↔k∈ks:=da.trans ⟨λq=>q.resolve_right e, .inl⟩;simp only[this,aey e];simp
   ·have hv:Fp (d2 dw (ju (dV 6) (dV 8) (dC (.int 0))) (dC (.int 1))) (C2 bd S nk f ks g (fz (cD x)) (fz (cD y)) (fz (cD p)))=aa (.int ((if p∈ks then g p else 0)+1)):=by
     refine yn ?_ rfl;have e:ju (dV 6) (dV 8) (dC (.int 0)) (oT (C2 bd S nk f ks g (fz (cD x)) (fz (cD y)) (fz (cD p))))=aa (.int (if p∈ks then g p else 0)):=by
      show getM (lQ ks λk=> .int (g k)) (cD p) (.int 0)=_;by_cases q:p∈ks
      ·rw[B7 q,aex q]
      ·rw[yI q,aey q]
     exact(aP e rfl).trans rfl
    refine(aM (Z':=C2 bd S nk f (bZ ks p) (λk=>if k=p then(if p∈ks then g p else 0)+1 else g k) (fz (cD x)) (fz (cD y)) (fz (cD p))) (fP RI (ak ((aS SQ).trans rfl) ?_))).trans rfl;refine(kz rfl hv rfl Rl).trans ?_;have ef:dR (λk=>D.int (g k)) p (.int ((if p∈ks then g p else 0)+1))=λk=>D.int (if k=p then(if p∈ks then g p else 0)+1 else g k):=by
     funext k;unfold dR;by_cases e:k=p
     ·rw[aex e,aex e]
     ·rw[aey e,aey e]
    rw[ef];rfl
 ·have ho:=aaA.mpr ho;rw[ho] at h1;exact⟨ks,g,h,λk hk=>hk,λk q=>(by rw[ho] at q;cases q),λk=>by rw[ho];simp,(aM (fO (sX (LY h1)) rfl)).trans rfl⟩
def Ly(hn:∀z,z∈nk↔On bd.length W z)(iH:∀z,On bd.length W z->f z<64)(hx:On bd.length W x):∀(l:List Cell) (ks:List Cell) (g:Cell->Int),(∀y∈l,y∈B0 x)->TOk bd.length W f ks->
 ∃ks' g',TOk bd.length W f ks'/\(∀k∈ks,k∈ks')/\(∀y∈l,∀k,GQ bd.length W y=true->EY f k x y=true->k∈ks')/\(∀k,Ml ks' g' k=Ml ks g k+((l.filter λy=>GQ bd.length W y&&EY f k x y).length:Int))/\forL (putN 7) RF (l.map cD) (C2 bd S nk f ks g (fz (cD x)) none none)=aa (.nx (C2 bd S nk f ks' g' (fz (cD x)) none none))
 |[],ks,g,_,h=>⟨ks,g,h,λk hk=>hk,(λy hy=>(by cases hy)),λk=>by simp,rfl⟩
 |y::l,ks,g,hl,h=>by
  obtain⟨k1,g1,a1,a2,a3,a5,a4⟩:=KC hn iH hx (hl y (XU ..)) h;obtain⟨k2,g2,b1,b2,b3,b5,b4⟩:=Ly hn iH hx l k1 g1 (λz hz=>hl z (XT _ hz)) a1;refine⟨k2,g2,b1,λk hk=>b2 k (a2 k hk),λz hz k q1 q2=>?_,λk=>?_,(bA rfl a4).trans b4⟩
  ·rcases XY.mp hz with e | hz
   ·subst e;exact b2 _ (a3 k q1 q2)
   ·exact b3 z hz k q1 q2
  ·rw[b5 k,a5 k,acG];cases GQ bd.length W y&&EY f k x y
   ·simp
   ·simp;omega
def HR(hn:∀z,z∈nk↔On bd.length W z)(iH:∀z,On bd.length W z->f z<64):∀(l:List Cell) (ks:List Cell) (g:Cell->Int),(∀x∈l,On bd.length W x)->TOk bd.length W f ks->
 ∃ks' g',TOk bd.length W f ks'/\(∀k∈ks,k∈ks')/\(∀x∈l,∀y∈B0 x,∀k,GQ bd.length W y=true->EY f k x y=true->k∈ks')/\(∀k,Ml ks' g' k=Ml ks g k+(((l.map λx=>((B0 x).filter λy=>GQ bd.length W y&&EY f k x y).length).sum:Nat):Int))/\
  forL (putN 5) (bT [5,7,8] (cw (putN 7) (cR (dA cK (aC (dA a6 (aC (d2 dw (d2 bq (dV 5) (dC (.int 0))) (dC (.int 1))) (aC (d2 bq (dV 5) (dC (.int 1))) aN))) (aC (dA a6 (aC (d2 bq (dV 5) (dC (.int 0))) (aC (d2 dw (d2 bq (dV 5) (dC (.int 1))) (dC (.int 1))) aN))) aN)))) RF)) (l.map cD) (C2 bd S nk f ks g none none none)=aa (.nx (C2 bd S nk f ks' g' none none none))
 |[],ks,g,_,h=>⟨ks,g,h,λk hk=>hk,(λy hy=>(by cases hy)),λk=>by simp,rfl⟩
 |x::l,ks,g,hl,h=>by
  have hx:=hl x (XU ..);obtain⟨k1,g1,a1,a2,a3,a5,a4⟩:=Ly hn iH hx (B0 x) ks g (λy hy=>hy) h;obtain⟨k2,g2,b1,b2,b3,b5,b4⟩:=HR hn iH l k1 g1 (λz hz=>hl z (XT _ hz)) a1;refine⟨k2,g2,b1,λk hk=>b2 k (a2 k hk),λz hz y hy k q1 q2=>?_,λk=>by rw[b5 k,a5 k,X3,aac,Int.natCast_add,Int.add_assoc],(bA rfl ((aM (cM rfl a4)).trans rfl)).trans b4⟩;rcases XY.mp hz with e | hz
  ·subst e;exact b2 _ (a3 y hy k q1 q2)
  ·exact b3 z hz y hy k q1 q2
end
section
open Classical
variable{bd:List Str}{W w:Nat}
def rq(hg:Brd bd W)(h2:2*(bd.length*W)<64)(hw:Ways w)(hf:∀x,On bd.length W x->∃P,(ay bd W w)[f x]? =some P/\x∈P)(hr:RiseC ks)(hk:∀k,k∈ks↔LJ bd.length W f k):
 ∃g,du [brd bd, .lst ((ay bd W w).map cL)]=aa (T7 ks g):=by
 have hs:bd.length*W<64:=by omega
 obtain⟨nk,f',a1,a2,a3,a4⟩:=C5 (YY hs) (u6 hw) ((ay bd W w).zipIdx.map λq:List Cell×Nat=>(q.2,q.1)) [] (λ_=>0) (λq hq=>by
  obtain⟨p,hp,rfl⟩:=X9.mp hq;exact aam.mp hp) ⟨ZC,(λy hy=>by cases hy),λy hy=>by cases hy⟩
 have hn:∀z,z∈nk↔On bd.length W z:=λz=>⟨a1.on z,λhz=>by
  obtain⟨P,h1,h2⟩:=hf z hz;exact a3 (f z,P) (X9.mpr ⟨(P,f z),aam.mpr h1,rfl⟩) z h2⟩
 have ef:∀z,On bd.length W z->f' z=f z:=λz hz=>by
  obtain⟨P,p1,p2⟩:=a1.num z ((hn z).mpr hz);obtain⟨Q,q1,q2⟩:=hf z hz;exact qk hw p1 q1 p2 q2
 have iH:∀z,On bd.length W z->f' z<64:=λz hz=>by
  obtain⟨P,p1,_⟩:=a1.num z ((hn z).mpr hz);have:=(X0.mp p1).1;have:=gu (bd:=bd) (W:=W) (w:=w);omega
 obtain⟨k2,g2,b1,b2,b3,b5,b4⟩:=HR hn iH nk [] (λ_=>0) (λx hx=>(hn x).mp hx) ⟨ZC,λk hk=>by cases hk⟩;have Ja:∀k,k∈k2↔LJ bd.length W f k:=λk=>by
  constructor
  ·intro h;obtain⟨x,y,hx,hy,c,d,e⟩:=b1.is k h;exact⟨x,y,hx,hy,c,by rw[<-ef x hx,<-ef y hy];exact d,by rw[<-ef x hx,<-ef y hy];exact e⟩
  ·rintro⟨x,y,hx,hy,c,d,rfl⟩;rcases GJ.mp c with q | q
   ·exact b3 x ((hn x).mpr hx) y q _ (qo.mpr hy) (mP.mpr ⟨by rw[ef x hx,ef y hy];omega,by rw[ef x hx,ef y hy,Ze (by omega),ZR (by omega)]⟩)
   ·exact b3 y ((hn y).mpr hy) x q _ (qo.mpr hx) (mP.mpr ⟨by rw[ef x hx,ef y hy];omega,by rw[ef x hx,ef y hy,ZQ (by omega),Z8 (by omega)]⟩)
 have RX:k7 k2=ks:=oE (jc b1.nd) hr λk=>fZ.trans ((Ja k).trans (hk k).symm);have hl:=KA (f:=f) b1.nd λk h=>(Ja k).mp h;refine⟨g2,a9 (ak (Z':=toN bd (ay bd W w) [] (λ_=>0) none none none) rfl (ak (ck (cM (aeE aa (uV _)) a4)) (ak (Z':=[fz (brd bd),fz (.lst ((ay bd W w).map cL)),some (.ow (xR nk λy=> .int (f' y:Int))),none,none,none,some (.ow (xR [] λk=> .int 0)),none,none]) rfl (ak (Z':=C2 bd (.lst ((ay bd W w).map cL)) nk f' k2 g2 none none none) ?_ ?_))))⟩
 ·show noex (cw (putN 5) (λZ=>(dV 2) Z>>=eW) _ (C2 bd (.lst ((ay bd W w).map cL)) nk f' [] (λ_=>0) none none none))=_;exact ck (cM (DZ (ks:=nk) (ds:=nk.map λy=> .int (f' y:Int))) b4)
 ·show bz (bB 0 (cR (dA pF (aC (dV 6) aN))) bQ (dA a6 (aC (dV 0) (aC (d2 bp (dV 7) (dV 0)) aN)))) [fz (brd bd),fz (.lst ((ay bd W w).map cL)),fz (lQ nk λy=> .int (f' y:Int)),none,none,none,fz (lQ k2 λk=> .int (g2 k)),none,none]=_;refine bh (bU (ds:=ks.map cD) (v9 ((bD (xs:=[lQ k2 λk=> .int (g2 k)]) rfl).trans ((sT b1.nd (by omega)).trans (by rw[RX])))) (cW cD (λk=> .tup [cD k, .int (g2 k)]) ks λk DK=>?_) ?_)
  ·have Sy:k∈k2:=fZ.mp (by rw[RX];exact DK);rw[gU,show dA a6 (aC (dV 0) (aC (d2 bp (dV 7) (dV 0)) aN)) _=aa (.tup [cD k, .int (g2 k)]) from(bD (aK rfl (aK ((aP (x:=lQ k2 λk=> .int (g2 k)) (y:=cD k) rfl rfl).trans ((jA (f:=λk=> .int (g2 k)) Sy))) rfl))).trans rfl];rfl
  ·rw[XS,<-RX,b6];have:(k7 k2).length=k2.length:=len_same (RiseC.nodup (jc b1.nd)) b1.nd λx=>fZ;omega
end
section
open Classical
variable{bd:List Str}{W w n:Nat}{f:Cell->Nat}
structure RwP (n:Nat) (dn:List Cell) (ps:List (List Nat)):Prop where
 len:ps.length=n
 nd:∀(i:Nat) (p:List Nat),ps[i]? =some p->p.Nodup
 mem:∀(i:Nat) (p:List Nat),ps[i]? =some p->∀j,j∈p↔(i,j)∈dn\/(j,i)∈dn
def Il(ps:List (List Nat))(i j:Nat):List (List Nat):=ps.set i (ps.getD i []++[j])
def x_{ps:List (List Nat)}{i j:Nat}{p:List Nat}(hp:ps[i]? =some p)(hl:p.length<lim):tH (ps.map eU) (i:Int) (j:Int)=aa ((Il ps i j).map eU):=by
 unfold tH;rw[aex (by omega),acB,X6,hp];show (if (eU p).length<lim then aa ((ps.map eU).set i (eU p++[(j:Int)])) else ag)=_;rw[aex (by unfold eU;rw[XS];exact hl)];unfold Il;rw[Yq,hp,List.map_set];show _=aa ((ps.map eU).set i (eU (p++[j])));unfold eU;rw[Yx];rfl
def vu{ps:List (List Nat)}{i j k:Nat}{q:List Nat}(h:(Il ps i j)[k]? =some q):(k=i/\∃p,ps[i]? =some p/\q=p++[j])\/(k≠i/\ps[k]? =some q):=by
 unfold Il at h;by_cases e:k=i
 ·subst e;have hk:k<ps.length:=by have:=(X0.mp h).1;simpa using this
  rw[X_ hk] at h;cases h;exact .inl ⟨rfl,ps[k],XW hk,by rw[Yq,XW hk];rfl⟩
 ·rw[X2 (YJ e)] at h;exact .inr ⟨e,h⟩
def Bo{dn:List Cell}{ps:List (List Nat)}(h:RwP n dn ps)(hd:∀k∈dn,k.1<k.2/\k.2<n){i:Nat}{p:List Nat}(hp:ps[i]? =some p):p.length<=n:=by
 have:=bK (U:=Yp n) (h.nd i p hp) λj hj=>YQ.mpr (by
  rcases(h.mem i p hp j).mp hj with q | q
  ·exact(hd _ q).2
  ·have:=hd _ q;have:=this.1;have:=this;dsimp only at*;omega)
 rwa [YO] at this
def Kq(hn:n<64){dn:List Cell}{ps:List (List Nat)}(h:RwP n dn ps)(hd:∀k∈dn,k.1<k.2/\k.2<n){k:Cell}(hk:k.1<k.2/\k.2<n)(ER:k∉dn):
 ∃f9,RwP n (dn++[k]) f9/\(tH (ps.map eU) (k.1:Int) (k.2:Int)>>=λps=>tH ps (k.2:Int) (k.1:Int))=aa (f9.map eU):=by
 obtain⟨i,j⟩:=k;have AL:i<j:=hk.1;have hj:j<n:=hk.2;obtain⟨p,hp⟩:∃p,ps[i]? =some p:=⟨_,XW (by rw[h.len];omega)⟩
 obtain⟨q,hq⟩:∃q,ps[j]? =some q:=⟨_,XW (by rw[h.len];omega)⟩
 have lp:=Bo h hd hp;have lq:=Bo h hd hq;have Je:(Il ps i j)[j]? =some q:=by unfold Il;rw[X2 (by omega)];exact hq
 have UQ:(j,i)∉dn:=λz=>by have:=(hd _ z).1;dsimp only at this;omega
 refine⟨Il (Il ps i j) j i,⟨by unfold Il;simp[h.len],λa r hr=>?_,λa r hr b=>?_⟩,by rw[x_ hp (by rw[b6];omega),aw,x_ Je (by rw[b6];omega)]⟩
 ·rcases vu hr with⟨rfl,r',FZ,rfl⟩ | ⟨dm,hr⟩
  ·rw[Je] at FZ;cases FZ;refine YT.mpr ⟨h.nd _ _ hq,by simp,λx hx y hy e=>?_⟩;cases Yb.mp hy;rw[e] at hx;rcases(h.mem _ _ hq i).mp hx with z | z
   ·exact UQ z
   ·exact ER z
  ·rcases vu hr with⟨rfl,r',FZ,rfl⟩ | ⟨Pw,hr⟩
   ·rw[hp] at FZ;cases FZ;refine YT.mpr ⟨h.nd _ _ hp,by simp,λx hx y hy e=>?_⟩;cases Yb.mp hy;rw[e] at hx;rcases(h.mem _ _ hp j).mp hx with z | z
    ·exact ER z
    ·exact UQ z
   ·exact h.nd _ _ hr
 ·have e1:∀x:Cell,x∈dn++[(i,j)]↔x∈dn\/x=(i,j):=λx=>by simp
  rw[e1,e1];rcases vu hr with⟨rfl,r',FZ,rfl⟩ | ⟨dm,hr⟩
  ·rw[Je] at FZ;cases FZ;rw[Yr,h.mem _ _ hq b,Yb];constructor
   ·rintro((z | z) | rfl)
    ·exact .inl (.inl z)
    ·exact .inr (.inl z)
    ·exact .inr (.inr rfl)
   ·rintro((z | z) | z | z)
    ·exact .inl (.inl z)
    ·have:=aeE Prod.fst z;dsimp only at this;omega
    ·exact .inl (.inr z)
    ·exact .inr (aeE Prod.fst z)
  ·rcases vu hr with⟨rfl,r',FZ,rfl⟩ | ⟨Pw,hr⟩
   ·rw[hp] at FZ;cases FZ;rw[Yr,h.mem _ _ hp b,Yb];constructor
    ·rintro((z | z) | rfl)
     ·exact .inl (.inl z)
     ·exact .inr (.inl z)
     ·exact .inl (.inr rfl)
    ·rintro((z | z) | z | z)
     ·exact .inl (.inl z)
     ·exact .inr (aeE Prod.snd z)
     ·exact .inl (.inr z)
     ·have:=aeE Prod.snd z;dsimp only at this;omega
   ·rw[h.mem _ _ hr b];constructor
    ·rintro(z | z)
     ·exact .inl (.inl z)
     ·exact .inr (.inl z)
    ·rintro((z | z) | z | z)
     ·exact .inl z
     ·exact aeB (aeE Prod.fst z) Pw
     ·exact .inr z
     ·exact aeB (aeE Prod.snd z) dm
def zL(hn:n<64)(g:Cell->Int):∀(rest dn:List Cell) (ps:List (List Nat)),RwP n dn ps->(∀k∈dn,k.1<k.2/\k.2<n)->(∀k∈rest,k.1<k.2/\k.2<n)->(∀k∈rest,k∉dn)->rest.Nodup->
 ∃f9,RwP n (dn++rest) f9/\ji (rest.map λk=> .tup [cD k, .int (g k)]) (ps.map eU)=aa (f9.map eU)
 |[],dn,ps,h,_,_,_,_=>⟨ps,by simpa using h,rfl⟩
 |k::rest,dn,ps,h,hd,hr,DL,K8=>by
  have Mx:=Yz.mp K8;obtain⟨p1,h1,e1⟩:=Kq hn h hd (hr k (XU ..)) (DL k (XU ..));obtain⟨p2,h2,e2⟩:=zL hn g rest (dn++[k]) p1 h1 (λx hx=>(Yr.mp hx).elim (hd x) λz=>by cases Yb.mp z;exact hr k (XU ..)) (λx hx=>hr x (XT _ hx)) (λx hx z=>(Yr.mp z).elim (DL x (XT _ hx)) λz=>Mx.1 (by cases Yb.mp z;exact hx)) Mx.2;refine⟨p2,by simpa using h2,?_⟩;obtain⟨q1,a1,a2⟩:=cV e1;show (tH (ps.map eU) (k.1:Int) (k.2:Int)>>=λps=>tH ps (k.2:Int) (k.1:Int)>>=λps=>ji (rest.map λk=> .tup [cD k, .int (g k)]) ps)=_;rw[a1,aw,a2,aw,e2]
def BJ{i j:Nat}(h:Ad bd.length W 4 f i j):Ad bd.length W 4 f j i:=by
 obtain⟨h1,x,y,⟨hx,hy,hn⟩,rfl,rfl⟩:=h;exact⟨YJ h1,y,x,⟨hy,hx,by rw[mB];exact hn⟩,rfl,rfl⟩
def Bv{k:Cell}:LJ bd.length W f k↔k.1<k.2/\Ad bd.length W 4 f k.1 k.2:=by
 constructor
 ·rintro⟨x,y,hx,hy,h1,h2,rfl⟩;exact⟨h2,Ym h2,x,y,⟨hx,hy,h1⟩,rfl,rfl⟩
 ·rintro⟨h2,_,x,y,⟨hx,hy,h1⟩,e1,e2⟩;exact⟨x,y,hx,hy,h1,by rw[e1,e2];exact h2,abX e1.symm e2.symm⟩
def Kp(hf:NumF bd W w f)(hn:(ay bd W w).length<64){ks:List Cell}(DL:ks.Nodup)(hk:∀k,k∈ks↔LJ bd.length W f k)(g:Cell->Int){ds:List D}(K5:ds.length=(ay bd W w).length):
 ∃ps,RwOk (Ad bd.length W 4 f) (ay bd W w).length ps/\(∀p∈ps,p.length<=64)/\ji (ks.map λk=> .tup [cD k, .int (g k)]) (ds.map λ_=>[])=aa (ps.map eU):=by
 have dW:∀k∈ks,k.1<k.2/\k.2<(ay bd W w).length:=λk h=>by
  obtain⟨h1,h2⟩:=Bv.mp ((hk k).mp h);exact⟨h1,(BI hf h2).2⟩
 obtain⟨ps,h1,h2⟩:=zL hn g ks [] (ds.map λ_=>[]) ⟨by rw[XS];exact K5,λi p hp=>by
  rw[X6] at hp;obtain⟨_,_,rfl⟩:=aaR.mp hp;exact ZC,λi p hp j=>by
  rw[X6] at hp;obtain⟨_,_,rfl⟩:=aaR.mp hp;simp⟩ (λk h=>by cases h) dW (λk _ h=>by cases h) DL
 rw[Yw] at h1;refine⟨ps,⟨h1.len,λp hp=>?_,λi p hp j=>?_⟩,λp hp=>?_,?_⟩
 ·obtain⟨i,hi⟩:=aaq.mp hp;exact h1.nd i p hi
 ·rw[h1.mem i p hp j,hk,hk,Bv,Bv];constructor
  ·rintro(z | z)
   ·exact z.2
   ·exact BJ z.2
  ·intro z;rcases acp z.1 with q | q
   ·exact .inl ⟨q,z⟩
   ·exact .inr ⟨q,BJ z⟩
 ·obtain⟨i,hi⟩:=aaq.mp hp;have:=Bo h1 dW hi;omega
 ·rw[Yu] at h2;exact h2
def Hv(ps:List (List Nat)):pC (ps.map eU)=tU ps:=by
 unfold pC tU;rw[Yu];congr 1;exact Y9 λp _=>aeE D.lst (iU p)
end
end K1
namespace K1
open PySem PySem.Spec L2 L3
open PyProof.Rows hiding St
def mY(h:δ Z=bf n):qc δ Z=bf n:=by
 unfold qc;rw[h];rfl
def gM(h:a Z=bf n):aG a b Z=bf n:=by
 unfold aG;rw[h];rfl
def xg(h:δ Z=bf n):bM i δ Z=bf n:=by
 unfold bM;rw[h];rfl
def ua(n:Nat):D:= .tup [.str "refused", .int (n:Int)]
def Q1(m:M D):M D:=match m with
 |some (.ex n)=>noex (IY n)
 |r=>r
section
open Classical
variable{bd:List Str}{W w:Nat}{f:Cell->Nat}
def tF(k:Nat)(b w o t:D):M D:=match k with
 |0=>cY [b,w,o]
 |1=>e9 [b,w,o,t]
 |_=>h7 [b,w]
def C3{k:Nat}(hk:k<3){b w o t:D}:aH [.int (k:Int),b,w,o,t]=Q1 (tF k b w o t):=by
 have go:∀(m:M D),((match (m>>=λd=>aa (Out.rt d)) with | some (.ex n)=>noex (IY n)>>=λd=>aa (Out.rt d) | r=>r)>>=λo=>match o with | .nx _=>aa D.non | .rt d=>aa d)=Q1 m:=λm=>match m with
  |none=>rfl
  |some (.ok a)=>rfl
  |some (.ex n)=>rfl
 match k,hk with
 |0,_=>
  show ((match ((cY [b,w,o]>>=λd=>aa (Out.rt d))>>=(λo=>match o with | .nx Z'=>_ | .rt d=>aa (Out.rt d))) with | some (.ex n)=>noex (IY n)>>=λd=>aa (Out.rt d) | r=>r)>>=λo=>match o with | .nx _=>aa D.non | .rt d=>aa d)=_
  match h:cY [b,w,o] with
  |none=>rw[show tF 0 b w o t=none from h];rfl
  |some (.ok a)=>rw[show tF 0 b w o t=some (.ok a) from h];rfl
  |some (.ex n)=>rw[show tF 0 b w o t=some (.ex n) from h];rfl
 |1,_=>exact go (e9 [b,w,o,t])
 |2,_=>exact go (h7 [b,w])
def xC{k:Nat}(hk:k<3){b w o t d:D}(h:tF k b w o t=aa d):aH [.int (k:Int),b,w,o,t]=aa d:=(C3 hk).trans (by rw[h];rfl)
def m7{k:Nat}(hk:k<3){b w o t:D}(h:tF k b w o t=bf e):aH [.int (k:Int),b,w,o,t]=noex (IY e):=(C3 hk).trans (by rw[h];rfl)
def A_(n:Nat):List D:=[.int (-1),nI n, .non, .bl true, .str "0"]
def GN{n:Nat}{d:D}(h:d∈A_ n):bN [nI n,d]=bf 4:=by
 unfold A_ at h;simp only[XY,Y3,or_false] at h;rcases h with rfl | rfl | rfl | rfl | rfl
 ·rfl
 ·refine fo (fP (Fo (nJ (iM ((au rfl rfl).trans ((vq (d:=nI n) trivial).trans rfl)))) (nJ (b:=false) (gB ?_))) rfl);show (if decide ((0:Int)<=(n:Int))=true then aa (D.bl (decide ((n:Int)<(n:Int)))) else aa (D.bl false))=_;rw[aex (by rw[aez];omega),aeD (by omega)]
 ·rfl
 ·rfl
 ·rfl
def M8(hg:Brd bd W)(hs:bd.length*W<64)(hw:Ways w)(hf:NumF bd W w f){d t:D}(h:d∈A_ (ay bd W w).length):tF 0 (brd bd) (iW w) d .non=bf 4/\tF 1 (brd bd) (iW w) (nI 0) d=bf 4/\tF 1 (brd bd) (iW w) d .non=bf 4:=by
 obtain⟨l,hl,hlen,em,el⟩:=lD hg hs hw hf;have Rm:=(rM hg hs hw hf).2;have h0:=GN h;have lv:∀{i:Nat}{Z:bH},Z[i]? =some (fz (jR (l.map cy)))->dA kM (aC (dV i) aN) Z=aa (nI (ay bd W w).length):=λh=>(bD (xs:=[jR (l.map cy)]) (aK (gh h) rfl)).trans el;refine⟨?_,?_,?_⟩
 ·exact fo (ak (Z':=[fz (brd bd),fz (iW w),fz d,fz (jR (l.map cy))]) ((aS ((au (ds:=[brd bd,iW w]) rfl rfl).trans em)).trans rfl) (gM (mY ((au (ds:=[nI (ay bd W w).length,d]) (aK (lv rfl) rfl) rfl).trans h0))))
 ·exact fo (ak (Z':=[fz (brd bd),fz (iW w),fz (nI 0),fz d,fz (jR (l.map cy))]) ((aS ((au (ds:=[brd bd,iW w]) rfl rfl).trans em)).trans rfl) (ak (fC ((au (ds:=[nI (ay bd W w).length,nI 0]) (aK (lv rfl) rfl) rfl).trans (fK Rm))) (gM (mY ((au (ds:=[nI (ay bd W w).length,d]) (aK (lv rfl) rfl) rfl).trans h0)))))
 ·exact fo (ak (Z':=[fz (brd bd),fz (iW w),fz d,fz .non,fz (jR (l.map cy))]) ((aS ((au (ds:=[brd bd,iW w]) rfl rfl).trans em)).trans rfl) (gM (mY ((au (ds:=[nI (ay bd W w).length,d]) (aK (lv rfl) rfl) rfl).trans h0))))
def Gm{b w o t:D}(h:de [b,w]=bf e)(k:Nat)(hk:k<3):tF k b w o t=bf e:=
 match k,hk with
 |0,_=>fo (gM (xg ((au rfl rfl).trans h)))
 |1,_=>fo (gM (xg ((au rfl rfl).trans h)))
 |2,_=>fo (gM (xg ((au rfl rfl).trans h)))
def zc:List D:=[.int (-4), .int 5, .non, .bl true, .str "4"]
def KG(hg:Brd bd W){d:D}(h:d∈zc):de [brd bd,d]=bf 1:=by
 have h1:fB [d]=bf 1:=by
  unfold zc at h;simp only[XY,Y3,or_false] at h;rcases h with rfl | rfl | rfl | rfl | rfl<;>rfl
 exact fo (ak (fC ((au rfl rfl).trans hg.nb)) (gM (mY ((au rfl rfl).trans h1))))
def E8:de [.tup [.str "g"], .int 5]=bf 0:=by
 have h:eE [.tup [.str "g"]]=bf 0:=fo (fP (nJ (iM ((au rfl rfl).trans ((l9 (d:= .tup [.str "g"]) (λd hd=>by
  have:d= .str "g":=by simpa using hd
  subst this;trivial)).trans (by rw[show nE (.tup [.str "g"])=false by decide+kernel]))))) rfl)
 exact fo (gM (mY ((au (ds:=[.tup [.str "g"]]) rfl rfl).trans h)))
def FA:uo 1 yW:=λk x y=>by
 rw[ab0];exact(nL k x y).trans (by congr)
def EA(l:List (List Int)):lz (.lst (l.map yW)) (.lst (l.map yW))=aa (.bl false):=ne_self (((IF FA) 4 l l).trans (by simp))
def Kt(l:List Nat):lz (.lst (l.map nI)) (.lst (l.map nI))=aa (.bl false):=by
 rw[<-iU];exact ne_self ((nL 5 (eU l) (eU l)).trans (by simp))
def Ex{Z:bH}(h0:jo (fgt [ni,oi,ti,si] Z)=true)(h1:δi Z=aa ds)(hl:ds.length<=lim)(h2:δt (fgt [ni,oi,ti,si] Z)=aa es)(h3:ji es (ds.map λ_=>[])=aa ps)(h4:(ps.all λp=>decide (p.length<=lim))=true):
 zP ni oi ti si δi δt Z=aa (.nx ((fgt [ni,oi,ti,si] Z).set ni (some (.fz (pC ps))))):=by
 unfold zP;rw[aex h0,h1];show (if ds.length<=lim then _ else _)=_;rw[aex hl,h2];show (noex (ji es (ds.map λ_=>[]))>>=_)=_;rw[h3];exact aex h4
noncomputable def M7(E:Nat->Nat->Prop)(n:Nat):List (List Int):=(Yp n).map λi=>eU (M4 E n i)
def zM{E:Nat->Nat->Prop}{n:Nat}{ps:List (List Nat)}(hE:∀i j,E i j->j<n)(h:RwOk E n ps):ps.map (λp=>eA (eU p))=M7 E n:=by
 unfold M7;refine List.ext_getElem (by rw[XS,XS,YO,h.len]) λi h1 h2=>?_;rw[XS] at h1;rw[abE,abE,List.getElem_range];refine CU (h.nd _ (ZO h1)) Gr λj=>?_;rw[h.mem i _ (XW h1),Ci];exact⟨λq=>⟨hE _ _ q,q⟩,λq=>q.2⟩
def W8(E:Nat->Nat->Prop)(n:Nat):((Yp n).map λi=>D.lst ((M4 E n i).map nI))=(M7 E n).map yW:=by
 unfold M7;rw[Yu];exact Y9 λi _=>aeE D.lst (iU _).symm
def D0(ks:List Nat)(ds:List D):eW (.dci (ks.map kN) ds)=aa (ks.map nI):=by
 show (if (ks.map kN).all o9 then aa ((ks.map kN).map DV) else ag)=_;rw[aex (Yn.mpr λk hk=>by obtain⟨x,_,rfl⟩:=X9.mp hk;rfl),Yu];rfl
abbrev Es(s:D)(bd:List Str)(w:Nat)(S:D)(c4 c5 c8 c9 Vr Vs Vt Vu:Option Sl):bH:=[fz s,fz (brd bd),fz (iW w),fz S,c4,c5,none,none,c8,c9,Vr,Vs,Vt,Vu]
def Jr{E:Nat->Nat->Prop}{n:Nat}{ps:List (List Nat)}(hn:n<64)(hE:∀i j,E i j->j<n)(hR:RwOk E n ps)(hd:∀i j,i<n->j<n->Dr E i j (dN E i j)){k:Nat}(hk:k<n){v6:List D}(ha:v6.length<64):
 Th (Es s bd w S (fz (tU ps)) c5 c8 c9 (some (.ow (.lst v6))) (fz (nI k)) none none)=aa (.nx (Es s bd w S (fz (tU ps)) c5 c8 c9 (some (.ow (.lst (v6++[.int (eV (eU (oG E n k)))])))) none none none)):=by
 obtain⟨ks,v,e1,Vd,RA,d1⟩:=yB hn hE hR hk;have kl:ks.length<=n:=by
  have:=bK (U:=Yp n) Vd λx hx=>YQ.mpr (RA x hx)
  rwa [YO] at this
 have hx:∀x,x<n->x∈ks/\v x=dN E k x:=λx hx=>d1 x _ (hd k x hk hx);have Pt:dA uW (aC (bB 0 (λZ=>(dV 12) Z>>=eW) bQ (d2 bp (dV 13) (dV 0))) aN) (Es s bd w S (fz (tU ps)) c5 c8 c9 (some (.ow (.lst v6))) (fz (nI k)) (fz (yx ks v)) none)=aa (.int (eV (eU (oG E n k)))):=by
  refine(bD (xs:=[.lst ((ks.map v).map nI)]) (aK (bU (ds:=ks.map nI) (D0 ks (ks.map λy=>nI (v y))) ((cW nI (λx=>nI (v x)) ks λx yM=>?_).trans (by rw[Yu];rfl)) (by rw[XS,XS,b6];omega)) rfl)).trans ?_
  ·rw[gU,show d2 bp (dV 13) (dV 0) _=aa (nI (v x)) from(aP (x:=yx ks v) (y:=nI x) rfl rfl).trans (MP yM)];rfl
  ·rw[<-iU,Tp (by unfold eU;rw[XS,XS];exact ZH (hx k hk).1),uY (b:=eU (oG E n k)) (by unfold eU;rw[XS,XS];exact ZH (hx k hk).1) λx=>?_];have:∀m,m∈ks.map v↔m∈oG E n k:=λm=>by
    unfold oG;rw[X9,X9];constructor
    ·rintro⟨x,h1,rfl⟩;exact⟨x,YQ.mpr (RA x h1),(hx x (RA x h1)).2.symm⟩
    ·rintro⟨x,h1,rfl⟩;have h1:=YQ.mp h1;exact⟨x,(hx x h1).1,(hx x h1).2⟩
   unfold eU;rw[X9,X9];exact⟨λ⟨m,a,b⟩=>⟨m,(this m).mp a,b⟩,λ⟨m,a,b⟩=>⟨m,(this m).mpr a,b⟩⟩
 refine(aM (Z':=Es s bd w S (fz (tU ps)) c5 c8 c9 (some (.ow (.lst (v6++[.int (eV (eU (oG E n k)))])))) (fz (nI k)) (fz (yx ks v)) none) (ak ((aS ((au (ds:=[tU ps,nI k]) rfl rfl).trans e1)).trans rfl) ?_)).trans rfl;show (dA uW _ (Es s bd w S (fz (tU ps)) c5 c8 c9 (some (.ow (.lst v6))) (fz (nI k)) (fz (yx ks v)) none)>>=λd=>if v6.length<lim then aa (Out.nx (Es s bd w S (fz (tU ps)) c5 c8 c9 (some (.ow (.lst (v6++[d])))) (fz (nI k)) (fz (yx ks v)) none)) else ag)=_;rw[Pt,aw,aex (by rw[b6];omega)]
def AE{α β:Type}(g:α->β):∀l:List α,(l.flatMap λx=>[g x])=l.map g
 |[]=>rfl
 |x::l=>by rw[ZD,AE g l];rfl
def sW{Z:bH}{t:DT}(h:t Z=aa false):iI t (bz (dC (.bl false))) dE Z=aa (.nx Z):=fO h rfl
end
def Gh(ns:List Int)(hl:ns.length<=63):kg [.scr ns]=aa (.bl true):=by
 obtain⟨bd,W,hG,h4,w4,eb⟩:=Ao ns hl 0 5 (by decide) (by decide);have hg:=hG.brd;have Xz:bd.length*W<=25:=ZW h4 w4;have hs:bd.length*W<64:=by omega
 refine a9 ?_;refine ak ((aS ((au rfl rfl).trans eb)).trans rfl) ?_;obtain⟨v,hv,ev⟩:=fX ns hl 60 2 (by decide);obtain⟨w,hw,ew⟩:∃w,Ways w/\vQ (.lst [.int 4, .int 8]) (.int (v:Int))=aa (iW w):=by
  match v,hv with
  |0,_=>exact⟨4, .inl rfl,rfl⟩
  |1,_=>exact⟨8, .inr rfl,rfl⟩
 refine ak ((aS ((aP rfl ((au rfl rfl).trans ev)).trans ew)).trans rfl) ?_;have Wl:cH [brd bd,iW w]=aa (.lst ((ay bd W w).map cL)):=(pY hg hs hw).trans (by rw[lJ]);refine ak ((aS ((au rfl rfl).trans Wl)).trans rfl) ?_;have kG:=gu (bd:=bd) (W:=W) (w:=w);obtain⟨_,f,hf,_,_⟩:=o4 hg hs hw;have iH:∀x,On bd.length W x->f x<64:=λx hx=>by have:=hf.lt hx;omega
 obtain⟨ks,hr,hk⟩:∃ks:List Cell,RiseC ks/\∀k,k∈ks↔LJ bd.length W f k:=by
  open Classical in
  refine⟨(az 64 64).filter λk=>decide (LJ bd.length W f k),(eh 64 64).filter _,λk=>?_⟩;rw[YZ,aA,aez];refine⟨λh=>h.2,λh=>⟨?_,h⟩⟩;obtain⟨x,y,hx,hy,_,_,rfl⟩:=h;exact⟨iH x hx,iH y hy⟩
 obtain⟨g,et⟩:=rq hg (by omega) hw hf hr hk;obtain⟨ps,hR,PF,er⟩:=Kp hf (by omega) (RiseC.nodup hr) hk g (ds:=(ay bd W w).map cL) (by rw[XS]);have hE:∀i j,Ad bd.length W 4 f i j->j<(ay bd W w).length:=λi j h=>(BI hf h).2;have hd:∀i j,i<(ay bd W w).length->j<(ay bd W w).length->Dr (Ad bd.length W 4 f) i j (dN (Ad bd.length W 4 f) i j):=λi j hi hj=>KS hw hf hi hj;obtain⟨em,Rm⟩:=rM hg hs hw hf;have nb:=λ(i:Nat) (hi:i<(ay bd W w).length)=>D8 hg hs hw hf hi;have bo:=λ(i j:Nat) (hi:i<(ay bd W w).length) (hj:j<(ay bd W w).length)=>E9 hg hs hw hf hi hj;have no:=λ(d:D) (h:d∈A_ (ay bd W w).length)=>M8 (t:= .non) hg hs hw hf h;generalize XA:Ad bd.length W 4 f=E at*;generalize Px:(ay bd W w).length=n at*;generalize hS:D.lst ((ay bd W w).map cL)=S at*;have hn:n<64:=by omega
 refine ak (Z':=Es (.scr ns) bd w S (fz (tU ps)) none none none none none none none) ?_ ?_
 ·refine(Ex (ds:=(ay bd W w).map cL) rfl (Jk (aeE aa hS.symm)) (by rw[XS,b6];omega) (Jk ((au (ds:=[brd bd,S]) rfl rfl).trans et)) er ?_).trans ?_
  ·refine Yn.mpr λp hp=>?_;obtain⟨q,hq,rfl⟩:=X9.mp hp;have:=PF q hq;exact aeA (by unfold eU;rw[XS,b6];omega)
  ·rw[Hv];rfl
 refine ak (Z':=Es (.scr ns) bd w S (fz (tU ps)) none (fz (nI n)) none none none none none) ((aS ((bD (xs:=[S]) (aK rfl rfl)).trans ?_)).trans rfl) ?_
 ·rw[<-hS];show aa (D.int (((ay bd W w).map cL).length:Int))=_;rw[XS,Px];rfl
 refine ak (sW (gB ((aP (x:= .lst ((M7 E n).map yW)) (y:= .lst ((M7 E n).map yW)) ((yY n (by omega) rfl (g:=λi=> .lst ((M4 E n i).map nI)) λk hk=>(au (ds:=[.int 0,brd bd,iW w,nI k, .non]) rfl rfl).trans (xC (k:=0) (by decide) (nb k hk))).trans (by rw[W8])) (bU (ds:=ps.map λp=> .lst (p.map nI)) rfl ((cW (λp:List Nat=>D.lst (p.map nI)) (λp=>yW (eA (eU p))) ps λp hp=>?_).trans (by rw[<-zM hE hR,Yu];rfl)) (by rw[XS];unfold M7;rw[XS,YO,b6];omega))).trans (EA _)))) ?_
 ·have Oq:=PF p hp;have SA:p.length<64:=by
   have:=bK (U:=Yp n) (hR.nd p hp) λj hj=>by
    obtain⟨i,hi⟩:=aaq.mp hp;exact YQ.mpr (hE _ _ ((hR.mem i p hi j).mp hj))
   rw[YO] at this;omega
  rw[gU,show dA CV (aC (dV 0) aN) _=aa (yW (eA (eU p))) from ?_]
  ·rfl
  ·refine(bD (xs:=[.lst (p.map nI)]) (aK rfl rfl)).trans ?_;show (match nums (p.map nI) with | some ns=>if ns.length<64 then aa (D.lst ((eA ns).map D.int)) else ag | none=>ag)=_;rw[Cu];show (if (eU p).length<64 then aa (D.lst ((eA (eU p)).map D.int)) else ag)=_;rw[aex (by unfold eU;rw[XS];exact SA)];rfl
 obtain⟨o,ho,eo⟩:=fX ns hl 61 n Rm;refine ak (Z':=Es (.scr ns) bd w S (fz (tU ps)) (fz (nI o)) (fz (nI n)) none none none none none) ((aS ((au (ds:=[.scr ns, .int 61, .int (n:Int)]) rfl rfl).trans eo)).trans rfl) ?_;obtain⟨k1,v1,e1,Vd,RA,d1⟩:=yB hn hE hR ho;refine ak (Z':=Es (.scr ns) bd w S (fz (tU ps)) (fz (nI o)) (fz (nI n)) (fz (yx k1 v1)) none none none none) ((aS ((au (ds:=[tU ps,nI o]) rfl rfl).trans e1)).trans rfl) ?_;refine ak (sW (gB ((aP (x:= .lst (((Yp n).map (dN E o)).map nI)) (y:= .lst (((Yp n).map (dN E o)).map nI)) ((yY n (by omega) rfl (g:=λk=>nI (dN E o k)) λk hk=>(au (ds:=[.int 1,brd bd,iW w,nI o,nI k]) rfl rfl).trans (xC (k:=1) (by decide) (bo o k ho hk))).trans (by rw[Yu];rfl)) ((yY n (by omega) rfl (g:=λk=>nI (dN E o k)) λk hk=>(aP (x:=yx k1 v1) (y:=nI k) rfl rfl).trans ?_).trans (by rw[Yu];rfl))).trans (Kt _)))) ?_
 ·obtain⟨q1,q2⟩:=d1 k _ (hd o k ho hk);rw[MP q1,q2]
 refine ak rfl ?_;have RW:=dU (put:=putN 11) (body:=Th) nI (λv6=>Es (.scr ns) bd w S (fz (tU ps)) (fz (nI o)) (fz (nI n)) (fz (yx k1 v1)) (some (.ow (.lst v6))) none none none) (λk=>[.int (eV (eU (oG E n k)))]) (B:=63) (Yp n) [] (by rw[Yw,AE,XS,YO];omega) λk hk v6 hB=>⟨_,rfl,Jr hn hE hR hd (YQ.mp hk) (by rw[X8] at hB;omega)⟩
 rw[Yw,AE] at RW;have Pt:((Yp n).map λk=>D.int (eV (eU (oG E n k))))=(EV E n).map D.int:=by unfold EV;rw[Yu];rfl
 rw[Pt] at RW;refine ak (ck (cM (zJ rfl (by omega)) RW)) ?_;have K7:0<(EV E n).length:=by unfold EV;rw[XS,YO];exact Rm
 refine ak (sW (sX (gB ((aP (x:=nI (MZ E n)) (y:=nI (MZ E n)) ((au (ds:=[.int 2,brd bd,iW w, .non, .non]) rfl rfl).trans (xC (k:=2) (by decide) em)) (Ck K7 rfl)).trans (ne_self ((kf 6 _ _).trans (by simp))))))) ?_;have rr:∀{δ ε:DE}{k:Nat}{Z:bH},δ Z=aa (ua k)->ε Z=aa (ua k)->iI (dH (d2 lz δ ε)) (bz (dC (.bl false))) dE Z=aa (.nx Z):=λ{δ ε k Z} h1 h2=>sW (gB ((aP h1 h2).trans (ne_self (by
  show (match some true,(match lu 5 (.int (k:Int)) (.int (k:Int)),some true with | some x,some y=>some (x&&y) | _,_=>none) with | some x,some y=>some (x&&y) | _,_=>none)=_;rw[kf];simp))))
 refine ak (ck (cM (ds:=A_ n) rfl ((nM id _ (A_ n) λd qj=>⟨_,rfl,?_⟩:forL _ _ ((A_ n).map id) _=_)))) ?_
 ·obtain⟨n1,n2,n3⟩:=no d qj;refine(aM (Z':=Es (.scr ns) bd w S (fz (tU ps)) (fz (nI o)) (fz (nI n)) (fz (yx k1 v1)) (some (.ow (.lst ((EV E n).map D.int)))) none none (fz d)) (ak (rr (k:=2) ((au (ds:=[.int 0,brd bd,iW w,d, .non]) rfl rfl).trans (m7 (k:=0) (by decide) n1)) rfl) (ak (rr (k:=2) ((au (ds:=[.int 1,brd bd,iW w,nI 0,d]) rfl rfl).trans (m7 (k:=1) (by decide) n2)) rfl) (rr (k:=2) ((au (ds:=[.int 1,brd bd,iW w,d, .non]) rfl rfl).trans (m7 (k:=1) (by decide) n3)) rfl)))).trans rfl
 refine ak (ck (cM (ds:=zc) rfl ((nM id _ zc λd qj=>⟨_,rfl,?_⟩:forL _ _ (zc.map id) _=_)))) ?_
 ·have hm:=KG hg qj;refine(aM (Z':=Es (.scr ns) bd w S (fz (tU ps)) (fz (nI o)) (fz (nI n)) (fz (yx k1 v1)) (some (.ow (.lst ((EV E n).map D.int)))) none none (fz d)) (sW (gB ((aP (yY 3 (by decide) rfl (g:=λ_=>ua 1) λk hk=>(au (ds:=[.int (k:Int),brd bd,d, .non, .non]) rfl rfl).trans (m7 hk (Gm hm k hk))) (y:= .lst [ua 1,ua 1,ua 1]) rfl).trans rfl)))).trans rfl
 exact bh ((aP (yY 3 (by decide) rfl (g:=λ_=>ua 0) λk hk=>(au (ds:=[.int (k:Int), .tup [.str "g"], .int 5, .non, .non]) rfl rfl).trans (m7 hk (Gm E8 k hk))) (y:= .lst [ua 0,ua 0,ua 0]) rfl).trans rfl)
def Qd(c0 c1 c4:Addr):Nat->Addr
 |0=>c0
 |1=>c1
 |_=>c4
def DF(K:X5)(x:Str)(s:Stmt):Prop:=∃(f:Addr) (oc:Value) (od an:Option Addr) (sl:Array (Option Value)) (kV dc pm cd ct:Value),YH K Ys x=some (some (.ref f))/\K.lookup f=some ⟨oc,od, .func (Zh x x (eB s) (aV s) (ai s) .none kV dc pm an cd ct),sl⟩/\aaC K cd x=true/\Zz K (.ref f)=true
def DF.mk{K:X5}{x:Str}{s:Stmt}{f:Addr}{oc:Value}{od an:Option Addr}{sl:Array (Option Value)}{kV dc pm cd ct:Value}(a:YH K Ys x=some (some (.ref f)))(l:K.lookup f=some ⟨oc,od, .func (Zh x x (eB s) (aV s) (ai s) .none kV dc pm an cd ct),sl⟩)(c:aaC K cd x=true)(k:Zz K (.ref f)=true):DF K x s:=⟨f,oc,od,an,sl,kV,dc,pm,cd,ct,a,l,c,k⟩
def DF.at{K:X5}{x:Str}{s:Stmt}{h:Heap}{mg:Str->Option Value}(X:K.In h)(G:h.Ns Ys mg)(d:DF K x s):∃f,bJ K mg x s f:=by
 obtain⟨f,oc,od,an,sl,kV,dc,pm,cd,ct,a,l,c,k⟩:=d;exact⟨f,ZK X G a,_,FI (st:=s) l c k⟩
def all_mk{P:YK}{w:World}{K:X5}{h:Heap}{mg:Str->Option Value}{fa:Addr}(X:K.In h)(G:h.Ns Ys mg)(V3:mg "law"=some (.ref fa))
 {lx:Addr}{A9 qD:Option Addr}{Br:Array (Option Value)}{A8 rm qM sG lh qL:Value}
 {EF:Tok}
 {zZ:Tok}
 {sY:Tok}
 {C0 C1 C4 Cp:Addr}{r0:ClassData}{r1:ClassData}{r4:ClassData}
 (d_is_whole:DF K "is_whole" lL)
 (d_is_letter:DF K "is_letter" jX)
 (d_cells_of_row:DF K "cells_of_row" eQ)
 (d_letter_of:DF K "letter_of" jZ)
 (d_are_next:DF K "are_next" lK)
 (d_keyed:DF K "keyed" xi)
 (d_numbers_of:DF K "numbers_of" i9)
 (d_distances:DF K "distances" jW)
 (d_law_cell:DF K "_law_cell" lM)
 (d_law_cells:DF K "_law_cells" gO)
 (d_law_beside:DF K "_law_beside" iY)
 (d_law_touching:DF K "_law_touching" eR)
 (d_law_fars:DF K "_law_fars" lN)
 (d_law_refused_v2:DF K "_law_refused" fg)
 (d_is_row:DF K "is_row" mZ)
 (d_need_ways:DF K "need_ways" j1)
 (d_all_cells:DF K "all_cells" jV)
 (d_next_cells:DF K "next_cells" i8)
 (d_need_number:DF K "need_number" g6)
 (d_law_drawn:DF K "_law_drawn" jY)
 (d_law_labels:DF K "_law_labels" fU)
 (d_is_board:DF K "is_board" gx)
 (d_like_cells:DF K "like_cells" fV)
 (d_near_numbers:DF K "near_numbers" gz)
 (d_law_board:DF K "_law_board" gN)
 (d_law_patches:DF K "_law_patches" fq)
 (d_need_board:DF K "need_board" iZ)
 (d_steps_back:DF K "steps_back" i_)
 (d_all_patches:DF K "all_patches" gZ)
 (d_map_of:DF K "map_of" sN)
 (d_neighbours:DF K "neighbours" i6)
 (d_borders:DF K "borders" oJ)
 (d_middle:DF K "middle" m6)
 (d_law_told_v11:DF K "_law_told" gy)
 (a_law_k72:YH K Ys "law"=some (some (.ref lx)))(l_law_k72:K.lookup lx=some ⟨A8,A9, .func (Zh "law" "law" (eB aq) (aV aq) (ai aq) .none rm qM sG qD lh qL),Br⟩)(c_law_k72:aaC K lh "law"=true)(k_law_k72:Zz K (.ref lx)=true)
 (z_len:YH K Ys "len"=some none)
 (z_isinstance:YH K Ys "isinstance"=some none)
 (z_all:YH K Ys "all"=some none)
 (z_abs:YH K Ys "abs"=some none)
 (z_max:YH K Ys "max"=some none)
 (z_min:YH K Ys "min"=some none)
 (z_range:YH K Ys "range"=some none)
 (z_str:YH K Ys "str"=some none)
 (z_int:YH K Ys "int"=some none)
 (z_bool:YH K Ys "bool"=some none)
 (z_tuple:YH K Ys "tuple"=some none)
 (z_list:YH K Ys "list"=some none)
 (z_dict:YH K Ys "dict"=some none)
 (z_sorted:YH K Ys "sorted"=some none)
 (z_enumerate:YH K Ys "enumerate"=some none)
 (z_ValueError:YH K Ys "ValueError"=some none)
 (y_LETTERS:YH K Ys "LETTERS"=some (some (.str "abcdef" EF)))
 (y_MOST_ROWS:YH K Ys "MOST_ROWS"=some (some (.int 8 zZ)))
 (y_MOST_COLUMNS:YH K Ys "MOST_COLUMNS"=some (some (.int 8 sY)))
 (e0:YH K Ys "NoBoard"=some (some (.ref C0)))
 (e1:YH K Ys "NoWays"=some (some (.ref C1)))
 (e4:YH K Ys "NoNumber"=some (some (.ref C4)))
 (ep:YH K Ys "PatchError"=some (some (.ref Cp)))
 (sp:PySem.W.subIn K (.ref Cp) (.type "BaseException")=some true)
 (q0:abr K C0 [.type "ValueError", .type "Exception", .type "BaseException", .type "object"] "ValueError.__new__"=true)
 (ga0:Zk K (.ref C0) "__getattribute__"=some (some (.builtin "BaseException.__getattribute__")))(gt0:Zk K (.ref C0) "__getattr__"=some none)(ca0:Zk K (.ref C0) "__class__"=some (some (.builtin "object.__class__")))(mo0:aaK K C0 (.type "object")=some true)(mb0:aaK K C0 (.type "BaseException")=some true)(cl0:aa0 K C0=some r0)
 (kp0:Yt K (.ref C0) (.ref Cp)=some true)(kv0:Yt K (.ref C0) (.type "ValueError")=some true)(np0:((YF C0)==(YF Cp))=false)
 (k00:Yt K (.ref C0) (.ref C0)=some true)
 (k01:Yt K (.ref C0) (.ref C1)=some false)
 (k04:Yt K (.ref C0) (.ref C4)=some false)
 (q1:abr K C1 [.type "ValueError", .type "Exception", .type "BaseException", .type "object"] "ValueError.__new__"=true)
 (ga1:Zk K (.ref C1) "__getattribute__"=some (some (.builtin "BaseException.__getattribute__")))(gt1:Zk K (.ref C1) "__getattr__"=some none)(ca1:Zk K (.ref C1) "__class__"=some (some (.builtin "object.__class__")))(mo1:aaK K C1 (.type "object")=some true)(mb1:aaK K C1 (.type "BaseException")=some true)(cl1:aa0 K C1=some r1)
 (kp1:Yt K (.ref C1) (.ref Cp)=some true)(kv1:Yt K (.ref C1) (.type "ValueError")=some true)(np1:((YF C1)==(YF Cp))=false)
 (k10:Yt K (.ref C1) (.ref C0)=some false)
 (k11:Yt K (.ref C1) (.ref C1)=some true)
 (k14:Yt K (.ref C1) (.ref C4)=some false)
 (q4:abr K C4 [.type "ValueError", .type "Exception", .type "BaseException", .type "object"] "ValueError.__new__"=true)
 (ga4:Zk K (.ref C4) "__getattribute__"=some (some (.builtin "BaseException.__getattribute__")))(gt4:Zk K (.ref C4) "__getattr__"=some none)(ca4:Zk K (.ref C4) "__class__"=some (some (.builtin "object.__class__")))(mo4:aaK K C4 (.type "object")=some true)(mb4:aaK K C4 (.type "BaseException")=some true)(cl4:aa0 K C4=some r4)
 (kp4:Yt K (.ref C4) (.ref Cp)=some true)(kv4:Yt K (.ref C4) (.type "ValueError")=some true)(np4:((YF C4)==(YF Cp))=false)
 (k40:Yt K (.ref C4) (.ref C0)=some false)
 (k41:Yt K (.ref C4) (.ref C1)=some false)
 (k44:Yt K (.ref C4) (.ref C4)=some true):
 ∃(cv:Nat->Value) (fd:aaz),(∀(s:X1) (u:Value),adH s fd ⟨[u],[]⟩ [("_law_script",u)])/\∀base:Heap,K.In base->base.Ns Ys mg->FnOk P w K mg base (c_ P w cv) 9 fa fd ["_law_script"] (Ij K cv 1 kg):=by
 have ea:=V3.symm.trans (ZK X G a_law_k72);cases ea;refine⟨λn=> .ref (cB (Qd C0 C1 C4) n),Zh "law" "law" (eB aq) (aV aq) (ai aq) .none rm qM sG qD lh qL,λs v=> .of_eq rfl,λbase KB GB=>?_⟩;have B:Bl K mg base (λn=> .ref (cB (Qd C0 C1 C4) n)) (Qd C0 C1 C4) Cp:=by
  refine⟨YM X G z_len,YM X G z_isinstance,YM X G z_all,YM X G z_abs,YM X G z_max,YM X G z_min,YM X G z_range,YM X G z_str,YM X G z_int,YM X G z_bool,YM X G z_tuple,YM X G z_list,YM X G z_dict,YM X G z_sorted,YM X G z_enumerate,YM X G z_ValueError,⟨_,ZK X G y_LETTERS⟩,⟨_,ZK X G y_MOST_ROWS⟩,⟨_,ZK X G y_MOST_COLUMNS⟩,ZK X G e0,ZK X G e1,ZK X G e4,Bd KB GB e0 q0,Bd KB GB e1 q1,Bd KB GB e4 q4,λ_=>rfl,ZK X G ep,?exm,?exs,?kit,?kitV⟩
  case exm=>
   intro n;have h:∀m,m∈[0,1,4]->abd K (.ref ((Qd C0 C1 C4) m)) (.ref Cp)=some true:=by
    intro m hm;simp only[XY,Y3,or_false] at hm;rcases hm with rfl | rfl | rfl
    ·exact AD sp kp0 np0
    ·exact AD sp kp1 np1
    ·exact AD sp kp4 np4
   exact h (OA n) (CQ n)
  case exs=>
   intro C hC;simp only[BR,Qd,XY,Y3,or_false] at hC;rcases hC with e | e | e<;>subst e
   ·exact⟨ga0,gt0,ca0,mo0,mb0,by rw[cl0];rfl⟩
   ·exact⟨ga1,gt1,ca1,mo1,mb1,by rw[cl1];rfl⟩
   ·exact⟨ga4,gt4,ca4,mo4,mb4,by rw[cl4];rfl⟩
  case kit=>
   intro n m hn hm;simp only[XY,Y3,or_false] at hn hm;rcases hn with rfl | rfl | rfl
   ·rcases hm with rfl | rfl | rfl
    ·exact k00
    ·exact k01
    ·exact k04
   ·rcases hm with rfl | rfl | rfl
    ·exact k10
    ·exact k11
    ·exact k14
   ·rcases hm with rfl | rfl | rfl
    ·exact k40
    ·exact k41
    ·exact k44
  case kitV=>
   intro n hn;simp only[XY,Y3,or_false] at hn;rcases hn with rfl | rfl | rfl
   ·exact kv0
   ·exact kv1
   ·exact kv4
 have rW:=(DF.at X G d_is_whole).elim λ_ t=>zl (P:=P) (w:=w) B t;have ze:=(DF.at X G d_is_letter).elim λ_ t=>wD (P:=P) (w:=w) B t;have rV:=(DF.at X G d_cells_of_row).elim λ_ t=>p0 (P:=P) (w:=w) B t;have zg:=(DF.at X G d_letter_of).elim λ_ t=>wI (P:=P) (w:=w) B t;have A4:=(DF.at X G d_are_next).elim λ_ t=>zj (P:=P) (w:=w) B t;have JE:=(DF.at X G d_keyed).elim λ_ t=>GP (P:=P) (w:=w) B t;have wz:=(DF.at X G d_numbers_of).elim λ_ t=>t8 (P:=P) (w:=w) B t;have o6:=(DF.at X G d_distances).elim λ_ t=>wC (P:=P) (w:=w) B t;have A6:=(DF.at X G d_law_cell).elim λ_ t=>zm (P:=P) (w:=w) B t;have o7:=(DF.at X G d_law_cells).elim λ_ t=>wG (P:=P) (w:=w) B t;have wo:=(DF.at X G d_law_beside).elim λ_ t=>tX (P:=P) (w:=w) B t;have rY:=(DF.at X G d_law_touching).elim λ_ t=>p9 (P:=P) (w:=w) B t;have A7:=(DF.at X G d_law_fars).elim λ_ t=>zo (P:=P) (w:=w) B t;have n0:=(DF.at X G d_law_refused_v2).elim λ_ t=>mD (P:=P) (w:=w) B t;have GK:=(DF.at X G d_is_row).elim λ_ t=>Ed (P:=P) (w:=w) B ze t;have zh:=(DF.at X G d_need_ways).elim λ_ t=>wJ (P:=P) (w:=w) B rW t;have o5:=(DF.at X G d_all_cells).elim λ_ t=>wB (P:=P) (w:=w) B rV t;have mC:=(DF.at X G d_next_cells).elim λ_ t=>t7 (P:=P) (w:=w) B A4 t;have kS:=(DF.at X G d_need_number).elim λ_ t=>sj (P:=P) (w:=w) B rW t;have o8:=(DF.at X G d_law_drawn).elim λ_ t=>wH (P:=P) (w:=w) B A6 t;have wt:=(DF.at X G d_law_labels).elim λ_ t=>tY (P:=P) (w:=w) B o7 wo t;have A5:=(DF.at X G d_is_board).elim λ_ t=>zk (P:=P) (w:=w) B GK t;have wu:=(DF.at X G d_like_cells).elim λ_ t=>tZ (P:=P) (w:=w) B zg mC t;have r_:=(DF.at X G d_near_numbers).elim λ_ t=>p_ (P:=P) (w:=w) B wz o5 mC t;have zf:=(DF.at X G d_law_board).elim λ_ t=>wF (P:=P) (w:=w) B o8 t;have tW:=(DF.at X G d_law_patches).elim λ_ t=>sf (P:=P) (w:=w) B wt o7 t;have wx:=(DF.at X G d_need_board).elim λ_ t=>t5 (P:=P) (w:=w) B A5 t;have wA:=(DF.at X G d_steps_back).elim λ_ t=>t9 (P:=P) (w:=w) B wu t;have tV:=(DF.at X G d_all_patches).elim λ_ t=>se (P:=P) (w:=w) B o5 wA JE t;have rZ:=(DF.at X G d_map_of).elim λ_ t=>Ee (P:=P) (w:=w) B wx zh r_ tV t;have wy:=(DF.at X G d_neighbours).elim λ_ t=>t6 (P:=P) (w:=w) B rZ kS t;have Ea:=(DF.at X G d_borders).elim λ_ t=>Ba (P:=P) (w:=w) B rZ kS o6 t;have GL:=(DF.at X G d_middle).elim λ_ t=>Ef (P:=P) (w:=w) B rZ o6 t;have rX:=(DF.at X G d_law_told_v11).elim λ_ t=>p8 (P:=P) (w:=w) B wy Ea GL n0 t;exact zi B zf tW rY o8 A7 rX (FI (st:=aq) l_law_k72 c_law_k72 k_law_k72)
end K1
open PySem PySem.W PyProof.Rows
theorem PySem.Challenge.cw_cellpatches_k72_maps_holds : PySem.Challenge.rw_cellpatches_k72_maps.Holds := by
 w_on;refine holds_law (by kernel_rfl) λXj=>?_
 refine holds_open (q:=K1.z3) (loose:=[]) (Xt:=λs=>xlAt K1.z3 [] s&&recOk (RowW.records (OpenRow.toRowW _)) s) (XP:=XL K1.z3 []) (Yf:=Hook.obs (kHook K1.qX K1.qW (λ_=>by kernel_rfl))) (Ya:=Hook.val (kHook K1.qX K1.qW (λ_=>by kernel_rfl))) (YP:=Hook.says (kHook K1.qX K1.qW (λ_=>by kernel_rfl))) (N:=4052) ?hl (Hook.of (kHook K1.qX K1.qW (λ_=>by kernel_rfl))) (Hook.keeps (kHook K1.qX K1.qW (λ_=>by kernel_rfl))) (λs e=>xl_of s (Z5.mp e).1) XL.keeps (by rfl) (by rfl) (by rfl) (λs e=>recFacts_of (Z5.mp e).2) (by rfl) (by first | assumption | decide+kernel) (by decide+kernel) ⟨rfl,rfl,rfl,rfl,rfl,by decide+kernel⟩ ?hw ?hc
 case hl=>exact K1.Pn
 (case hw=>w_witness2)
 k_fill
 refine L3.Q5 (l:=PySem.Challenge.rw_cellpatches_k72_maps) (k:=9) (n:=63) (x:="_law_script") (g:=K1.kg) rfl (by decide) rfl ⟨rfl,by decide,by decide⟩ (λw h Y=>PySem.W.kIn_of Y) K1.Gh ?F
 case F=>
  intro w mg fa h KX G Mw;refine' K1.all_mk KX G Mw ?d_is_whole ?d_is_letter ?d_cells_of_row ?d_letter_of ?d_are_next ?d_keyed ?d_numbers_of ?d_distances ?d_law_cell ?d_law_cells ?d_law_beside ?d_law_touching ?d_law_fars ?d_law_refused_v2 ?d_is_row ?d_need_ways ?d_all_cells ?d_next_cells ?d_need_number ?d_law_drawn ?d_law_labels ?d_is_board ?d_like_cells ?d_near_numbers ?d_law_board ?d_law_patches ?d_need_board ?d_steps_back ?d_all_patches ?d_map_of ?d_neighbours ?d_borders ?d_middle ?d_law_told_v11 ?a_law_k72 ?l_law_k72 ?c_law_k72 ?k_law_k72 ?z_len ?z_isinstance ?z_all ?z_abs ?z_max ?z_min ?z_range ?z_str ?z_int ?z_bool ?z_tuple ?z_list ?z_dict ?z_sorted ?z_enumerate ?z_ValueError ?y_LETTERS ?y_MOST_ROWS ?y_MOST_COLUMNS ?e0 ?e1 ?e4 ?ep ?sp ?q0 ?ga0 ?gt0 ?ca0 ?mo0 ?mb0 ?cl0 ?kp0 ?kv0 ?np0 ?k00 ?k01 ?k04 ?q1 ?ga1 ?gt1 ?ca1 ?mo1 ?mb1 ?cl1 ?kp1 ?kv1 ?np1 ?k10 ?k11 ?k14 ?q4 ?ga4 ?gt4 ?ca4 ?mo4 ?mb4 ?cl4 ?kp4 ?kv4 ?np4 ?k40 ?k41 ?k44
  any_goals (refine' K1.DF.mk ?a ?l ?c ?k;(case a=>k_is);(case l=>k_is);(case c=>k_is);(case k=>k_is))
  any_goals first | k_is | kit_is | k_exc | rfl
