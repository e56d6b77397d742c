import PyProof.Rows.All
import KE.KDictSum
import KE.KSortTup
import KE.KTryMore
import KE.RegKIsAll
import Lean
import PySem.Challenge.RW_cellpatches_k74_roads
open PySem renaming wpAny_bind->Xy,Shared->XD,wpAny_pure->XE,starEach->X2,sizeLine->X6,mainGlobals->Yb,Program->Yd,Around->Yy,bootBuiltins->YJ,SetTable->YS,wpAny_mono->YV,wpAny_setState_of->YX,behindInMarks->YY,compareOp->YZ,wpAny_call_entry->Za,sysModules->Zf,wpAny_holding->Zg,mem_of_lookup->Zr,wpAny_truthy_bool->Zu,wpAny_dictEntries->Zv,sizeLine_eq->Zx,intKind->Zy,backTo->ZI,FuncData->ZP,wpAny_newObj_type->ZR,wpAny_ite_split->ZS,tupleKind->ZT,foldedSetIterable->ZU,IsTupleKey->ZV,DictEntry->ZW,attributeBase->ZZ,wpAny_typeNameOfWhole_keyiter->Z1,wpAny_Call_Name_kw->aaa,tupleKind_room_in1->aab,wpAny_passesOwn->aae,Keyword->aap,keywordEach->aav,wpAny_typeNameOf_keyiter->aaz,rawInt->aaA,wpAny_callSpecial?_slot->aaE,Builtin->aaF,binaryOp->aaP,wpAny_forIn_list->aaU,wpAny_askSetting->aaV,wpAny_specialOf->aa6,wpAny_execs_nil->aa7,wpAny_dictEpoch->aa8,swapsWith->aa9,codeAny_builtin->aa_,tupleKeyHash->abi,codeAny_mono->abj,NameKind->abk,wpAny_setField->abl,codeAny->abm,wpAny_Call_method->abw,assignEach->abx,storedH->abF,backToKw->abG,wpAny_isInstance->abL,pyNext->abM,letOwnedTupleGo->abR,call_meetsIn->abS,call_meets->ab0,codeAny_call_builtin->ab5,wpAny_fieldsOf->ab_,recursionLimit->aca,firstArgMember->acb,wpAny_setEntries_of->ach,wpAny_of_eq->aci,wpAny_attempt->acx,swapsWithSole->acy,dictSetHashed->acz,Paired->acC,wpAny_pyIter_slot->acL,wpAny_pyIter_list->acM,wpAny_loadPart_at->acN,wpAny_assign_Name->acO,ofAClassStatement->acP,callerA->acQ,setAddHashed->acX,noFill_tuple_add->ac2,checkBuiltinCall->ac3,valueAt->ada,size_of_entries->adb,cellsFrom->adf,PassesOwn->adl,BindsTo->adp,wpAny_newFunctionEnv_cells->ads,isSubtype_type->adz,wpAny_comprehension_free->adK,typeLookup->adL,pyIter->adM,entryOfKey->adN,wpAny_newList->adV,setField->adW,seq_tuple_add->adX,plainId_quiet->adY,notedBy->adZ,call->ad1,GenState->ad5
open List renaming mem_cons_of_mem->Xz,mem_cons_self->XA,length_map->XB,getElem?_eq_getElem->XC,mem_cons->XF,length_cons->XH,getElem?_eq_some_iff->XI,map_cons->XN,getElem?_set_ne->XQ,length_append->XR,mem_map->XS,replicate->XT,size_toArray->XW,getElem?_map->XX,mem_singleton->X0,getElem?_set_self->X1,mem_of_getElem?->X7,getD_eq_getElem?_getD->X9,range->Yg,all_eq_true->Yh,mem_append->Yk,map_append->Yl,getElem?_append_left->Ym,nil_append->Yq,getElem?_cons_zero->Yr,not_mem_nil->Yt,map_map->Yv,getElem?_cons_succ->Yx,nodup_cons->Yz,mem_filter->YA,mem_append_right->YB,getElem?_append_right->YD,length_nil->YE,append_nil->YF,nodup_append->YI,pairwise_iff_getElem->YL,mem_iff_getElem->YM,range'->YU,length_filter_le->Y1,mem_range->Y3,zip_cons_cons->Y6,pairwise_cons->Y7,getElem?_replicate->Y8,append_assoc->Zb,Nodup->Zc,filterMap_cons_some->Zh,cons_append->Zj,mem_append_left->Zm,toArray->Zn,map_nil->Zo,length_range->Zq,replicate_succ->Zs,map_congr_left->Zt,lookup_cons->ZA,getElem_mem->ZC,any_eq_true->ZD,set_cons_zero->ZE,set_cons_succ->ZF,nodup_nil->ZG,foldl_cons->ZL,flatMap_cons->ZM,length_zip->Z3,getElem?_eq_none->Z4,getElem?_concat_length->Z5,flatten_cons->aac,drop_eq_getElem_cons->aah,getElem_map->aai,filterMap_cons->aaj,filterMap_cons_none->aao,zip_append->aar,mem_filterMap->aas,length_eq_zero_iff->aat,find?_cons->aau,pairwise_map->aaD,take_append_drop->aaI,all_map->aaJ,mem_flatMap->aaL,pairwise_append->aaO,any_cons->aaR,all_cons->aaS,getElem_of_mem->aaT,getElem?_eq_none_iff->aa2,length_erase_of_mem->abc,range'_succ->abn,map_flatMap->abo,length_take->abp,drop_length->abq,of_mem_zip->abC,length_replicate->abD,sum_cons->ab2,length_range'->ab3,find?_eq_none->ab4,getElem?_inj->ace,ext_getElem?->acf,perm_middle->acs,isEmpty_nil->acu,getElem_zip->acv,ext_getElem->acw,mem_zipIdx_iff_getElem?->acE,forIn_cons->acH,pairwise_singleton->ac7,range_succ_eq_map->adm,length_pos_of_mem->adn,length_singleton->adx,getElem?_toArray->ady,range_eq_range'->adF,mem_erase_of_ne->adG,getElem?_mapIdx->adH,length_flatMap->adQ,getElem?_range->adR,getElem_range->ad4,foldl->aed
open Array renaming length_toList->XG,getElem?_eq_getElem->XU,getD_eq_getD_getElem?->XZ,getElem?_eq_some_iff->YC,getElem?_toList->YT,getElem?_eq_none->aaB,getElem?_setIfInBounds_self_of_lt->abB,forIn_toList->abX,append_assoc->abY,getElem?_setIfInBounds_ne->ab9,replicate->acF,size_setIfInBounds->ac0,getElem?_replicate->ac1,toList_filterMap->ac_,toList_filter->adJ,foldl_toList->adU,toList_push->ad8,isEmpty_iff->ad9
open PySem.Heap renaming get?_push_of_some->XJ,lt_size->XY,get?_push_size->X8,get?_update_self->Y2,SameBut->Ze,size_push->aa4,get?_none_of_le->adI,ExtBut->adS
open Nat renaming le_refl->XM,le_trans->Yc,ne_of_lt->Yj,zero_le->Ys,lt_of_lt_of_le->Yw,lt_irrefl->YH,le_of_lt->Y9,zero_add->Z8,lt_trans->Z9,min_eq_left->aax,le_antisymm->aay,mul_le_mul->aaH,ne_of_gt->aaZ,le_total->aa0,add_right_comm->aa1,lt_succ_self->abu,le_add_right->abv,lt_of_le_of_lt->ab8,mod_lt->aco,lt_succ_of_lt->acp,add_comm->acr,le_max_right->acD,le_max_left->acU,div_div_eq_div_mul->adw,mul_comm->adD,min_self->adE,mul_le_mul_right->adP
open PySem.W renaming Frag->XO,kitOne->X3,nsIn->Yp,mg_none_of->Yu,kia_one->YQ,findIn->YR,fnOf->Y5,mg_of->Zk,keepIn->Zl,mroIn->ZN,codeIn->aad,clsIn->aak,excIn->aaK,hideAll->aaN,exmOne->aaW,cellsFrom_some->abe,looks_findIn->aby,methodObj->abT,instObj->ack,lookIn->acB,looks_mroIn->adi,kdu_collect->adj,hideAll_get->adk,of_hideAll->adt,codeRec_of->adu,callWith_K->adv,kitx_list->adB,kitx_dict->adC,plainGet->adO,OpenLaw->ad2
open Bool renaming false_eq_true->X4,and_eq_true->X5,false_ne_true->Yi,and_eq_true_iff->ZK,not_true->ZQ,not_false->aaG,and_false->abP,eq_iff_iff->acK,true_and->ac8,and_true->ac9,eq_false_iff->aef
open PySem.PassesOwn renaming never->X_
open PySem.Value renaming ref->Ye,none->YO,bool->Z7,builtin->aaM,type->ab6,isInt->acA,str->adg,int->adh
open Option.some renaming inj->Yn
open PySem.Heap.SameBut renaming update->Yo,refl->acY
open Ne renaming symm->YG
open Classical renaming byContradiction->YK,not_forall->acZ,not_imp->ado
open Option renaming isSome_iff_exists->YN,map_eq_some_iff->aaw,getD_some->abg,isSome_map->ab1
open ForInStep renaming yield->YW
open True renaming intro->Y0
open PySem.Calls renaming spliced_cons->Y4,evalArgs_plain->ZH,spliced_nil->ZJ,callWith_builtin->ZX,Name_function_global->acJ,call_function_entry->acW
open False renaming elim->Y_
open PyProof.Rows.F renaming plain_set_update_loop->Zd,entry_set_update_loop->abb
open PyProof.Rows renaming callWith_type1->Zi,envOfC->Zz,seqObj->aaf,IntsAre->abr,callWith_builtin1->abH,kindOf->abN,AllBare->abZ,subscriptTail_builtinR->ad_
open PySem.Str renaming ofString->Zp
open PySem.F renaming slot_dict_get->Zw,excBase_ValueError->Z2,slot_dict_keyiterator_next->Z6,plainAttrs_list->aal,plainAttrs_dict->aam,entry_dict_get->aaq,args_tuple_add_2->aaX,entry_tuple_add->aba,slot_tuple_add->abf,slot_dict_setdefault->acd,slot_dict_update->acG,args_dict_keyiterator_next_1->acI,args_dict_get_3->acS,args_dict_get_2->acT,entry_dict_keyiterator_next->acV,type_dict_get->ac6,typeOf_object_class->ad6
open PySem.Paired renaming length->ZO
open PySem.Obj renaming mapSeq->ZY,data_mapFields->Z0,data_mapDictKeys->aaQ,isFreed_of_fields->abI,isFreed_of_dict->abU,mapFields->ab7,putSet->acm,cls_mapFields->acn
open PySem.Builtin.List renaming listTooLong->Z_,listLengthHint->abQ
open PySem.Builtin.Str renaming occurrences->aag
open Prod.mk renaming injEq->aan
open PUnit renaming unit->aaC
open Int.ofNat renaming inj->aaY
open Int renaming emod_lt_of_pos->aa3,toNat_natCast->abh,emod_nonneg->abJ,toNat_of_nonneg->abV
open PySem.Builtin.Dict renaming showsAll->aa5,entriesForEmpty->abO,updateFrom->acg,mergeDict->acq
open PySem.Data renaming dict->abd,fields->adT
open PySem.Builtin.Dict_items renaming ownsTuple->abt
open List.Pairwise renaming nil->abz,imp->abA
open PySem.Around renaming under_plainId->abE,frames_deeper->adq
open Iff renaming rfl->abK
open PySem.Builtin.Tuple renaming tupleHashOf->abW
open Sum renaming inl->acj,inr->acR
open PySem.SeqAt.EqAt renaming str_int->ac4,int_str->ac5
open LawfulBEq renaming eq_of_beq->ade
open PySem.SetTable renaming gaveWay->adA,fits->aeb
open PySem.Value.ref renaming inj->ad0
open Prod renaming ext->ad3
open PySem.Code renaming quiet_builtin->ad7
open PySem.pickOrder renaming go->aea
open PySem.NameKind renaming free->aec
open Function renaming comp->aee
set_option maxHeartbeats 0
set_option Elab.async false
set_option linter.all false
set_option maxRecDepth 100000
abbrev aeg:=@if_pos
abbrev aeh:=@if_neg
abbrev aei:=@decide_eq_true
abbrev aej:=@absurd
abbrev aek:=@of_decide_eq_true
abbrev ael:=@decide_eq_true_eq
abbrev aem:=@decide_eq_false
abbrev aen:=@beq_eq_false_iff_ne
abbrev aeo:=@congrArg
abbrev aep:=@decide_eq_decide
namespace L2
open PySem
def eF(s:Stmt):Arguments:=match s with
 | .FunctionDef _ a _ _ _ _ _ _ _ _=>a
 |_=>{posonlyargs:=[],args:=[],vararg:=none,kwonlyargs:=[],kw_defaults:=[],kwarg:=none,defaults:=[]}
def bg(s:Stmt):List Stmt:=match s with
 | .FunctionDef _ _ b _ _ _ _ _ _ _=>b
 |_=>[]
def ai(s:Stmt):Scope:=match s with
 | .FunctionDef _ _ _ _ _ _ sc _ _ _=>sc
 |_=>{kind:= .function,names:=[],isGenerator:=false,isCoroutine:=false}
end L2
namespace K1
open PySem PySem.Spec
def top(i:Nat):Stmt:=PySem.Challenge.pw_cellpatches_k74_roads.main.body.getD i (.Pass ⟨0,0,0,0⟩)
abbrev hS(s:String)(t:Tok):Value:= .str (Zp s) t
abbrev hE(P:Params)(s:String)(t:Tok)(v:Value):ZW:={hash:=PyData.keyHash P (Zp s),key:=hS s t,val:=v}
abbrev hT(xs:Array Value):Obj:={cls:= .type "tuple",data:=Data.seq xs}
abbrev hF(s:String)(t:Stmt)(m:Value)(c:Addr):Obj:={cls:= .type "function",data:=Data.func {name:=Zp s,qualname:=Zp s,params:=L2.eF t,body:=FuncBody.stmts (L2.bg t),scope:=L2.ai t,globals:=3,closure:=[],defaults:= .none,kwdefaults:= .none,pyModule:=m,code:= .ref c} }
abbrev jj(s:String)(t1 t2 t3:Tok)(l n f:Int)(a:Addr)(v:Int)(b:Addr)(x y:Value)(d:Addr)(p:Int)(t4:Tok):Obj:={cls:= .type "code",data:=adT #[hS s t1,hS s t2,hS "/claim/cut.py" t3, .int l 0, .int n 0, .int 0 0, .int 0 0, .int f 0, .ref a, .bool true, .int v 0, .ref b, .none,x,y, .ref d, .int p 0, .int l 0,hS "/claim/cut.py" t4]}
abbrev Ae:Value:=hS "cellpatches.boards" 271
abbrev CZ:Value:=hS "law_cellpatches_k74_roads" 504
abbrev Kv:Value:=hS "cellpatches.patches" 396
abbrev OF:Value:=hS "cellpatches.errors" 187
abbrev QE(n:String)(b a ns r:Addr)(t1 t2:Tok):Obj:={cls:= .type "type",data:=Data.cls {name:=Zp n,bases:=[.ref b],mro:=[.ref a, .ref b, .type "ValueError", .type "Exception", .type "BaseException", .type "object"],ns:=ns,qualname:=Zp n},slots:= #[some (.ref r),none,some (hS n t1),some (hS n t2),some (.builtin "ValueError.__new__"),some (.bool true)]}
def ro:Params->XO:=λP=>(nat_lit 2,{cls:= .none,data:=abd #[]})::
 (nat_lit 3,{cls:= .type "dict",data:=abd #[hE P "__name__" 165 CZ,hE P "__doc__" 166 .none,hE P "__package__" 167 .none,hE P "__loader__" 168 (.builtin "__main__.__loader__#opaque"),hE P "__spec__" 169 .none,hE P "__annotations__" 170 (.ref 6),hE P "__builtins__" 171 (.ref 4),hE P "__file__" 173 (hS "/claim/cut.py" 172),hE P "__cached__" 174 .none,hE P "PatchError" 206 (.ref 24),hE P "NoBoard" 222 (.ref 37),hE P "NoWays" 238 (.ref 49),hE P "NoCell" 254 (.ref 61),hE P "NoLetter" 270 (.ref 73),hE P "LETTERS" 274 (hS "abcdef" 273),hE P "MOST_ROWS" 276 (.int 8 275),hE P "MOST_COLUMNS" 278 (.int 8 277),hE P "is_whole" 285 (.ref 82),hE P "is_letter" 292 (.ref 89),hE P "is_row" 298 (.ref 94),hE P "is_board" 304 (.ref 99),hE P "is_cell" 312 (.ref 106),hE P "need_board" 319 (.ref 113),hE P "need_cell" 327 (.ref 120),hE P "need_letters" 333 (.ref 125),hE P "need_ways" 340 (.ref 132),hE P "cells_of_row" 346 (.ref 137),hE P "all_cells" 355 (.ref 144),hE P "letter_of" 363 (.ref 151),hE P "are_next" 374 (.ref 158),hE P "next_cells" 386 (.ref 165),hE P "keyed" 395 (.ref 172),hE P "need_two_cells" 407 (.ref 179),hE P "like_cells" 413 (.ref 184),hE P "steps_back" 427 (.ref 191),hE P "all_patches" 439 (.ref 198),hE P "numbers_of" 450 (.ref 205),hE P "near_numbers" 464 (.ref 212),hE P "near_among" 470 (.ref 217),hE P "distances" 483 (.ref 224),hE P "fewest_changes" 497 (.ref 231),hE P "steps_over" 503 (.ref 236),hE P "_law_cell" 513 (.ref 243),hE P "_law_drawn" 523 (.ref 250),hE P "_law_board" 529 (.ref 255),hE P "_law_cells" 535 (.ref 260),hE P "_law_beside" 550 (.ref 267),hE P "_law_sign" 558 (.ref 274),hE P "_law_cell_in" 567 (.ref 281),hE P "_law_refused" 575 (.ref 288),hE P "_law_told" 588 (.ref 295),hE P "_law_changes" 602 (.ref 302),hE P "_law_steps" 608 (.ref 307),hE P "law" 614 (.ref 312)] 54})::
 (nat_lit 15,hT #[.type "ValueError"])::
 (nat_lit 22,hT #[])::
 (nat_lit 23,{cls:= .type "dict",data:=abd #[hE P "__module__" 196 OF,hE P "__firstlineno__" 200 (.int 2 199),hE P "__static_attributes__" 201 (.ref 22),hE P "__weakref__" 203 (.ref 25),hE P "__doc__" 204 .none] 3})::
 (nat_lit 24,{cls:= .type "type",data:=Data.cls {name:=Zp "PatchError",bases:=[.type "ValueError"],mro:=[.ref 24, .type "ValueError", .type "Exception", .type "BaseException", .type "object"],ns:=23,qualname:=Zp "PatchError",subclasses:=[.ref 37, .ref 49, .ref 61, .ref 73]},slots:= #[some (.ref 15),none,some (hS "PatchError" 189),some (hS "PatchError" 197),some (.builtin "ValueError.__new__"),some (.bool true)]})::
 (nat_lit 25,{cls:= .type "getset_descriptor",data:=adT #[hS "__weakref__" 202, .ref 24, .builtin "ExceptionGroup.__weakref__", .none]})::
 (nat_lit 28,hT #[.ref 24])::
 (nat_lit 35,hT #[])::
 (nat_lit 36,{cls:= .type "dict",data:=abd #[hE P "__module__" 214 OF,hE P "__firstlineno__" 218 (.int 4 217),hE P "__static_attributes__" 219 (.ref 35),hE P "__doc__" 220 .none] 2})::
 (nat_lit 37,QE "NoBoard" 24 37 36 28 207 215)::
 (nat_lit 40,hT #[.ref 24])::
 (nat_lit 47,hT #[])::
 (nat_lit 48,{cls:= .type "dict",data:=abd #[hE P "__module__" 230 OF,hE P "__firstlineno__" 234 (.int 6 233),hE P "__static_attributes__" 235 (.ref 47),hE P "__doc__" 236 .none] 2})::
 (nat_lit 49,QE "NoWays" 24 49 48 40 223 231)::
 (nat_lit 52,hT #[.ref 24])::
 (nat_lit 59,hT #[])::
 (nat_lit 60,{cls:= .type "dict",data:=abd #[hE P "__module__" 246 OF,hE P "__firstlineno__" 250 (.int 8 249),hE P "__static_attributes__" 251 (.ref 59),hE P "__doc__" 252 .none] 2})::
 (nat_lit 61,QE "NoCell" 24 61 60 52 239 247)::
 (nat_lit 64,hT #[.ref 24])::
 (nat_lit 71,hT #[])::
 (nat_lit 72,{cls:= .type "dict",data:=abd #[hE P "__module__" 262 OF,hE P "__firstlineno__" 266 (.int 10 265),hE P "__static_attributes__" 267 (.ref 71),hE P "__doc__" 268 .none] 2})::
 (nat_lit 73,QE "NoLetter" 24 73 72 64 255 263)::
 (nat_lit 76,hT #[])::
 (nat_lit 78,hT #[hS "thing" 282])::
 (nat_lit 79,hT #[])::
 (nat_lit 81,jj "is_whole" 279 280 281 16 1 3 76 181 77 (.ref 78) (.ref 79) 80 283 284)::
 (nat_lit 82,hF "is_whole" (top 10) Ae 81)::
 (nat_lit 83,hT #[])::
 (nat_lit 85,hT #[hS "thing" 289])::
 (nat_lit 86,hT #[])::
 (nat_lit 88,jj "is_letter" 286 287 288 18 1 3 83 181 84 (.ref 85) (.ref 86) 87 290 291)::
 (nat_lit 89,hF "is_letter" (top 11) Ae 88)::
 (nat_lit 90,hT #[])::
 (nat_lit 93,jj "is_row" 293 294 295 20 1 3 90 181 91 .none .none 92 296 297)::
 (nat_lit 94,hF "is_row" (top 12) Ae 93)::
 (nat_lit 95,hT #[])::
 (nat_lit 98,jj "is_board" 299 300 301 24 1 3 95 181 96 .none .none 97 302 303)::
 (nat_lit 99,hF "is_board" (top 13) Ae 98)::
 (nat_lit 100,hT #[])::
 (nat_lit 102,hT #[hS "board" 308,hS "thing" 309])::
 (nat_lit 103,hT #[])::
 (nat_lit 105,jj "is_cell" 305 306 307 30 2 3 100 181 101 (.ref 102) (.ref 103) 104 310 311)::
 (nat_lit 106,hF "is_cell" (top 14) Ae 105)::
 (nat_lit 107,hT #[])::
 (nat_lit 109,hT #[hS "thing" 316])::
 (nat_lit 110,hT #[])::
 (nat_lit 112,jj "need_board" 313 314 315 36 1 3 107 181 108 (.ref 109) (.ref 110) 111 317 318)::
 (nat_lit 113,hF "need_board" (top 15) Ae 112)::
 (nat_lit 114,hT #[])::
 (nat_lit 116,hT #[hS "board" 323,hS "thing" 324])::
 (nat_lit 117,hT #[])::
 (nat_lit 119,jj "need_cell" 320 321 322 39 2 3 114 181 115 (.ref 116) (.ref 117) 118 325 326)::
 (nat_lit 120,hF "need_cell" (top 16) Ae 119)::
 (nat_lit 121,hT #[])::
 (nat_lit 124,jj "need_letters" 328 329 330 42 1 3 121 181 122 .none .none 123 331 332)::
 (nat_lit 125,hF "need_letters" (top 17) Ae 124)::
 (nat_lit 126,hT #[])::
 (nat_lit 128,hT #[hS "thing" 337])::
 (nat_lit 129,hT #[])::
 (nat_lit 131,jj "need_ways" 334 335 336 45 1 3 126 181 127 (.ref 128) (.ref 129) 130 338 339)::
 (nat_lit 132,hF "need_ways" (top 18) Ae 131)::
 (nat_lit 133,hT #[])::
 (nat_lit 136,jj "cells_of_row" 341 342 343 48 2 3 133 181 134 .none .none 135 344 345)::
 (nat_lit 137,hF "cells_of_row" (top 19) Ae 136)::
 (nat_lit 138,hT #[])::
 (nat_lit 140,hT #[hS "board" 350,hS "found" 351,hS "row" 352])::
 (nat_lit 141,hT #[])::
 (nat_lit 143,jj "all_cells" 347 348 349 50 1 3 138 181 139 (.ref 140) (.ref 141) 142 353 354)::
 (nat_lit 144,hF "all_cells" (top 20) Ae 143)::
 (nat_lit 145,hT #[])::
 (nat_lit 147,hT #[hS "board" 359,hS "cell" 360])::
 (nat_lit 148,hT #[])::
 (nat_lit 150,jj "letter_of" 356 357 358 55 2 3 145 181 146 (.ref 147) (.ref 148) 149 361 362)::
 (nat_lit 151,hF "letter_of" (top 21) Ae 150)::
 (nat_lit 152,hT #[])::
 (nat_lit 154,hT #[hS "one" 367,hS "other" 368,hS "ways" 369,hS "down" 370,hS "along" 371])::
 (nat_lit 155,hT #[])::
 (nat_lit 157,jj "are_next" 364 365 366 57 3 3 152 181 153 (.ref 154) (.ref 155) 156 372 373)::
 (nat_lit 158,hF "are_next" (top 22) Ae 157)::
 (nat_lit 159,hT #[])::
 (nat_lit 161,hT #[hS "board" 378,hS "cell" 379,hS "ways" 380,hS "found" 381,hS "row" 382,hS "column" 383])::
 (nat_lit 162,hT #[])::
 (nat_lit 164,jj "next_cells" 375 376 377 63 3 3 159 181 160 (.ref 161) (.ref 162) 163 384 385)::
 (nat_lit 165,hF "next_cells" (top 23) Ae 164)::
 (nat_lit 166,hT #[])::
 (nat_lit 168,hT #[hS "things" 390,hS "found" 391,hS "thing" 392])::
 (nat_lit 169,hT #[])::
 (nat_lit 171,jj "keyed" 387 388 389 70 1 3 166 181 167 (.ref 168) (.ref 169) 170 393 394)::
 (nat_lit 172,hF "keyed" (top 24) Ae 171)::
 (nat_lit 173,hT #[])::
 (nat_lit 175,hT #[hS "board" 401,hS "ways" 402,hS "one" 403,hS "other" 404])::
 (nat_lit 176,hT #[])::
 (nat_lit 178,jj "need_two_cells" 398 399 400 76 4 3 173 181 174 (.ref 175) (.ref 176) 177 405 406)::
 (nat_lit 179,hF "need_two_cells" (top 26) Kv 178)::
 (nat_lit 180,hT #[])::
 (nat_lit 183,jj "like_cells" 408 409 410 81 3 3 180 181 181 .none .none 182 411 412)::
 (nat_lit 184,hF "like_cells" (top 27) Kv 183)::
 (nat_lit 185,hT #[])::
 (nat_lit 187,hT #[hS "board" 417,hS "start" 418,hS "ways" 419,hS "back" 420,hS "ring" 421,hS "further" 422,hS "cell" 423,hS "near" 424])::
 (nat_lit 188,hT #[])::
 (nat_lit 190,jj "steps_back" 414 415 416 84 3 3 185 181 186 (.ref 187) (.ref 188) 189 425 426)::
 (nat_lit 191,hF "steps_back" (top 28) Kv 190)::
 (nat_lit 192,hT #[])::
 (nat_lit 194,hT #[hS "board" 431,hS "ways" 432,hS "found" 433,hS "seen" 434,hS "cell" 435,hS "patch" 436])::
 (nat_lit 195,hT #[])::
 (nat_lit 197,jj "all_patches" 428 429 430 96 2 3 192 181 193 (.ref 194) (.ref 195) 196 437 438)::
 (nat_lit 198,hF "all_patches" (top 29) Kv 197)::
 (nat_lit 199,hT #[])::
 (nat_lit 201,hT #[hS "found" 443,hS "numbers" 444,hS "number" 445,hS "patch" 446,hS "cell" 447])::
 (nat_lit 202,hT #[])::
 (nat_lit 204,jj "numbers_of" 440 441 442 105 1 3 199 181 200 (.ref 201) (.ref 202) 203 448 449)::
 (nat_lit 205,hF "numbers_of" (top 30) Kv 204)::
 (nat_lit 206,hT #[])::
 (nat_lit 208,hT #[hS "board" 454,hS "ways" 455,hS "found" 456,hS "numbers" 457,hS "near" 458,hS "cell" 459,hS "mine" 460,hS "other" 461])::
 (nat_lit 209,hT #[])::
 (nat_lit 211,jj "near_numbers" 451 452 453 111 3 3 206 181 207 (.ref 208) (.ref 209) 210 462 463)::
 (nat_lit 212,hF "near_numbers" (top 31) Kv 211)::
 (nat_lit 213,hT #[])::
 (nat_lit 216,jj "near_among" 465 466 467 120 3 3 213 181 214 .none .none 215 468 469)::
 (nat_lit 217,hF "near_among" (top 32) Kv 216)::
 (nat_lit 218,hT #[])::
 (nat_lit 220,hT #[hS "near" 474,hS "start" 475,hS "far" 476,hS "ring" 477,hS "further" 478,hS "thing" 479,hS "other" 480])::
 (nat_lit 221,hT #[])::
 (nat_lit 223,jj "distances" 471 472 473 126 2 3 218 181 219 (.ref 220) (.ref 221) 222 481 482)::
 (nat_lit 224,hF "distances" (top 33) Kv 223)::
 (nat_lit 225,hT #[])::
 (nat_lit 227,hT #[hS "board" 489,hS "ways" 490,hS "one" 491,hS "other" 492,hS "found" 493,hS "numbers" 494])::
 (nat_lit 228,hT #[])::
 (nat_lit 230,jj "fewest_changes" 486 487 488 139 4 3 225 181 226 (.ref 227) (.ref 228) 229 495 496)::
 (nat_lit 231,hF "fewest_changes" (top 35) (hS "cellpatches.roads" 484) 230)::
 (nat_lit 232,hT #[])::
 (nat_lit 235,jj "steps_over" 498 499 500 144 5 3 232 181 233 .none .none 234 501 502)::
 (nat_lit 236,hF "steps_over" (top 36) (hS "cellpatches.roads" 484) 235)::
 (nat_lit 237,hT #[])::
 (nat_lit 239,hT #[hS "_law_script" 509,hS "_law_k" 510])::
 (nat_lit 240,hT #[])::
 (nat_lit 242,jj "_law_cell" 506 507 508 155 2 3 237 181 238 (.ref 239) (.ref 240) 241 511 512)::
 (nat_lit 243,hF "_law_cell" (top 38) CZ 242)::
 (nat_lit 244,hT #[])::
 (nat_lit 246,hT #[hS "_law_script" 517,hS "_law_k" 518,hS "_law_many" 519,hS "_law_cell_here" 520])::
 (nat_lit 247,hT #[])::
 (nat_lit 249,jj "_law_drawn" 514 515 516 159 3 3 244 181 245 (.ref 246) (.ref 247) 248 521 522)::
 (nat_lit 250,hF "_law_drawn" (top 39) CZ 249)::
 (nat_lit 251,hT #[])::
 (nat_lit 254,jj "_law_board" 524 525 526 163 3 3 251 181 252 .none .none 253 527 528)::
 (nat_lit 255,hF "_law_board" (top 40) CZ 254)::
 (nat_lit 256,hT #[])::
 (nat_lit 259,jj "_law_cells" 530 531 532 172 1 3 256 181 257 .none .none 258 533 534)::
 (nat_lit 260,hF "_law_cells" (top 41) CZ 259)::
 (nat_lit 261,hT #[])::
 (nat_lit 263,hT #[hS "_law_board_here" 539,hS "_law_cell_here" 540,hS "_law_ways" 541,hS "_law_found" 542,hS "_law_down" 543,hS "_law_right" 544,hS "_law_row" 545,hS "_law_column" 546,hS "_law_inside" 547])::
 (nat_lit 264,hT #[])::
 (nat_lit 266,jj "_law_beside" 536 537 538 177 3 3 261 181 262 (.ref 263) (.ref 264) 265 548 549)::
 (nat_lit 267,hF "_law_beside" (top 42) CZ 266)::
 (nat_lit 268,hT #[])::
 (nat_lit 270,hT #[hS "_law_board_here" 554,hS "_law_cell_here" 555])::
 (nat_lit 271,hT #[])::
 (nat_lit 273,jj "_law_sign" 551 552 553 187 2 3 268 181 269 (.ref 270) (.ref 271) 272 556 557)::
 (nat_lit 274,hF "_law_sign" (top 43) CZ 273)::
 (nat_lit 275,hT #[])::
 (nat_lit 277,hT #[hS "_law_script" 562,hS "_law_at" 563,hS "_law_board_here" 564])::
 (nat_lit 278,hT #[])::
 (nat_lit 280,jj "_law_cell_in" 559 560 561 189 3 3 275 181 276 (.ref 277) (.ref 278) 279 565 566)::
 (nat_lit 281,hF "_law_cell_in" (top 44) CZ 280)::
 (nat_lit 282,hT #[])::
 (nat_lit 284,hT #[hS "_law_e" 571,hS "_law_flags" 572])::
 (nat_lit 285,hT #[])::
 (nat_lit 287,jj "_law_refused" 568 569 570 191 1 3 282 181 283 (.ref 284) (.ref 285) 286 573 574)::
 (nat_lit 288,hF "_law_refused" (top 45) CZ 287)::
 (nat_lit 289,hT #[])::
 (nat_lit 291,hT #[hS "_law_kind" 579,hS "_law_board_here" 580,hS "_law_ways" 581,hS "_law_signs" 582,hS "_law_one" 583,hS "_law_other" 584,hS "_law_e" 585])::
 (nat_lit 292,hT #[])::
 (nat_lit 294,jj "_law_told" 576 577 578 197 6 3 289 181 290 (.ref 291) (.ref 292) 293 586 587)::
 (nat_lit 295,hF "_law_told" (top 46) CZ 294)::
 (nat_lit 296,hT #[])::
 (nat_lit 298,hT #[hS "_law_board_here" 592,hS "_law_ways" 593,hS "_law_start" 594,hS "_law_found" 595,hS "_law_turn" 596,hS "_law_cell_here" 597,hS "_law_there" 598,hS "_law_by" 599])::
 (nat_lit 299,hT #[])::
 (nat_lit 301,jj "_law_changes" 589 590 591 204 3 3 296 181 297 (.ref 298) (.ref 299) 300 600 601)::
 (nat_lit 302,hF "_law_changes" (top 47) CZ 301)::
 (nat_lit 303,hT #[])::
 (nat_lit 306,jj "_law_steps" 603 604 605 212 4 3 303 181 304 .none .none 305 606 607)::
 (nat_lit 307,hF "_law_steps" (top 48) CZ 306)::
 (nat_lit 308,hT #[])::
 (nat_lit 311,jj "law" 609 610 611 226 1 3 308 181 309 .none .none 310 612 613)::
 (nat_lit 312,hF "law" (top 49) CZ 311)::[]
def rn:List Nat:=[2,3,15,22,23,24,25,28,35,36,37,40,47,48,49,52,59,60,61,64,71,72,73,76,78,79,81,82,83,85,86,88,89,90,93,94,95,98,99,100,102,103,105,106,107,109,110,112,113,114,116,117,119,120,121,124,125,126,128,129,131,132,133,136,137,138,140,141,143,144,145,147,148,150,151,152,154,155,157,158,159,161,162,164,165,166,168,169,171,172,173,175,176,178,179,180,183,184,185,187,188,190,191,192,194,195,197,198,199,201,202,204,205,206,208,209,211,212,213,216,217,218,220,221,223,224,225,227,228,230,231,232,235,236,237,239,240,242,243,244,246,247,249,250,251,254,255,256,259,260,261,263,264,266,267,268,270,271,273,274,275,277,278,280,281,282,284,285,287,288,289,291,292,294,295,296,298,299,301,302,303,306,307,308,311,312]
def zB:Yd:={PySem.Challenge.pw_cellpatches_k74_roads with main:={PySem.Challenge.pw_cellpatches_k74_roads.main with body:=[top 1,top 2,top 3,top 4,top 5,top 7,top 8,top 9,top 10,top 11,top 12,top 13,top 14,top 15,top 16,top 17,top 18,top 19,top 20,top 21,top 22,top 23,top 24,top 26,top 27,top 28,top 29,top 30,top 31,top 32,top 33,top 35,top 36,top 38,top 39,top 40,top 41,top 42,top 43,top 44,top 45,top 46,top 47,top 48,top 49]} }
open PySem.W PyProof.Rows in
theorem OZ:LeftO PySem.Challenge.rw_cellpatches_k74_roads.row.prog zB [] (λs=>xlAt zB [] s&&recOk PySem.Challenge.rw_cellpatches_k74_roads.row.records s) (kHook ro rn (λ_=>by kernel_rfl)).obs (kHook ro rn (λ_=>by kernel_rfl)).val 4590:=λw=>by kernel_rfl
end K1
namespace L2
open PySem PySem.Spec PyProof.Rows
abbrev Key:=Sum Int Str
def rK:Key->Value->Bool
 | .inl k,v=>acA k v
 | .inr x,v=>Value.isStrOf x v
def Pp(w:World):Key->Int
 | .inl k=>hashInt k
 | .inr x=>hashStr w x
theorem bX:∀{k:Key}{v:Value},rK k v=true->(∃i t,k=acj i/\v=adh i t)\/(∃x t,k=acR x/\v=adg x t)
 | .inl i,v,h=>by
   obtain⟨t,e⟩:=Value.isInt_shape (k:=i) (v:=v) h;exact .inl ⟨i,t,rfl,e⟩
 | .inr x,v,h=>by
   obtain⟨t,e⟩:=Value.isStrOf_shape (x:=x) (v:=v) h;exact .inr ⟨x,t,rfl,e⟩
theorem Dl(i:Int)(t:Tok):rK (.inl i) (.int i t)=true:=by simp[rK,acA]
theorem Dm(x:Str)(t:Tok):rK (.inr x) (.str x t)=true:=by simp[rK,Value.isStrOf]
theorem Mz(a b:Int):decide ((acj a:Key)=acj b)=(a==b):=by
 by_cases e:a=b
 ·subst e;simp
 ·have h:¬(acj a:Key)=acj b:=λq=>e (Sum.inl.inj q);rw[aem h];exact(aen.mpr e).symm
theorem MC(a b:Str):decide ((acR a:Key)=acR b)=decide (a=b):=by
 by_cases e:a=b
 ·subst e;simp
 ·have h:¬(acR a:Key)=acR b:=λq=>e (Sum.inr.inj q);rw[aem h,aem e]
theorem MA(a:Int)(b:Str):decide ((acj a:Key)=acR b)=false:=aem (λq=>nomatch q)
theorem MB(a:Str)(b:Int):decide ((acR a:Key)=acj b)=false:=aem (λq=>nomatch q)
def bj(prog:Yd)(w:World):PySem.KeyKind prog w Key where
 is:=rK
 hash:=Pp w
 inj:=λv a b ha hb=>by
  rcases bX ha with⟨i,t,rfl,rfl⟩ | ⟨x,t,rfl,rfl⟩
  ·rcases bX hb with⟨j,u,rfl,e⟩ | ⟨y,u,rfl,e⟩
   ·injection e with e1 _;rw[e1]
   ·exact nomatch e
  ·rcases bX hb with⟨j,u,rfl,e⟩ | ⟨y,u,rfl,e⟩
   ·exact nomatch e
   ·injection e with e1 _;rw[e1]
 byValue:=λk v h=>by
  rcases bX h with⟨i,t,rfl,rfl⟩ | ⟨x,t,rfl,rfl⟩<;>rfl
 pyHash:=λhv h=>by
  rcases bX hv with⟨i,t,rfl,rfl⟩ | ⟨x,t,rfl,rfl⟩
  ·exact wpAny_pyHash_int h
  ·exact wpAny_pyHash_str h
 eqBool:=λhu hv h=>by
  rcases bX hu with⟨i,t,rfl,rfl⟩ | ⟨x,t,rfl,rfl⟩
  ·rcases bX hv with⟨j,u,rfl,rfl⟩ | ⟨y,u,rfl,rfl⟩
   ·rw[Mz] at h;exact wpAny_eqBool_int h
   ·rw[MA] at h;exact ac5 i t y u _ _ _ _ h
  ·rcases bX hv with⟨j,u,rfl,rfl⟩ | ⟨y,u,rfl,rfl⟩
   ·rw[MB] at h;exact ac4 x t j u _ _ _ _ h
   ·rw[MC] at h;exact wpAny_eqBool_str h
 «strs» :=λk x t v h=>by
  rcases bX h with⟨i,u,rfl,e⟩ | ⟨y,u,rfl,e⟩
  ·exact nomatch e
  ·injection e with e1 _
   subst e1;cases v<;>rfl
theorem yz(prog:Yd)(w:World)(i:Int)(t:Tok):(bj prog w).is (.inl i) (.int i t)=true:=Dl i t
theorem yA(prog:Yd)(w:World)(x:Str)(t:Tok):(bj prog w).is (.inr x) (.str x t)=true:=Dm x t
inductive V where
 |non | bl (b:Bool) | int (i:Int) | str (x:Str) | byt (b:Array UInt8) | flt (b:UInt64) | ref (a:Addr) | ty (n:String)
 deriving DecidableEq
def RelV:V->Value->Prop
 | .non,u=>u=YO
 | .bl b,u=>u=Z7 b
 | .int i,u=>∃t,u=adh i t
 | .str x,u=>∃t,u=adg x t
 | .byt b,u=>∃t,u=Value.bytes b t
 | .flt b,u=>∃t,u=Value.float b t
 | .ref a,u=>u=Ye a
 | .ty n,u=>u=ab6 n
abbrev Vals:List V->List Value->Prop:=acC RelV
theorem Vals.length{xs:List V}{us:List Value}(r:Vals xs us):xs.length=us.length:=ZO r
theorem Vals.get:∀{xs:List V}{us:List Value}{i:Nat}{x:V},Vals xs us->xs[i]? =some x->∃u,us[i]? =some u/\RelV x u
 |_,_,_,_, .nil,e=>by simp at e
 |_,_,0,_, .cons r _,e=>by simp at e;subst e;exact⟨_,rfl,r⟩
 |_,_,i+1,x, .cons _ t,e=>by
  obtain⟨u,h1,h2⟩:=Vals.get (i:=i) (x:=x) t (by simpa using e);exact⟨u,by simpa using h1,h2⟩
theorem Vals.append:∀{xs ys:List V}{us ws:List Value},Vals xs us->Vals ys ws->Vals (xs++ys) (us++ws)
 |_,_,_,_, .nil,s=>s
 |_,_,_,_, .cons r t,s=> .cons r (Vals.append t s)
theorem Vals.take:∀{xs:List V}{us:List Value}(n:Nat),Vals xs us->Vals (xs.take n) (us.take n)
 |_,_,0,_=> .nil
 |_,_,_+1, .nil=> .nil
 |_,_,n+1, .cons r t=> .cons r (Vals.take n t)
def RelO:Option V->Option Value->Prop
 |some v,some u=>RelV v u
 |none,none=>True
 |_,_=>False
def KV{κ:Type}:List (κ×V)->List (κ×Value)->Prop:=acC λ(p:κ×V) (q:κ×Value)=>p.1=q.1/\RelV p.2 q.2
def kV:Key->V
 | .inl i=> .int i
 | .inr x=> .str x
inductive HO where
 |lst (xs:List V)
 |tup (xs:List V)
 |dK (aA:List (Key×V)) | dT (aA:List (List Key×V))
 |set (S:Int->Bool) (n:Nat)
 |ins (C dx:Addr) (fs:List (Str×V))
 |own (x:Addr)
 |xd (fs:List (Str×V))
 |met (f x:Addr)
 |rng (lo hi:Int)
 |frz (o:Obj) (u:HO)
 |tbl (ps:Array Value)
 |ext (φ:Heap->Prop)
abbrev Hp:=Addr->Option HO
def upd(H:Hp)(a:Addr)(o:HO):Hp:=λb=>if b=a then some o else H b
theorem aG{H:Hp}{a:Addr}{o:HO}:upd H a o a=some o:=by unfold upd;rw[aeg rfl]
theorem az{H:Hp}{a b:Addr}{o:HO}(h:b≠a):upd H a o b=H b:=by unfold upd;rw[aeh h]
theorem Gd{H:Hp}{a b:Addr}{o u:HO}(h:H a=some o)(h':H b=some u)(d:o≠u):a≠b:=by
 intro e;subst e;rw[h] at h';exact d (Yn h')
theorem bp{H:Hp}{a b:Addr}{o:HO}(h:H a=some o)(h':H b=none):a≠b:=by
 intro e;subst e;rw[h] at h';cases h'
section
variable(P:Yd)(w:World)
def ObjOk(H:Hp)(h:Heap)(a:Addr):HO->Prop
 | .lst xs=>xs.length<=X6/\∃(aK:List Value) (n:Nat),Vals xs aK/\h.get? a=some {cls:= .type "list",data:= .seq aK.toArray n}
 | .tup xs=>xs.length<=X6/\∃aK:List Value,Vals xs aK/\IsTup h a aK.toArray
 | .dK aA=>aA.length<=X6/\(a==Zf)=false/\∃vs,KV aA vs/\h.DictOf (bj P w) a vs
 | .dT aA=>aA.length<=X6/\(a==Zf)=false/\∃xs:List (List Key×Addr×Value),
    acC (λ(p:List Key×V) (q:List Key×Addr×Value)=>p.1=q.1/\H q.2.1=some (.tup (p.1.map kV))/\RelV p.2 q.2.2) aA xs/\
    ∃o es ep,h.get? a=some o/\o.ExactDict/\o.data= .dict es ep/\es.toList=xs.map (adN (ZT (bj P w)))/\(xs.map (·.1)).Nodup
 | .set S n=>h.SetOf (Zy P w) a S n
 | .ins C dx fs=>H dx=some (.own a)/\fs.length<=1000/\dx≠a/\h.get? a=some (ack C dx)/\
    ∃mA,h.Ns1 dx mA/\(∀f,RelO (fs.lookup f) (mA f))/\PySem.Within mA (fs.map (·.1))
 | .own _=>∃o,h.get? a=some o
 | .xd fs=>∃mA,h.Ns1 a mA/\∀f,RelO (fs.lookup f) (mA f)
 | .rng lo hi=>∃t u v,h.get? a=some {cls:= .type "range",data:= .fields #[.int lo t, .int hi u, .int 1 v]}
 | .frz o u=>h.get? a=some o/\ObjOk H h a u
 | .tbl ps=>h.get? a=some {cls:= .none,data:= .fields ps}
 | .met f x=>h.get? a=some (abT (.ref f) (.ref x))
 | .ext φ=>φ h/\(∃o,h.get? a=some o)/\∀h1 h2:Heap,φ h1->(∀o,h1.get? a=some o->h2.get? a=some o)->φ h2
def HOk(H:Hp)(h:Heap):Prop:=∀a o,H a=some o->ObjOk P w H h a o
end
section
variable{P:Yd}{w:World}{H H':Hp}{h h':Heap}{a:Addr}{o:HO}
theorem ObjOk.lt(x:ObjOk P w H h a o):a<h.objs.size:=by
 cases o with
 |lst xs=>obtain⟨_,_,_,_,e⟩:=x;exact XY e
 |tup xs=>obtain⟨_,_,_,p⟩:=x;exact p.lt
 |dK aA=>obtain⟨_,_,_,_,o,_,_,e,_⟩:=x;exact XY e
 |dT aA=>obtain⟨_,_,_,_,o,_,_,e,_⟩:=x;exact XY e
 |set S n=>obtain⟨o,_,_,_,e,_⟩:=x;exact XY e
 |ins C dx fs=>obtain⟨_,_,_,e,_⟩:=x;exact XY e
 |own y=>obtain⟨_,e⟩:=x;exact XY e
 |xd fs=>obtain⟨_,⟨_,_,_,e,_⟩,_⟩:=x;exact XY e
 |rng lo hi=>obtain⟨_,_,_,e⟩:=x;exact XY e
 |frz ob u=>obtain⟨e,_⟩:=x;exact XY e
 |tbl ps=>exact XY (show h.get? a=some _ from x)
 |met f y=>exact XY (show h.get? a=some _ from x)
 |ext φ=>obtain⟨_,⟨_,e⟩,_⟩:=x;exact XY e
theorem Paired.mapP{α β:Type}{F G:α->β->Prop}:∀{l₁:List α}{l₂:List β},acC F l₁ l₂->(∀a b,F a b->G a b)->acC G l₁ l₂
 |_,_, .nil,_=> .nil
 |_,_, .cons r t,f=> .cons (f _ _ r) (Paired.mapP t f)
theorem ObjOk.stay(x:ObjOk P w H h a o)(k:∀b u,(b=a\/H b=some (.own a))->h.get? b=some u->h'.get? b=some u)
 (ho:∀b,H b=some (.own a)->H' b=some (.own a))(ht:∀b xs,H b=some (.tup xs)->H' b=some (.tup xs)):ObjOk P w H' h' a o:=by
 induction o with
 |lst xs=>obtain⟨z,aK,n,r,e⟩:=x;exact⟨z,aK,n,r,k _ _ (.inl rfl) e⟩
 |tup xs=>obtain⟨z,aK,r,ob,e,c⟩:=x;exact⟨z,aK,r,ob,k _ _ (.inl rfl) e,c⟩
 |dK aA=>obtain⟨z,y,vs,r,ob,es,ep,e,c⟩:=x;exact⟨z,y,vs,r,ob,es,ep,k _ _ (.inl rfl) e,c⟩
 |dT aA=>
  obtain⟨z,y,xs,r,ob,es,ep,e,c⟩:=x;exact⟨z,y,xs,Paired.mapP r λp q z=>⟨z.1,ht _ _ z.2.1,z.2.2⟩,ob,es,ep,k _ _ (.inl rfl) e,c⟩
 |set S n=>obtain⟨ob,es,ep,t,e,c⟩:=x;exact⟨ob,es,ep,t,k _ _ (.inl rfl) e,c⟩
 |ins C dx fs=>
  obtain⟨d,z,ne,e,mA,⟨od,es,ep,e2,c⟩,r⟩:=x;exact⟨ho _ d,z,ne,k _ _ (.inl rfl) e,mA,⟨od,es,ep,k _ _ (.inr d) e2,c⟩,r⟩
 |own y=>obtain⟨ob,e⟩:=x;exact⟨ob,k _ _ (.inl rfl) e⟩
 |xd fs=>obtain⟨mA,⟨od,es,ep,e,c⟩,r⟩:=x;exact⟨mA,⟨od,es,ep,k _ _ (.inl rfl) e,c⟩,r⟩
 |rng lo hi=>obtain⟨t,u,v,e⟩:=x;exact⟨t,u,v,k _ _ (.inl rfl) e⟩
 |frz ob u ih=>obtain⟨e,q⟩:=x;exact⟨k _ _ (.inl rfl) e,ih q⟩
 |tbl ps=>
  have e:h.get? a=some {cls:= .none,data:= .fields ps}:=x;show h'.get? a=some {cls:= .none,data:= .fields ps};exact k a _ (.inl rfl) e
 |met f y=>
  have e:h.get? a=some (abT (.ref f) (.ref y)):=x;show h'.get? a=some (abT (.ref f) (.ref y));exact k a _ (.inl rfl) e
 |ext φ=>obtain⟨p,⟨o,e⟩,st⟩:=x;exact⟨st _ _ p λo q=>k _ _ (.inl rfl) q,⟨o,k _ _ (.inl rfl) e⟩,st⟩
theorem HOk.lt(x:HOk P w H h)(e:H a=some o):a<h.objs.size:=(x a o e).lt
theorem HOk.fresh(x:HOk P w H h)(e:h.objs.size<=a):H a=none:=by
 cases q:H a with
 |none=>rfl
 |some u=>exact aej (Yw (x.lt q) e) (YH _)
theorem HOk.kept(x:HOk P w H h)(k:∀b u,h.get? b=some u->h'.get? b=some u):HOk P w H h':=λa o e=>
 (x a o e).stay (λb u _ q=>k b u q) (λ_ q=>q) λ_ _ q=>q
theorem HOk.laid(x:HOk P w H h)(k:∀b u,h.get? b=some u->h'.get? b=some u)(hp:h.objs.size<=a)(new:ObjOk P w (upd H a o) h' a o):HOk P w (upd H a o) h':=λb u e=>by
 have hn:=x.fresh hp;by_cases hb:b=a
 ·subst hb;rw[aG] at e;cases e;exact new
 ·rw[az hb] at e;exact(x b u e).stay (λc v _ q=>k c v q) (λc q=>by rw[az (bp q hn)];exact q) λc xs q=>by rw[az (bp q hn)];exact q
end
def Rd(H:Hp)(a:Addr)(u:HO):Prop:=H a=some u\/∃o,H a=some (.frz o u)
theorem Rd.ok{P:Yd}{w:World}{H:Hp}{h:Heap}{a:Addr}{u:HO}(r:Rd H a u)(x:HOk P w H h):ObjOk P w H h a u:=by
 rcases r with r | ⟨o,r⟩
 ·exact x a u r
 ·obtain⟨_,q⟩:=x a _ r;exact q
def Oe:Option HO->Prop
 |some (.lst _)=>True
 |some (.dK _)=>True
 |some (.dT _)=>True
 |some (.set _ _)=>True
 |some (.ins _ _ _)=>True
 |some (.ext _)=>True
 |_=>False
section
variable{P:Yd}{w:World}{H:Hp}{h h':Heap}{x e:Addr}{o':HO}
theorem HOk.write(ok:HOk P w H h)(mu:Oe (H x))(he:e=x\/H e=some (.own x))(k:∀b u,b≠e->h.get? b=some u->h'.get? b=some u)(Ei:∃u,h'.get? e=some u)
 (new:ObjOk P w (upd H x o') h' x o'):HOk P w (upd H x o') h':=λb u q=>by
 have PF:∀c y,H c=some (.own y)->c≠x:=λc y r z=>by subst z;rw[r] at mu;exact mu
 have SF:∀c xs,H c=some (.tup xs)->c≠x:=λc xs r z=>by subst z;rw[r] at mu;exact mu
 by_cases hb:b=x
 ·subst hb;rw[aG] at q;cases q;exact new
 ·rw[az hb] at q;by_cases HS:b=e
  ·have q':H b=some (.own x):=by
    rcases he with z | z
    ·exact aej (HS.trans z) hb
    ·rw[HS];exact z
   rw[q] at q';cases q';obtain⟨v,hv⟩:=Ei;exact⟨v,by rw[HS];exact hv⟩
  ·refine(ok b u q).stay (λc v hc r=>k c v ?_ r) (λc r=>by rw[az (PF c b r)];exact r) λc xs r=>by rw[az (SF c xs r)];exact r
   rcases hc with rfl | hc
   ·exact HS
   ·rintro rfl;rcases he with z | z
    ·exact PF c b hc z
    ·rw[hc] at z;cases z;exact hb rfl
end
structure Un (fs ex:List Addr) (H H':Hp) (h h':Heap):Prop where
 keep:∀b o,h.get? b=some o->H b=none->b∉fs->b∉ex->h'.get? b=some o
 slot:∀b o,h.get? b=some o->H b=none->b∈fs->b∉ex->∃sl,h'.get? b=some {o with slots:=sl}
 free:∀b o,h.get? b=some o->H b=none->b∉ex->H' b=none
 there:∀b o,h.get? b=some o->b∉ex->∃o',h'.get? b=some o'
 tups:∀b xs,H b=some (.tup xs)->H' b=some (.tup xs)
 frzs:∀b o u,H b=some (.frz o u)->H' b=some (.frz o u)
 tbls:∀b ps,H b=some (.tbl ps)->∃more,H' b=some (.tbl (ps++more))
section
variable{fs Tv ex z8:List Addr}{H H1 H2:Hp}{h h1 h2 h':Heap}{a x e:Addr}{o:HO}
theorem Un.any(u:Un fs ex H H1 h h1){b:Addr}{ob:Obj}(q:h.get? b=some ob)(n:H b=none)(hx:b∉ex):∃sl,h1.get? b=some {ob with slots:=sl}:=by
 by_cases hb:b∈fs
 ·exact u.slot b ob q n hb hx
 ·exact⟨ob.slots,u.keep b ob q n hb hx⟩
theorem Un.trans(a:Un fs ex H H1 h h1)(b:Un fs ex H1 H2 h1 h2):Un fs ex H H2 h h2 where
 keep:=λc ob q n hc hx=>b.keep c ob (a.keep c ob q n hc hx) (a.free c ob q n hx) hc hx
 slot:=λc ob q n hc hx=>by
  obtain⟨sl,e1⟩:=a.slot c ob q n hc hx;obtain⟨J1,e2⟩:=b.slot c _ e1 (a.free c ob q n hx) hc hx;exact⟨J1,e2⟩
 free:=λc ob q n hx=>by
  obtain⟨o',e1⟩:=a.there c ob q hx;exact b.free c o' e1 (a.free c ob q n hx) hx
 there:=λc ob q hx=>by
  obtain⟨o',e1⟩:=a.there c ob q hx;exact b.there c o' e1 hx
 tups:=λc xs q=>b.tups c xs (a.tups c xs q)
 frzs:=λc ob xs q=>b.frzs c ob xs (a.frzs c ob xs q)
 tbls:=λc ps q=>by
  obtain⟨m1,e1⟩:=a.tbls c ps q;obtain⟨m2,e2⟩:=b.tbls c _ e1;exact⟨m1++m2,by rw[e2,abY]⟩
theorem Un.kept(k:∀b u,h.get? b=some u->h'.get? b=some u):Un fs ex H H h h':=
 ⟨λb ob q _ _ _=>k b ob q,λb ob q _ _ _=>⟨ob.slots,k b ob q⟩,λ_ _ _ n _=>n,λb ob q _=>⟨ob,k b ob q⟩,λ_ _ q=>q,λ_ _ _ q=>q,λ_ ps q=>⟨#[],by rw[q];simp⟩⟩
theorem Un.refl:Un fs ex H H h h:=Un.kept λ_ _ q=>q
theorem Un.laid(k:∀b u,h.get? b=some u->h'.get? b=some u)(hp:h.objs.size<=a)(hn:H a=none):Un fs ex H (upd H a o) h h' where
 keep:=λb u q _ _ _=>k b u q
 slot:=λb u q _ _ _=>⟨u.slots,k b u q⟩
 free:=λb u q n _=>by rw[az (Yj (Yw (XY q) hp))];exact n
 there:=λb u q _=>⟨u,k b u q⟩
 tups:=λb xs q=>by rw[az (bp q hn)];exact q
 frzs:=λb u xs q=>by rw[az (bp q hn)];exact q
 tbls:=λb ps q=>⟨#[],by rw[az (bp q hn),q];simp⟩
theorem Un.write(mu:Oe (H x))(he:e=x\/H e=some (.own x))(k:∀b u,b≠e->h.get? b=some u->h'.get? b=some u)(Ei:∃u,h'.get? e=some u):Un fs ex H (upd H x o) h h':=by
 have hx:∀b,H b=none->b≠x:=λb n z=>by subst z;rw[n] at mu;exact mu
 have hb:∀b,H b=none->b≠e:=λb n z=>by
  subst z;rcases he with r | r
  ·exact hx b n r
  ·rw[n] at r;cases r
 have hm:∀b u,H b=some u->¬Oe (some u)->b≠x:=λb u q nm z=>by subst z;rw[q] at mu;exact nm mu
 refine⟨λb u q n _ _=>k b u (hb b n) q,λb u q n _ _=>⟨u.slots,k b u (hb b n) q⟩,λb u q n _=>by rw[az (hx b n)];exact n,λb u q _=>?_,
  λb xs q=>by rw[az (hm b _ q λz=>z)];exact q,λb u xs q=>by rw[az (hm b _ q λz=>z)];exact q,λb ps q=>⟨#[],by rw[az (hm b _ q λz=>z),q];simp⟩⟩
 by_cases HS:b=e
 ·subst HS;exact Ei
 ·exact⟨u,k b u HS q⟩
theorem Un.mono(u:Un fs ex H H1 h h1)(hs:∀b∈fs,b∈Tv)(hx:∀b∈ex,b∈z8):Un Tv z8 H H1 h h1:=
 ⟨λb ob q n hb he=>u.keep b ob q n (λz=>hb (hs b z)) λz=>he (hx b z),λ_ _ q n _ he=>u.any q n λz=>he (hx _ z),λb ob q n he=>u.free b ob q n λz=>he (hx b z),λb ob q he=>u.there b ob q λz=>he (hx b z),u.tups,u.frzs,u.tbls⟩
end
def Q1(h:Heap)(H:Hp):List Addr:=(Yg h.objs.size).filter λa=>(H a).isSome
def vL(h:Heap)(H:Hp):Heap:=aaN h (Q1 h H)
theorem C6(h:Heap)(H:Hp):(vL h H).objs.size=h.objs.size:=PySem.W.hideAll_size _ _
theorem Fw{h:Heap}{H:Hp}{b:Addr}{o:Obj}(e:h.get? b=some o)(n:H b=none):(vL h H).get? b=some o:=
 adk _ e λhm=>by
  have q:(H b).isSome=true:=(YA.mp hm).2;rw[n] at q;simp at q
theorem Jk{h:Heap}{H:Hp}{b:Addr}{o:Obj}(e:(vL h H).get? b=some o):h.get? b=some o/\H b=none:=by
 have e':h.get? b=some o:=adt (Q1 h H) e;refine⟨e',?_⟩;cases q:H b with
 |none=>rfl
 |some x=>
  have hm:b∈Q1 h H:=YA.mpr ⟨Y3.mpr (XY e'),by simp[q]⟩;have z:(vL h H).get? b=none:=PySem.W.hideAll_none (Q1 h H) hm;rw[z] at e;cases e
def Ia(g h:Heap)(L:Addr):List (Addr×Obj):=(Yg h.objs.size).filterMap λa=>if a=L\/(g.get? a).isSome=true then none else(h.get? a).map λo=>(a,o)
def W1(g h:Heap)(L d:Addr):List (Addr×Obj):=(Ia g h L).filter λp=>decide (p.1≠d)
structure Mod (K:XO) (mg:Str->Option Value) (base:Heap):Prop where
 kin:K.In base
 glob:base.Ns Yb mg
 blt:∃mb,base.Ns builtinsNs mb/\∀x:Str,x≠"__name__"->mb x=YJ x
 nolimit:base.NoLimit
structure Cx where
 prog:Yd
 w:World
 K:XO
 mg:Str->Option Value
 base:Heap
 A:Yy
 N:List Str
 aer:XD
 aeq:Hp
 env:Env
 outer:List Env
 stack:List Env
 ex:List Addr
 fn:Str->Bool
 calm:Bool
 pn:List (Addr×Obj)
 xe:Value->XD->Prop
def h7(l:List Env):List Addr:=l.filterMap (·.frame)
abbrev Cx.fs(X:Cx):List Addr:=h7 X.outer
def Q_(sc:Scope)(x:Str):Prop:=sc.names.lookup x=some .local\/sc.names.lookup x=some .cell\/sc.names.lookup x=some .free
def Loc(sc:Scope)(x:Str):Prop:=sc.names.lookup x=some .local\/sc.names.lookup x=some .cell
def Look(env:Env)(h:Heap)(m:Str->Option Value)(x:Str)(u:Value):Prop:=
 (env.kindOf x=some .local/\m x=some u)\/((env.kindOf x=some .cell\/env.kindOf x=some .free)/\∃c,env.cells.lookup x=some c/\h.IsCell c (some u))
structure Cx.Ok (X:Cx):Prop where
 mod:Mod X.K X.mg X.base
 kind:X.env.scope.kind= .function
 glob:X.env.globals=Yb
 blt:X.env.builtins=builtinsNs
 above:X.aer.heap.objs.size<=X.env.locals
 inj:∀x y c,X.env.cells.lookup x=some c->X.env.cells.lookup y=some c->x=y
 has:∀x,(X.env.kindOf x=some .cell\/X.env.kindOf x=some .free)->∃c,X.env.cells.lookup x=some c
 cab:∀x c,X.fn x=true->X.env.cells.lookup x=some c->X.aer.heap.objs.size<=c
 hd:X.calm=true->X.A.handled=none
 frames:X.A.frames=some X.stack
 stk:X.stack=X.outer\/(X.stack=X.env::X.outer/\X.env.frame=some X.env.locals)
 exf:∀b∈X.ex,b≠X.env.locals/\∀x c,X.env.cells.lookup x=some c->c≠b
 bs:∀b o,X.base.get? b=some o->X.aer.heap.get? b=some o/\X.aeq b=none
 bsz:X.base.objs.size<=X.aer.heap.objs.size
 noex:∀b o,X.base.get? b=some o->b∉X.ex
 exfs:∀b∈X.ex,b∉X.fs
 funs:X.aer.heap.FunFrames X.base X.outer
 frf:∀b∈X.fs,X.aeq b=none
structure Inv (X:Cx) (f8:List (Addr×Obj)) (σ:List (Option V)) (H:Hp) (s:XD):Prop where
 ok:X.Ok
 os:s.os=X.aer.os
 bare:abZ s.gens
 base:Un X.fs X.ex X.aeq H X.aer.heap s.heap
 loc:∃m,s.heap.Ns X.env.locals m/\∀(i:Nat) (x:Str) (v:V),X.N[i]? =some x->σ[i]? =some (some v)->Q_ X.env.scope x->∃u,RelV v u/\Look X.env s.heap m x u
 cell:∀x c,X.env.cells.lookup x=some c->∃v,s.heap.IsCell c v
 free:H X.env.locals=none
 freeC:∀x c,X.env.cells.lookup x=some c->H c=none
 pin:∀p∈X.pn++f8,s.heap.get? p.1=some p.2/\H p.1=none/\p.1≠X.env.locals/\p.1∉X.fs/\∀v,p.2.data≠ .cell v
 hok:HOk X.prog X.w H s.heap
 len:σ.length=X.N.length
section
variable{X:Cx}{f8:List (Addr×Obj)}{σ:List (Option V)}{H H':Hp}{s:XD}{h':Heap}
theorem Cx.Ok.nofr(ok:X.Ok){b:Addr}{o:Obj}(e:X.base.get? b=some o):b∉X.fs:=λhb=>by
 have:=(ok.funs.mem hb).1;rw[e] at this;cases this
theorem Inv.bs(I:Inv X f8 σ H s):∀b o,X.base.get? b=some o->s.heap.get? b=some o/\H b=none:=λb o e=>
 ⟨I.base.keep b o (I.ok.bs b o e).1 (I.ok.bs b o e).2 (I.ok.nofr e) (I.ok.noex b o e),I.base.free b o (I.ok.bs b o e).1 (I.ok.bs b o e).2 (I.ok.noex b o e)⟩
theorem Inv.bk(I:Inv X f8 σ H s):∀b o,X.base.get? b=some o->s.heap.get? b=some o:=λb o e=>(I.bs b o e).1
theorem Inv.mod(I:Inv X f8 σ H s):Mod X.K X.mg X.base:=I.ok.mod
theorem Inv.kIn(I:Inv X f8 σ H s):X.K.In s.heap:=I.ok.mod.kin.keeps I.bk
theorem Inv.nolimit(I:Inv X f8 σ H s):s.heap.NoLimit:=I.ok.mod.nolimit.keeps I.bk
theorem Inv.lt(I:Inv X f8 σ H s):X.env.locals<s.heap.objs.size:=let ⟨_,hn,_⟩:=I.loc;hn.lt
theorem Inv.sz(I:Inv X f8 σ H s):X.aer.heap.objs.size<=s.heap.objs.size:=Yc I.ok.above (Y9 I.lt)
theorem Inv.nofs(I:Inv X f8 σ H s){a:Addr}(h:s.heap.objs.size<=a):a∉X.fs:=λhb=>by
 obtain⟨_,o,ho,_⟩:=I.ok.funs.mem hb;exact aej (Yw (XY ho) (Yc I.sz h)) (YH _)
theorem Inv.cne(I:Inv X f8 σ H s):∀x c,X.env.cells.lookup x=some c->c≠X.env.locals:=λx c e z=>by
 obtain⟨v,o,ho,hd⟩:=I.cell x c e;obtain⟨m,⟨o',es,ep,me,qh,_⟩,_⟩:=I.loc;rw[z,me] at ho;cases ho;rw[qh] at hd;cases hd
theorem Inv.funs(I:Inv X f8 σ H s):s.heap.FunFrames X.base X.outer:=by
 have all:∀(l:List Env),(∀b∈h7 l,b∈X.fs)->X.aer.heap.FunFrames X.base l->s.heap.FunFrames X.base l:=by
  intro l;induction l with
  |nil=>intro _ _;trivial
  |cons env r ih=>
   intro hs hl;obtain⟨hk,⟨L,o,hf,hn,ho,hd⟩,hr⟩:=hl;have hL:L∈X.fs:=hs L (by unfold h7;rw[aaj,hf];exact XA);obtain⟨sl,e⟩:=I.base.slot L o ho (I.ok.frf L hL) hL λz=>I.ok.exfs L z hL;exact⟨hk,⟨L,_,hf,hn,e,hd⟩,ih (λb hb=>hs b (by unfold h7;rw[aaj,hf];exact Xz _ hb)) hr⟩
 exact all X.outer (λ_ hb=>hb) I.ok.funs
theorem Inv.stack(I:Inv X f8 σ H s):s.heap.FunFrames X.base X.stack:=by
 rcases I.ok.stk with e | ⟨e,hf⟩
 ·rw[e];exact I.funs
 ·rw[e];obtain⟨m,hn,_⟩:=I.loc;refine .cons (by rw[I.ok.kind];decide) hf hn ?_ I.funs;exact adI (Yc I.ok.bsz I.ok.above)
theorem Inv.stkSub(I:Inv X f8 σ H s):∀b∈h7 X.stack,b∈X.env.locals::X.fs:=λb hb=>by
 rcases I.ok.stk with e | ⟨e,hf⟩
 ·rw[e] at hb;exact Xz _ hb
 ·rw[e] at hb;unfold h7 at hb;rw[aaj,hf] at hb;exact hb
theorem Inv.stkFree(I:Inv X f8 σ H s):∀b∈h7 X.stack,H b=none:=λb hb=>by
 rcases XF.mp (I.stkSub b hb) with e | hb
 ·rw[e];exact I.free
 ·obtain⟨_,o,ho,_⟩:=I.ok.funs.mem hb;exact I.base.free b o ho (I.ok.frf b hb) λz=>I.ok.exfs b z hb
theorem Inv.step{g':Array ad5}{t':Nat}{d':Drawn}{ch:List Addr}(I:Inv X f8 σ H s)
 (Ft:∀b∈ch,(b∈X.ex\/X.aer.heap.objs.size<=b)/\b≠X.env.locals/\(∀x c,X.env.cells.lookup x=some c->c≠b)/\∀p∈X.pn++f8,p.1≠b)
 (keep:∀b o,b≠X.env.locals->b∉X.fs->b∉ch->s.heap.get? b=some o->H b=none->h'.get? b=some o)
 (slot:∀b o,b≠X.env.locals->b∈X.fs->b∉ch->s.heap.get? b=some o->H b=none->∃sl,h'.get? b=some {o with slots:=sl})(free:∀b o,b∉ch->s.heap.get? b=some o->H b=none->H' b=none)
 (there:∀b o,b∉ch->s.heap.get? b=some o->∃o',h'.get? b=some o')
 (tups:∀b xs,H b=some (.tup xs)->H' b=some (.tup xs))(frzs:∀b o u,H b=some (.frz o u)->H' b=some (.frz o u))(tbls:∀b ps,H b=some (.tbl ps)->∃more,H' b=some (.tbl (ps++more)))
 (ns:∀m,s.heap.Ns X.env.locals m->h'.Ns X.env.locals m)(hok:HOk X.prog X.w H' h')(hg:abZ g'):
 Inv X f8 σ H' {s with heap:=h',gens:=g',drawn:=d',toks:=t'}:=by
 have N4:∀b o,X.aer.heap.get? b=some o->b≠X.env.locals:=λb o e=>Yj (Yw (XY e) I.ok.above);have QW:∀b o,X.aer.heap.get? b=some o->b∉X.ex->b∉ch:=λb o e hx hb=>by
  rcases(Ft b hb).1 with z | z
  ·exact hx z
  ·exact aej (Yw (XY e) z) (YH _)
 have cellK:∀x c,X.env.cells.lookup x=some c->∀v,s.heap.IsCell c v->h'.IsCell c v:=λx c e v ⟨o,ho,hd⟩=>by
  have Px:c∉ch:=λz=>(Ft c z).2.2.1 x c e rfl;by_cases hc:c∈X.fs
  ·obtain⟨sl,q⟩:=slot c o (I.cne x c e) hc Px ho (I.freeC x c e);exact⟨_,q,hd⟩
  ·exact⟨o,keep c o (I.cne x c e) hc Px ho (I.freeC x c e),hd⟩
 refine⟨I.ok,I.os,hg,⟨λb o e n hb hx=>?_,λb o e n hb hx=>?_,λb o e n hx=>?_,λb o e hx=>?_,λb xs e=>tups b xs (I.base.tups b xs e),λb o xs e=>frzs b o xs (I.base.frzs b o xs e),λb ps e=>?_⟩,?_,λx c e=>?_,?_,λx c e=>?_,λp hp=>?_,hok,I.len⟩
 ·exact keep b o (N4 b o e) hb (QW b o e hx) (I.base.keep b o e n hb hx) (I.base.free b o e n hx)
 ·obtain⟨sl,e1⟩:=I.base.slot b o e n hb hx;obtain⟨J1,e2⟩:=slot b _ (N4 b o e) hb (QW b o e hx) e1 (I.base.free b o e n hx);exact⟨J1,e2⟩
 ·obtain⟨o',e1⟩:=I.base.there b o e hx;exact free b o' (QW b o e hx) e1 (I.base.free b o e n hx)
 ·obtain⟨o',e1⟩:=I.base.there b o e hx;exact there b o' (QW b o e hx) e1
 ·obtain⟨m1,e1⟩:=I.base.tbls b ps e;obtain⟨m2,e2⟩:=tbls b _ e1;exact⟨m1++m2,by rw[e2,abY]⟩
 ·obtain⟨m,hn,hl⟩:=I.loc;refine⟨m,ns m hn,λi x v e1 e2 e3=>?_⟩;obtain⟨u,r,l⟩:=hl i x v e1 e2 e3;refine⟨u,r,?_⟩;rcases l with l | ⟨k,c,e,z⟩
  ·exact .inl l
  ·exact .inr ⟨k,c,e,cellK x c e _ z⟩
 ·obtain⟨v,z⟩:=I.cell x c e;exact⟨v,cellK x c e v z⟩
 ·obtain⟨m,⟨o,_,_,ho,_⟩,_⟩:=I.loc;exact free _ o (λz=>(Ft _ z).2.1 rfl) ho I.free
 ·obtain⟨v,o,ho,hd⟩:=I.cell x c e;exact free c o (λz=>(Ft c z).2.2.1 x c e rfl) ho (I.freeC x c e)
 ·obtain⟨e,n,ne,nf,d⟩:=I.pin p hp;have Px:p.1∉ch:=λz=>(Ft p.1 z).2.2.2 p hp rfl;exact⟨keep p.1 p.2 ne nf Px e n,free p.1 p.2 Px e n,ne,nf,d⟩
theorem Inv.un{t':Nat}(I:Inv X f8 σ H s)(u:Un X.fs [] H H' s.heap h')(hok:HOk X.prog X.w H' h'):Inv X f8 σ H' {s with heap:=h',toks:=t'}:=by
 obtain⟨m,⟨o,es,ep,ho,r⟩,_⟩:=id I.loc;obtain⟨sl,hL⟩:=u.any ho I.free (by simp);exact I.step (g':=s.gens) (d':=s.drawn) (ch:=[]) (λ_ z=>nomatch z) (λb o _ hb _ e n=>u.keep b o e n hb (by simp)) (λb o _ hb _ e n=>u.slot b o e n hb (by simp)) (λb o _ e n=>u.free b o e n (by simp)) (λb o _ e=>u.there b o e (by simp)) u.tups u.frzs u.tbls (λm' hm=>by
  obtain⟨o',Eh,Iy,me,r'⟩:=hm;rw[ho] at me;cases me;exact⟨_,Eh,Iy,hL,r'⟩) hok I.bare
theorem Inv.call{g':Array ad5}{t':Nat}{d':Drawn}{ch:List Addr}(I:Inv X f8 σ H s)(u:Un (h7 X.stack) ch H H' s.heap h')(hok:HOk X.prog X.w H' h')(hg:abZ g')
 (Ft:∀b∈ch,(b∈X.ex\/X.aer.heap.objs.size<=b)/\b≠X.env.locals/\(∀x c,X.env.cells.lookup x=some c->c≠b)/\∀p∈X.pn++f8,p.1≠b):
 Inv X f8 σ H' {s with heap:=h',gens:=g',drawn:=d',toks:=t'}:=by
 obtain⟨m,⟨o,es,ep,ho,r⟩,_⟩:=id I.loc;obtain⟨sl,hL⟩:=u.any ho I.free λz=>(Ft _ z).2.1 rfl;exact I.step (ch:=ch) Ft (λb o hL hb hc e n=>u.keep b o e n (λz=>(XF.mp (I.stkSub b z)).elim hL hb) hc) (λb o _ _ hc e n=>u.any e n hc) (λb o hc e n=>u.free b o e n hc) (λb o hc e=>u.there b o e hc) u.tups u.frzs u.tbls (λm' hm=>by
  obtain⟨o',Eh,Iy,me,r'⟩:=hm;rw[ho] at me;cases me;exact⟨_,Eh,Iy,hL,r'⟩) hok hg
theorem Inv.turned{t':Nat}{it:Addr}(I:Inv X f8 σ H s)(k:∀b o,b≠it->s.heap.get? b=some o->h'.get? b=some o)(hn:H it=none)(hL:it≠X.env.locals)
 (h1:it∈X.ex\/X.aer.heap.objs.size<=it)(h2:∀x c,X.env.cells.lookup x=some c->c≠it)(h3:∀p∈X.pn++f8,p.1≠it):Inv X f8 σ H {s with heap:=h',toks:=t'}:=by
 have KU:∀b u,H b=some u->b≠it:=λb u e z=>by rw[z,hn] at e;cases e
 refine I.step (g':=s.gens) (d':=s.drawn) (ch:=[it]) (λb hb=>?_) (λb o _ _ hc e _=>k b o (λz=>hc (by simp[z])) e) (λb o _ _ hc e _=>⟨o.slots,k b o (λz=>hc (by simp[z])) e⟩) (λ_ _ _ _ n=>n)
  (λb o hc e=>⟨o,k b o (λz=>hc (by simp[z])) e⟩) (λ_ _ e=>e) (λ_ _ _ e=>e) (λb ps e=>⟨#[],by rw[e];simp⟩) (λm hm=>?_) (λb u e=>?_) I.bare
 ·have e:b=it:=by simpa using hb
  subst e;exact⟨h1,hL,h2,h3⟩
 ·obtain⟨o,es,ep,ho,r⟩:=hm;exact⟨o,es,ep,k _ o (YG hL) ho,r⟩
 ·refine(I.hok b u e).stay (λc v hc q=>k c v ?_ q) (λ_ q=>q) λ_ _ q=>q;rcases hc with z | z
  ·rw[z];exact KU b u e
  ·exact KU c _ z
theorem Inv.tok(I:Inv X f8 σ H s)(t:Nat):Inv X f8 σ H {s with toks:=t}:=I.un (h':=s.heap) (t':=t) Un.refl I.hok
theorem Inv.kept{t':Nat}(I:Inv X f8 σ H s)(k:∀b u,s.heap.get? b=some u->h'.get? b=some u):Inv X f8 σ H {s with heap:=h',toks:=t'}:=I.un (Un.kept k) (I.hok.kept k)
theorem Inv.laid{a:Addr}{o:HO}{t':Nat}(I:Inv X f8 σ H s)(k:∀b u,s.heap.get? b=some u->h'.get? b=some u)(hp:s.heap.objs.size<=a)(new:ObjOk X.prog X.w (upd H a o) h' a o):
 Inv X f8 σ (upd H a o) {s with heap:=h',toks:=t'}:=I.un (Un.laid k hp (I.hok.fresh hp)) (I.hok.laid k hp new)
theorem Inv.write{x e:Addr}{o:HO}{t':Nat}(I:Inv X f8 σ H s)(mu:Oe (H x))(he:e=x\/H e=some (.own x))(k:∀b u,b≠e->s.heap.get? b=some u->h'.get? b=some u)(Ei:∃u,h'.get? e=some u)
 (new:ObjOk X.prog X.w (upd H x o) h' x o):Inv X f8 σ (upd H x o) {s with heap:=h',toks:=t'}:=I.un (Un.write mu he k Ei) (I.hok.write mu he k Ei new)
theorem Inv.pins_of{yX:List (Addr×Obj)}(I:Inv X f8 σ H s)(h:∀p∈yX,s.heap.get? p.1=some p.2/\H p.1=none/\p.1≠X.env.locals/\p.1∉X.fs/\∀v,p.2.data≠ .cell v):Inv X yX σ H s:=
 ⟨I.ok,I.os,I.bare,I.base,I.loc,I.cell,I.free,I.freeC,λp hp=>(Yk.mp hp).elim (λz=>I.pin p (Zm _ z)) (h p),I.hok,I.len⟩
theorem yE{N:List Str}(hN:N.Nodup){i j:Nat}{x:Str}(a:N[i]? =some x)(b:N[j]? =some x):i=j:=by
 obtain⟨h1,e1⟩:=XI.mp a;obtain⟨h2,e2⟩:=XI.mp b;exact(List.getElem_inj hN).mp (e1.trans e2.symm)
theorem oJ{M:Model}{A:Yy}{E:Value->XD->Prop}{i:Nat}{x:Str}{v:V}{u:Value}{Q:Unit->XD->Prop}(I:Inv X f8 σ H s)(hN:X.N.Nodup)(hi:X.N[i]? =some x)(hx:Loc X.env.scope x)(r:RelV v u)
 (h:∀s',Inv X f8 (σ.set i (some v)) H s'->(∃a,Ze a s.heap s'.heap/\(a=X.env.locals\/X.env.cells.lookup x=some a))->Q () s')(hf:X.fn x=true\/X.env.scope.names.lookup x=some .local:=by first | exact .inl rfl | exact .inr rfl | assumption):wpAny M A (storeName X.env x u) Q E s:=by
 obtain⟨m,hn,hl⟩:=id I.loc;have Ry:(X.env.scope.kind== .class||(X.env.scope.kind== .module&&X.env.locals !=X.env.globals))=false:=by rw[I.ok.kind];rfl
 have T6:i<σ.length:=by rw[I.len];exact(XI.mp hi).1
 have cne:=I.cne;have tracked:∀{a:Addr}{h':Heap},(∃o,s.heap.get? a=some o/\H a=none)->Ze a s.heap h'->HOk X.prog X.w H h':=λ{a h'} ha hs b ob e=>by
  obtain⟨_,_,KA⟩:=ha;refine(I.hok b ob e).stay (λc w' hc q=>(hs.2 c ?_).trans q) (λ_ q=>q) λ_ _ q=>q;rintro rfl;rcases hc with rfl | hc
  ·rw[KA] at e;cases e
  ·rw[KA] at hc;cases hc
 rcases hx with hk | hk
 ·refine wpAny_storeName_local hk hn (λh' IP hs=>?_) Ry;obtain⟨oL,_,_,Md,_⟩:=id hn;refine h _ ⟨I.ok,I.os,I.bare,⟨λb o e n hb hx=>?_,λb o e n hb hx=>?_,I.base.free,λb o e hx=>?_,I.base.tups,I.base.frzs,I.base.tbls⟩,⟨_,IP,λj y v' e1 e2 e3=>?_⟩,λy c e=>?_,I.free,I.freeC,λp hp=>?_,tracked ⟨oL,Md,I.free⟩ hs,by simpa using I.len⟩ ⟨_,hs, .inl rfl⟩
  ·exact(hs.2 b (Yj (Yw (XY e) I.ok.above))).trans (I.base.keep b o e n hb hx)
  ·obtain⟨sl,e1⟩:=I.base.slot b o e n hb hx;exact⟨sl,(hs.2 b (Yj (Yw (XY e) I.ok.above))).trans e1⟩
  ·obtain⟨o',e1⟩:=I.base.there b o e hx;exact⟨o',(hs.2 b (Yj (Yw (XY e) I.ok.above))).trans e1⟩
  ·by_cases hj:j=i
   ·subst hj;rw[hi] at e1;cases e1;rw[X1 T6] at e2;cases e2;exact⟨u,r, .inl ⟨hk,by simp⟩⟩
   ·rw[XQ (YG hj)] at e2;obtain⟨u',r',q⟩:=hl j y v' e1 e2 e3;refine⟨u',r',?_⟩;rcases q with⟨k,e⟩ | ⟨k,c,e,z⟩
    ·refine .inl ⟨k,?_⟩;have:y≠x:=λe=>hj (yE hN e1 (e▸hi));simp[this,e]
    ·exact .inr ⟨k,c,e,z.sameBut hs (cne y c e)⟩
  ·obtain⟨w',z⟩:=I.cell y c e;exact⟨w',z.sameBut hs (cne y c e)⟩
  ·obtain⟨e,n,ne,nf,d⟩:=I.pin p hp;exact⟨(hs.2 p.1 ne).trans e,n,ne,nf,d⟩
 ·have RI:X.fn x=true:=by
   rcases hf with z | z
   ·exact z
   ·rw[z] at hk;cases hk
  obtain⟨c,hc⟩:=I.ok.has x (.inl hk);obtain⟨w',z⟩:=I.cell x c hc;refine wpAny_storeName_cell I.ok.kind hk hc z (λh' Fs hs=>?_);obtain⟨oc,Mf,R3⟩:=id z;refine h {s with heap:=h'} ⟨I.ok,I.os,I.bare,⟨λb o e n hb hx=>?_,λb o e n hb hx=>?_,I.base.free,λb o e hx=>?_,I.base.tups,I.base.frzs,I.base.tbls⟩,⟨m,hn.sameBut hs (YG (cne x c hc)),λj y v' e1 e2 e3=>?_⟩,λy c' e=>?_,I.free,I.freeC,λp hp=>?_,tracked ⟨oc,Mf,I.freeC x c hc⟩ hs,by simpa using I.len⟩ ⟨c,hs, .inr hc⟩
  ·exact(hs.2 b (Yj (Yw (XY e) (I.ok.cab x c RI hc)))).trans (I.base.keep b o e n hb hx)
  ·obtain⟨sl,e1⟩:=I.base.slot b o e n hb hx;exact⟨sl,(hs.2 b (Yj (Yw (XY e) (I.ok.cab x c RI hc)))).trans e1⟩
  ·obtain⟨o',e1⟩:=I.base.there b o e hx;exact⟨o',(hs.2 b (Yj (Yw (XY e) (I.ok.cab x c RI hc)))).trans e1⟩
  ·by_cases hj:j=i
   ·subst hj;rw[hi] at e1;cases e1;rw[X1 T6] at e2;cases e2;exact⟨u,r, .inr ⟨.inl hk,c,hc,Fs⟩⟩
   ·rw[XQ (YG hj)] at e2;obtain⟨u',r',q⟩:=hl j y v' e1 e2 e3;refine⟨u',r',?_⟩;rcases q with q | ⟨k,c',e,z'⟩
    ·exact .inl q
    ·refine .inr ⟨k,c',e,z'.sameBut hs ?_⟩;rintro rfl;exact hj (yE hN e1 (I.ok.inj _ _ _ e hc▸hi))
  ·by_cases QI:c'=c
   ·subst QI;exact⟨_,Fs⟩
   ·obtain⟨w2,z2⟩:=I.cell y c' e;exact⟨w2,z2.sameBut hs QI⟩
  ·obtain⟨e,n,ne,nf,d⟩:=I.pin p hp;refine⟨(hs.2 p.1 ?_).trans e,n,ne,nf,d⟩;intro q;rw[q,Mf] at e;have q':oc=p.2:=Yn e;exact d w' (by rw[<-q'];exact R3)
theorem zu{M:Model}{A:Yy}{E:Value->XD->Prop}{i:Nat}{x:Str}{v:V}{u:Value}{Q:Unit->XD->Prop}(I:Inv X f8 σ H s)(hN:X.N.Nodup)(hi:X.N[i]? =some x)(hx:Loc X.env.scope x)(r:RelV v u)
 (h:∀s',Inv X f8 (σ.set i (some v)) H s'->Q () s')(hf:X.fn x=true\/X.env.scope.names.lookup x=some .local:=by first | exact .inl rfl | exact .inr rfl | assumption):wpAny M A (storeName X.env x u) Q E s:=
 oJ I hN hi hx r (λs' I' _=>h s' I') hf
theorem Inv.call'{s':XD}{ch:List Addr}(I:Inv X f8 σ H s)(ho:s'.os=s.os)(u:Un (h7 X.stack) ch H H' s.heap s'.heap)(hok:HOk X.prog X.w H' s'.heap)(hg:abZ s'.gens)
 (Ft:∀b∈ch,(b∈X.ex\/X.aer.heap.objs.size<=b)/\b≠X.env.locals/\(∀x c,X.env.cells.lookup x=some c->c≠b)/\∀p∈X.pn++f8,p.1≠b):Inv X f8 σ H' s':=by
 obtain⟨h',g',d',t',o'⟩:=s';have e:o'=s.os:=ho;subst e;exact I.call (g':=g') (t':=t') (d':=d') u hok hg Ft
end
abbrev XK:=Value->Option Addr->Hp->Prop
abbrev St:=List (Option V)
abbrev VK:=V->Hp->Prop
abbrev TE:=St->Hp->VK->Prop
abbrev TT:=St->Hp->(Bool->Hp->Prop)->Prop
abbrev TA:=St->Hp->(List V->Hp->Prop)->Prop
structure Ends where
 nx:St->Hp->Prop
 rt:VK
 bk:St->Hp->Prop:=λ_ _=>False
 ct:St->Hp->Prop:=λ_ _=>False
abbrev TS:=Ends->St->Hp->Prop
def EP(X:Cx)(f8:List (Addr×Obj))(σ:St)(Q:VK)(u:Value)(s':XD):Prop:=∃v H',Inv X f8 σ H' s'/\RelV v u/\Q v H'
def TP(X:Cx)(f8:List (Addr×Obj))(σ:St)(Q:Bool->Hp->Prop)(b:Bool)(s':XD):Prop:=∃H',Inv X f8 σ H' s'/\Q b H'
def AP(X:Cx)(f8:List (Addr×Obj))(σ:St)(Q:List V->Hp->Prop)(us:List Value)(s':XD):Prop:=∃vs H',Inv X f8 σ H' s'/\Vals vs us/\Q vs H'
def SP(X:Cx)(f8:List (Addr×Obj))(D:Ends)(f:Flow)(s':XD):Prop:=
 match f with
 | .next=>∃σ' H',Inv X f8 σ' H' s'/\D.nx σ' H'
 | .brk=>∃σ' H',Inv X f8 σ' H' s'/\D.bk σ' H'
 | .cont=>∃σ' H',Inv X f8 σ' H' s'/\D.ct σ' H'
 | .ret u=>∃v σ' H',Inv X f8 σ' H' s'/\RelV v u/\D.rt v H'
def PE(X:Cx)(e:Expr)(t:TE):Prop:=
 ∀(f8:List (Addr×Obj)) (s:XD) (σ:St) (H:Hp) (Q:VK),Inv X f8 σ H s->t σ H Q->wpAny (model X.prog X.w) X.A (eval e X.env) (EP X f8 σ Q) X.xe s
def PT(X:Cx)(e:Expr)(t:TT):Prop:=
 ∀(f8:List (Addr×Obj)) (s:XD) (σ:St) (H:Hp) (Q:Bool->Hp->Prop),Inv X f8 σ H s->t σ H Q->wpAny (model X.prog X.w) X.A (isTrue e X.env (eval e X.env)) (TP X f8 σ Q) X.xe s
def PW(X:Cx)(e:Expr)(t:TT):Prop:=
 ∀(whole:Sem Value) (f8:List (Addr×Obj)) (s:XD) (σ:St) (H:Hp) (Q:Bool->Hp->Prop),Inv X f8 σ H s->t σ H Q->wpAny (model X.prog X.w) X.A (isTrue e X.env whole) (TP X f8 σ Q) X.xe s
theorem PW.pt{X:Cx}{e:Expr}{t:TT}(h:PW X e t):PT X e t:=h _
def PA(X:Cx)(es:List Expr)(t:TA):Prop:=
 ∀(pos:Pos) (f8:List (Addr×Obj)) (s:XD) (σ:St) (H:Hp) (Q:List V->Hp->Prop),Inv X f8 σ H s->t σ H Q->wpAny (model X.prog X.w) X.A (spliced (ZI pos (X2 es X.env))) (AP X f8 σ Q) X.xe s
def PS(X:Cx)(st:Stmt)(t:TS):Prop:=
 ∀(f8:List (Addr×Obj)) (s:XD) (σ:St) (H:Hp) (D:Ends),Inv X f8 σ H s->t D σ H->wpAny (model X.prog X.w) X.A (exec st X.env) (SP X f8 D) X.xe s
def PSs(X:Cx)(st:List Stmt)(t:TS):Prop:=
 ∀(f8:List (Addr×Obj)) (s:XD) (σ:St) (H:Hp) (D:Ends),Inv X f8 σ H s->t D σ H->wpAny (model X.prog X.w) X.A (execs st X.env) (SP X f8 D) X.xe s
theorem b_{α:Type}{t:Sem α}{Q Q':α->XD->Prop}{M:Model}{A:Yy}{E:Value->XD->Prop}{s:XD}(h:wpAny M A t Q E s)(hQ:∀a s,Q a s->Q' a s):wpAny M A t Q' E s:=YV h hQ λ_ _ x=>x
section
variable{X:Cx}
theorem bin{a b:Expr}{ta tb:TE}(ha:PE X a ta)(hb:PE X b tb){f8:List (Addr×Obj)}{s:XD}{σ:St}{H:Hp}{R:V->V->Hp->Prop}(I:Inv X f8 σ H s)(h:ta σ H λx H1=>tb σ H1 λy H2=>R x y H2)
 {α:Type}{Q:α->XD->Prop}{f:Value->Value->Sem α}
 (hf:∀v u s2 x y H2,Inv X f8 σ H2 s2->RelV x v->RelV y u->R x y H2->wpAny (model X.prog X.w) X.A (f v u) Q X.xe s2):
 wpAny (model X.prog X.w) X.A (eval a X.env) (λv P3=>wpAny (model X.prog X.w) X.A (eval b X.env) (λu v6=>wpAny (model X.prog X.w) X.A (f v u) Q X.xe v6) X.xe P3) X.xe s:=by
 refine b_ (ha f8 s σ H _ I h) λv s1 ⟨x,H1,I1,r1,q1⟩=>?_;refine b_ (hb f8 s1 σ H1 _ I1 q1) λu s2 ⟨y,H2,I2,r2,q2⟩=>?_;exact hf v u s2 x y H2 I2 r1 r2 q2
def lR(i:Nat):TE:=λσ H Q=>∃v,σ[i]? =some (some v)/\Q v H
def tC(v:V):TE:=λ_ H Q=>Q v H
theorem Nd{i:Nat}{x:Str}{pos:Pos}(hN:X.N[i]? =some x)(hv:Q_ X.env.scope x)(hd:(x==("__debug__":Str))=false:=by decide)(rm:(x==("__classdict__":Str))=false:=by decide):PE X (.Name x pos) (lR i):=by
 intro f8 s σ H Q I h;obtain⟨v,e,h⟩:=h;obtain⟨m,hn,hl⟩:=I.loc;obtain⟨u,r,l⟩:=hl i x v hN e hv;have fin:EP X f8 σ Q u s:=⟨v,H,I,r,h⟩
 rcases l with⟨hk,hm⟩ | ⟨hk,c,hc,Kz⟩
 ·exact wpAny_Name (wpAny_loadName_local I.ok.kind hk hn hm fin) hd
 ·rcases hk with hk | hk
  ·exact wpAny_Name (wpAny_loadName_cell I.ok.kind hk hc Kz fin) hd
  ·exact wpAny_Name (wpAny_loadName_free I.ok.kind hk hc Kz fin rm) hd
theorem M7{i j pos}:PE X (.Constant (.int i) j pos) (tC (.int i)):=λ_ _ _ H _ I h=>wpAny_Constant_int ⟨.int i,H,I.tok _,⟨_,rfl⟩,h⟩
theorem K2{b j pos}:PE X (.Constant (.bool b) j pos) (tC (.bl b)):=λ_ _ _ H _ I h=>Constant_bool ⟨.bl b,H,I,rfl,h⟩
theorem M8{j pos}:PE X (.Constant .none j pos) (tC .non):=λ_ _ _ H _ I h=>Constant_none ⟨.non,H,I,rfl,h⟩
theorem Na{x j pos}:PE X (.Constant (.str x) j pos) (tC (.str x)):=λ_ _ _ H _ I h=>Calls.Constant_str ⟨.str x,H,I.tok _,⟨_,rfl⟩,h⟩
def Gl(X:Cx)(x:Str):Prop:=X.env.kindOf x=some .globalImplicit
theorem mr{E:Value->XD->Prop}{f8:List (Addr×Obj)}{s:XD}{σ:St}{H:Hp}{x:Str}{u:Value}{pos:Pos}{Q:Value->XD->Prop}(I:Inv X f8 σ H s)(hg:Gl X x)(hm:X.mg x=some u)(h:Q u s)
 (hd:(x==("__debug__":Str))=false:=by decide):wpAny (model X.prog X.w) X.A (eval (.Name x pos) X.env) Q E s:=
 acJ I.ok.kind hg (Calls.loadGlobal_global (by rw[I.ok.glob];exact I.mod.glob.keeps I.bk) hm h) hd
theorem jL{E:Value->XD->Prop}{f8:List (Addr×Obj)}{s:XD}{σ:St}{H:Hp}{x:Str}{u:Value}{pos:Pos}{Q:Value->XD->Prop}(I:Inv X f8 σ H s)(hg:Gl X x)(hm:X.mg x=none)(hv:YJ x=some u)(h:Q u s)
 (hn:x≠"__name__":=by decide)(hd:(x==("__debug__":Str))=false:=by decide):wpAny (model X.prog X.w) X.A (eval (.Name x pos) X.env) Q E s:=by
 obtain⟨mb,h1,h2⟩:=I.mod.blt;exact acJ I.ok.kind hg (Calls.loadGlobal_builtin (by rw[I.ok.glob];exact I.mod.glob.keeps I.bk) hm (by rw[I.ok.blt];exact h1.keeps I.bk) ((h2 x hn).trans hv) h) hd
theorem JG{x:Str}{v:V}{u:Value}{pos:Pos}(hg:Gl X x)(hm:X.mg x=some u)(r:RelV v u)(hd:(x==("__debug__":Str))=false:=by decide):PE X (.Name x pos) (tC v):=
 λ_ _ _ H _ I h=>mr I hg hm ⟨v,H,I,r,h⟩ hd
theorem JB{x:Str}{v:V}{u:Value}{pos:Pos}(hg:Gl X x)(hm:X.mg x=none)(hv:YJ x=some u)(r:RelV v u)(hn:x≠"__name__":=by decide)(hd:(x==("__debug__":Str))=false:=by decide):PE X (.Name x pos) (tC v):=
 λ_ _ _ H _ I h=>jL I hg hm hv ⟨v,H,I,r,h⟩ hn hd
variable{a b:Expr}{ta tb:TE}{pos:Pos}
def PC(X:Cx)(op:CmpOp)(a b:Expr)(t:TE):Prop:=
 ∀(f8:List (Addr×Obj)) (s:XD) (σ:St) (H:Hp) (Q:VK),Inv X f8 σ H s->t σ H Q->
  wpAny (model X.prog X.w) X.A (eval a X.env) (λv P3=>wpAny (model X.prog X.w) X.A (eval b X.env) (λu v6=>wpAny (model X.prog X.w) X.A (YZ op v u) (EP X f8 σ Q) X.xe v6) X.xe P3) X.xe s
theorem Gi(b:Expr){op:CmpOp}(h:op≠ .In)(h2:op≠ .NotIn):YY op b=false:=by
 have e1:(op==CmpOp.In)=false:=by cases op<;>first | rfl | exact aej rfl h
 have e2:(op==CmpOp.NotIn)=false:=by cases op<;>first | rfl | exact aej rfl h2
 cases b<;>simp[YY,e1,e2]
theorem M4{op:CmpOp}{t:TE}(h:PC X op a b t)(h1:YY op b=false:=by first | exact Gi _ (by decide) (by decide) | rfl):PE X (.Compare a [op] [b] pos) t:=λf8 s σ H Q I hw=>wpAny_Compare1 (h f8 s σ H Q I hw) h1
variable{tA cf:TT}{W1:List Expr}
def SW(t u:TT):TT:=λσ H Q=>t σ H λc H1=>if c=true then u σ H1 Q else Q false H1
def W_(t u:TT):TT:=λσ H Q=>t σ H λc H1=>if c=true then Q true H1 else u σ H1 Q
def S5(t:TT):TT:=λσ H Q=>t σ H λc H1=>Q (!c) H1
theorem JS(ha:PT X a tA):PW X (.BoolOp .And [a] pos) tA:=by
 intro wh f8 s σ H Q I h;refine isTrue_and (b_ (ha f8 s σ H Q I h) λc s1 e=>?_);cases c with
 |true=>exact isTrue_and_nil e
 |false=>exact e
theorem Nt(ha:PT X a tA):PW X (.BoolOp .Or [a] pos) tA:=by
 intro wh f8 s σ H Q I h;refine isTrue_or (b_ (ha f8 s σ H Q I h) λc s1 e=>?_);cases c with
 |false=>exact isTrue_or_nil e
 |true=>exact e
theorem Nq(ha:PT X a tA)(hb:PW X (.BoolOp .And (b::W1) pos) cf):PW X (.BoolOp .And (a::b::W1) pos) (SW tA cf):=by
 intro wh f8 s σ H Q I h;refine isTrue_and (b_ (ha f8 s σ H _ I h) λc s1 ⟨H1,I1,q1⟩=>?_);cases c with
 |true=>exact hb wh f8 s1 σ H1 Q I1 q1
 |false=>exact⟨H1,I1,q1⟩
theorem PX(ha:PT X a tA)(hb:PW X (.BoolOp .Or (b::W1) pos) cf):PW X (.BoolOp .Or (a::b::W1) pos) (W_ tA cf):=by
 intro wh f8 s σ H Q I h;refine isTrue_or (b_ (ha f8 s σ H _ I h) λc s1 ⟨H1,I1,q1⟩=>?_);cases c with
 |true=>exact⟨H1,I1,q1⟩
 |false=>exact hb wh f8 s1 σ H1 Q I1 q1
theorem Nm(ha:PT X a tA):PT X (.UnaryOp .Not a pos) (S5 tA):=by
 intro f8 s σ H Q I h;exact isTrue_not (ha f8 s σ H (λc H1=>Q (!c) H1) I h)
def Qh(ta tb:TE):TE:=λσ H Q=>ta σ H λx H1=>∃c,x= .bl c/\if c=true then tb σ H1 Q else Q (.bl false) H1
def Qn(ta:TE):TE:=λσ H Q=>ta σ H λx H1=>∃c,x= .bl c/\Q (.bl (!c)) H1
theorem M_{op}{t:TE}(h:PE X a t):PE X (.BoolOp op [a] pos) t:=λf8 s σ H Q I hw=>BoolOp_one (h f8 s σ H Q I hw)
theorem M3(ha:PE X a ta)(hb:PE X (.BoolOp .And (b::W1) pos) tb):PE X (.BoolOp .And (a::b::W1) pos) (Qh ta tb):=by
 intro f8 s σ H Q I h;refine BoolOp_and (b_ (ha f8 s σ H _ I h) λv s1 ⟨x,H1,I1,r1,q1⟩=>?_);obtain⟨c,rfl,q1⟩:=q1;cases r1;refine Zu ?_;cases c with
 |true=>exact hb f8 s1 σ H1 Q I1 q1
 |false=>exact⟨.bl false,H1,I1,rfl,q1⟩
theorem M9(ha:PE X a ta):PE X (.UnaryOp .Not a pos) (Qn ta):=by
 intro f8 s σ H Q I h;refine UnaryOp_ (b_ (ha f8 s σ H _ I h) λv s1 ⟨x,H1,I1,r1,q1⟩=>?_);obtain⟨c,rfl,q1⟩:=q1;cases r1;exact not_of (Zu ⟨.bl (!c),H1,I1,rfl,q1⟩)
def W9(t:TT)(ta tb:TE):TE:=λσ H Q=>t σ H λc H1=>if c=true then ta σ H1 Q else tb σ H1 Q
theorem GX{c:Expr}(hc:PT X c tA)(ha:PE X a ta)(hb:PE X b tb):PE X (.IfExp c a b pos) (W9 tA ta tb):=by
 intro f8 s σ H Q I h;refine wpAny_IfExp (b_ (hc f8 s σ H _ I h) λd s1 ⟨H1,I1,q1⟩=>?_);cases d with
 |true=>exact ha f8 s1 σ H1 Q I1 q1
 |false=>exact hb f8 s1 σ H1 Q I1 q1
end
def SqL(K:XO)(H:Hp)(a:Addr)(xs:List V):Prop:=
 Rd H a (.lst xs)\/
  ∃(o:Obj) (aK:Array Value) (n:Nat),K.lookup a=some o/\o.cls= .type "list"/\o.dict=none/\o.data= .seq aK n/\aK.size<=X6/\Vals xs aK.toList
def SqT(K:XO)(H:Hp)(a:Addr)(xs:List V):Prop:=
 Rd H a (.tup xs)\/
  ∃(o:Obj) (aK:Array Value) (n:Nat),K.lookup a=some o/\o.cls= .type "tuple"/\o.data= .seq aK n/\aK.size<=X6/\Vals xs aK.toList
def Ra:Value->Option V
 | .none=>some .non
 | .bool b=>some (.bl b)
 | .int i _=>some (.int i)
 | .str x _=>some (.str x)
 | .bytes b _=>some (.byt b)
 | .float b _=>some (.flt b)
 | .ref a=>some (.ref a)
 | .type n=>some (.ty n)
 |_=>none
theorem RelV.abs{x:V}{u:Value}(r:RelV x u):Ra u=some x:=by
 cases x with
 |non=>cases r;rfl
 |bl _=>cases r;rfl
 |int _=>obtain⟨t,rfl⟩:=r;rfl
 |str _=>obtain⟨t,rfl⟩:=r;rfl
 |byt _=>obtain⟨t,rfl⟩:=r;rfl
 |flt _=>obtain⟨t,rfl⟩:=r;rfl
 |ref _=>cases r;rfl
 |ty _=>cases r;rfl
theorem RelV.inj{x y:V}{u:Value}(r:RelV x u)(q:RelV y u):x=y:=Yn (r.abs.symm.trans q.abs)
theorem Vals.inj:∀{xs ys:List V}{us:List Value},Vals xs us->Vals ys us->xs=ys
 |_,_,_, .nil, .nil=>rfl
 |_,_,_, .cons r t, .cons r' t'=>by rw[r.inj r',Vals.inj t t']
section
variable{X:Cx}{f8:List (Addr×Obj)}{σ:St}{H:Hp}{s:XD}{a:Addr}{xs ys:List V}
theorem SqL.of{K:XO}(h:H a=some (.lst xs)):SqL K H a xs:= .inl (.inl h)
theorem SqT.of{K:XO}(h:H a=some (.tup xs)):SqT K H a xs:= .inl (.inl h)
theorem Inv.list(I:Inv X f8 σ H s)(h:SqL X.K H a xs):∃aK:List Value,Vals xs aK/\PlainL s.heap a aK.toArray/\xs.length<=X6:=by
 rcases h with h | ⟨o,aK,n,hk,hc,hd,hs,hz,r⟩
 ·obtain⟨z,aK,n,r,e⟩:=h.ok I.hok;exact⟨aK,r,⟨_,n,e,rfl,rfl,rfl⟩,z⟩
 ·refine⟨aK.toList,r,⟨o,n,I.kIn a o hk,hc,hd,by simpa using hs⟩,?_⟩;have e:=r.length;simp only[XG] at e;omega
theorem Inv.tuple(I:Inv X f8 σ H s)(h:SqT X.K H a xs):∃aK:List Value,Vals xs aK/\IsTup s.heap a aK.toArray/\xs.length<=X6:=by
 rcases h with h | ⟨o,aK,n,hk,hc,hs,hz,r⟩
 ·obtain⟨z,aK,r,p⟩:=h.ok I.hok;exact⟨aK,r,p,z⟩
 ·refine⟨aK.toList,r,⟨o,I.kIn a o hk,hc,n,by simpa using hs⟩,?_⟩;have e:=r.length;simp only[XG] at e;omega
theorem Inv.list_inj(I:Inv X f8 σ H s)(h:SqL X.K H a xs)(h':SqL X.K H a ys):xs=ys:=by
 obtain⟨aK,r,⟨o,n,e,_,_,d⟩,_⟩:=I.list h;obtain⟨its',r',⟨o',n',e',_,_,d'⟩,_⟩:=I.list h';rw[e] at e';cases e';rw[d] at d';injection d' with d1 _
 have:aK=its':=by simpa using aeo Array.toList d1
 subst this;exact r.inj r'
theorem Inv.tuple_inj(I:Inv X f8 σ H s)(h:SqT X.K H a xs)(h':SqT X.K H a ys):xs=ys:=by
 obtain⟨aK,r,⟨o,e,_,n,d⟩,_⟩:=I.tuple h;obtain⟨its',r',⟨o',e',_,n',d'⟩,_⟩:=I.tuple h';rw[e] at e';cases e';rw[d] at d';injection d' with d1 _
 have:aK=its':=by simpa using aeo Array.toList d1
 subst this;exact r.inj r'
end
abbrev Cx.wish(X:Cx)(E:Value->XD->Prop):Cx:={X with xe:=E}
abbrev Cx.nox(X:Cx):Cx:=X.wish λ_ _=>False
theorem Cx.Ok.wish{X:Cx}(ok:X.Ok)(E:Value->XD->Prop):(X.wish E).Ok:=
 ⟨ok.mod,ok.kind,ok.glob,ok.blt,ok.above,ok.inj,ok.has,ok.cab,ok.hd,ok.frames,ok.stk,ok.exf,ok.bs,ok.bsz,ok.noex,ok.exfs,ok.funs,ok.frf⟩
theorem Cx.Ok.unwish{X:Cx}{E:Value->XD->Prop}(ok:(X.wish E).Ok):X.Ok:=
 ⟨ok.mod,ok.kind,ok.glob,ok.blt,ok.above,ok.inj,ok.has,ok.cab,ok.hd,ok.frames,ok.stk,ok.exf,ok.bs,ok.bsz,ok.noex,ok.exfs,ok.funs,ok.frf⟩
section
variable{X:Cx}{f8:List (Addr×Obj)}{σ:St}{H:Hp}{s:XD}{E:Value->XD->Prop}
theorem Inv.wish(I:Inv X f8 σ H s)(E:Value->XD->Prop):Inv (X.wish E) f8 σ H s:=⟨I.ok.wish E,I.os,I.bare,I.base,I.loc,I.cell,I.free,I.freeC,I.pin,I.hok,I.len⟩
theorem Inv.unwish(I:Inv (X.wish E) f8 σ H s):Inv X f8 σ H s:=⟨I.ok.unwish,I.os,I.bare,I.base,I.loc,I.cell,I.free,I.freeC,I.pin,I.hok,I.len⟩
theorem SP.unwish{D:Ends}{f:Flow}{s':XD}(h:SP (X.wish E) f8 D f s'):SP X f8 D f s':=by
 cases f with
 |next=>obtain⟨σ',H',I,q⟩:=h;exact⟨σ',H',I.unwish,q⟩
 |brk=>obtain⟨σ',H',I,q⟩:=h;exact⟨σ',H',I.unwish,q⟩
 |cont=>obtain⟨σ',H',I,q⟩:=h;exact⟨σ',H',I.unwish,q⟩
 |ret u=>obtain⟨v,σ',H',I,r,q⟩:=h;exact⟨v,σ',H',I.unwish,r,q⟩
theorem PE.nox{e:Expr}{t:TE}(h:PE X.nox e t):PE X e t:=λf8 s σ H Q I hw=>
 YV (h f8 s σ H Q (I.wish _) hw) (λ_ _ ⟨v,H',I',r,q⟩=>⟨v,H',I'.unwish,r,q⟩) λ_ _ z=>Y_ z
theorem PT.nox{e:Expr}{t:TT}(h:PT X.nox e t):PT X e t:=λf8 s σ H Q I hw=>
 YV (h f8 s σ H Q (I.wish _) hw) (λ_ _ ⟨H',I',q⟩=>⟨H',I'.unwish,q⟩) λ_ _ z=>Y_ z
theorem PSs.nox{st:List Stmt}{t:TS}(h:PSs X.nox st t):PSs X st t:=λf8 s σ H D I hw=>
 YV (h f8 s σ H D (I.wish _) hw) (λ_ _ q=>q.unwish) λ_ _ z=>Y_ z
end
section
variable{X:Cx}{st:Stmt}{W1:List Stmt}{t u:TS}{e:Expr}{te:TE}{pos:Pos}
def La:TS:=λD σ H=>D.nx σ H
def Qq(t u:TS):TS:=λD σ H=>t {D with nx:=u D} σ H
theorem Ck:PSs X [] La:=λ_ _ σ H _ I h=>aa7 ⟨σ,H,I,h⟩
theorem y0(h1:PS X st t)(h2:PSs X W1 u):PSs X (st::W1) (Qq t u):=by
 intro f8 s σ H D I h;refine wpAny_execs_cons (b_ (h1 f8 s σ H {D with nx:=u D} I h) λf s1 q=>?_);cases f with
 |next=>
  obtain⟨σ',H',I',q⟩:=q;exact h2 f8 s1 σ' H' D I' q
 |ret v=>exact q
 |brk=>exact q
 |cont=>exact q
theorem qt(h1:PS X st t):PSs X [st] t:=by
 intro f8 s σ H D I h;refine wpAny_execs_cons (b_ (h1 f8 s σ H D I h) λf s1 q=>?_);cases f with
 |next=>exact aa7 q
 |ret v=>exact q
 |brk=>exact q
 |cont=>exact q
theorem Inv.quiet{f8:List (Addr×Obj)}{σ:St}{H:Hp}{s:XD}(I:Inv X f8 σ H s):interactive X.env=false:=by simp[interactive,I.ok.kind]
def HE(te:TE):TS:=λD σ H=>te σ H λ_ H1=>D.nx σ H1
theorem qr(he:PE X e te)(hs:aa9 e none pos.line X.env=pure false:=by rfl):PS X (.Expr e pos) (HE te):=by
 intro f8 s σ H D I h;exact wpAny_Expr_any (b_ (he f8 s σ H _ I h) λv s1 ⟨x,H1,I1,r1,q1⟩=>⟨σ,H1,I1,q1⟩) I.quiet hs
def S7(te:TE):TS:=λD σ H=>te σ H D.rt
theorem Nk(he:PE X e te):PS X (.Return (some e) pos) (S7 te):=by
 intro f8 s σ H D I h;exact wpAny_Return_some (b_ (he f8 s σ H _ I h) λv s1 ⟨x,H1,I1,r1,q1⟩=>⟨x,σ,H1,I1,r1,q1⟩)
def Qm(c:TT)(t u:TS):TS:=λD σ H=>c σ H λb H1=>if b=true then t D σ H1 else u D σ H1
theorem K3{c:Expr}{a b:List Stmt}{tc:TT}(hc:PT X c tc)(ha:PSs X a t)(hb:PSs X b u):PS X (.If c a b pos) (Qm tc t u):=by
 intro f8 s σ H D I h;refine wpAny_If (b_ (hc f8 s σ H _ I h) λd s1 ⟨H1,I1,q1⟩=>?_);cases d with
 |true=>exact ha f8 s1 σ H1 D I1 q1
 |false=>exact hb f8 s1 σ H1 D I1 q1
end
abbrev TG:=V->St->Hp->(St->Hp->Prop)->Prop
abbrev Kd:=List V->St->Hp->(St->Hp->Prop)->Prop
def PG(X:Cx)(target:Expr)(t:TG):Prop:=
 ∀(f8:List (Addr×Obj)) (s:XD) (σ:St) (H:Hp) (v:V) (u:Value) (Q:St->Hp->Prop),Inv X f8 σ H s->RelV v u->t v σ H Q->
  wpAny (model X.prog X.w) X.A (assign target X.env u) (λ_ s'=>∃σ' H',Inv X f8 σ' H' s'/\Q σ' H') X.xe s
def Qx(X:Cx)(ts:List Expr)(t:Kd):Prop:=
 ∀(f8:List (Addr×Obj)) (s:XD) (σ:St) (H:Hp) (vs:List V) (us:List Value) (Q:St->Hp->Prop),Inv X f8 σ H s->Vals vs us->t vs σ H Q->
  wpAny (model X.prog X.w) X.A (assignInOrder ((abx ts X.env).map (·.2)) us) (λ_ s'=>∃σ' H',Inv X f8 σ' H' s'/\Q σ' H') X.xe s
abbrev Q7:=V->V->V->Hp->(Hp->Prop)->Prop
section
variable{X:Cx}{pos:Pos}
def k9(i:Nat):TG:=λv σ H Q=>Q (σ.set i (some v)) H
theorem aT{i:Nat}{x:Str}(hN:X.N.Nodup)(hi:X.N[i]? =some x)(hx:Loc X.env.scope x)(hf:X.fn x=true\/X.env.scope.names.lookup x=some .local:=by first | exact .inl rfl | exact .inr rfl | assumption):PG X (.Name x pos) (k9 i):=by
 intro f8 s σ H v u Q I r h;exact acO (zu I hN hi hx r (λs' I'=>⟨_,H,I',h⟩) hf)
def OC:Kd:=λvs σ H Q=>vs=[]/\Q σ H
def Ks(t:TG)(u:Kd):Kd:=λvs σ H Q=>∃v r,vs=v::r/\t v σ H λσ' H'=>u r σ' H' Q
theorem JH:Qx X [] OC:=by
 intro f8 s σ H vs us Q I r h;obtain⟨e,h⟩:=h;subst e;cases r;exact assignInOrder_nil ⟨σ,H,I,h⟩
theorem yW{e:Expr}{es:List Expr}{t:TG}{u:Kd}(h1:PG X e t)(h2:Qx X es u)
 (hs:(abx (e::es) X.env).map (·.2)=assign e X.env::(abx es X.env).map (·.2):=by rfl):Qx X (e::es) (Ks t u):=by
 intro f8 s σ H vs us Q I r h;obtain⟨v,vr,e1,h⟩:=h;subst e1;cases r with
 |cons r rr=>
  rw[hs];refine assignInOrder_cons (b_ (h1 f8 s σ H _ _ _ I r h) λ_ s1 ⟨σ1,H1,I1,q1⟩=>?_);exact h2 f8 s1 σ1 H1 _ _ Q I1 rr q1
def OD(K:XO)(n:Nat)(t:Kd):TG:=λv σ H Q=>∃a xs,v= .ref a/\SqT K H a xs/\xs.length=n/\t xs σ H Q
theorem Nf{es:List Expr}{k:Nat}{t:Kd}{n:Nat}(hc:X.calm=true)(h:Qx X es t)
 (hn:(abx es X.env).length=n:=by rfl)(vO:(abx es X.env).findIdx? (·.1)=none:=by rfl):PG X (.Tuple es k pos) (OD X.K n t):=by
 intro f8 s σ H v u Q I r hw;obtain⟨a,xs,e1,hq,hl,hw⟩:=hw;subst e1;cases r;obtain⟨aK,rv,ht,hz⟩:=I.tuple hq;refine assign_Tuple_tuple (I.ok.hd hc) ht (by simp[hn,<-hl,rv.length]) vO λh' hx=>?_;have I1:Inv X f8 σ H {s with heap:=h'}:=I.kept (t':=s.toks) λb o e=>hx b o (Yj (XY e)) e;exact h f8 _ σ H xs _ Q I1 (by simpa using rv) hw
def Ac(to ti:TE)(t:Q7):TG:=λv σ H Q=>to σ H λo H1=>ti σ H1 λi H2=>t o i v H2 λH3=>Q σ H3
def Qi(te:TE)(g:TG):TS:=λD σ H=>te σ H λx H1=>g x σ H1 D.nx
theorem ou{tg e:Expr}{te:TE}{g:TG}(he:PE X e te)(hg:PG X tg g)(hs:acy [tg] e pos.line X.env=pure false:=by rfl)(hw:swappedStores [tg] e X.env=pure none:=by rfl)
 (h1:(abx [tg] X.env).map (·.2)=[assign tg X.env]:=by rfl):PS X (.Assign [tg] e pos) (Qi te g):=by
 intro f8 s σ H D I h;refine wpAny_Assign_stores (b_ (he f8 s σ H _ I h) λv s1 ⟨x,H1,I1,r1,q1⟩=>?_) hs hw;rw[h1];exact b_ (hg f8 s1 σ H1 x v _ I1 r1 q1) λ_ s2 q=>q
end
section
variable{X:Cx}{pos:Pos}
def NK(c:TT)(tb:TS):TS:=λD σ H=>∃W:Nat->St->Hp->Prop,(∃m,W m σ H)/\∀m σ H,W m σ H->
 c σ H λb H1=>if b=true then∃N:St->Hp->Prop,(∀σ' H',N σ' H'->∃m',m'<m/\W m' σ' H')/\tb {D with nx:=N,ct:=N,bk:=D.nx} σ H1 else D.nx σ H1
theorem G0{c:Expr}{body:List Stmt}{tc:TT}{tb:TS}(hp:adl (model X.prog X.w) X.A X.env X.xe)(hc:PT X c tc)(hb:PSs X body tb):PS X (.While c body [] pos) (NK tc tb):=by
 intro f8 s σ H D I h;obtain⟨W,⟨m0,w0⟩,turn⟩:=h;refine wpAny_While (codeAny_whileLoop (λn s'=>∃σ' H',Inv X f8 σ' H' s'/\W n σ' H') ?_ m0 ⟨σ,H,I,w0⟩);rintro n s1 ⟨σ1,H1,I1,w1⟩;refine aae hp (b_ (hc f8 s1 σ1 H1 _ I1 (turn n σ1 H1 w1)) λb s2 ⟨H2,I2,q2⟩=>?_);cases b with
 |true=>
  obtain⟨N,hN,q2⟩:=q2;rw[aeg rfl];refine aae hp (b_ (hb f8 s2 σ1 H2 _ I2 q2) λf s3 q3=>?_);cases f with
  |next=>
   obtain⟨σ3,H3,I3,n3⟩:=q3;obtain⟨m',hm,w3⟩:=hN σ3 H3 n3;exact⟨m',hm,σ3,H3,I3,w3⟩
  |cont=>
   obtain⟨σ3,H3,I3,n3⟩:=q3;obtain⟨m',hm,w3⟩:=hN σ3 H3 n3;exact⟨m',hm,σ3,H3,I3,w3⟩
  |brk=>exact q3
  |ret v=>exact q3
 |false=>
  rw[aeh Yi];exact aa7 ⟨σ1,H2,I2,q2⟩
end
structure It where
 go:Nat->Hp->Prop
 yld:Nat->Hp->V->Hp->Prop
 stop:Nat->Hp->Prop
def tJ(X:Cx)(f8:List (Addr×Obj))(H:Hp)(b:Addr):Prop:=
 H b=none/\b≠X.env.locals/\b∉X.fs/\(b∈X.ex\/X.aer.heap.objs.size<=b)/\(∀x c,X.env.cells.lookup x=some c->c≠b)/\∀p∈X.pn++f8,p.1≠b
theorem Inv.fpOk{X:Cx}{f8:List (Addr×Obj)}{σ:St}{H H':Hp}{s:XD}{b:Addr}(I:Inv X f8 σ H s)(hb:s.heap.objs.size<=b)(hn:H' b=none):tJ X f8 H' b:=by
 refine⟨hn,aaZ (Yw I.lt hb),I.nofs hb, .inr (Yc I.sz hb),λx c e z=>?_,λp hp z=>?_⟩
 ·obtain⟨v,q⟩:=I.cell x c e;exact aej (Yw q.lt (by rw[z];exact hb)) (YH _)
 ·exact aej (Yw (XY (I.pin p hp).1) (by rw[z];exact hb)) (YH _)
structure Turn (P:Yd) (w:World) (K:XO) (tg:Expr) (J:It) (fp:List Addr) (it:Addr) (tn:Nat->Heap->Prop):Prop where
 mem:it∈fp
 obj:∀i h,tn i h->∀b∈fp,∃o,h.get? b=some o/\∀v,o.data≠ .cell v
 keep:∀i h h',tn i h->(∀b∈fp,∀o,h.get? b=some o->h'.get? b=some o)->tn i h'
 item:∀(X:Cx),X.prog=P->X.w=w->X.K=K->X.calm=true->∀(i:Nat) (f8:List (Addr×Obj)) (s:XD) (σ:St) (H:Hp) (E:Value->XD->Prop),Inv X f8 σ H s->(∀b∈fp,tJ X f8 H b)->tn i s.heap->J.go i H->
  wpAny (model P w) X.A (abM (.ref it)) (λr s1=>∃u,r=some u/\
   wpAny (model P w) X.A (abR tg (.ref it) u) (λ_ s2=>∃x H',Inv X f8 σ H' s2/\RelV x u/\J.yld i H x H'/\tn (i+1) s2.heap/\∀b∈fp,H' b=none) E s1) E s
 done:∀(X:Cx),X.prog=P->X.w=w->X.K=K->X.calm=true->∀(i:Nat) (f8:List (Addr×Obj)) (s:XD) (σ:St) (H:Hp) (E:Value->XD->Prop),Inv X f8 σ H s->(∀b∈fp,tJ X f8 H b)->tn i s.heap->J.stop i H->
  wpAny (model P w) X.A (abM (.ref it)) (λr s1=>r=none/\Inv X f8 σ H s1) E s
 self:∀(A:Yy) (i:Nat) (s:XD) (Q:Value->XD->Prop) (E:Value->XD->Prop),tn i s.heap->Q (.ref it) s->wpAny (model P w) A (adM (.ref it)) Q E s
abbrev TI:=St->Hp->(It->Hp->Prop)->Prop
def Tj(X:Cx)(f8:List (Addr×Obj))(σ:St)(tg:Expr)(R:It->Hp->Prop)(Uu:Value)(s2:XD):Prop:=
 ∃(it:Addr) (fp:List Addr) (tn:Nat->Heap->Prop) (J:It) (H':Hp),Uu= .ref it/\Inv X f8 σ H' s2/\Turn X.prog X.w X.K tg J fp it tn/\tn 0 s2.heap/\(∀b∈fp,tJ X f8 H' b)/\R J H'
def PI(X:Cx)(tg iter:Expr)(wi:TI):Prop:=
 ∀(f8:List (Addr×Obj)) (s:XD) (σ:St) (H:Hp) (R:It->Hp->Prop),Inv X f8 σ H s->wi σ H R->
  wpAny (model X.prog X.w) X.A (eval iter X.env) (λv s1=>wpAny (model X.prog X.w) X.A (adM v) (Tj X f8 σ tg R) X.xe s1) X.xe s
theorem uF{M:Model}{A:Yy}{E:Value->XD->Prop}{s:XD}{tg:Expr}{it:Addr}{u:Value}{o:Obj}{n:String}{vs:Array Value}{Q:Unit->XD->Prop}(ho:s.heap.get? it=some o)(hc:o.cls= .type n)(hd:o.data= .fields vs)
 (hn:["enumerate","zip","dict_itemiterator","dict_reverseitemiterator","odict_iterator","itertools.zip_longest","itertools.pairwise"].contains n=false)(hQ:Q () s):wpAny M A (abR tg (.ref it) u) Q E s:=by
 unfold abR;cases tg<;>first
  |exact XE hQ
  |(cases u<;>first
    |exact XE hQ
    |(refine Xy (wpAny_load ho ?_)
      rw[hc,hd];show wpAny M A (if (["enumerate","zip","dict_itemiterator","dict_reverseitemiterator","odict_iterator","itertools.zip_longest","itertools.pairwise"].contains n&&vs[0]? ==some (aaA _))=true then _ else _) Q E s;rw[aeh (by intro h;rw[hn,Bool.false_and] at h;cases h)];exact XE hQ))
def Q4(K:XO)(a:Addr):It:=
 ⟨λi H=>∃xs x,SqL K H a xs/\xs[i]? =some x,λi H x H'=>H'=H/\∀xs,SqL K H a xs->xs[i]? =some x,λi H=>∃xs,SqL K H a xs/\xs.length<=i⟩
def Q5(K:XO)(a:Addr):It:=
 ⟨λi H=>∃xs x,SqT K H a xs/\xs[i]? =some x,λi H x H'=>H'=H/\∀xs,SqT K H a xs->xs[i]? =some x,λi H=>∃xs,SqT K H a xs/\xs.length<=i⟩
def Ob(lo:Int)(n:Nat):It:=⟨λi _=>i<n,λi H x H'=>H'=H/\x= .int (lo+i),λi _=>n<=i⟩
theorem D_{P:Yd}{w:World}{K:XO}{tg:Expr}(a it:Addr):Turn P w K tg (Q4 K a) [it] it (λi h=>h.IsListIter it a i) where
 mem:=by simp
 obj:=λi h st b hb=>by
  have e:b=it:=by simpa using hb
  subst e;obtain⟨o,e,c,d⟩:=st;exact⟨o,e,λv z=>by rw[d] at z;cases z⟩
 keep:=λi h h' st k=>st.at λo e=>k it (by simp) o e
 item:=by
  intro X hP hw hK hc i f8 s σ H E I hf st hg;subst hP hw hK;obtain⟨xs,x,hq,hx⟩:=hg;obtain⟨aK,rv,p,hz⟩:=I.list hq;obtain⟨u,hu,ru⟩:=rv.get hx;obtain⟨f0,f1,f2,f3,f4,f5⟩:=hf it (by simp);refine wpAny_pyNext_list_item st p.isList (x:=u) (by simpa using hu) λh' sY sb=>?_;have I1:Inv X f8 σ H {s with heap:=h'}:=I.turned (t':=s.toks) (λb o hb e=>(sb.2 b hb).trans e) f0 f1 f3 f4 f5;obtain⟨o,e,c,d⟩:=id sY;exact⟨u,rfl,uF (s:={s with heap:=h'}) e c d (by decide) ⟨x,H,I1,ru,⟨rfl,λys hy=>by rw[I.list_inj hy hq];exact hx⟩,sY,λb hb=>(hf b hb).1⟩⟩
 done:=by
  intro X hP hw hK hc i f8 s σ H E I hf st hg;subst hP hw hK;obtain⟨xs,hq,hx⟩:=hg;obtain⟨aK,rv,p,hz⟩:=I.list hq;obtain⟨f0,f1,f2,f3,f4,f5⟩:=hf it (by simp);have hl:=rv.length;exact wpAny_pyNext_list_end (I.ok.hd hc) st p.isList (by simp;omega) λh' eb=>⟨rfl,I.turned (t':=s.toks) (λb o hb e=>eb b o hb e) f0 f1 f3 f4 f5⟩
 self:=λ_ _ _ _ _ st h=>wpAny_pyIter_listiter st h
theorem A7{P:Yd}{w:World}{K:XO}{tg:Expr}(a it:Addr):Turn P w K tg (Q5 K a) [it] it (λi h=>h.IsTupleIter it a i) where
 mem:=by simp
 obj:=λi h st b hb=>by
  have e:b=it:=by simpa using hb
  subst e;obtain⟨o,e,c,d⟩:=st;exact⟨o,e,λv z=>by rw[d] at z;cases z⟩
 keep:=λi h h' st k=>st.at λo e=>k it (by simp) o e
 item:=by
  intro X hP hw hK hc i f8 s σ H E I hf st hg;subst hP hw hK;obtain⟨xs,x,hq,hx⟩:=hg;obtain⟨aK,rv,p,hz⟩:=I.tuple hq;obtain⟨u,hu,ru⟩:=rv.get hx;obtain⟨f0,f1,f2,f3,f4,f5⟩:=hf it (by simp);refine wpAny_pyNext_tuple_item st (show s.heap.IsTuple a aK.toArray from p) (x:=u) (by simpa using hu) λh' sY sb=>?_;have I1:Inv X f8 σ H {s with heap:=h'}:=I.turned (t':=s.toks) (λb o hb e=>(sb.2 b hb).trans e) f0 f1 f3 f4 f5;obtain⟨o,e,c,d⟩:=id sY;exact⟨u,rfl,uF (s:={s with heap:=h'}) e c d (by decide) ⟨x,H,I1,ru,⟨rfl,λys hy=>by rw[I.tuple_inj hy hq];exact hx⟩,sY,λb hb=>(hf b hb).1⟩⟩
 done:=by
  intro X hP hw hK hc i f8 s σ H E I hf st hg;subst hP hw hK;obtain⟨xs,hq,hx⟩:=hg;obtain⟨aK,rv,p,hz⟩:=I.tuple hq;obtain⟨f0,f1,f2,f3,f4,f5⟩:=hf it (by simp);have hl:=rv.length;exact wpAny_pyNext_tuple_end (I.ok.hd hc) st (show s.heap.IsTuple a aK.toArray from p) (by simp;omega) λh' eb=>⟨rfl,I.turned (t':=s.toks) (λb o hb e=>eb b o hb e) f0 f1 f3 f4 f5⟩
 self:=λ_ _ _ _ _ st h=>wpAny_pyIter_tupleiter st h
theorem A6{P:Yd}{w:World}{K:XO}{tg:Expr}(it:Addr)(lo:Int)(n:Nat):Turn P w K tg (Ob lo n) [it] it (λi h=>IsRangeIter h it (lo+(i:Nat)*1) ((n:Int) - (i:Nat)) 1) where
 mem:=by simp
 obj:=λi h st b hb=>by
  have e:b=it:=by simpa using hb
  subst e;exact⟨_,st,λv z=>by
   have z':adT _=Data.cell v:=z;cases z'⟩
 keep:=λi h h' st k=>k it (by simp) _ st
 item:=by
  intro X hP hw hK hc i f8 s σ H E I hf st hg;subst hP hw hK;obtain⟨f0,f1,f2,f3,f4,f5⟩:=hf it (by simp);have W:=Walks.range (prog:=X.prog) (w:=X.w) (I.ok.hd hc) it lo 1 n;refine W.item i s _ _ hg st λv h' tk hv sY kk=>?_;obtain⟨t,rfl⟩:=hv;have I1:Inv X f8 σ H {s with heap:=h',toks:=tk}:=I.turned (λb o hb e=>kk b o (by simpa using hb) e) f0 f1 f3 f4 f5;refine⟨_,rfl,uF (s:={s with heap:=h',toks:=tk}) (n:="range_iterator") sY rfl rfl (by decide) ⟨.int (lo+i),H,I1,⟨t,?_⟩,⟨rfl,rfl⟩,sY,λb hb=>(hf b hb).1⟩⟩;rw[Int.mul_one]
 done:=by
  intro X hP hw hK hc i f8 s σ H E I hf st hg;subst hP hw hK;obtain⟨f0,f1,f2,f3,f4,f5⟩:=hf it (by simp);exact wpAny_pyNext_range_end (I.ok.hd hc) st (by have:n<=i:=hg;omega) λh' eb=>⟨rfl,I.turned (t':=s.toks) (λb o hb e=>eb b o hb e) f0 f1 f3 f4 f5⟩
 self:=λ_ _ _ _ _ st h=>wpAny_pyIter_rangeiter st h
section
variable{X:Cx}{tg:Expr}
def Pl(K:XO)(tl:TE):TI:=λσ H R=>tl σ H λx H1=>∃a,x= .ref a/\(∃xs,SqL K H1 a xs)/\R (Q4 K a) H1
def Sr(K:XO)(tl:TE):TI:=λσ H R=>tl σ H λx H1=>∃a,x= .ref a/\(∃xs,SqT K H1 a xs)/\R (Q5 K a) H1
theorem JI{l:Expr}{tl:TE}(hl:PE X l tl):PI X tg l (Pl X.K tl):=by
 intro f8 s σ H R I h;refine b_ (hl f8 s σ H _ I h) λv s1 ⟨x,H1,I1,r1,q1⟩=>?_;obtain⟨a,e,⟨xs,hq⟩,q⟩:=q1;subst e;cases r1;obtain⟨aK,rv,p,hz⟩:=I1.list hq;refine acM p.isList ?_;refine⟨s1.heap.objs.size,[s1.heap.objs.size],_,_,H1,rfl,I1.kept (t':=s1.toks) λb o e=>XJ _ e,D_ a _,⟨_,X8 _ rfl,rfl,rfl⟩,λb hb=>?_,q⟩;have e:b=s1.heap.objs.size:=by simpa using hb
 subst e;exact I1.fpOk (XM _) (I1.hok.fresh (XM _))
theorem Nh{l:Expr}{tl:TE}(hl:PE X l tl):PI X tg l (Sr X.K tl):=by
 intro f8 s σ H R I h;refine b_ (hl f8 s σ H _ I h) λv s1 ⟨x,H1,I1,r1,q1⟩=>?_;obtain⟨a,e,⟨xs,hq⟩,q⟩:=q1;subst e;cases r1;obtain⟨aK,rv,p,hz⟩:=I1.tuple hq;refine wpAny_pyIter_tuple (show s1.heap.IsTuple a aK.toArray from p) ?_;refine⟨s1.heap.objs.size,[s1.heap.objs.size],_,_,H1,rfl,I1.kept (t':=s1.toks) λb o e=>XJ _ e,A7 a _,⟨_,X8 _ rfl,rfl,rfl⟩,λb hb=>?_,q⟩;have e:b=s1.heap.objs.size:=by simpa using hb
 subst e;exact I1.fpOk (XM _) (I1.hok.fresh (XM _))
theorem y7{f8:List (Addr×Obj)}{σ:St}{H:Hp}{s:XD}{R:It->Hp->Prop}{E:Value->XD->Prop}{lo hi:Int}{t u v:Tok}{tk:Nat}(I:Inv X f8 σ H s)(h1: -(2 ^ 62)<=lo)(h2:lo<2 ^ 62)(h3: -(2 ^ 62)<=hi)(h4:hi<2 ^ 62)
 (q:R (Ob lo (hi - lo).toNat) H):wpAny (model X.prog X.w) X.A (adM (.ref s.heap.objs.size)) (Tj X f8 σ tg R) E {s with heap:=s.heap.push {cls:= .type "range",data:= .fields #[.int lo t, .int hi u, .int 1 v]},toks:=tk}:=by
 refine wpAny_pyIter_range (IsRange.new ..) (small_one h1 h2 h3 h4) ?_;have I1:Inv X f8 σ H {s with heap:=s.heap.push {cls:= .type "range",data:= .fields #[.int lo t, .int hi u, .int 1 v]},toks:=tk}:=I.kept λb o e=>XJ _ e;refine⟨(s.heap.push {cls:= .type "range",data:= .fields #[.int lo t, .int hi u, .int 1 v]}).objs.size,[(s.heap.push {cls:= .type "range",data:= .fields #[.int lo t, .int hi u, .int 1 v]}).objs.size],_,_,H,rfl,
  I1.kept (t':=tk) λb o e=>XJ _ e,A6 _ lo (hi - lo).toNat,?_,λb hb=>?_,q⟩
 ·have e1:lo+((0:Nat):Int)*1=lo:=by simp
  have e2:(((hi - lo).toNat:Nat):Int) - ((0:Nat):Int)=Builtin.Range.rangeSize lo hi 1:=by rw[rangeSize_one];split<;>omega
  show IsRangeIter _ _ (lo+((0:Nat):Int)*1) ((((hi - lo).toNat:Nat):Int) - ((0:Nat):Int)) 1;rw[e1,e2];exact X8 _ rfl
 ·have e:b=(s.heap.push {cls:= .type "range",data:= .fields #[.int lo t, .int hi u, .int 1 v]}).objs.size:=by simpa using hb
  subst e;exact I1.fpOk (XM _) (I1.hok.fresh (XM _))
def Pm(ta:TA):TI:=λσ H R=>ta σ H λvs H1=>∃j:Int,vs=[.int j]/\ -(2 ^ 62)<=j/\j<2 ^ 62/\R (Ob 0 j.toNat) H1
def Pn(ta:TA):TI:=λσ H R=>ta σ H λvs H1=>∃i j:Int,vs=[.int i, .int j]/\(-(2 ^ 62)<=i/\i<2 ^ 62/\ -(2 ^ 62)<=j/\j<2 ^ 62)/\R (Ob i (j - i).toNat) H1
theorem DP{a:Expr}{ta:TA}{p pos:Pos}(hg:Gl X "range")(hm:X.mg "range"=none)(ha:PA X [a] ta)(hs:X2 [a] X.env=[(false,eval a X.env)]:=by rfl):PI X tg (.Call (.Name "range" p) [a] [] pos) (Pm ta):=by
 intro f8 s σ H R I h;refine Call_ (jL I hg hm boot_range (Zi (b_ (ha pos f8 s σ H _ I h) λus s1 ⟨vs,H1,I1,r1,q1⟩=>?_) hs rfl));obtain⟨j,e,q1,q2,q⟩:=q1;subst e;cases r1 with
 |cons r rr=>
  cases rr;obtain⟨t,rfl⟩:=r;exact call_range_1 (y7 I1 (by omega) (by omega) q1 q2 (by simpa using q))
theorem DQ{a b:Expr}{ta:TA}{p pos:Pos}(hg:Gl X "range")(hm:X.mg "range"=none)(ha:PA X [a,b] ta)(hs:X2 [a,b] X.env=[(false,eval a X.env),(false,eval b X.env)]:=by rfl)(N0:X2 [b] X.env=[(false,eval b X.env)]:=by rfl):
 PI X tg (.Call (.Name "range" p) [a,b] [] pos) (Pn ta):=by
 intro f8 s σ H R I h;refine Call_ (jL I hg hm boot_range (Zi (b_ (ha pos f8 s σ H _ I h) λus s1 ⟨vs,H1,I1,r1,q1⟩=>?_) (by rw[hs,N0]) (by rw[N0];rfl)));obtain⟨i,j,e,⟨q1,q2,q3,q4⟩,q⟩:=q1;subst e;cases r1 with
 |cons r rr=>
  cases rr with
  |cons r' rr=>
   cases rr;obtain⟨t,rfl⟩:=r;obtain⟨t',rfl⟩:=r';exact call_range_2 (y7 I1 q1 q2 q3 q4 q)
def Ql(wi:TI)(g:TG)(tb:TS):TS:=λD σ H=>wi σ H λJ H1=>∃W:Nat->Nat->St->Hp->Prop,(∃m,W 0 m σ H1)/\∀i m σ H,W i m σ H->
 (J.stop i H/\D.nx σ H)\/(J.go i H/\∃N:St->Hp->Prop,(∀σ' H',N σ' H'->∃m',m'<m/\W (i+1) m' σ' H')/\∀x H',J.yld i H x H'->g x σ H' λσ2 H2=>tb {D with nx:=N,ct:=N,bk:=D.nx} σ2 H2)
def sF(fp:List Addr)(h:Heap):List (Addr×Obj):=fp.filterMap λb=>(h.get? b).map λo=>(b,o)
theorem iZ{fp:List Addr}{h:Heap}{b:Addr}{o:Obj}(hb:b∈fp)(e:h.get? b=some o):(b,o)∈sF fp h:=aas.mpr ⟨b,hb,by rw[e];rfl⟩
theorem DB{fp:List Addr}{h:Heap}{p:Addr×Obj}(hp:p∈sF fp h):p.1∈fp/\h.get? p.1=some p.2:=by
 obtain⟨b,hb,e⟩:=aas.mp hp;cases q:h.get? b with
 |none=>rw[q] at e;cases e
 |some o=>
  rw[q] at e;have e':(b,o)=p:=Yn e;subst e';exact⟨hb,q⟩
theorem Inv.pinned{f8:List (Addr×Obj)}{σ:St}{H:Hp}{s:XD}{fp:List Addr}(I:Inv X f8 σ H s)(hf:∀b∈fp,tJ X f8 H b)(ho:∀b∈fp,∃o,s.heap.get? b=some o/\∀v,o.data≠ .cell v):Inv X (f8++sF fp s.heap) σ H s:=
 I.pins_of λp hp=>(Yk.mp hp).elim (λz=>I.pin p (YB _ z)) λz=>by
  obtain⟨hb,e⟩:=DB z;obtain⟨f0,f1,f2,_⟩:=hf p.1 hb;obtain⟨o,e',d⟩:=ho p.1 hb;rw[e] at e';cases e';exact⟨e,f0,f1,f2,d⟩
theorem Inv.unpinned{f8 pl:List (Addr×Obj)}{σ:St}{H:Hp}{s:XD}(I:Inv X (f8++pl) σ H s):Inv X f8 σ H s:=I.pins_of λp hp=>I.pin p (YB _ (Zm _ hp))
theorem AU{iter:Expr}{body:List Stmt}{wi:TI}{g:TG}{tb:TS}{pos:Pos}(hp:adl (model X.prog X.w) X.A X.env X.xe)(hc:X.calm=true)(hi:PI X tg iter wi)(hg:PG X tg g)(hb:PSs X body tb)
 (hs:∀x,ZU iter X.env x=pure x:=by intro _;rfl):PS X (.For tg iter body [] pos) (Ql wi g tb):=by
 intro f8 s σ H D I h;refine wpAny_For (b_ (hi f8 s σ H _ I h) λv s1 h1=>b_ h1 λUu s2 h2=>?_) hs;obtain⟨it,fp,tn,J,H2,e,I2,T,A2,f2,W,⟨m0,w0⟩,turn⟩:=h2;subst e;have NF:∀{H':Hp},(∀b∈fp,H' b=none)->∀b∈fp,tJ X f8 H' b:=λhn b hb=>⟨hn b hb,(f2 b hb).2⟩
 refine codeAny_forLoop_any (λn s'=>∃i σ' H',Inv X f8 σ' H' s'/\tn i s'.heap/\(∀b∈fp,H' b=none)/\W i n σ' H') ?_ m0 ⟨0,σ,H2,I2,A2,λb hb=>(f2 b hb).1,w0⟩;rintro n s3 ⟨i,σ3,H3,I3,N6,QD,w3⟩;rcases turn i n σ3 H3 w3 with⟨stop,qn⟩ | ⟨go,N,hN,step⟩
 ·refine aae hp (b_ (T.done X rfl rfl rfl hc i f8 s3 σ3 H3 X.xe I3 (NF QD) N6 stop) λr s4 ⟨hr,I4⟩=>?_);subst hr;exact aa7 ⟨σ3,H3,I4,qn⟩
 ·refine aae hp (b_ (T.item X rfl rfl rfl hc i f8 s3 σ3 H3 X.xe I3 (NF QD) N6 go) λr s4 ⟨u,hr,h4⟩=>?_);subst hr;refine aae hp (b_ h4 λ_ s5 ⟨x,H5,I5,r5,y5,SS,Va⟩=>?_);have I5':=I5.pinned (NF Va) (T.obj _ _ SS);refine aae hp (b_ (hg _ s5 σ3 H5 x u _ I5' r5 (step x H5 y5)) λ_ s6 ⟨σ6,H6,I6,q6⟩=>?_);refine aae hp (b_ (hb _ s6 σ6 H6 _ I6 q6) λf s7 q7=>?_);have again:∀{σ7:St}{H7:Hp},Inv X (f8++sF fp s5.heap) σ7 H7 s7->N σ7 H7->∃m,m<n/\∃i σ' H',Inv X f8 σ' H' s7/\tn i s7.heap/\(∀b∈fp,H' b=none)/\W i m σ' H':=λ{σ7 H7} I7 n7=>by
   obtain⟨m',hm,w7⟩:=hN σ7 H7 n7;refine⟨m',hm,i+1,σ7,H7,I7.unpinned,T.keep _ _ _ SS λb hb o e=>(I7.pin (b,o) (YB _ (YB _ (iZ hb e)))).1,λb hb=>?_,w7⟩;obtain⟨o,e,d⟩:=T.obj _ _ SS b hb;exact(I7.pin (b,o) (YB _ (YB _ (iZ hb e)))).2.1
  cases f with
  |next=>obtain⟨σ7,H7,I7,n7⟩:=q7;exact again I7 n7
  |cont=>obtain⟨σ7,H7,I7,n7⟩:=q7;exact again I7 n7
  |brk=>obtain⟨σ7,H7,I7,q7⟩:=q7;exact⟨σ7,H7,I7.unpinned,q7⟩
  |ret v=>obtain⟨x7,σ7,H7,I7,r7,q7⟩:=q7;exact⟨x7,σ7,H7,I7.unpinned,r7,q7⟩
end
abbrev R2:=V->V->Hp->VK->Prop
def OpR(X:Cx)(f:Value->Value->Sem Value)(r:R2):Prop:=
 ∀(f8:List (Addr×Obj)) (s:XD) (σ:St) (H:Hp) (x y:V) (v u:Value) (Q:VK),Inv X f8 σ H s->RelV x v->RelV y u->r x y H Q->
  wpAny (model X.prog X.w) X.A (f v u) (EP X f8 σ Q) X.xe s
def Q9(X:Cx)(f:Value->Sem Value)(r:V->Hp->VK->Prop):Prop:=
 ∀(f8:List (Addr×Obj)) (s:XD) (σ:St) (H:Hp) (x:V) (v:Value) (Q:VK),Inv X f8 σ H s->RelV x v->r x H Q->
  wpAny (model X.prog X.w) X.A (f v) (EP X f8 σ Q) X.xe s
def CallR(X:Cx)(f:Value)(r:List V->Hp->VK->Prop):Prop:=
 ∀(f8:List (Addr×Obj)) (s:XD) (σ:St) (H:Hp) (xs:List V) (us:List Value) (Q:VK),Inv X f8 σ H s->Vals xs us->r xs H Q->
  wpAny (model X.prog X.w) X.A (call f us) (EP X f8 σ Q) X.xe s
def Q8(X:Cx)(r:V->Hp->(Bool->Hp->Prop)->Prop):Prop:=
 ∀(f8:List (Addr×Obj)) (s:XD) (σ:St) (H:Hp) (x:V) (v:Value) (Q:Bool->Hp->Prop),Inv X f8 σ H s->RelV x v->r x H Q->
  wpAny (model X.prog X.w) X.A (truthy v) (TP X f8 σ Q) X.xe s
def Qp(r:R2)(ta tb:TE):TE:=λσ H Q=>ta σ H λx H1=>tb σ H1 λy H2=>r x y H2 Q
def Xb(r:V->Hp->VK->Prop)(ta:TE):TE:=λσ H Q=>ta σ H λx H1=>r x H1 Q
def rI(C:Int->Int->Prop)(g:Int->Int->V):R2:=λx y H Q=>∃i j,x= .int i/\y= .int j/\C i j/\Q (g i j) H
def DZ(g:Int->Int->V):R2:=λx y H Q=>∃i j,x= .int i/\y= .int j/\Q (g i j) H
def rU(g:Int->V):V->Hp->VK->Prop:=λx H Q=>∃i,x= .int i/\Q (g i) H
section
variable{X:Cx}{a b:Expr}{ta tb:TE}{pos:Pos}
theorem Li(ha:PE X a ta)(hb:PE X b tb){f8:List (Addr×Obj)}{s:XD}{σ:St}{H:Hp}{R:V->V->Hp->Prop}(I:Inv X f8 σ H s)
 (h:ta σ H λx H1=>tb σ H1 λy H2=>R x y H2){Q:Value->XD->Prop}{f:Value->Value->Sem Value}
 (hf:∀v u s2 x y H2,Inv X f8 σ H2 s2->RelV x v->RelV y u->R x y H2->wpAny (model X.prog X.w) X.A (f v u) Q X.xe s2):
 wpAny (model X.prog X.w) X.A (eval a X.env) (λv P3=>wpAny (model X.prog X.w) X.A (eval b X.env) (λu v6=>wpAny (model X.prog X.w) X.A (f v u) Q X.xe v6) X.xe P3) X.xe s:=by
 refine b_ (ha f8 s σ H _ I h) λv s1 ⟨x,H1,I1,r1,q1⟩=>?_;refine b_ (hb f8 s1 σ H1 _ I1 q1) λu s2 ⟨y,H2,I2,r2,q2⟩=>?_;exact hf v u s2 x y H2 I2 r1 r2 q2
theorem PU{op:Operator}{r:R2}(ho:OpR X (aaP op) r)(ha:PE X a ta)(hb:PE X b tb):PE X (.BinOp a op b pos) (Qp r ta tb):=by
 intro f8 s σ H Q I h;exact wpAny_BinOp (Li ha hb I h λv u s2 x y H2 I2 rx ry q=>ho f8 s2 σ H2 x y v u Q I2 rx ry q)
theorem PV{op:UnaryOp}{r:V->Hp->VK->Prop}(ho:Q9 X (unaryOp op) r)(ha:PE X a ta):PE X (.UnaryOp op a pos) (Xb r ta):=by
 intro f8 s σ H Q I h;exact UnaryOp_ (b_ (ha f8 s σ H _ I h) λv s1 ⟨x,H1,I1,r1,q1⟩=>ho f8 s1 σ H1 x v Q I1 r1 q1)
theorem SG{f:Value->Value->Sem Value}{C:Int->Int->Prop}{g:Int->Int->Int}
 (rule:∀(i j:Int) (t u:Tok) (s:XD) (Q:Value->XD->Prop) (E:Value->XD->Prop),C i j->Q (.int (g i j) s.toks) {s with toks:=s.toks+1}->wpAny (model X.prog X.w) X.A (f (.int i t) (.int j u)) Q E s):
 OpR X f (rI C λi j=> .int (g i j)):=by
 intro f8 s σ H x y v u Q I rx ry h;obtain⟨i,j,rfl,rfl,hc,q⟩:=h;obtain⟨t,rfl⟩:=rx;obtain⟨t',rfl⟩:=ry;exact rule i j t t' s _ _ hc ⟨.int (g i j),H,I.tok _,⟨_,rfl⟩,q⟩
theorem PK{f:Value->Value->Sem Value}{g:Int->Int->Int}
 (rule:∀(i j:Int) (t u:Tok) (s:XD) (Q:Value->XD->Prop) (E:Value->XD->Prop),Q (.int (g i j) s.toks) {s with toks:=s.toks+1}->wpAny (model X.prog X.w) X.A (f (.int i t) (.int j u)) Q E s):
 OpR X f (DZ λi j=> .int (g i j)):=by
 intro f8 s σ H x y v u Q I rx ry h;obtain⟨i,j,rfl,rfl,q⟩:=h;obtain⟨t,rfl⟩:=rx;obtain⟨t',rfl⟩:=ry;exact rule i j t t' s _ _ ⟨.int (g i j),H,I.tok _,⟨_,rfl⟩,q⟩
theorem PJ{f:Value->Value->Sem Value}{g:Int->Int->Bool}
 (rule:∀(i j:Int) (t u:Tok) (s:XD) (Q:Value->XD->Prop) (E:Value->XD->Prop),Q (.bool (g i j)) s->wpAny (model X.prog X.w) X.A (f (.int i t) (.int j u)) Q E s):
 OpR X f (DZ λi j=> .bl (g i j)):=by
 intro f8 s σ H x y v u Q I rx ry h;obtain⟨i,j,rfl,rfl,q⟩:=h;obtain⟨t,rfl⟩:=rx;obtain⟨t',rfl⟩:=ry;exact rule i j t t' s _ _ ⟨.bl (g i j),H,I,rfl,q⟩
def N9(i j:Int):Prop:=0<j/\j<1073741824
def CMul(i j:Int):Prop:=(-(2 ^ 64)<i/\i<2 ^ 64)\/(-(2 ^ 64)<j/\j<2 ^ 64)
theorem CMul.ok{i j:Int}(h:CMul i j):IntMulOk i j:=by
 rcases h with⟨h1,h2⟩ | ⟨h1,h2⟩
 ·exact .of_left (intBits_le_64 h1 h2)
 ·exact .of_right (intBits_le_64 h1 h2)
theorem MM:OpR X (aaP .Add) (DZ λi j=> .int (i+j)):=PK λ_ _ _ _ _ _ _ q=>add_int q
theorem MT:OpR X (aaP .Sub) (DZ λi j=> .int (i - j)):=PK λ_ _ _ _ _ _ _ q=>sub_int q
theorem MR:OpR X (aaP .Mult) (rI CMul λi j=> .int (i*j)):=SG λ_ _ _ _ _ _ _ hc q=>mul_int q hc.ok
theorem Jn:OpR X (aaP .FloorDiv) (rI N9 λi j=> .int (i / j)):=SG λi j _ _ _ _ _ hc q=>by
 have h1:(0:Int)<j:=hc.1;have h2:j<1073741824:=hc.2;exact floordiv_int (by omega) (by rw[Int.fdiv_eq_ediv_of_nonneg i (by omega)];exact q) (.inl (PyProof.noPylong_small (by omega)))
theorem MQ:OpR X (aaP .Mod) (rI (λ_ j=>0<j) λi j=> .int (i % j)):=SG λi j _ _ _ _ _ hc q=>by
 have h1:(0:Int)<j:=hc;exact mod_int' (by omega) (by rw[Int.fmod_eq_emod_of_nonneg i (by omega)];exact q)
theorem Xe{f:Value->Sem Value}{g:Int->Int}
 (rule:∀(i:Int) (t:Tok) (s:XD) (Q:Value->XD->Prop) (E:Value->XD->Prop),Q (.int (g i) s.toks) {s with toks:=s.toks+1}->wpAny (model X.prog X.w) X.A (f (.int i t)) Q E s):
 Q9 X f (rU λi=> .int (g i)):=by
 intro f8 s σ H x v Q I rx h;obtain⟨i,rfl,q⟩:=h;obtain⟨t,rfl⟩:=rx;exact rule i t s _ _ ⟨.int (g i),H,I.tok _,⟨_,rfl⟩,q⟩
theorem NO:Q9 X (unaryOp .USub) (rU λi=> .int (-i)):=Xe λ_ _ _ _ _ q=>neg_int q
end
section
variable{X:Cx}{a b c:Expr}{ta tb tc:TE}{pos:Pos}
theorem LM{f8:List (Addr×Obj)}{σ:St}{H:Hp}{s:XD}{Q:VK}{k k':Bool}(I:Inv X f8 σ H s)(q:Q (.bl k) H)(e:k=k'):EP X f8 σ Q (.bool k') s:=by
 subst e;exact⟨.bl k,H,I,rfl,q⟩
theorem B7:OpR X (YZ .Lt) (DZ λi j=> .bl (decide (i<j))):=PJ λ_ _ _ _ _ _ _ q=>lt_int q
theorem pj:OpR X (YZ .LtE) (DZ λi j=> .bl (decide (i<=j))):=PJ λ_ _ _ _ _ _ _ q=>le_int q
theorem DG:OpR X (YZ .In) (λx y H Q=>∃i j,x= .str i/\y= .str j/\Q (.bl (!(aag j i 0 j.length 1).isEmpty)) H):=by
 intro f8 s σ H x y v u Q I rx ry h;obtain⟨i,j,rfl,rfl,q⟩:=h;obtain⟨t,rfl⟩:=rx;obtain⟨t',rfl⟩:=ry;exact in_str (LM I q rfl)
theorem OpR.or{f:Value->Value->Sem Value}{r r':R2}(h:OpR X f r)(h':OpR X f r'):OpR X f (λx y H Q=>r x y H Q\/r' x y H Q):=by
 intro f8 s σ H x y v u Q I rx ry q;rcases q with q | q
 ·exact h f8 s σ H x y v u Q I rx ry q
 ·exact h' f8 s σ H x y v u Q I rx ry q
theorem Gm(b:Expr){op:CmpOp}(h:op≠ .In:=by decide)(h2:op≠ .NotIn:=by decide):YY op b=false:=by
 have e1:(op==CmpOp.In)=false:=by cases op<;>first | rfl | exact aej rfl h
 have e2:(op==CmpOp.NotIn)=false:=by cases op<;>first | rfl | exact aej rfl h2
 cases b<;>simp[YY,e1,e2]
theorem JD{op:CmpOp}{r:R2}(ho:OpR X (YZ op) r)(ha:PE X a ta)(hb:PE X b tb)(hm:YY op b=false):PE X (.Compare a [op] [b] pos) (Qp r ta tb):=by
 intro f8 s σ H Q I h;exact wpAny_Compare1 (Li ha hb I h λv u s2 x y H2 I2 rx ry q=>ho f8 s2 σ H2 x y v u Q I2 rx ry q) hm
def Lb(t:TE):TT:=λσ H Q=>t σ H λx H'=>∃k,x= .bl k/\Q k H'
theorem JO{op:CmpOp}{r:R2}(ho:OpR X (YZ op) r)(ha:PE X a ta)(hb:PE X b tb)(hm:YY op b=false):PT X (.Compare a [op] [b] pos) (Lb (Qp r ta tb)):=by
 intro f8 s σ H Q I h;refine wpAny_isTrue_Compare1 (b_ (ha f8 s σ H _ I h) λv s1 ⟨x,H1,I1,r1,q1⟩=>b_ (hb f8 s1 σ H1 _ I1 q1) λu s2 ⟨y,H2,I2,r2,q2⟩=>
  b_ (ho f8 s2 σ H2 x y v u _ I2 r1 r2 q2) λc s3 ⟨z,H3,I3,r3,k,e,q3⟩=>?_) hm
 subst e;cases r3;exact Zu ⟨H3,I3,q3⟩
def A4(r r':R2)(ta tb tc:TE):TE:=λσ H Q=>ta σ H λx H1=>tb σ H1 λy H2=>r x y H2 λz H3=>∃k,z= .bl k/\
 (if k=true then tc σ H3 λw' H4=>r' y w' H4 Q else Q (.bl false) H3)
theorem GS{op AB:CmpOp}{r r':R2}(ho:OpR X (YZ op) r)(me:OpR X (YZ AB) r')(ha:PE X a ta)(hb:PE X b tb)(hc:PE X c tc)
 (hm:lastMarks [op,AB] [b,c]=false:=by with_unfolding_all rfl):PE X (.Compare a [op,AB] [b,c] pos) (A4 r r' ta tb tc):=by
 intro f8 s σ H Q I h;refine Compare_chain (b_ (ha f8 s σ H _ I h) λv s1 ⟨x,H1,I1,r1,q1⟩=>chain_link (b_ (hb f8 s1 σ H1 _ I1 q1) λu s2 ⟨y,H2,I2,r2,q2⟩=>
  b_ (ho f8 s2 σ H2 x y v u _ I2 r1 r2 q2) λd s3 ⟨z,H3,I3,r3,k,e,q3⟩=>?_)) hm
 subst e;cases r3;refine Zu ?_;cases k with
 |false=>exact ite_ff ⟨.bl false,H3,I3,rfl,q3⟩
 |true=>exact ite_tt (chain_last (b_ (hc f8 s3 σ H3 _ I3 q3) λw' s4 ⟨z',H4,I4,r4,q4⟩=>me f8 s4 σ H4 y z' u w' Q I4 r2 r4 q4))
theorem G4{op AB:CmpOp}{r r':R2}(ho:OpR X (YZ op) r)(me:OpR X (YZ AB) r')(ha:PE X a ta)(hb:PE X b tb)(hc:PE X c tc)
 (hm:lastMarks [op,AB] [b,c]=false:=by with_unfolding_all rfl):PT X (.Compare a [op,AB] [b,c] pos) (Lb (A4 r r' ta tb tc)):=by
 intro f8 s σ H Q I h;refine isTrue_chain (b_ (ha f8 s σ H _ I h) λv s1 ⟨x,H1,I1,r1,q1⟩=>test_link (b_ (hb f8 s1 σ H1 _ I1 q1) λu s2 ⟨y,H2,I2,r2,q2⟩=>
  b_ (ho f8 s2 σ H2 x y v u _ I2 r1 r2 q2) λd s3 ⟨z,H3,I3,r3,k,e,q3⟩=>?_)) hm
 subst e;cases r3;refine Zu ?_;cases k with
 |false=>
  obtain⟨k',e',q'⟩:=q3;cases e';exact ite_ff ⟨H3,I3,q'⟩
 |true=>
  refine ite_tt (test_last (b_ (hc f8 s3 σ H3 _ I3 q3) λw' s4 ⟨z',H4,I4,r4,q4⟩=>b_ (me f8 s4 σ H4 y z' u w' _ I4 r2 r4 q4) λd' s5 ⟨z2,H5,I5,r5,k2,e2,q5⟩=>?_));subst e2;cases r5;exact Zu ⟨H5,I5,q5⟩
def Og(K:XO)(x:V)(H:Hp)(k:Bool):Prop:=
 match x with
 | .non=>k=false
 | .bl b=>k=b
 | .int i=>k=(i !=0)
 | .str y=>y.length<=X6/\k=((y.length:Int) !=0)
 | .byt y=>y.size<=X6/\k=((y.size:Int) !=0)
 | .ref p=>(∃xs,SqL K H p xs/\k=!xs.isEmpty)\/(∃xs,SqT K H p xs/\k=!xs.isEmpty)\/∃aA,H p=some (.dK aA)/\k=!aA.isEmpty
 |_=>False
theorem Am{κ:Type}{aA:List (κ×V)}{vs:List (κ×Value)}(r:KV aA vs):(!vs.isEmpty)=!aA.isEmpty:=by
 cases r<;>rfl
theorem rE{xs:List V}{aK:List Value}(r:Vals xs aK):(!aK.toArray.isEmpty)=!xs.isEmpty:=by
 cases r<;>simp
theorem nV:(X6:Nat)<2 ^ 63:=by rw[Zx];decide
theorem NL:Q8 X (λx H Q=>∃k,Og X.K x H k/\Q k H):=by
 intro f8 s σ H x v Q I rx h;obtain⟨k,e,q⟩:=h;have hl:=nV;have hs:X6=16777216:=Zx;cases x with
 |non=>
  cases rx;have e':k=false:=e;subst e';exact truthy_none ⟨H,I,q⟩
 |bl b=>
  cases rx;have e':k=b:=e;subst e';exact Zu ⟨H,I,q⟩
 |int i=>
  obtain⟨t,rfl⟩:=rx;have e':k=(i !=0):=e;subst e';exact PySem.P.truthy_int ⟨H,I,q⟩
 |str y=>
  obtain⟨t,rfl⟩:=rx;obtain⟨hy,e'⟩:y.length<=X6/\k=((y.length:Int) !=0):=e;subst e';exact PySem.P.truthy_str (by omega) ⟨H,I.tok _,q⟩
 |byt y=>
  obtain⟨t,rfl⟩:=rx;obtain⟨hy,e'⟩:y.size<=X6/\k=((y.size:Int) !=0):=e;subst e';exact PySem.W.truthy_bytes (by omega) ⟨H,I.tok _,q⟩
 |ref p=>
  cases rx;have e':(∃xs,SqL X.K H p xs/\k=!xs.isEmpty)\/(∃xs,SqT X.K H p xs/\k=!xs.isEmpty)\/∃aA,H p=some (.dK aA)/\k=!aA.isEmpty:=e;rcases e' with⟨xs,hx,e'⟩ | ⟨xs,hx,e'⟩ | ⟨aA,hx,e'⟩
  ·subst e';obtain⟨aK,r,pl,hz⟩:=I.list hx;have hlen:=r.length;exact wpAny_truthy_list pl.isList (by simp only[XW];omega) ⟨H,I.tok _,by rw[rE r];exact q⟩
  ·subst e';obtain⟨aK,r,pl,hz⟩:=I.tuple hx;have hlen:=r.length;exact truthy_tuple pl (by simp only[XW];omega) ⟨H,I.tok _,by rw[rE r];exact q⟩
  ·subst e';obtain⟨hz,hS,vs,r,m⟩:aA.length<=X6/\(p==Zf)=false/\∃vs,KV aA vs/\s.heap.DictOf (bj X.prog X.w) p vs:=I.hok p _ hx;have hlen:aA.length=vs.length:=ZO r;exact wpAny_truthy_dict hS m (by omega) ⟨H,I.tok _,by rw[Am r];exact q⟩
 |_=>exact(show False from e).elim
theorem G5(ha:PE X a ta)(he:∀whole,isTrue a X.env whole=(do let v<-whole;standAt a.pos;holding [v] (truthy v))):
 PT X a (λσ H Q=>ta σ H λx H'=>∃k,Og X.K x H' k/\Q k H'):=by
 intro f8 s σ H Q I h;exact isTrue_plain (b_ (ha f8 s σ H _ I h) λv s1 ⟨x,H1,I1,r1,q1⟩=>NL f8 s1 σ H1 x v Q I1 r1 q1) (he _)
theorem vals1{x:V}{us:List Value}(r:Vals [x] us):∃u,us=[u]/\RelV x u:=by
 cases r with
 |cons r1 r2=>cases r2;exact⟨_,rfl,r1⟩
theorem vals2{x y:V}{us:List Value}(r:Vals [x,y] us):∃u w',us=[u,w']/\RelV x u/\RelV y w':=by
 cases r with
 |cons r1 r2=>
  cases r2 with
  |cons r3 r4=>cases r4;exact⟨_,_,rfl,r1,r3⟩
theorem EK:CallR X (.builtin "abs") (λxs H Q=>∃i,xs=[.int i]/\Q (.int (if i<0 then -i else i)) H):=by
 intro f8 s σ H xs us Q I r h;obtain⟨i,rfl,q⟩:=h;obtain⟨u,rfl,t,rfl⟩:=vals1 r;exact call_abs_int λu tk=>⟨.int (if i<0 then -i else i),H,I.tok _,⟨_,rfl⟩,q⟩
theorem CN(hc:X.calm=true):CallR X (.builtin "max") (λxs H Q=>∃i j,xs=[.int i, .int j]/\Q (.int (if j>i then j else i)) H):=by
 intro f8 s σ H xs us Q I r h;obtain⟨i,j,rfl,q⟩:=h;obtain⟨u,w',rfl,⟨t,rfl⟩,⟨t',rfl⟩⟩:=vals2 r;refine max_two_ints (I.ok.hd hc) λh' tk k=>⟨_,H,I.kept k,?_,q⟩
 by_cases hj:j>i
 ·rw[aeg hj,aeg hj];exact⟨_,rfl⟩
 ·rw[aeh hj,aeh hj];exact⟨_,rfl⟩
theorem CO(hc:X.calm=true):CallR X (.builtin "min") (λxs H Q=>∃i j,xs=[.int i, .int j]/\Q (.int (if j<i then j else i)) H):=by
 intro f8 s σ H xs us Q I r h;obtain⟨i,j,rfl,q⟩:=h;obtain⟨u,w',rfl,⟨t,rfl⟩,⟨t',rfl⟩⟩:=vals2 r;refine min_two_ints (I.ok.hd hc) λh' tk k=>⟨_,H,I.kept k,?_,q⟩
 by_cases hj:j<i
 ·rw[aeg hj,aeg hj];exact⟨_,rfl⟩
 ·rw[aeh hj,aeh hj];exact⟨_,rfl⟩
theorem uv:CallR X (.type "int") (λxs H Q=>(∃i,xs=[.int i]/\Q (.int i) H)\/∃k,xs=[.bl k]/\Q (.int (if k then 1 else 0)) H):=by
 intro f8 s σ H xs us Q I r h;rcases h with⟨i,rfl,q⟩ | ⟨k,rfl,q⟩
 ·obtain⟨u,rfl,t,rfl⟩:=vals1 r;exact call_int_int ⟨.int i,H,I,⟨_,rfl⟩,q⟩
 ·obtain⟨u,rfl,r1⟩:=vals1 r;cases r1;exact call_int_bool ⟨.int (if k then 1 else 0),H,I.tok _,⟨_,rfl⟩,q⟩
end
structure ObjM (h:Heap) (x dx C:Addr) (mA:Str->Option Value):Prop where
 obj:h.get? x=some (ack C dx)
 ns:h.Ns1 dx mA
 ne:dx≠x
theorem Dv{h:Heap}{dx:Addr}{mA:Str->Option Value}(n:h.Ns1 dx mA):∃od,h.get? dx=some od/\∀name,acB name od=some (mA name):=by
 obtain⟨o,es,ep,ho,hd,hk,_,hm⟩:=n;refine⟨o,ho,λname=>?_⟩;have e:=hm name;unfold nsFind findBy at e;rw[<-Array.find?_toList] at e;unfold acB;rw[hd]
 dsimp only
 split
 ·rename_i y q;rw[q] at e;exact aeo some e
 ·rename_i q;rw[q] at e;have a:es.toList.any (·.refKey)=false:=by
   rw[List.any_eq_false];intro y hy;obtain⟨z,t,C8⟩:=hk y (Array.mem_toList_iff.mp hy);simp[DictEntry.refKey,C8]
  have a':¬es.toList.any (·.refKey)=true:=by rw[a];exact Yi
  rw[aeh a'];exact aeo some e
theorem ObjM.look{h:Heap}{x dx C:Addr}{mA:Str->Option Value}(I:ObjM h x dx C mA):∃od,PySem.W.InstAt h x (ack C dx) C (some od)/\∀name,acB name od=some (mA name):=
 let ⟨od,ho,hl⟩:=Dv I.ns
 ⟨od,⟨I.obj,rfl,rfl,ho⟩,hl⟩
theorem RelO.some_of{v:V}{o:Option Value}(r:RelO (some v) o):∃u,o=some u/\RelV v u:=by
 cases o with
 |none=>exact(show False from r).elim
 |some u=>exact⟨u,rfl,r⟩
theorem RelO.none_of{o:Option Value}(r:RelO none o):o=none:=by
 cases o with
 |none=>rfl
 |some u=>exact(show False from r).elim
section
variable{P:Yd}{w:World}{H:Hp}{h:Heap}{a C dx:Addr}{fs:List (Str×V)}
theorem IX(hok:HOk P w H h)(e:H a=some (.ins C dx fs)):∃mA,ObjM h a dx C mA/\(∀f,RelO (fs.lookup f) (mA f))/\PySem.Within mA (fs.map (·.1))/\fs.length<=1000/\H dx=some (.own a):=by
 obtain⟨d,z,ne,ob,mA,n,r,q⟩:=(show ObjOk P w H h a (.ins C dx fs) from hok a _ e)
 exact⟨mA,⟨ob,n,ne⟩,r,q,z,d⟩
end
structure Cls (K:XO) (C:Addr):Prop where
 pg:adO K C Str.empty=true
 hd:PySem.W.hasDictIn K C=true
 po:PySem.W.plainOver K C=true
 sa:YR K (.ref C) "__setattr__"=some (some (.builtin "object.__setattr__"))
theorem Cls.get{K:XO}{C:Addr}(c:Cls K C)(f:Str):adO K C f=true:=c.pg
section
variable{X:Cx}{f8:List (Addr×Obj)}{σ:St}{H:Hp}{s:XD}{A:Yy}{E:Value->XD->Prop}{Q:Value->XD->Prop}{c:Value}{b:Bool}
inductive TyOf (K:XO) (H:Hp):V->Value->Prop where
 |non:TyOf K H .non (.type "NoneType")
 |bl (x:Bool):TyOf K H (.bl x) (.type "bool")
 |int (i:Int):TyOf K H (.int i) (.type "int")
 |str (x:Str):TyOf K H (.str x) (.type "str")
 |flt (x:UInt64):TyOf K H (.flt x) (.type "float")
 |lst {a:Addr}{xs:List V}(e:H a=some (.lst xs)):TyOf K H (.ref a) (.type "list")
 |frz {a:Addr}{o:Obj}{xs:List V}(e:H a=some (.frz o (.lst xs))):TyOf K H (.ref a) (.type "list")
 |tup {a:Addr}{xs:List V}(e:H a=some (.tup xs)):TyOf K H (.ref a) (.type "tuple")
 |dK {a:Addr}{aA:List (Key×V)}(e:H a=some (.dK aA)):TyOf K H (.ref a) (.type "dict")
 |dT {a:Addr}{aA:List (List Key×V)}(e:H a=some (.dT aA)):TyOf K H (.ref a) (.type "dict")
 |ins {a C dx:Addr}{fs:List (Str×V)}(e:H a=some (.ins C dx fs)) (cl:Cls K C) (ha:YR K (.ref C) "__class__"=some (some (.builtin "object.__class__")))
   (hn:PySem.W.specialIn K (.builtin "object.__class__") "__get__"=some (some (.builtin "getset_descriptor.__get__"))) (Uj:PySem.W.takesIn K (.builtin "object.__class__")=some true)
   (hm:ZN K C (.type "object")=some true):TyOf K H (.ref a) (.ref C)
theorem Dj{x:V}{u t:Value}(I:Inv X f8 σ H s)(rx:RelV x u)(ty:TyOf X.K H x t)(e:X3 X.K t c=some b)(h:∀tk,Q (.bool b) {s with toks:=tk}):
 wpAny (model X.prog X.w) A (call (.builtin "isinstance") [u,c]) Q E s:=by
 cases ty with
 |non=>cases (show u=YO from rx);exact YQ PySem.W.kitx_none I.kIn Y0 e (λz=>nomatch z) h
 |bl y=>cases (show u=Z7 y from rx);exact YQ PySem.W.kitx_bool I.kIn Y0 e (λz=>nomatch z) h
 |int i=>obtain⟨t,q⟩:=(show∃t,u=adh i t from rx);cases q;exact YQ PySem.W.kitx_int I.kIn Y0 e (λz=>nomatch z) h
 |str y=>obtain⟨t,q⟩:=(show∃t,u=adg y t from rx);cases q;exact YQ PySem.W.kitx_str I.kIn Y0 e (λz=>nomatch z) h
 |flt y=>obtain⟨t,q⟩:=(show∃t,u=Value.float y t from rx);cases q;exact YQ PySem.W.kitx_float I.kIn Y0 e (λz=>nomatch z) h
 | @lst a xs ea=>
   cases (show u=Ye a from rx);obtain⟨_,_,n,_,h1⟩:=(show ObjOk X.prog X.w H s.heap a (.lst xs) from I.hok a _ ea)
   exact YQ adB I.kIn ⟨_,h1,rfl⟩ e (λz=>nomatch z) h
 | @frz a ob xs ea=>
   cases (show u=Ye a from rx);obtain⟨_,_,_,n,_,h1⟩:=(show ObjOk X.prog X.w H s.heap a (.frz ob (.lst xs)) from I.hok a _ ea)
   exact YQ adB I.kIn ⟨_,h1,rfl⟩ e (λz=>nomatch z) h
 | @tup a xs ea=>
   cases (show u=Ye a from rx);obtain⟨_,_,_,p⟩:=(show ObjOk X.prog X.w H s.heap a (.tup xs) from I.hok a _ ea)
   obtain⟨o,h1,h2,_⟩:=p;exact YQ PySem.W.kitx_tuple I.kIn ⟨o,h1,h2⟩ e (λz=>nomatch z) h
 | @dK a aA ea=>
   cases (show u=Ye a from rx);obtain⟨_,_,vs,_,p⟩:=(show ObjOk X.prog X.w H s.heap a (.dK aA) from I.hok a _ ea)
   obtain⟨o,es,ep,h1,h2,_⟩:=p;exact YQ adC I.kIn ⟨o,h1,h2.1⟩ e (λz=>nomatch z) h
 | @dT a aA ea=>
   cases (show u=Ye a from rx);obtain⟨_,_,xs,_,o,es,ep,h1,h2,_⟩:=(show ObjOk X.prog X.w H s.heap a (.dT aA) from I.hok a _ ea)
   exact YQ adC I.kIn ⟨o,h1,h2.1⟩ e (λz=>nomatch z) h
 | @ins a C dx fs ea cl ha hn Uj hm=>
   cases (show u=Ye a from rx);obtain⟨mA,O,_⟩:=IX I.hok ea;obtain⟨od,J,_⟩:=O.look;exact YQ (PySem.W.kitx_own (cl.get _) cl.hd ha hn Uj hm) I.kIn J e (λz=>nomatch z) h
end
structure Room (k:Nat) (A:Yy):Prop where
 hd:A.handled=none
 dp:A.depth+3*k+5<aca
 un:A.units+16*k+200<cLine
theorem Room.mono{j k:Nat}{A:Yy}(r:Room k A)(h:j<=k):Room j A:=⟨r.hd,by have:=r.dp;omega,by have:=r.un;omega⟩
theorem Room.deeper{k:Nat}{A:Yy}(r:Room (k+1) A)(env:Env):Room k (A.deeper env):=
 ⟨r.hd,by have:=r.dp;show A.depth+1+3*k+5<_;omega,by have:=r.un;show A.units+3+16*k+200<_;omega⟩
theorem Room.depth{k:Nat}{A:Yy}(r:Room k A):A.depth<aca:=by have:=r.dp;omega
theorem Room.units{k:Nat}{A:Yy}(r:Room k A):A.units+64<cLine:=by have:=r.un;omega
def NJ:TA:=λ_ H Q=>Q [] H
def HC(ta:TE)(tr:TA):TA:=λσ H Q=>ta σ H λx H1=>tr σ H1 λxs H2=>Q (x::xs) H2
section
variable{X:Cx}{e:Expr}{es:List Expr}{te:TE}{t:TA}{pos:Pos}
theorem wH:PA X [] NJ:=λ_ _ _ _ H Q I h=>ZJ ⟨[],H,I, .nil,h⟩
theorem wG(ha:PE X e te)(hr:PA X es t)(hs:X2 (e::es) X.env=(false,eval e X.env)::X2 es X.env:=by rfl):PA X (e::es) (HC te t):=by
 intro pos f8 s σ H Q I h;rw[hs];show wpAny _ _ (spliced ((false,eval e X.env)::ZI pos (X2 es X.env))) _ _ s;refine Y4 (b_ (ha f8 s σ H _ I h) λu s1 ⟨x,H1,I1,r1,q1⟩=>?_);exact b_ (hr pos f8 s1 σ H1 _ I1 q1) λus s2 ⟨xs,H2,I2,r2,q2⟩=>⟨x::xs,H2,I2, .cons r1 r2,q2⟩
def S9(t:TA):TE:=λσ H Q=>t σ H λxs H1=>xs.length<=X6/\∀p,H1 p=none->Q (.ref p) (upd H1 p (.tup xs))
def S3(t:TA):TE:=λσ H Q=>t σ H λxs H1=>xs.length<=X6/\∀p,H1 p=none->Q (.ref p) (upd H1 p (.lst xs))
theorem Nb{x1}(h:PA X es t):PE X (.Tuple es x1 pos) (S9 t):=by
 intro f8 s σ H Q I hq;refine wpAny_Tuple_spliced (b_ (h pos f8 s σ H _ I hq) λus s1 ⟨xs,H1,I1,r,z,q⟩=>⟨by rw[<-r.length];exact z,?_⟩);have hf:H1 s1.heap.objs.size=none:=I1.hok.fresh (XM _);refine⟨.ref s1.heap.objs.size,upd H1 s1.heap.objs.size (.tup xs),I1.laid (t':=s1.toks) (λb u e=>XJ _ e) (XM _) ?_,rfl,q _ hf⟩;exact⟨z,us,r,⟨_,X8 _ rfl,rfl,_,rfl⟩⟩
theorem GY(h:PA X es t):PE X (.List es pos) (S3 t):=by
 intro f8 s σ H Q I hq;refine wpAny_List_spliced (b_ (h pos f8 s σ H _ I hq) λus s1 ⟨xs,H1,I1,r,z,q⟩=>⟨by rw[<-r.length];exact z,?_⟩);have hf:H1 s1.heap.objs.size=none:=I1.hok.fresh (XM _);refine⟨.ref s1.heap.objs.size,upd H1 s1.heap.objs.size (.lst xs),I1.laid (t':=s1.toks) (λb u e=>XJ _ e) (XM _) ?_,rfl,q _ hf⟩;exact⟨z,us,0,r,X8 _ rfl⟩
end
abbrev Sp:=List V->Hp->VK->XK->Prop
abbrev Bc:=List Env->Hp->XD->XK->Value->XD->Prop
structure Env0 (P:Yd) (w:World) (K:XO) (mg:Str->Option Value) (base:Heap) (A:Yy) (outer:List Env) (s:XD) (H:Hp):Prop where
 frames:A.frames=some outer
 mod:Mod K mg base
 bs:∀b o,base.get? b=some o->s.heap.get? b=some o/\H b=none
 bsz:base.objs.size<=s.heap.objs.size
 funs:s.heap.FunFrames base outer
 frf:∀b∈h7 outer,H b=none
 hok:HOk P w H s.heap
 bare:abZ s.gens
def CE(outer:List Env)(P:Yd)(w:World)(H:Hp)(s:XD)(Q:VK)(u:Value)(s':XD):Prop:=
 ∃v H',s'.os=s.os/\abZ s'.gens/\Un (h7 outer) [] H H' s.heap s'.heap/\HOk P w H' s'.heap/\RelV v u/\Q v H'
def CR(CX:Bc)(outer:List Env)(P:Yd)(w:World)(H:Hp)(s:XD)(Q:VK)(E:XK)(r:Result)(s':XD):Prop:=
 match r with
 | .ok (.ret u)=>CE outer P w H s Q u s'
 | .ok _=>False
 | .error e=>CX outer H s E e s'
structure FnOk (P:Yd) (w:World) (K:XO) (mg:Str->Option Value) (base:Heap) (CX:Bc) (k:Nat) (f:Addr) (fd:ZP) (ps:List Str) (sp:Sp):Prop where
 len:∀vs H Q E,sp vs H Q E->vs.length=ps.length
 run:∀(A:Yy) (outer:List Env) (s:XD) (H:Hp) (args:Args) (us:List Value) (vs:List V) (Q:VK) (E:XK),Room k A->Env0 P w K mg base A outer s H->adp s fd args (ps.zip us)->Vals vs us->sp vs H Q E->
  abm (model P w) A (.call (.ref f) args) (CR CX outer P w H s Q E) s
theorem FnOk.mono{P:Yd}{w:World}{K:XO}{mg:Str->Option Value}{base:Heap}{CX:Bc}{j k:Nat}{f:Addr}{fd:ZP}{ps:List Str}{sp:Sp}(F:FnOk P w K mg base CX j f fd ps sp)(h:j<=k):
 FnOk P w K mg base CX k f fd ps sp:=⟨F.len,λA outer s H args us vs Q E hr=>F.run A outer s H args us vs Q E (hr.mono h)⟩
section
variable{X:Cx}{f8:List (Addr×Obj)}{σ:St}{H:Hp}{s s':XD}
theorem Inv.env0(I:Inv X f8 σ H s):Env0 X.prog X.w X.K X.mg X.base X.A X.stack s H:=
 ⟨I.ok.frames,I.ok.mod,I.bs,Yc I.ok.bsz I.sz,I.stack,I.stkFree,I.hok,I.bare⟩
theorem Inv.after{Q:VK}{u:Value}(I:Inv X f8 σ H s)(h:CE X.stack X.prog X.w H s Q u s'):EP X f8 σ Q u s':=by
 obtain⟨v,H',os,bare,un,hok,r,q⟩:=h;obtain⟨hh,g,d,t,SI⟩:=s';obtain rfl:SI=s.os:=os;exact⟨v,H',I.call (h':=hh) (g':=g) (d':=d) (t':=t) (ch:=[]) un hok bare (λb z=>aej z (by simp)),r,q⟩
end
def Qj(sp:Sp)(Ko:List V)(E:XK)(t:TA):TE:=λσ H Q=>t σ H λvs H1=>sp (vs++Ko) H1 Q E
def Binds(K:XO)(fd:ZP)(ps:List Str)(ds:List Value):Prop:=
 ∀(s:XD) (us:List Value),K.In s.heap->(us++ds).length=ps.length->adp s fd ⟨us,[]⟩ (ps.zip (us++ds))
theorem Binds.all{K:XO}{fd:ZP}{ps:List Str}(h:∀us:List Value,us.length=ps.length->bindArgs fd ⟨us,[]⟩=pure (ps.zip us)):Binds K fd ps []:=λs us _ hl=>by
 rw[YF] at hl⊢;exact .of_eq (h us hl)
def Passes(CX:Bc)(X:Cx)(E:XK):Prop:=∀(f8:List (Addr×Obj)) (σ:St) (H:Hp) (s:XD) (e:Value) (s':XD),Inv X f8 σ H s->CX X.stack H s E e s'->X.xe e s'
section
variable{X:Cx}{CX:Bc}{k:Nat}{f:Addr}{fd:ZP}{ps:List Str}{sp:Sp}{Ko:List V}{ds:List Value}{E:XK}{x:Str}{p pos:Pos}{e:Expr}{es:List Expr}{t:TA}
theorem Ny{f8:List (Addr×Obj)}{σ:St}{H:Hp}{s:XD}{Q:VK}{us:List Value}{vs:List V}(F:FnOk X.prog X.w X.K X.mg X.base CX k f fd ps sp)(hr:Room k X.A)(hb:Binds X.K fd ps ds)(hd:Vals Ko ds)(hx:Passes CX X E)
 (I:Inv X f8 σ H s)(r:Vals vs us)(h:sp (vs++Ko) H Q E):wpAny (model X.prog X.w) X.A (call (.ref f) us) (EP X f8 σ Q) X.xe s:=by
 have r2:Vals (vs++Ko) (us++ds):=r.append hd;have hl:(us++ds).length=ps.length:=by rw[<-r2.length];exact F.len _ _ _ _ h
 refine wpAny_call (abj (F.run X.A X.stack s H ⟨us,[]⟩ (us++ds) (vs++Ko) Q E hr I.env0 (hb s us I.kIn hl) r2 h) λr s' hq=>?_);cases r with
 |error e=>exact hx f8 σ H s e s' I hq
 |ok fl=>
  cases fl with
  |ret u=>exact I.after hq
  |next=>exact Y_ hq
  |brk=>exact Y_ hq
  |cont=>exact Y_ hq
theorem JC(F:FnOk X.prog X.w X.K X.mg X.base CX k f fd ps sp)(hr:Room k X.A)(hg:Gl X x)(hm:X.mg x=some (.ref f))(hk:Zl X.K (.ref f)=true)(hb:Binds X.K fd ps ds)(hd:Vals Ko ds)(hx:Passes CX X E)
 (ha:PA X (e::es) t)(md:(x==("__debug__":Str))=false:=by decide)(he:X2 (e::es) X.env=(false,eval e X.env)::X2 es X.env:=by rfl)(kX:(ZI pos (X2 es X.env)).any (·.1)=false:=by rfl):
 PE X (.Call (.Name x p) (e::es) [] pos) (Qj sp Ko E t):=by
 intro f8 s σ H Q I h;refine aaa (mr I hg hm ?_ md);refine adv (h₀:=X.base) I.ok.mod.kin hk (b_ (ha pos f8 s σ H _ I h) λus s1 ⟨vs,H1,I1,r,q⟩=>⟨I1.kIn,?_⟩) he kX;exact Ny F hr hb hd hx I1 r q
end
section
variable{ks:List Str}
end
structure FnScope (N P:List Str) (sc:Scope):Prop where
 kind:sc.kind= .function
 co:sc.isCoroutine=false
 gen:sc.isGenerator=false
 nd:N.Nodup
 pre:N.take P.length=P
 par:∀x∈P,sc.names.lookup x=some .local\/sc.names.lookup x=some .cell
 nofree:∀y∈sc.names,y.2≠ .free
theorem uu{abN:Str->Option abk}{x:Str}:∀{binds:List (Str×Value)}{m:Str->Option Value},(∀v,(x,v)∉binds)->bindL abN binds m x=m x
 |[],_,_=>rfl
 |(n,v)::r,m,h=>by
  unfold bindL;rw[uu λw hw=>h w (Xz _ hw)];split
  ·have:x≠n:=by rintro rfl;exact h v XA
   simp[this]
  ·rfl
theorem uq{abN:Str->Option abk}{x:Str}:∀{binds:List (Str×Value)}{m:Str->Option Value},(∀v,(x,v)∉binds)->bindC abN binds m x=m x
 |[],_,_=>rfl
 |(n,v)::r,m,h=>by
  unfold bindC;rw[uq λw hw=>h w (Xz _ hw)];split
  ·rfl
  ·have:x≠n:=by rintro rfl;exact h v XA
   simp[this]
theorem ur{abN:Str->Option abk}{x:Str}{v:Value}:∀{P:List Str}{vs:List Value}{i:Nat}{m:Str->Option Value},P.Nodup->P[i]? =some x->vs[i]? =some v->abN x=some .local->
 bindL abN (P.zip vs) m x=some v
 |[],_,_,_,_,h,_,_=>by simp at h
 |_::_,[],_,_,_,_,h,_=>by simp at h
 |p::P,w::vs,0,m,nd,h1,h2,hk=>by
  simp at h1 h2;subst h1;subst h2;show bindL abN ((p,w)::P.zip vs) m p=_;unfold bindL;rw[uu λv hv=>(Yz.mp nd).1 (abC hv).1,aeg hk];simp
 |p::P,w::vs,i+1,m,nd,h1,h2,hk=>by
  show bindL abN ((p,w)::P.zip vs) m x=_;unfold bindL;exact ur (i:=i) (Yz.mp nd).2 (by simpa using h1) (by simpa using h2) hk
theorem uo{abN:Str->Option abk}{x:Str}{v:Value}:∀{P:List Str}{vs:List Value}{i:Nat}{m:Str->Option Value},P.Nodup->P[i]? =some x->vs[i]? =some v->abN x≠some .local->
 bindC abN (P.zip vs) m x=some v
 |[],_,_,_,_,h,_,_=>by simp at h
 |_::_,[],_,_,_,_,h,_=>by simp at h
 |p::P,w::vs,0,m,nd,h1,h2,hk=>by
  simp at h1 h2;subst h1;subst h2;show bindC abN ((p,w)::P.zip vs) m p=_;unfold bindC;rw[uq λv hv=>(Yz.mp nd).1 (abC hv).1,aeh hk];simp
 |p::P,w::vs,i+1,m,nd,h1,h2,hk=>by
  show bindC abN ((p,w)::P.zip vs) m x=_;unfold bindC;exact uo (i:=i) (Yz.mp nd).2 (by simpa using h1) (by simpa using h2) hk
def start(N:List Str)(vs:List V):St:=vs.map some++XT (N.length - vs.length) none
def aY(CX:Bc)(P:Yd)(w:World)(K:XO)(mg:Str->Option Value)(base:Heap)(N:List Str)(qual:Str)(scope:Scope)(f:Addr)(cd:Value)(A:Yy)(outer:List Env)(s:XD)(H:Hp)(E:XK):Cx where
 prog:=P
 w:=w
 K:=K
 mg:=mg
 base:=base
 A:=A.deeper (Zz qual scope s.heap.objs.size f cd)
 N:=N
 aer:=s
 aeq:=H
 env:=Zz qual scope s.heap.objs.size f cd
 outer:=outer
 stack:=Zz qual scope s.heap.objs.size f cd::outer
 ex:=[]
 calm:=true
 fn:=λ_=>true
 pn:=[]
 xe:=λe s'=>wpAny (model P w) (A.deeper (Zz qual scope s.heap.objs.size f cd)) (leaving (Zz qual scope s.heap.objs.size f cd) e) (λ_ Nz=>CX outer H s E e Nz) (λe' Nz=>CX outer H s E e' Nz) s'
theorem xU{sc:Scope}{n:Nat}{x:Str}(h:sc.names.lookup x=some .cell):∃c,(adf n sc.names []).lookup x=some c:=by
 have q:=abe sc.names n [] (.inl h);exact YN.mp q
theorem uL{CX:Bc}{P:Yd}{w:World}{K:XO}{mg:Str->Option Value}{base:Heap}{N ps:List Str}{qual:Str}{scope:Scope}{f:Addr}{cd:Value}{A:Yy}{outer:List Env}{s s1:XD}{H:Hp}{E:XK}{us:List Value}{vs:List V}
 (S:FnScope N ps scope)(hd:A.handled=none)(e0:Env0 P w K mg base A outer s H)(hl:vs.length=ps.length)(r:Vals vs us)
 (x:InCallC s s.heap.objs.size (bindL (Zz qual scope s.heap.objs.size f cd).kindOf (ps.zip us) λ_=>none) (adf (s.heap.objs.size+1) scope.names []) (bindC (Zz qual scope s.heap.objs.size f cd).kindOf (ps.zip us) λ_=>none) s1):
 Inv (aY CX P w K mg base N qual scope f cd A outer s H E) [] (start N vs) H s1:=by
 have kX:ps.length<=N.length:=by have:=aeo List.length S.pre;rw[abp] at this;omega
 obtain⟨h1,tk,rfl,hk⟩:=x.done;have Pz:∀b:Addr,b∉(aY CX P w K mg base N qual scope f cd A outer s H E).ex:=λb z=>aej (show b∈([]:List Addr) from z) (by simp);refine⟨⟨e0.mod,S.kind,rfl,rfl,XM _,λy z c h1 h2=>?_,λy hy=>?_,λy c _ h=>?_,λ_=>hd,adq e0.frames, .inr ⟨rfl,rfl⟩,λb z=>aej z (Pz b),e0.bs,e0.bsz,λb _ _=>Pz b,λb z=>aej z (Pz b),e0.funs,e0.frf⟩,
  rfl,e0.bare,Un.kept hk,⟨_,x.toInCall.ns,λi y v h1 h2 h3=>?_⟩,λy c h=>⟨_,x.cell y c h⟩,e0.hok.fresh (XM _),λy c h=>?_,λp hp=>aej (show p∈([]:List (Addr×Obj)) from hp) (by simp),e0.hok.kept hk,?_⟩
 ·exact name_of_addr x.apart (Zr h1) (Zr h2)
 ·have hy:scope.names.lookup y=some .cell\/scope.names.lookup y=some .free:=hy;rcases hy with hy | hy
  ·exact xU hy
  ·exact aej rfl (S.nofree _ (Zr hy))
 ·exact Y9 (x.above y c (Zr h))
 ·have hi:i<vs.length:=by
   unfold start at h2;by_cases hi:i<vs.length
   ·exact hi
   ·rw[YD (by simpa using hi)] at h2;rw[Y8] at h2;split at h2<;>cases h2
  have ha:vs[i]? =some v:=by
   unfold start at h2;rw[Ym (by simpa using hi),XX] at h2;cases e:vs[i]? with
   |none=>rw[e] at h2;cases h2
   |some a=>rw[e] at h2;cases h2;rfl
  obtain⟨u,hu,rv⟩:=r.get ha;have hp:ps[i]? =some y:=by
   rw[<-S.pre,List.getElem?_take_of_lt (by omega)];exact h1
  have Uw:ps.Nodup:=by rw[<-S.pre];exact S.nd.sublist (List.take_sublist _ _)
  refine⟨u,rv,?_⟩;rcases S.par y (X7 hp) with k | k
  ·exact .inl ⟨k,ur Uw hp hu k⟩
  ·obtain⟨c,e⟩:=xU (n:=s.heap.objs.size+1) k;refine .inr ⟨.inl k,c,e,?_⟩;have q:=x.cell y c e;rw[uo Uw hp hu (by show scope.names.lookup y≠_;rw[k];decide)] at q;exact q
 ·exact e0.hok.fresh (Y9 (x.above y c (Zr h)))
 ·unfold start;show _=N.length;rw[XR,XB,abD];omega
theorem Kr{CX:Bc}{P:Yd}{w:World}{K:XO}{mg:Str->Option Value}{base:Heap}{k:Nat}{f:Addr}{name qual:Str}{params:Arguments}{body:List Stmt}{scope:Scope}{dV kV doc pm bY ct oc:Value}{an od:Option Addr}
 {Em:Array (Option Value)}{N ps:List Str}{sp:Sp}(lk:K.lookup f=some ⟨oc,od, .func (Y5 name qual params body scope dV kV doc pm an bY ct),Em⟩)(rm:aad K bY qual=true)(S:FnScope N ps scope)
 (len:∀vs H Q E,sp vs H Q E->vs.length=ps.length)
 (ir:∀(A:Yy) (outer:List Env) (s:XD) (H:Hp) (vs:List V) (Q:VK) (E:XK),Room k (A.deeper (Zz qual scope s.heap.objs.size f bY))->sp vs H Q E->
  ∃t,PSs (aY CX P w K mg base N qual scope f bY A outer s H E) body t/\t {nx:=λ_ H'=>Q .non H',rt:=Q} (start N vs) H):
 FnOk P w K mg base CX (k+1) f (Y5 name qual params body scope dV kV doc pm an bY ct) ps sp:=by
 refine⟨len,λA outer s H args us vs Q E hr e0 hb r xI=>?_⟩;have hl:=len _ _ _ _ xI;have KX:K.In s.heap:=e0.mod.kin.keeps λb o e=>(e0.bs b o e).1;have lim:s.heap.NoLimit:=e0.mod.nolimit.keeps λb o e=>(e0.bs b o e).1;have FA:∀y∈ps.zip us,scope.names.lookup y.1=some .local\/(scope.names.lookup y.1=some .cell/\((adf (s.heap.objs.size+1) scope.names []).lookup y.1).isSome=true):=λ⟨n,v⟩ hy=>by
  rcases S.par n (abC hy).1 with q | q
  ·exact .inl q
  ·exact .inr ⟨q,abe _ _ _ (.inl q)⟩
 refine codeAny_call_function hr.depth (KX _ _ lk) rfl S.co S.gen rfl (adu KX rm) (hb _ _ _ _ ?_);refine ads S.kind FA λenv he s1 x=>?_;subst he;refine⟨lim.keeps x.toInCall.keep,codeAny_func ?_⟩;obtain⟨t,ht,hq⟩:=ir A outer s H vs Q E (hr.deeper _) xI;have I:Inv (aY CX P w K mg base N qual scope f bY A outer s H E) [] (start N vs) H s1:=uL S hr.hd e0 hl r x;refine YV (ht [] s1 (start N vs) H _ I hq) (λfl s' hs=>?_) λe s' hs=>hs;have fin:∀{σ':St}{H':Hp}{v:V}{u:Value},Inv (aY CX P w K mg base N qual scope f bY A outer s H E) [] σ' H' s'->RelV v u->Q v H'->CE outer P w H s Q u s':=
  λ{σ' H' v u} J rv q=>⟨v,H',J.os,J.bare,J.base,J.hok,rv,q⟩
 cases fl with
 |ret u=>
  obtain⟨v,σ',H',J,rv,q⟩:=hs;exact fin J rv q
 |next=>
  obtain⟨σ',H',J,q⟩:=hs;exact fin (v:=V.non) (u:=YO) J rfl q
 |brk=>
  obtain⟨_,_,_,q⟩:=hs;exact Y_ q
 |cont=>
  obtain⟨_,_,_,q⟩:=hs;exact Y_ q
section
variable{X:Cx}{x:Str}{p pos:Pos}{e:Expr}{es:List Expr}{t:TA}{id T:String}{r:List V->Hp->VK->Prop}
def SY(r:List V->Hp->VK->Prop)(t:TA):TE:=λσ H Q=>t σ H λvs H1=>r vs H1 Q
theorem GR(hc:CallR X (.builtin id) r)(hg:Gl X x)(hm:X.mg x=none)(hv:YJ x=some (.builtin id))(ha:PA X (e::es) t)(hn:x≠"__name__":=by decide)(md:(x==("__debug__":Str))=false:=by decide)
 (he:X2 (e::es) X.env=(false,eval e X.env)::X2 es X.env:=by rfl)(kX:(ZI pos (X2 es X.env)).any (·.1)=false:=by rfl):PE X (.Call (.Name x p) (e::es) [] pos) (SY r t):=by
 intro f8 s σ H Q I h;refine aaa (jL I hg hm hv ?_ hn md);exact abH (b_ (ha pos f8 s σ H _ I h) λus s1 ⟨vs,H1,I1,r1,q1⟩=>hc f8 s1 σ H1 vs us Q I1 r1 q1) he kX
theorem DO(hc:CallR X (.type T) r)(hg:Gl X x)(hm:X.mg x=none)(hv:YJ x=some (.type T))(ha:PA X (e::es) t)(hn:x≠"__name__":=by decide)(md:(x==("__debug__":Str))=false:=by decide)
 (he:X2 (e::es) X.env=(false,eval e X.env)::X2 es X.env:=by rfl)(kX:(ZI pos (X2 es X.env)).any (·.1)=false:=by rfl):PE X (.Call (.Name x p) (e::es) [] pos) (SY r t):=by
 intro f8 s σ H Q I h;refine aaa (jL I hg hm hv ?_ hn md);exact Zi (b_ (ha pos f8 s σ H _ I h) λus s1 ⟨vs,H1,I1,r1,q1⟩=>hc f8 s1 σ H1 vs us Q I1 r1 q1) he kX
end
end L2
namespace HT
open PySem PyProof.Rows
section
variable{prog:Yd}{w:World}{A:Yy}{E:Value->XD->Prop}{s:XD}
theorem cat_tup{t b:Addr}{vs ws:List Value}{Q:Value->XD->Prop}(ht:IsTup s.heap t vs.toArray)(hb:IsTup s.heap b ws.toArray)(hv:vs≠[])
 (h1:ws=[]->Q (.ref t) s)(h2:ws≠[]->Q (.ref s.heap.objs.size) {s with heap:=s.heap.push {cls:= .type "tuple",data:= .seq (vs++ws).toArray} })
 (hsz:vs.length+ws.length<=X6):wpAny (model prog w) A (aaP .Add (.ref t) (.ref b)) Q E s:=by
 obtain⟨⟨cls,dd,data,sl⟩,ho,hc,n,hd⟩:=id ht;obtain⟨⟨cls2,Io,data2,QZ⟩,Mc,Kx,n2,hd2⟩:=id hb;simp only at hc hd Kx hd2;subst hc hd Kx hd2;have e:vs.toArray++ws.toArray=(vs++ws).toArray:=by simp
 by_cases hw:ws=[]
 ·exact concat_meets ⟨_,ho,rfl⟩ ⟨_,Mc,rfl⟩ ac2 adX abf aba (aaX _ _)
   (tuple_addW1 t b vs.toArray ws.toArray n n2 dd Io sl QZ (by simpa using hv) (by simp[hw])) ⟨ho,Mc,h1 hw⟩
 ·refine concat_meets ⟨_,ho,rfl⟩ ⟨_,Mc,rfl⟩ ac2 adX abf aba (aaX _ _)
   (tuple_addW2 t b vs.toArray ws.toArray n n2 dd Io sl QZ (by simpa using hv) (by simpa using hw) (by rw[XW,XW];exact hsz)) ⟨ho,Mc,?_⟩
  rw[e];exact h2 hw
def sIx(n d:Nat):Option Int->Nat
 |none=>d
 |some v=>if v<0 then(v+(n:Int)).toNat else min v.toNat n
end
end HT
namespace L2
open PySem PySem.Spec PyProof.Rows
abbrev TO:=St->Hp->(Option Int->Hp->Prop)->Prop
theorem intsAre_of{ns:List Int}:∀{us:List Value},Vals (ns.map V.int) us->abr us ns:=by
 induction ns with
 |nil=>intro us r;rw[Zo] at r;cases r;exact .nil
 |cons n ns ih=>
  intro us r;rw[XN] at r;cases r with
  |cons r1 r2=>
   obtain⟨t,e⟩:=r1;subst e;exact .cons n t (ih r2)
section
variable{X:Cx}{p2:Pos}
def PZ(K:XO):R2:=λx y H Q=>∃a b xs ys,x= .ref a/\y= .ref b/\SqT K H a xs/\SqT K H b ys/\xs≠[]/\xs.length+ys.length<=X6/\
 (ys=[]->Q (.ref a) H)/\(ys≠[]->∀p,H p=none->Q (.ref p) (upd H p (.tup (xs++ys))))
theorem Vals.nil_iff{xs:List V}{us:List Value}(r:Vals xs us):us=[]↔xs=[]:=by
 cases r with
 |nil=>simp
 |cons _ _=>simp
theorem Jm:OpR X (aaP .Add) (PZ X.K):=by
 intro f8 s σ H x y v u Q I rx ry h;obtain⟨a,b,xs,ys,rfl,rfl,ha,hb,hx,hz,q1,q2⟩:=h;cases rx;cases ry;obtain⟨aK,r1,p1,_⟩:=I.tuple ha;obtain⟨gG,r2,p2,_⟩:=I.tuple hb;refine HT.cat_tup p1 p2 (λz=>hx (r1.nil_iff.mp z)) (λz=>⟨.ref a,H,I,rfl,q1 (r2.nil_iff.mp z)⟩) (λz=>?_) (by rw[<-r1.length,<-r2.length];exact hz);refine⟨.ref s.heap.objs.size,_,I.laid (t':=s.toks) (o:= .tup (xs++ys)) (λb ob q=>XJ _ q) (XM _) ?_,rfl,q2 (λw=>z (r2.nil_iff.mpr w)) _ (I.hok.fresh (XM _))⟩;exact⟨by rw[XR];exact hz,_,r1.append r2,IsTup.new _ _⟩
end
def Mu(n:Nat)(i:Int):Option Nat:=if 0<=i then(if i<n then some i.toNat else none) else if -(n:Int)<=i then some (i+n).toNat else none
def atI{α:Type}(xs:List α)(i:Int):Option α:=(Mu xs.length i).bind λj=>xs[j]?
theorem Ja{n:Nat}{i:Int}{j:Nat}(h:Mu n i=some j):seqIndex? i n=some j/\j<n/\ -(n:Int)<=i/\i<n:=by
 unfold Mu at h;by_cases h0:0<=i
 ·rw[aeg h0] at h;by_cases h1:i<n
  ·rw[aeg h1] at h;have e:i.toNat=j:=Yn h;exact⟨by rw[seqIndex_of h0 h1,e],by omega,by omega,h1⟩
  ·rw[aeh h1] at h;cases h
 ·rw[aeh h0] at h;by_cases h1: -(n:Int)<=i
  ·rw[aeg h1] at h;have e:(i+n).toNat=j:=Yn h;exact⟨by rw[seqIndex_neg (by omega) h1,e],by omega,h1,by omega⟩
  ·rw[aeh h1] at h;cases h
theorem vq{α:Type}{xs:List α}{i:Int}{v:α}(h:atI xs i=some v):∃j,seqIndex? i xs.length=some j/\xs[j]? =some v/\j<xs.length/\ -(xs.length:Int)<=i/\i<xs.length:=by
 unfold atI at h;cases e:Mu xs.length i with
 |none=>rw[e] at h;cases h
 |some j=>
  rw[e] at h;obtain⟨h1,h2,h3,h4⟩:=Ja e;exact⟨j,h1,h,h2,h3,h4⟩
def kq(b:Expr):Prop:=∀o i,subscripted b false o i=operate [o,i] (getItem o i)
def Oc(X:Cx)(r:R2):Prop:=
 ∀(value slice:Expr) (f8:List (Addr×Obj)) (s:XD) (σ:St) (H:Hp) (x y:V) (v u:Value) (Q:VK),Inv X f8 σ H s->RelV x v->RelV y u->r x y H Q->
  subscripted slice false v u=operate [v,u] (getItem v u)->wpAny (model X.prog X.w) X.A (subscriptTail value slice v u) (EP X f8 σ Q) X.xe s
def Od(X:Cx)(id:String)(r:V->List V->Hp->VK->Prop):Prop:=
 ∀(f8:List (Addr×Obj)) (s:XD) (σ:St) (H:Hp) (x:V) (xs:List V) (v:Value) (us:List Value) (Q:VK),Inv X f8 σ H s->RelV x v->Vals xs us->r x xs H Q->
  wpAny (model X.prog X.w) X.A (call (.builtin id) (v::us)) (EP X f8 σ Q) X.xe s
section
variable{X:Cx}{a b:Expr}{ta tb:TE}{pos:Pos}
theorem PR{r:R2}(hr:Oc X r)(ha:PE X a ta)(hb:PE X b tb)(hs:kq b):PE X (.Subscript a b pos) (Qp r ta tb):=by
 intro f8 s σ H Q I h;exact Subscript_ (Li ha hb I h λv u s2 x y H2 I2 rx ry q=>hr a b f8 s2 σ H2 x y v u Q I2 rx ry q (hs _ _))
def Nv(K:XO):R2:=λx y H Q=>∃p xs i v,x= .ref p/\y= .int i/\SqL K H p xs/\atI xs i=some v/\Q v H
def P7(K:XO):R2:=λx y H Q=>∃p xs i v,x= .ref p/\y= .int i/\SqT K H p xs/\atI xs i=some v/\Q v H
def P6:R2:=λx y H Q=>∃z i c,x= .str z/\y= .int i/\z.length<=X6/\atI z.cps.toList i=some c/\Q (.str ⟨#[c]⟩) H
theorem BU:Oc X (Nv X.K):=by
 intro value slice f8 s σ H x y v u Q I rx ry h hs;obtain⟨p,xs,i,z,rfl,rfl,hq,he,q⟩:=h;cases rx;obtain⟨t,rfl⟩:=ry;obtain⟨aK,r,pl,hz⟩:=I.list hq;obtain⟨j,h1,h2,h3,h4,h5⟩:=vq he;obtain⟨w,ew,xK⟩:=r.get h2;have hl:=r.length;have hn:=nV;have fin:EP X f8 σ Q w s:=⟨z,H,I,xK,q⟩
 by_cases h0:0<=i
 ·have hj:i.toNat=j:=by
   rw[seqIndex_of h0 h5] at h1;exact Yn h1
  exact item_listR pl.isList h0 (by omega) (by rw[hj];simpa using ew) fin hs
 ·have hj:(i+(aK.toArray.size:Int)).toNat=j:=by
   rw[seqIndex_neg (by omega) h4] at h1;rw[XW,<-hl];exact Yn h1
  exact ad_ (x:=w) pl.isList.typeIs slot_list_getitem.lookup
   (wpAny_getItem_list_neg (Q:=λr s'=>r=w/\EP X f8 σ Q r s') pl.isList (by omega) (by rw[XW]<;>omega) (by omega) (by rw[hj];simpa using ew) ⟨rfl,fin⟩) hs
theorem Mw:Oc X (P7 X.K):=by
 intro value slice f8 s σ H x y v u Q I rx ry h hs;obtain⟨p,xs,i,z,rfl,rfl,hq,he,q⟩:=h;cases rx;obtain⟨t,rfl⟩:=ry;obtain⟨aK,r,pl,hz⟩:=I.tuple hq;obtain⟨j,h1,h2,h3,h4,h5⟩:=vq he;obtain⟨w,ew,xK⟩:=r.get h2;have hl:=r.length;have hn:=nV;have fin:EP X f8 σ Q w s:=⟨z,H,I,xK,q⟩
 exact ad_ (x:=w) pl.typeIs slot_tuple_getitem.lookup
  (getItem_tuple (j:=j) (Q:=λr s'=>r=w/\EP X f8 σ Q r s') pl (by omega) (by omega) (by rw[XW,<-hl];exact h1) (by simpa using ew) ⟨rfl,fin⟩) hs
theorem Mv:Oc X P6:=by
 intro value slice f8 s σ H x y v u Q I rx ry h hs;obtain⟨z,i,c,rfl,rfl,hz,he,q⟩:=h;obtain⟨t,rfl⟩:=rx;obtain⟨t',rfl⟩:=ry;obtain⟨j,h1,h2,h3,h4,h5⟩:=vq he;have hl:z.cps.toList.length=z.length:=by simp[Str.length]
 rw[hl] at h1 h4 h5;have hn:=nV;exact tail_any (typeIs_str s z t) slot_str_getitem.lookup (getItem_str (c:=c) (by
  have e1:decide (i< -(2 ^ 63:Int))=false:=aem (by omega);have e2:decide (i>=2 ^ 63)=false:=aem (by omega);rw[e1,e2,Bool.or_false]) (by rw[h1];simpa using h2) ⟨.str ⟨#[c]⟩,H,I.tok _,⟨_,rfl⟩,q⟩) hs
def oW:V->Bool
 | .non=>true
 | .bl _=>true
 | .int _=>true
 | .str _=>true
 |_=>false
def HQ:V->V->Bool
 | .non, .non=>true
 | .bl a, .bl b=>a==b
 | .bl a, .int b=>(if a then 1 else 0)==b
 | .int a, .bl b=>a==(if b then 1 else 0)
 | .int a, .int b=>a==b
 | .str a, .str b=>a==b
 |_,_=>false
theorem LI{A:Yy}{s:XD}{y x:V}{u v:Value}(ry:RelV y u)(rx:RelV x v)(fy:oW y=true)(fx:oW x=true):SeqAt.EqAt A s u v (HQ y x):=by
 cases y with
 |non=>
  cases ry;cases x with
  |non=>cases rx;exact SeqAt.EqAt.same _
  |bl b=>cases rx;exact SeqAt.EqAt.none_bool b
  |int b=>obtain⟨t,rfl⟩:=rx;exact SeqAt.EqAt.none_int b t
  |str b=>obtain⟨t,rfl⟩:=rx;exact SeqAt.EqAt.none_str b t
  |_=>exact aej (show false=true from fx) Yi
 |bl a=>
  cases ry;cases x with
  |non=>cases rx;exact SeqAt.EqAt.bool_none a
  |bl b=>cases rx;exact SeqAt.EqAt.bool_bool a b
  |int b=>obtain⟨t,rfl⟩:=rx;exact SeqAt.EqAt.bool_int a b t
  |str b=>obtain⟨t,rfl⟩:=rx;exact SeqAt.EqAt.bool_str a b t
  |_=>exact aej (show false=true from fx) Yi
 |int a=>
  obtain⟨t',rfl⟩:=ry;cases x with
  |non=>cases rx;exact SeqAt.EqAt.int_none a t'
  |bl b=>cases rx;exact SeqAt.EqAt.int_bool a t' b
  |int b=>obtain⟨t,rfl⟩:=rx;exact SeqAt.EqAt.int_int a t' b t
  |str b=>obtain⟨t,rfl⟩:=rx;exact ac5 a t' b t
  |_=>exact aej (show false=true from fx) Yi
 |str a=>
  obtain⟨t',rfl⟩:=ry;cases x with
  |non=>cases rx;exact SeqAt.EqAt.str_none a t'
  |bl b=>cases rx;exact SeqAt.EqAt.str_bool a t' b
  |int b=>obtain⟨t,rfl⟩:=rx;exact ac4 a t' b t
  |str b=>obtain⟨t,rfl⟩:=rx;exact SeqAt.EqAt.str_str a t' b t
  |_=>exact aej (show false=true from fx) Yi
 |_=>exact aej (show false=true from fy) Yi
def IB(x:V)(u:Value):Bool:=match u with
 | .none=>HQ .non x
 | .bool b=>HQ (.bl b) x
 | .int i _=>HQ (.int i) x
 | .str z _=>HQ (.str z) x
 |_=>false
theorem Fc{x y:V}{u:Value}(r:RelV y u)(f:oW y=true):IB x u=HQ y x:=by
 cases y with
 |non=>cases r;rfl
 |bl b=>cases r;rfl
 |int i=>obtain⟨t,rfl⟩:=r;rfl
 |str z=>obtain⟨t,rfl⟩:=r;rfl
 |_=>exact aej (show false=true from f) Yi
theorem vl{x:V}:∀{xs:List V}{us:List Value},Vals xs us->xs.all oW=true->us.any (IB x)=xs.any λy=>HQ y x
 |_,_, .nil,_=>rfl
 |y::xs,u::us, .cons r t,f=>by
  rw[aaS,X5] at f;rw[aaR,aaR,Fc r f.1,vl t f.2]
theorem rP{A:Yy}{s:XD}{x:V}{v:Value}(rx:RelV x v)(fx:oW x=true):∀{xs:List V}{us:List Value},Vals xs us->xs.all oW=true->∀u∈us,SeqAt.EqAt A s u v (IB x u)
 |_,_, .nil,_=>λu hu=>by cases hu
 |y::xs,u::us, .cons r t,f=>λu' hu=>by
  rw[aaS,X5] at f;rcases XF.mp hu with rfl | hu
  ·rw[Fc r f.1];exact LI r rx f.1 fx
  ·exact rP rx fx t f.2 u' hu
def QU(x:V)(xs:List V):Bool:=xs.any λy=>HQ y x
def UD(K:XO)(neg:Bool):R2:=λx y H Q=>∃p xs,y= .ref p/\(SqL K H p xs\/SqT K H p xs)/\oW x=true/\xs.all oW=true/\Q (.bl (if neg then !QU x xs else QU x xs)) H
theorem wD:OpR X (YZ .NotIn) (UD X.K true):=by
 intro f8 s σ H x y v u Q I rx ry h;obtain⟨p,xs,rfl,hq,fx,fs,q⟩:=h;cases ry;rcases hq with hq | hq
 ·obtain⟨aK,r,pl,hz⟩:=I.list hq;refine SeqAt.notIn_listAt (IB x) pl.isList (λw hw=>rP rx fx r fs w (by simpa using hw)) ⟨.bl _,H,I,rfl,?_⟩;rw[show aK.toArray.any (IB x)=aK.any (IB x) by simp,vl r fs];exact q
 ·obtain⟨aK,r,pl,hz⟩:=I.tuple hq;refine SeqAt.notIn_tupleAt (IB x) pl (λw hw=>rP rx fx r fs w (by simpa using hw)) ⟨.bl _,H,I,rfl,?_⟩;rw[show aK.toArray.any (IB x)=aK.any (IB x) by simp,vl r fs];exact q
theorem vA:CallR X (.builtin "len") (λxs H Q=>∃p ys,xs=[.ref p]/\(SqL X.K H p ys\/SqT X.K H p ys)/\Q (.int ys.length) H):=by
 intro f8 s σ H xs us Q I r h;obtain⟨p,ys,rfl,hq,q⟩:=h;obtain⟨u,rfl,rx⟩:=vals1 r;cases rx;have hn:=nV;rcases hq with hq | hq
 ·obtain⟨aK,r',pl,hz⟩:=I.list hq;have hlen:=r'.length;exact Calls.call_len_list pl.isList (by simp only[XW]<;>omega) ⟨.int ys.length,H,I.tok _,⟨s.toks+1,by rw[XW,hlen]⟩,q⟩
 ·obtain⟨aK,r',pl,hz⟩:=I.tuple hq;have hlen:=r'.length;exact len_tuple pl (by simp only[XW]<;>omega) ⟨.int ys.length,H,I.tok _,⟨s.toks+1,by rw[XW,hlen]⟩,q⟩
theorem vB:CallR X (.builtin "len") (λxs H Q=>∃z,xs=[.str z]/\z.length<=X6/\Q (.int z.length) H):=by
 intro f8 s σ H xs us Q I r h;obtain⟨z,rfl,hz,q⟩:=h;obtain⟨u,rfl,t,rfl⟩:=vals1 r;have hn:=nV;exact len_str (by omega) ⟨.int z.length,H,I.tok _,⟨_,rfl⟩,q⟩
theorem CallR.or{f:Value}{r r':List V->Hp->VK->Prop}(h:CallR X f r)(h':CallR X f r'):CallR X f (λxs H Q=>r xs H Q\/r' xs H Q):=by
 intro f8 s σ H xs us Q I rs q;rcases q with q | q
 ·exact h f8 s σ H xs us Q I rs q
 ·exact h' f8 s σ H xs us Q I rs q
def Qr(K:XO)(T:String)(x:V)(H:Hp):Prop:=match x with
 | .str _=>T="str"
 | .int _=>T="int"
 | .ref p=>(T="list"/\∃xs,SqL K H p xs)\/(T="tuple"/\∃o,K.lookup p=some o/\o.cls= .type "tuple"/\o.dict=none)\/
    (T="dict"/\((∃aA,H p=some (.dK aA))\/∃aA,H p=some (.dT aA)))\/(T="set"/\∃S n,H p=some (.set S n))
 |_=>False
theorem NN{f8:List (Addr×Obj)}{σ:St}{H:Hp}{s:XD}{T:String}{x:V}{v:Value}(I:Inv X f8 σ H s)(r:RelV x v)(ty:Qr X.K T x H):
 s.TypeIs v T/\∀a,v= .ref a->∃ob,s.heap.get? a=some ob/\ob.dict=none:=by
 cases x with
 |str z=>
  obtain⟨t,rfl⟩:=r;cases (show T="str" from ty);exact⟨typeIs_str s z t,λ_ e=>nomatch e⟩
 |int i=>
  obtain⟨t,rfl⟩:=r;cases (show T="int" from ty);exact⟨typeIs_int s i t,λ_ e=>nomatch e⟩
 |ref p=>
  cases r;rcases ty with⟨rfl,xs,hq⟩ | ⟨rfl,o,hk,hc,hd⟩ | ⟨rfl,hk⟩ | ⟨rfl,S,n,hk⟩
  ·obtain⟨aK,_,pl,_⟩:=I.list hq;refine⟨pl.isList.typeIs,λa e=>?_⟩;cases e;obtain⟨o,n,e,c,hd,_⟩:=pl;exact⟨o,e,hd⟩
  ·refine⟨⟨o,I.kIn p o hk,hc⟩,λa e=>?_⟩;cases e;exact⟨o,I.kIn _ o hk,hd⟩
  ·have z:∃o,s.heap.get? p=some o/\o.ExactDict:=by
    rcases hk with⟨aA,hk⟩ | ⟨aA,hk⟩
    ·obtain⟨_,_,_,_,o,_,_,e,ex,_⟩:=I.hok p _ hk;exact⟨o,e,ex⟩
    ·obtain⟨_,_,_,_,o,_,_,e,ex,_⟩:=I.hok p _ hk;exact⟨o,e,ex⟩
   obtain⟨o,e,ex⟩:=z;refine⟨⟨o,e,ex.1⟩,λa e2=>?_⟩;cases e2;exact⟨o,e,ex.2.1⟩
  ·obtain⟨o,_,_,_,e,ex,_⟩:=I.hok p _ hk;refine⟨⟨o,e,ex.1⟩,λa e2=>?_⟩;cases e2;exact⟨o,e,ex.2.1⟩
 |_=>exact Y_ ty
def SX(K:XO)(T:String)(r:V->List V->Hp->VK->Prop)(to:TE)(t:TA):TE:=λσ H Q=>to σ H λx H1=>Qr K T x H1/\t σ H1 λxs H2=>r x xs H2 Q
variable{o e:Expr}{es:List Expr}{to:TE}{t:TA}{name:Str}{T0 aV:Pos}{T id:String}{r:V->List V->Hp->VK->Prop}
theorem GQ(pa:PlainAttrs T)(slot:Slot T name id)(Si:typeOf (.builtin id)=pure (.type "method_descriptor"))(hm:Od X id r)(ho:PE X o to)(ha:PA X (e::es) t)
 (iq:ZZ o name X.env (eval o X.env)=eval o X.env:=by rfl)
 (nQ:((ZI aV (X2 (e::es) X.env)).all (λx=>!x.1)&&(abG aV (aav [] X.env)).all (λx=>x.1.isSome)
  &&decide ((e::es).length+([]:List aap).length+(if ([]:List aap).isEmpty then 0 else 1)<30))=true:=by rfl)
 (iu:(T0.endLine==aV.line)=true:=by rfl) (hs:X2 (e::es) X.env=(false,eval e X.env)::X2 es X.env:=by rfl) (Ai:(ZI aV (X2 es X.env)).any (·.1)=false:=by rfl):
 PE X (.Call (.Attribute o name T0) (e::es) [] aV) (SX X.K T r to t):=by
 intro f8 s σ H Q I h;refine wpAny_Call_method_late iq nQ iu rfl (b_ (ho f8 s σ H _ I h) λv s1 ⟨x,H1,I1,r1,ty,q1⟩=>?_);obtain⟨h1,h2⟩:=NN I1 r1 ty;refine⟨T,id,pa,slot,Si,h1,h2,?_⟩;have hA:=ha aV f8 s1 σ H1 _ I1 q1;rw[hs] at hA⊢;refine ZX (by show (false||(ZI aV (X2 es X.env)).any (·.1))=false;rw[Ai]<;>rfl) (ZH ?_);exact b_ hA λus s2 ⟨vs,H2,I2,r2,q2⟩=>hm f8 s2 σ H2 x vs v us Q I2 r1 r2 q2
end
def Ti(X:Cx)(id:String)(r:V->List V->Hp->VK->Prop):Prop:=
 ∀(f8:List (Addr×Obj)) (s:XD) (σ:St) (H:Hp) (x:V) (xs:List V) (v:Value) (us:List Value) (Q:VK),Inv X f8 σ H s->RelV x v->Vals xs us->r x xs H Q->
  wpAny (model X.prog X.w) X.A (call (.builtin id) (v::us)) (EP X f8 σ Q) X.xe s
theorem Vals.one:∀{x:V}{us:List Value},Vals [x] us->∃u,us=[u]/\RelV x u
 |_,_, .cons r .nil=>⟨_,rfl,r⟩
theorem Vals.rep{xs:List V}{us:List Value}(h:Vals xs us):∀k:Nat,Vals (XT k xs).flatten (XT k us).flatten
 |0=> .nil
 |k+1=>by
  rw[Zs,Zs,aac,aac];exact Vals.append h (Vals.rep h k)
theorem foldl_rep(aK:List Value):∀(k:Nat) (v4:List Value),
 aed (λx1 x2=>x1++x2) v4.toArray (XT k aK.toArray)=(v4++(XT k aK).flatten).toArray
 |0,v4=>by simp
 |k+1,v4=>by
  have e:v4.toArray++aK.toArray=(v4++aK).toArray:=by simp
  have e2:(v4++aK)++(XT k aK).flatten=v4++(XT (k+1) aK).flatten:=by
   rw[Zs,aac,Zb]
  rw[<-e2,<-foldl_rep aK k (v4++aK),<-e,Zs,ZL]
section
variable{X:Cx}{f8:List (Addr×Obj)}{σ:St}{H:Hp}{s:XD}{l:Addr}{xs ys:List V}
theorem Inv.lset{aK its':List Value}{n:Nat}{f:Array Value->Array Value}{t':Nat}(I:Inv X f8 σ H s)(hH:H l=some (.lst xs))
 (e:s.heap.get? l=some {cls:= .type "list",data:= .seq aK.toArray n})(hf:f aK.toArray=its'.toArray)(hv:Vals ys its')(hz:ys.length<=X6):
 Inv X f8 σ (upd H l (.lst ys)) {s with heap:=s.heap.update l (ZY f),toks:=t'}:=by
 have q:=PySem.IsL.update e f;rw[hf] at q;refine I.write (x:=l) (e:=l) (by rw[hH];exact trivial) (.inl rfl) (λb' u hb hu=>(Heap.get?_update_other s.heap (ZY f) (YG hb)).trans hu) ⟨_,q⟩ ?_;exact⟨hz,its',_,hv,q⟩
theorem Inv.lnew{aK:List Value}{t':Nat}(I:Inv X f8 σ H s)(hv:Vals ys aK)(hz:ys.length<=X6):
 Inv X f8 σ (upd H s.heap.objs.size (.lst ys)) {s with heap:=s.heap.push {cls:= .type "list",data:= .seq aK.toArray},toks:=t'}:=
 I.laid (λ_ _ q=>XJ _ q) (XM _) ⟨hz,aK,0,hv,X8 _ rfl⟩
theorem Inv.fresh(I:Inv X f8 σ H s):H s.heap.objs.size=none:=I.hok.fresh (XM _)
theorem Inv.lstM(I:Inv X f8 σ H s)(hH:H l=some (.lst xs)):xs.length<=X6/\∃(aK:List Value) (n:Nat),Vals xs aK/\xs.length=aK.length/\s.heap.get? l=some {cls:= .type "list",data:= .seq aK.toArray n}:=by
 obtain⟨z,aK,n,r,e⟩:=I.hok l _ hH;exact⟨z,aK,n,r,r.length,e⟩
theorem yF{n:Nat}(h:n<=X6):Z_ n=false:=by
 unfold Z_;exact aem (by omega)
end
section
variable{X:Cx}
def Cq:V->List V->Hp->VK->Prop:=λx vs H Q=>∃l xs y,x= .ref l/\vs=[y]/\H l=some (.lst xs)/\xs.length<X6/\Q .non (upd H l (.lst (xs++[y])))
theorem uV:Ti X "list.append" Cq:=by
 intro f8 s σ H x vs v us Q I rx rv h;obtain⟨l,xs,y,rfl,rfl,hH,hz,q⟩:=h;cases rx;obtain⟨u,rfl,ru⟩:=rv.one;obtain⟨z,aK,n,r,hl,e⟩:=I.lstM hH;refine ab0 F.slot_list_append ⟨_,e,rfl⟩ F.entry_list_append (F.args_list_append_2 _ _) (PySem.list_append l aK.toArray n u (by rw[XW];omega)) ⟨e,?_⟩;refine⟨.non,_,I.lset (its':=aK++[u]) hH e (by simp) (r.append (.cons ru .nil)) ?_,rfl,q⟩;rw[XR,adx];omega
def Cr:V->List V->Hp->VK->Prop:=λx vs H Q=>∃l b xs zs,x= .ref l/\vs=[.ref b]/\H l=some (.lst xs)/\H b=some (.lst zs)/\xs.length+zs.length<=X6/\Q .non (upd H l (.lst (xs++zs)))
theorem Dx:Ti X "list.extend" Cr:=by
 intro f8 s σ H x vs v us Q I rx rv h;obtain⟨l,b,xs,zs,rfl,rfl,hH,hB,hz,q⟩:=h;cases rx;obtain⟨u,rfl,ru⟩:=rv.one;cases ru;obtain⟨z,aK,n,r,hl,e⟩:=I.lstM hH;obtain⟨z2,gG,n2,r2,KC,e2⟩:=I.lstM hB;have hsz:aK.toArray.size+gG.toArray.size<=X6:=by rw[XW,XW];omega
 have FD:¬(!aK.toArray.isEmpty&&Z_ (aK.toArray.size+gG.toArray.size))=true:=by
  rw[yF hsz,abP];exact Yi
 refine ab0 F.slot_list_extend ⟨_,e,rfl⟩ F.entry_list_extend (F.args_list_extend_2 _ _)
  (AutoSeq1.list_extend_list_list_0 l aK.toArray n b gG.toArray n2 FD (by rw[XW];omega) (by omega)) ⟨e,e2,?_⟩
 refine⟨.non,_,I.lset (its':=aK++gG) hH e (by simp) (r.append r2) ?_,rfl,q⟩;rw[XR];omega
def SM:R2:=λx y H Q=>∃l b xs zs,x= .ref l/\y= .ref b/\H l=some (.lst xs)/\H b=some (.lst zs)/\xs.length+zs.length<=X6/\∀p,H p=none->Q (.ref p) (upd H p (.lst (xs++zs)))
theorem MN:OpR X (aaP .Add) SM:=by
 intro f8 s σ H x y v u Q I rx ry h;obtain⟨l,b,xs,zs,rfl,rfl,hH,hB,hz,q⟩:=h;cases rx;cases ry;obtain⟨z,aK,n,r,hl,e⟩:=I.lstM hH;obtain⟨z2,gG,n2,r2,KC,e2⟩:=I.lstM hB;refine PySem.P.add_list e e2 ?_ (by rw[XW,XW];omega);have ea:aK.toArray++gG.toArray=(aK++gG).toArray:=by simp
 rw[ea];exact⟨.ref _,_,I.lnew (t':=s.toks) (r.append r2) (by rw[XR];omega),rfl,q _ I.fresh⟩
def SR:R2:=λx y H Q=>∃l k xs,x= .ref l/\y= .int k/\H l=some (.lst xs)/\ -(2 ^ 63)<=k/\k<2 ^ 63/\xs.length*k.toNat<=X6/\
 ∀p,H p=none->Q (.ref p) (upd H p (.lst (XT k.toNat xs).flatten))
theorem len_rep{α:Type}(xs:List α)(k:Nat):(XT k xs).flatten.length=k*xs.length:=by
 induction k with
 |zero=>simp
 |succ k ih=>rw[Zs,aac,XR,ih,Nat.succ_mul,acr]
theorem MS:OpR X (aaP .Mult) SR:=by
 intro f8 s σ H x y v u Q I rx ry h;obtain⟨l,k,xs,rfl,rfl,hH,h1,h2,hz,q⟩:=h;cases rx;obtain⟨t,rfl⟩:=ry;obtain⟨z,aK,n,r,hl,e⟩:=I.lstM hH;have hlen:aK.toArray.size*k.toNat<=X6:=by rw[XW,<-hl];exact hz
 have Rx:¬aK.toArray.size*k.toNat>(2 ^ 63 - 1) / 8:=by
  have:(X6:Nat)<=(2 ^ 63 - 1) / 8:=by decide
  omega
 have RH:¬(!Builtin.List.listFitsIndex k)=true:=by
  rw[fitsIndex_both h1 h2];exact Yi
 have FD:¬Z_ (aK.toArray.size*k.toNat)=true:=by
  rw[yF hlen];exact Yi
 have vM:aed (λx1 x2=>x1++x2) #[] (XT (if aK.toArray.isEmpty=true then 0 else k.toNat) aK.toArray)=(XT k.toNat aK).flatten.toArray:=by
  have f0:∀m:Nat,aed (λx1 x2=>x1++x2) #[] (XT m aK.toArray)=(XT m aK).flatten.toArray:=λm=>by
   have:=foldl_rep aK m [];rw[Yq] at this;exact this
  rw[f0];cases aK with
  |nil=>simp
  |cons a r'=>rw[aeh (by simp)]
 refine wpAny_binaryOp_repeat_ref (T:="list") (U:="int") (by decide) ⟨_,e,rfl⟩ (λs'=>typeIs_int s' k t) noFill_list_mul F.fills_int_mul F.slot_int_rmul repeat_list F.slot_int_index.lookup
  (ab0 F.slot_int_rmul (typeIs_int s k t) F.entry_int_rmul (F.args_int_rmul_2 _ _) (int___rmul___int_list k t l aK.toArray n)
   ⟨e,rfl,⟨_,e,rfl⟩,ab0 F.slot_list_mul ⟨_,e,rfl⟩ F.entry_list_mul (F.args_list_mul_2 _ _) (AutoListH.list___mul___list_int_3 l aK.toArray n k t RH Rx FD) ⟨e,?_⟩⟩)
 rw[vM];exact⟨.ref _,_,I.lnew (t':=s.toks) (r.rep k.toNat) (by rw[len_rep,adD];exact hz),rfl,q _ I.fresh⟩
end
end L2
namespace Att
open PySem PySem.W PySem.Calls PyProof.Rows
theorem ints_of_wellAll{P:Params}{h:Heap}:∀(ns:List Int) (vs:List Value),WellAll P h vs (ns.map WData.int)->abr vs ns:=by
 intro ns;induction ns with
 |nil=>
  intro vs w;rw[Zo] at w;cases w;exact .nil
 |cons n ns ih=>
  intro vs w;rw[XN] at w;cases w with
  |cons a b=>
   cases a;exact .cons _ _ (ih _ b)
theorem script_of{l:OpenLaw}{n:Nat}(hn:l.most=some n){P:Params}{h:Heap}{args:List WData}{vals:List Value}
 (De:l.row.toRowW.claim.pre args=true)(Sk:WellAll P h vals args):
 ∃a vs ns,vals=[Ye a]/\args=[WData.list (ns.map WData.int)]/\h.get? a=some {cls:= .type "list",data:= .seq vs.toArray}/\abr vs ns/\ns.length<=n:=by
 have Wm:WShape.hasAll [] args [.list .int]=true:=(pre_splitW De).1;have hc:l.pre.holds [] {args:=args}=true:=(pre_splitW De).2;obtain⟨d,r,rfl,h1,h2⟩:=hasAllW_cons Wm;obtain rfl:=hasAllW_nil h2;obtain⟨xs,rfl,h3⟩:=hasW_list h1;obtain⟨ns,rfl⟩:=items_int h3;have hlen:ns.length<=n:=by
  unfold OpenLaw.pre at hc;have h4:(WTm.not (.lt (.lit (.int (n:Int))) (.len (.arg 0)))).holds [] {args:=[.list (ns.map .int)]}=true:=by
   have h4:=(holds_andW hc).1;rw[hn] at h4;exact h4
  have h5:=condW_of h4 (w_not (w_lt w_lit (w_len_list (w_arg rfl))));rw[XB] at h5;refine Nat.le_of_not_lt λq=>?_;have q':(n:Int)<((ns.length:Nat):Int):=by omega
  first
   |(rw [aei q'] at h5;exact aej h5 (by decide))
   |(simp at h5;omega)
 cases Sk with
 |cons w1 w2=>
  cases w2;cases w1 with
  |list ho jk=>exact⟨_,_,ns,rfl,rfl,ho,ints_of_wellAll ns _ jk,hlen⟩
theorem post_true(l:OpenLaw)(args:List WData):l.row.toRowW.claim.post args (.bool true) args=true:=
 postW_of (r:=l.row.toRowW) (X:=(true==true))
  (show WShape.has [] (.bool true) .bool=true by first | rfl | decide | simp[WShape.has,WShape.arms,WShape.armsAll])
  (show (WTm.eq .res (.lit (.bool true))).value [] {args:=args,res:=some (.bool true),after:=args}=some (.bool (true==true)) from w_eq_bool (w_res rfl) w_lit) rfl
theorem attach_call{l:OpenLaw}{n:Nat}{q:Yd}{loose:List Str}{XP:(Str->Option Value)->Heap->Prop}{YP:World->Heap->Prop}{d:DefRec}
 (hn:l.most=some n)(OP:d.params.defaults=[])
 (call:∀(w:World) (aer P3:XD) (mg mb:Str->Option Value) (fa:Addr) (o:Obj) (pm cd doc:Value) (a:Addr) (vs:List Value) (ns:List Int),
  Ground q loose [] XP w aer mg mb P3.heap->YP w P3.heap->
  P3.heap.get? fa=some o->o.data= .func (docDef d.name d.params d.body d.scope pm cd doc)->P3.heap.CodeRec cd d.name->mg d.name=some (.ref fa)->
  P3.heap.get? a=some {cls:= .type "list",data:= .seq vs.toArray}->abr vs ns->ns.length<=n->P3.gens= #[]->
  abm (model l.prog w) acQ (.call (.ref fa) ⟨[.ref a],[]⟩) (λr s'=>r= .ok (.ret (.bool true))/\OldK P3.heap s'.heap/\s'.os=P3.os/\abZ s'.gens) P3):
 WalkO q loose XP YP l.row.toRowW d [] (λf vs=>ad1 f vs):=by
 intro w aer P3 mg mb G Y fa o pm cd doc dV kV ho hd rm hD Ma hg args vals as De VT Xs Sk Xq;obtain rfl:dV= .none:=Dflts.none hD OP;obtain rfl:kV= .none:=Dflts.noKw hD;obtain⟨a,vs,ns,rfl,rfl,FE,hints,hlen⟩:=script_of hn De Sk;refine enter_call (abj (call w aer P3 mg mb fa o pm cd doc a vs ns G Y ho (fd_plain hd) rm Ma FE hints hlen hg) λr s' hq=>?_);obtain⟨rfl,h2,h3,h4⟩:=hq;exact⟨.inl ⟨.bool true, .bool true,[],rfl,λ_=>rfl, .bool true,post_true l _,λ_=>⟨abz,λ_ hm=>(nomatch hm)⟩⟩,h2,h3,h4⟩
def ledger(h:Heap)(L d:Addr):List (Addr×Obj):=(Yg h.objs.size).filterMap λa=>if a=L\/a=d then none else(h.get? a).map λo=>(a,o)
end Att
namespace L2
open PySem PySem.Spec PyProof.Rows
theorem vi:∀{vs:List Value}{ns:List Int},abr vs ns->Vals (ns.map V.int) vs
 |_,_, .nil=> .nil
 |_,_, .cons n t h=> .cons ⟨t,rfl⟩ (vi h)
def Lg(H:Hp):Prop:=∀b,H b=none\/∃o xs,H b=some (.frz o (.lst xs))
theorem yu{P:Yd}{w:World}{K:XO}{mg mb:Str->Option Value}{CX:Bc}{k:Nat}{fa a:Addr}{fd:ZP}{x:Str}{sp:Sp}{P3:XD}{vs:List Value}{ns:List Int}
 (KX:K.In P3.heap)(QP:P3.heap.Ns Yb mg)(hb:P3.heap.Ns builtinsNs mb)(Rv:∀x:Str,x≠"__name__"->mb x=YJ x)(L9:P3.heap.NoLimit)(hg:P3.gens= #[])
 (ha:P3.heap.get? a=some {cls:= .type "list",data:= .seq vs.toArray})(hi:abr vs ns)(hl:ns.length<=X6)(hr:Room k acQ)
 (F:∀base:Heap,K.In base->base.Ns Yb mg->FnOk P w K mg base CX k fa fd [x] sp)(OJ:∀(s:XD) (u:Value),adp s fd ⟨[u],[]⟩ [(x,u)])
 (xI:∀H:Hp,Lg H->SqL K H a (ns.map V.int)->sp [.ref a] H (λv _=>v= .bl true) λ_ _ _=>False)
 (Rm:∀H e s',CX [] H P3 (λ_ _ _=>False) e s'->False):
 abm (model P w) acQ (.call (.ref fa) ⟨[.ref a],[]⟩) (λr s'=>r= .ok (.ret (.bool true))/\OldK P3.heap s'.heap/\s'.os=P3.os/\abZ s'.gens) P3:=by
 have rv:=vi hi;have Sy:=hi.length;have core:∀H:Hp,Lg H->SqL K H a (ns.map V.int)->HOk P w H P3.heap->(∀b,H b≠none->b=a)->(H a≠none->K.lookup a=none)->
  abm (model P w) acQ (.call (.ref fa) ⟨[.ref a],[]⟩) (λr s'=>r= .ok (.ret (.bool true))/\OldK P3.heap s'.heap/\s'.os=P3.os/\abZ s'.gens) P3:=by
  intro H hO hS hok hA hK;have Bm:∀{b:Addr}{o:Obj},P3.heap.get? b=some o->H b=none->(vL P3.heap H).get? b=some o:=λe n=>Fw e n;have Pz:∀{b:Addr}{o:Obj}{es:Array ZW}{ep:Nat},P3.heap.get? b=some o->o.data= .dict es ep->H b=none:=λ{b o es ep} e d=>by
   cases q:H b with
   |none=>rfl
   |some u=>
    have e':b=a:=hA b (by rw[q];simp);subst e';rw[ha] at e;cases e;have d':Data.seq vs.toArray _=abd es ep:=d;cases d'
  have QX:∀{b:Addr}{m:Str->Option Value},P3.heap.Ns b m->(vL P3.heap H).Ns b m:=λ{b m} ⟨o,es,ep,e,d,r⟩=>⟨o,es,ep,Bm e (Pz e d),d,r⟩
  have TJ:K.In (vL P3.heap H):=λb o e=>Bm (KX b o e) (by
   cases q:H b with
   |none=>rfl
   |some u=>
    have e':b=a:=hA b (by rw[q];simp);subst e';rw[hK (by rw[q];simp)] at e;cases e)
  have hM:Mod K mg (vL P3.heap H):=⟨TJ,QX QP,⟨mb,QX hb,Rv⟩,let ⟨mc,h1,h2⟩:=L9;⟨mc,QX h1,h2⟩⟩
  have e0:Env0 P w K mg (vL P3.heap H) acQ [] P3 H:=⟨rfl,hM,λb o e=>Jk e,Nat.le_of_eq (C6 _ _),trivial,λb hb=>aej (show b∈([]:List Addr) from hb) (by simp),hok, .of_eq hg⟩
  refine abj ((F _ TJ (QX QP)).run acQ [] P3 H ⟨[.ref a],[]⟩ [.ref a] [.ref a] _ _ hr e0 (OJ P3 (.ref a)) (.cons rfl .nil) (xI H hO hS)) λr s' h=>?_;cases r with
  |error e=>exact(Rm H e s' h).elim
  |ok fl=>
   cases fl with
   |next=>exact Y_ h
   |brk=>exact Y_ h
   |cont=>exact Y_ h
   |ret u=>
    obtain⟨v,H',os,bare,un,R4,r',q⟩:=h;have q':v= .bl true:=q;subst q';obtain rfl:u=Z7 true:=r';refine⟨rfl,OldK.of_keep λb o e=>?_,os,bare⟩;cases q:H b with
    |none=>exact un.keep b o e q (by intro z;exact aej (show b∈([]:List Addr) from z) (by simp)) (by simp)
    |some u=>
     rcases hO b with z | ⟨ob,xs,z⟩
     ·rw[q] at z;cases z
     ·have z2:=un.frzs b ob _ z;obtain⟨e1,_⟩:=hok b _ z;obtain⟨e2,_⟩:=R4 b _ z2;rw[e] at e1;cases e1;exact e2
 cases hk:K.lookup a with
 |some o=>
  have e:=KX a o hk;rw[ha] at e;cases e;refine core (λ_=>none) (λ_=> .inl rfl) (.inr ⟨_,vs.toArray,_,hk,rfl,rfl,rfl,by rw[XW,Sy];exact hl,by simpa using rv⟩) (λb u z=>by have z':(none:Option HO)=some u:=z;cases z') (λb z=>aej rfl z) λz=>aej rfl z
 |none=>
  refine core (λb=>if b=a then some (.frz {cls:= .type "list",data:= .seq vs.toArray} (.lst (ns.map V.int))) else none) (λb=>?_) (.inl (.inr ⟨{cls:= .type "list",data:= .seq vs.toArray},aeg rfl⟩)) (λb u z=>?_) (λb z=>?_) λ_=>hk
  ·by_cases hb:b=a
   ·exact .inr ⟨_,_,aeg hb⟩
   ·exact .inl (aeh hb)
  ·by_cases hb:b=a
   ·have z':=(aeg hb).symm.trans z;cases z';subst hb;exact⟨ha,by rw[XB];exact hl,vs,_,rv,ha⟩
   ·have z':=(aeh hb).symm.trans z;cases z'
  ·by_cases hb:b=a
   ·exact hb
   ·exact aej (aeh hb) z
abbrev Xh{K:XO}{h:Heap}(_:K.In h):XO:=K
theorem Q3{l:ad2}{n k:Nat}{q:Yd}{loose:List Str}{XP:(Str->Option Value)->Heap->Prop}{YP:World->Heap->Prop}{d:DefRec}{K:Params->XO}{CX:World->Bc}{sp:World->Sp}{x:Str}
 (hn:l.most=some n)(QO:n<=X6)(OP:d.params.defaults=[])(hr:Room k acQ)
 (hY:∀(w:World) (h:Heap),YP w h->(K w.params).In h)
 (F:∀(w:World) (mg:Str->Option Value) (fa:Addr) (h:Heap),(K w.params).In h->h.Ns Yb mg->mg d.name=some (.ref fa)->
  ∃fd:ZP,(∀(s:XD) (u:Value),adp s fd ⟨[u],[]⟩ [(x,u)])/\
   ∀base:Heap,(K w.params).In base->base.Ns Yb mg->FnOk l.prog w (K w.params) mg base (CX w) k fa fd [x] (sp w))
 (xI:∀(w:World) (H:Hp) (a:Addr) (ns:List Int),ns.length<=n->Lg H->SqL (K w.params) H a (ns.map V.int)->sp w [.ref a] H (λv _=>v= .bl true) λ_ _ _=>False)
 (Rm:∀(w:World) (H:Hp) (s:XD) (e:Value) (s':XD),CX w [] H s (λ_ _ _=>False) e s'->False):
 PySem.W.WalkO q loose XP YP l.row.toRowW d [] (λf vs=>ad1 f vs):=by
 refine Att.attach_call hn OP λw aer P3 mg mb fa o pm cd doc a vs ns G Y ho hd rm Ma FE hints hlen hg=>?_;have KX:=hY w _ Y;obtain⟨fd,hb,hF⟩:=F w mg fa _ KX G.T.g Ma;exact yu KX G.T.g G.T.b G.T.builtins G.T.nolimit hg FE hints (Yc hlen QO) hr hF hb (λH hO hS=>xI w H a ns hlen hO hS) λH e s'=>Rm w H P3 e s'
abbrev N_:Bc:=λ_ _ _ _ _ _=>False
abbrev E0:XK:=λ_ _ _=>False
structure Fun (K:XO) (x qual:Str) (st:Stmt) (f:Addr) (fd:ZP):Prop where
 ex:∃(oc:Value) (od:Option Addr) (kV doc pm:Value) (an:Option Addr) (bY ct:Value) (Em:Array (Option Value)),
  fd=Y5 x qual (eF st) (bg st) (ai st) .none kV doc pm an bY ct/\K.lookup f=some ⟨oc,od, .func fd,Em⟩/\aad K bY qual=true
 kp:Zl K (.ref f)=true
section
variable{P:Yd}{w:World}{K:XO}{mg:Str->Option Value}{base:Heap}
theorem Fun.ok{x qual:Str}{st:Stmt}{f:Addr}{fd:ZP}{N ps:List Str}{k:Nat}{sp:Sp}(F:Fun K x qual st f fd)(S:FnScope N ps (ai st))(len:∀vs H Q E,sp vs H Q E->vs.length=ps.length)
 (ir:∀(bY:Value) (A:Yy) (outer:List Env) (s:XD) (H:Hp) (vs:List V) (Q:VK) (E:XK),Room k (A.deeper (Zz qual (ai st) s.heap.objs.size f bY))->sp vs H Q E->
  ∃t,PSs (aY N_ P w K mg base N qual (ai st) f bY A outer s H E).nox (bg st) t/\t {nx:=λ_ H'=>Q .non H',rt:=Q} (start N vs) H):FnOk P w K mg base N_ (k+1) f fd ps sp:=by
 obtain⟨oc,od,kV,doc,pm,an,bY,ct,Em,rfl,lk,rm⟩:=F.ex;refine Kr lk rm S len λA outer s H vs Q E hr xI=>?_;obtain⟨t,h,q⟩:=ir bY A outer s H vs Q E hr xI;exact⟨t,h.nox,q⟩
theorem Fun.binds{x qual:Str}{st:Stmt}{f:Addr}{fd:ZP}{ps:List Str}(F:Fun K x qual st f fd)
 (h:∀(kV doc pm:Value) (an:Option Addr) (bY ct:Value) (us:List Value),us.length=ps.length->bindArgs (Y5 x qual (eF st) (bg st) (ai st) .none kV doc pm an bY ct) ⟨us,[]⟩=pure (ps.zip us)):Binds K fd ps []:=by
 obtain⟨oc,od,kV,doc,pm,an,bY,ct,Em,rfl,lk,rm⟩:=F.ex;exact .all (h kV doc pm an bY ct)
theorem Fg{x qual:Str}{st:Stmt}{f:Addr}{oc:Value}{od an:Option Addr}{Em:Array (Option Value)}{kV doc pm bY ct:Value}(l:K.lookup f=some ⟨oc,od, .func (Y5 x qual (eF st) (bg st) (ai st) .none kV doc pm an bY ct),Em⟩)
 (c:aad K bY qual=true)(k:Zl K (.ref f)=true):Fun K x qual st f (Y5 x qual (eF st) (bg st) (ai st) .none kV doc pm an bY ct):=⟨⟨oc,od,kV,doc,pm,an,bY,ct,Em,rfl,l,c⟩,k⟩
end
section
variable{X:Cx}
theorem pv(i:Nat){x:Str}{pos:Pos}(hN:X.N[i]? =some x:=by rfl)(hv:Q_ X.env.scope x:=by first | exact Or.inl rfl | exact Or.inr (Or.inl rfl) | exact Or.inr (Or.inr rfl))(hd:(x==("__debug__":Str))=false:=by decide)
 (rm:(x==("__classdict__":Str))=false:=by decide):PE X (.Name x pos) (lR i):=Nd hN hv hd rm
end
def Same(H H':Hp):Prop:=∀b o,H b=some o->H' b=some o
theorem Same.refl(H:Hp):Same H H:=λ_ _ h=>h
theorem Same.trans{H H1 H2:Hp}(a:Same H H1)(b:Same H1 H2):Same H H2:=λc o h=>b c o (a c o h)
theorem Same.free{H H':Hp}(e:Same H H'){l:Addr}(h:H' l=Option.none):H l=Option.none:=by
 cases q:H l with
 |none=>rfl
 |some o=>
  rw[e l o q] at h;cases h
theorem Same.seq{K:XO}{H H':Hp}{a:Addr}{xs:List V}(e:Same H H')(h:SqL K H a xs):SqL K H' a xs:=by
 rcases h with(h | ⟨o,h⟩) | h
 ·exact .inl (.inl (e _ _ h))
 ·exact .inl (.inr ⟨o,e _ _ h⟩)
 ·exact .inr h
section
variable{κ:Type}[DecidableEq κ]
def fO(aA:List (κ×V))(k:κ):Option V:=(aA.find? λkv=>decide (kv.1=k)).map (·.2)
def putK(aA:List (κ×V))(k:κ)(v:V):List (κ×V):=
 if (aA.any λkv=>decide (kv.1=k))=true then aA.map (λkv=>if kv.1=k then(kv.1,v) else kv) else aA++[(k,v)]
theorem km{p:κ×V}{r:List (κ×V)}{k:κ}(e:p.1=k):fO (p::r) k=some p.2:=by simp[fO,aau,e]
theorem kl{p:κ×V}{r:List (κ×V)}{k:κ}(e:¬p.1=k):fO (p::r) k=fO r k:=by simp[fO,aau,e]
theorem kj(k:κ):∀aA:List (κ×V),(aA.any λkv=>decide (kv.1=k))=(fO aA k).isSome
 |[]=>rfl
 |p::r=>by
  rw[aaR];by_cases e:p.1=k
  ·simp only[km e,aei e,Bool.true_or,Option.isSome_some]
  ·rw[kl e,aem e,Bool.false_or];exact kj k r
theorem et(aA:List (κ×V))(k:κ)(v:V):(putK aA k v).length<=aA.length+1:=by
 unfold putK;split
 ·rw[XB];omega
 ·rw[XR,XH,YE];omega
theorem y6{aA:List (κ×V)}{k:κ}(v:V)(h:fO aA k=none):putK aA k v=aA++[(k,v)]:=by
 unfold putK;rw[kj,h];exact aeh (by decide)
theorem RelO.isSome_eq{o:Option V}{u:Option Value}(r:RelO o u):o.isSome=u.isSome:=by
 cases o with
 |none=>cases u with
  |none=>rfl
  |some _=>exact(show False from r).elim
 |some _=>cases u with
  |none=>exact(show False from r).elim
  |some _=>rfl
theorem RelO.getD{o:Option V}{u:Option Value}{d:V}{d':Value}(r:RelO o u)(rd:RelV d d'):RelV (o.getD d) (u.getD d'):=by
 cases o with
 |none=>cases u with
  |none=>exact rd
  |some _=>exact(show False from r).elim
 |some _=>cases u with
  |none=>exact(show False from r).elim
  |some _=>exact r
theorem KV.val{aA:List (κ×V)}{vs:List (κ×Value)}(r:KV aA vs)(k:κ):RelO (fO aA k) (ada vs k):=by
 unfold KV at r;induction r with
 |nil=>exact Y0
 | @cons p q ps qs h t ih=>
   obtain⟨h1,h2⟩:=h;by_cases e:p.1=k
   ·have e':q.1=k:=h1.symm.trans e;have b:ada (q::qs) k=some q.2:=by simp[ada,aau,e']
    rw[km e,b];exact h2
   ·have e':¬q.1=k:=λz=>e (h1.trans z);have b:ada (q::qs) k=ada qs k:=by simp[ada,aau,e']
    rw[kl e,b];exact ih
theorem KV.any{aA:List (κ×V)}{vs:List (κ×Value)}(r:KV aA vs)(k:κ):(aA.any λkv=>decide (kv.1=k))=vs.any λkv=>decide (kv.1=k):=by
 unfold KV at r;induction r with
 |nil=>rfl
 |cons h t ih=>rw[aaR,aaR,ih,h.1]
theorem KV.repl{aA:List (κ×V)}{vs:List (κ×Value)}(r:KV aA vs)(k:κ){y:V}{u:Value}(ry:RelV y u):
 KV (aA.map λkv=>if kv.1=k then(kv.1,y) else kv) (vs.map λkv=>if kv.1=k then(kv.1,u) else kv):=by
 unfold KV at r⊢;induction r with
 |nil=>exact .nil
 | @cons p q ps qs h t ih=>
   rw[XN,XN];refine .cons ?_ ih;obtain⟨h1,h2⟩:=h;by_cases e:p.1=k
   ·rw[aeg e,aeg (h1.symm.trans e)];exact⟨h1,ry⟩
   ·rw[aeh e,aeh (λz=>e (h1.trans z))];exact⟨h1,h2⟩
theorem KV.put{aA:List (κ×V)}{vs:List (κ×Value)}(r:KV aA vs)(k:κ){y:V}{u:Value}(ry:RelV y u):KV (putK aA k y) (stored vs k u):=by
 unfold putK stored;rw[r.any k];by_cases e:(vs.any λkv=>decide (kv.1=k))=true
 ·rw[aeg e,aeg e];exact r.repl k ry
 ·rw[aeh e,aeh e];exact Paired.snoc r ⟨rfl,ry⟩
theorem KV.length{aA:List (κ×V)}{vs:List (κ×Value)}(r:KV aA vs):aA.length=vs.length:=ZO r
end
theorem ml{P:Yd}{w:World}{k:Key}{u:Value}(r:RelV (kV k) u):(bj P w).is k u=true:=by
 cases k with
 |inl i=>obtain⟨t,e⟩:=(show∃t,u=adh i t from r);subst e;exact yz P w i t
 |inr x=>obtain⟨t,e⟩:=(show∃t,u=adg x t from r);subst e;exact yA P w x t
theorem uO{P:Yd}{w:World}:∀{ks:List Key}{us:List Value},Vals (ks.map kV) us->ItemsAre (bj P w) ks us
 |[],_,r=>by rw[Zo] at r;cases r;exact .nil
 |k::ks,_,r=>by
  rw[XN] at r;cases r with
  |cons h t=>exact .cons (ml h) (uO t)
abbrev KT(H:Hp):List (List Key×V)->List (List Key×Addr×Value)->Prop:=acC λp q=>p.1=q.1/\H q.2.1=some (.tup (p.1.map kV))/\RelV p.2 q.2.2
theorem KT.val{H:Hp}{aA:List (List Key×V)}{xs:List (List Key×Addr×Value)}(r:KT H aA xs)(k:List Key):RelO (fO aA k) ((atKey xs k).map (·.2)):=by
 induction r with
 |nil=>exact Y0
 | @cons p q ps qs h t ih=>
   obtain⟨h1,_,h2⟩:=h;by_cases e:p.1=k
   ·have e':q.1=k:=h1.symm.trans e;have b:atKey (q::qs) k=some q.2:=by simp[atKey,aau,e']
    rw[km e,b];exact h2
   ·have e':¬q.1=k:=λz=>e (h1.trans z);have b:atKey (q::qs) k=atKey qs k:=by simp[atKey,aau,e']
    rw[kl e,b];exact ih
theorem KT.repl{H:Hp}{aA:List (List Key×V)}{xs:List (List Key×Addr×Value)}(r:KT H aA xs)(k:List Key){y:V}{u:Value}(ry:RelV y u):
 KT H (aA.map λkv=>if kv.1=k then(kv.1,y) else kv) (xs.map (putAt k u)):=by
 induction r with
 |nil=>exact .nil
 | @cons p q ps qs h t ih=>
   rw[XN,XN];refine .cons ?_ ih;obtain⟨h1,h2,h3⟩:=h;unfold putAt;by_cases e:p.1=k
   ·rw[aeg e,aeg (h1.symm.trans e)];exact⟨h1,h2,ry⟩
   ·rw[aeh e,aeh (λz=>e (h1.trans z))];exact⟨h1,h2,h3⟩
theorem KT.put{H:Hp}{aA:List (List Key×V)}{xs:List (List Key×Addr×Value)}(r:KT H aA xs)(k:List Key){b:Addr}{y:V}{u:Value}(hb:H b=some (.tup (k.map kV)))(ry:RelV y u):
 KT H (putK aA k y) (abF xs k b u):=by
 have e:(aA.any λkv=>decide (kv.1=k))=(atKey xs k).isSome:=by
  rw[kj,(r.val k).isSome_eq,ab1]
 unfold putK abF;rw[e];by_cases q:(atKey xs k).isSome=true
 ·rw[aeg q,aeg q];exact r.repl k ry
 ·rw[aeh q,aeh q];exact Paired.snoc r ⟨rfl,hb,ry⟩
theorem KT.keeps{H H':Hp}{aA:List (List Key×V)}{xs:List (List Key×Addr×Value)}(r:KT H aA xs)(ht:∀b ys,H b=some (.tup ys)->H' b=some (.tup ys)):KT H' aA xs:=
 Paired.mapP r λ_ _ z=>⟨z.1,ht _ _ z.2.1,z.2.2⟩
section
variable{P:Yd}{w:World}{H:Hp}{h:Heap}{a:Addr}
theorem K6{u:HO}(ok:HOk P w H h)(e:Rd H a u):ObjOk P w H h a u:=e.ok ok
theorem oV{aA:List (Key×V)}(ok:HOk P w H h)(e:Rd H a (.dK aA)):aA.length<=X6/\(a==Zf)=false/\∃vs,KV aA vs/\h.DictOf (bj P w) a vs:=
 show ObjOk P w H h a (.dK aA) from K6 ok e
theorem E5{aA:List (Key×V)}(ok:HOk P w H h)(e:H a=some (.dK aA)):aA.length<=X6/\(a==Zf)=false/\∃vs,KV aA vs/\h.DictOf (bj P w) a vs:=oV ok (.inl e)
theorem jI{ks:List Key}(ok:HOk P w H h)(e:H a=some (.tup (ks.map kV))):(ZT (bj P w)).is h ks a:=by
 obtain⟨_,aK,r,o,h1,h2,n,h3⟩:=(show ObjOk P w H h a (.tup (ks.map kV)) from ok a _ e)
 exact⟨o,aK.toArray,n,h1,h2,h3,by simpa using uO r⟩
theorem lY{aA:List (List Key×V)}(ok:HOk P w H h)(e:Rd H a (.dT aA)):aA.length<=X6/\(a==Zf)=false/\
 ∃xs,KT H aA xs/\h.DictOfH (ZT (bj P w)) a xs:=by
 obtain⟨z,y,xs,r,o,es,ep,h1,h2,h3,h4,h5⟩:=(show ObjOk P w H h a (.dT aA) from K6 ok e)
 refine⟨z,y,xs,r,o,es,ep,h1,h2,h3,h4,λx hx=>?_,h5⟩;have all:∀{l:List (List Key×V)}{m:List (List Key×Addr×Value)},KT H l m->∀x∈m,(ZT (bj P w)).is h x.1 x.2.1:=by
  intro l m q;induction q with
  |nil=>intro x hx;exact nomatch hx
  | @cons p q ps qs hq t ih=>
    intro x hx;rcases XF.mp hx with e | hx
    ·subst e;exact jI ok (by rw[<-hq.1];exact hq.2.1)
    ·exact ih x hx
 exact all r x hx
theorem E7{aA:List (List Key×V)}(ok:HOk P w H h)(e:H a=some (.dT aA)):aA.length<=X6/\(a==Zf)=false/\
 ∃xs,KT H aA xs/\h.DictOfH (ZT (bj P w)) a xs:=lY ok (.inl e)
end
def ly(H:Hp)(a:Addr)(y:V)(r:Option V):Prop:=
 (∃aA k,Rd H a (.dK aA)/\y=kV k/\r=fO aA k)\/∃aA k b,Rd H a (.dT aA)/\y= .ref b/\H b=some (.tup (k.map kV))/\r=fO aA k
def DPut(H:Hp)(a:Addr)(y v:V)(H':Hp):Prop:=
 (∃aA k,H a=some (.dK aA)/\y=kV k/\aA.length<X6/\H'=upd H a (.dK (putK aA k v)))\/
 ∃aA k b,H a=some (.dT aA)/\y= .ref b/\H b=some (.tup (k.map kV))/\aA.length<X6/\H'=upd H a (.dT (putK aA k v))
theorem DPut.k{H:Hp}{a:Addr}{aA:List (Key×V)}{k:Key}{v:V}(e:H a=some (.dK aA))(hl:aA.length<X6):DPut H a (kV k) v (upd H a (.dK (putK aA k v))):= .inl ⟨aA,k,e,rfl,hl,rfl⟩
theorem DPut.t{H:Hp}{a b:Addr}{aA:List (List Key×V)}{k:List Key}{v:V}(e:H a=some (.dT aA))(eb:H b=some (.tup (k.map kV)))(hl:aA.length<X6):
 DPut H a (.ref b) v (upd H a (.dT (putK aA k v))):= .inr ⟨aA,k,b,e,rfl,eb,hl,rfl⟩
section
variable{X:Cx}{f8:List (Addr×Obj)}{σ:St}{H:Hp}{s:XD}{a:Addr}{y v:V}{u r:Value}{o:Option V}{A:Yy}{E:Value->XD->Prop}
theorem Inv.big(I:Inv X f8 σ H s):Zf<s.heap.objs.size:=by
 have h:Yb<s.heap.objs.size:=(I.mod.glob.keeps I.bk).lt;exact Z9 (by decide) h
theorem CT{Q:Value->XD->Prop}(hu:A.units+1<cLine)(I:Inv X f8 σ H s)(g:ly H a y (some v))(ry:RelV y u)(h:∀w' s',Inv X f8 σ H s'->RelV v w'->Q w' s'):
 wpAny (model X.prog X.w) A (getItem (.ref a) u) Q E s:=by
 rcases g with⟨aA,k,e,ey,l⟩ | ⟨aA,k,b,e,ey,eb,l⟩
 ·subst ey;obtain⟨z,hd,vs,rel,dd⟩:=oV I.hok e;obtain⟨w',hw,xK⟩:=RelO.some_of (v:=v) (o:=ada vs k) (by rw[l];exact rel.val k);exact wpAny_getItem_of (ml ry) dd.mapOf hw (h w' _ (I.tok _) xK)
 ·subst ey;cases (show u=Ye b from ry);obtain⟨z,hd,xs,rel,dd⟩:=lY I.hok e;obtain⟨w',hw,xK⟩:=RelO.some_of (v:=v) (o:=(atKey xs k).map (·.2)) (by rw[l];exact rel.val k);obtain⟨p,hp,O7⟩:=aaw.mp hw;refine wpAny_getItem_heap (aab hu) (jI I.hok eb) dd hp ?_;rw[O7];exact h w' _ (I.tok _) xK
theorem Oo{Q:Value->XD->Prop}(hu:A.units+1<cLine)(I:Inv X f8 σ H s)(g:ly H a y o)(ry:RelV y u)(h:∀s',Inv X f8 σ H s'->Q (.bool o.isSome) s'):
 wpAny (model X.prog X.w) A (YZ .In u (.ref a)) Q E s:=by
 rcases g with⟨aA,k,e,ey,l⟩ | ⟨aA,k,b,e,ey,eb,l⟩
 ·subst ey;obtain⟨z,hd,vs,rel,dd⟩:=oV I.hok e;refine wpAny_in_of (ml ry) hd dd.mapOf ?_;rw[<-(rel.val k).isSome_eq,<-l];exact h _ (I.tok _)
 ·subst ey;cases (show u=Ye b from ry);obtain⟨z,hd,xs,rel,dd⟩:=lY I.hok e;refine wpAny_in_heap (aab hu) (jI I.hok eb) hd dd ?_;have q:=(rel.val k).isSome_eq;rw[ab1] at q;rw[<-q,<-l];exact h _ (I.tok _)
theorem Im{Q:Value->XD->Prop}(hu:A.units+1<cLine)(I:Inv X f8 σ H s)(g:ly H a y o)(ry:RelV y u)(h:∀s',Inv X f8 σ H s'->Q (.bool (!o.isSome)) s'):
 wpAny (model X.prog X.w) A (YZ .NotIn u (.ref a)) Q E s:=by
 rcases g with⟨aA,k,e,ey,l⟩ | ⟨aA,k,b,e,ey,eb,l⟩
 ·subst ey;obtain⟨z,hd,vs,rel,dd⟩:=oV I.hok e;refine wpAny_notIn_of (ml ry) hd dd.mapOf ?_;rw[<-(rel.val k).isSome_eq,<-l];exact h _ (I.tok _)
 ·subst ey;cases (show u=Ye b from ry);obtain⟨z,hd,xs,rel,dd⟩:=lY I.hok e;refine wpAny_notIn_heap (aab hu) (jI I.hok eb) hd dd ?_;have q:=(rel.val k).isSome_eq;rw[ab1] at q;rw[<-q,<-l];exact h _ (I.tok _)
theorem ky{h':Heap}{t':Nat}{ob:HO}(I:Inv X f8 σ H s)(mu:Oe (H a))(hs:Ze a s.heap h')(he:∃q,h'.get? a=some q)(new:ObjOk X.prog X.w (upd H a ob) h' a ob):
 Inv X f8 σ (upd H a ob) {s with heap:=h',toks:=t'}:=
 I.write (x:=a) (e:=a) mu (.inl rfl) (λb q hb z=>(hs.2 b hb).trans z) he new
theorem z5{P:Yd}{w:World}{H':Hp}{h':Heap}{aA:List (Key×V)}{vs:List (Key×Value)}(z:aA.length<=X6)(hd:(a==Zf)=false)(rel:KV aA vs)(dd:h'.DictOf (bj P w) a vs):
 ObjOk P w H' h' a (.dK aA):=⟨z,hd,vs,rel,dd⟩
theorem CU{H':Hp}{Q:Unit->XD->Prop}(hu:A.units+1<cLine)(I:Inv X f8 σ H s)(g:DPut H a y v H')(ry:RelV y u)(rv:RelV v r)(h:∀s',Inv X f8 σ H' s'->Q () s'):
 wpAny (model X.prog X.w) A (setItem (.ref a) u r) Q E s:=by
 rcases g with⟨aA,k,e,ey,l,eH⟩ | ⟨aA,k,b,e,ey,eb,l,eH⟩
 ·subst ey eH;obtain⟨z,hd,vs,rel,dd⟩:=E5 I.hok e;have hz:vs.length<=X6:=by rw[<-rel.length];exact z
  have hl:(putK aA k v).length<=X6:=by have:=et aA k v;omega
  refine wpAny_setItem_pairs (hsz:=hz) (ml ry) dd λh' Bv hs=>h _ ?_;have he:∃q,h'.get? a=some q:=let ⟨q,_,_,hq,_⟩:=Bv;⟨q,hq⟩
  exact ky I (by rw[e];exact Y0) hs he (z5 hl hd (rel.put k rv) Bv)
 ·subst ey eH;cases (show u=Ye b from ry);obtain⟨z,hd,xs,rel,dd⟩:=E7 I.hok e;have hz:xs.length<=X6:=by rw[<-ZO rel];exact z
  have hl:(putK aA k v).length<=X6:=by have:=et aA k v;omega
  refine wpAny_setItem_heap (hsz:=hz) (aab hu) (jI I.hok eb) dd λh' Bv hs=>h _ ?_;obtain⟨q,es,ep,hq,h2,h3,h4,_,h5⟩:=Bv;refine ky I (by rw[e];exact Y0) hs ⟨q,hq⟩ ⟨hl,hd,_,(rel.put k eb rv).keeps λc ys ec=>?_,q,es,ep,hq,h2,h3,h4,h5⟩;rw[az (Gd ec e (λz=>nomatch z))];exact ec
end
def Le(i:Expr):Prop:=∀ov iv,subscripted i false ov iv=operate [ov,iv] (getItem ov iv)
theorem J7{prog:Yd}{w:World}{A:Yy}{E:Value->XD->Prop}{s:XD}{env:Env}{value slice:Expr}{pos:Pos}{T id:String}{Q:Value->XD->Prop}
 (hl:adL (.type T) "__getitem__"=pure (some (.builtin id)))(hs:Le slice)
 (h:wpAny (model prog w) A (eval value env) (λo P3=>wpAny (model prog w) A (eval slice env) (λi v6=>v6.TypeIs o T/\wpAny (model prog w) A (getItem o i) Q E v6) E P3) E s):
 wpAny (model prog w) A (eval (.Subscript value slice pos) env) Q E s:=by
 refine Subscript_ (YV h (λo P3 h₁=>YV h₁ (λi v6 h₂=>?_) λ_ _ x=>x) λ_ _ x=>x);obtain⟨hT,h₂⟩:=h₂;unfold subscriptTail;refine Xy ?_;rw[getitemInPython_of_ne hT.not_modules];refine Xy (aa6 hT hl ?_);have fin:wpAny (model prog w) A (subscripted slice false o i) (λr s₃=>wpAny (model prog w) A (letTemporaryGo value o r>>=λ_=>pure r) Q E s₃) E v6:=by
  rw[hs o i];exact wpAny_operating (YV h₂ (λr s₃ h₃=>Xy (wpAny_letTemporaryGo (XE h₃))) λ_ _ x=>x)
 first
  |exact XE (Xy fin)
  |exact Xy (XE (Xy fin))
  |exact Xy fin
theorem ya{X:Cx}{f8:List (Addr×Obj)}{σ:St}{H:Hp}{s:XD}{a:Addr}{y:V}{o:Option V}(I:Inv X f8 σ H s)(g:ly H a y o):s.TypeIs (.ref a) "dict":=by
 rcases g with⟨aA,k,e,_,_⟩ | ⟨aA,k,b,e,_,_,_⟩
 ·obtain⟨_,_,vs,_,dd⟩:=oV I.hok e;exact dd.typeIs
 ·obtain⟨_,_,xs,_,dd⟩:=lY I.hok e;exact dd.typeIs
def Qk(td ty:TE):TE:=λσ H Q=>td σ H λx H1=>ty σ H1 λy H2=>∃a v,x= .ref a/\ly H2 a y (some v)/\Q v H2
def S2(ty td:TE):TE:=λσ H Q=>ty σ H λy H1=>td σ H1 λx H2=>∃a o,x= .ref a/\ly H2 a y o/\Q (.bl o.isSome) H2
def K7(td ty tv:TE):TS:=λD σ H=>tv σ H λv H1=>td σ H1 λx H2=>ty σ H2 λy H3=>∃a H4,x= .ref a/\DPut H3 a y v H4/\D.nx σ H4
section
variable{X:Cx}{o i value:Expr}{pos pos':Pos}{td ty tv:TE}
theorem JE(hu:X.A.units+1<cLine)(ho:PE X o td)(hi:PE X i ty)(hs:Le i):PE X (.Subscript o i pos) (Qk td ty):=by
 intro f8 s σ H Q I h;refine J7 PySem.F.slot_dict_getitem.lookup hs (b_ (ho f8 s σ H _ I h) λu s1 ⟨x,H1,I1,rx,q1⟩=>b_ (hi f8 s1 σ H1 _ I1 q1) λiv s2 ⟨y,H2,I2,ry,a,v,ex,g,q2⟩=>?_);subst ex;obtain rfl:u=Ye a:=rx;exact⟨ya I2 g,CT hu I2 g ry λw' s3 I3 xK=>⟨v,H2,I3,xK,q2⟩⟩
theorem MV(hu:X.A.units+1<cLine)(hi:PE X i ty)(ho:PE X o td):PC X .In i o (S2 ty td):=by
 intro f8 s σ H Q I h;refine b_ (hi f8 s σ H _ I h) λiv s1 ⟨y,H1,I1,ry,q1⟩=>b_ (ho f8 s1 σ H1 _ I1 q1) λu s2 ⟨x,H2,I2,rx,a,ov,ex,g,q2⟩=>?_;subst ex;obtain rfl:u=Ye a:=rx;exact Oo hu I2 g ry λs3 I3=>⟨.bl ov.isSome,H2,I3,rfl,q2⟩
theorem Cj(hu:X.A.units+1<cLine)(ho:PE X o td)(hi:PE X i ty)(hv:PE X value tv)(hs:aa9 value (some (.Subscript o i pos')) pos.line X.env=pure false):
 PS X (.Assign [.Subscript o i pos'] value pos) (K7 td ty tv):=by
 intro f8 s σ H D I h;refine wpAny_Assign_Subscript (b_ (hv f8 s σ H _ I h) λr s1 ⟨v,H1,I1,rv,q1⟩=>b_ (ho f8 s1 σ H1 _ I1 q1) λu s2 ⟨x,H2,I2,rx,q2⟩=>b_ (hi f8 s2 σ H2 _ I2 q2) λiv s3 ⟨y,H3,I3,ry,a,H4,ex,g,q3⟩=>?_) hs;subst ex;obtain rfl:u=Ye a:=rx;exact CU hu I3 g ry rv λs4 I4=>⟨σ,H4,I4,q3⟩
end
theorem yd{P:Yd}{w:World}{H:Hp}(h:Heap)(hb:Zf<h.objs.size):ObjOk P w H (h.push {cls:= .type "dict",data:= .dict #[]}) h.objs.size (.dK []):=
 ⟨Ys _,aen.mpr (YG (Yj hb)),[], .nil,Heap.DictOf.new h⟩
theorem ye{P:Yd}{w:World}{H:Hp}(h:Heap)(hb:Zf<h.objs.size):ObjOk P w H (h.push {cls:= .type "dict",data:= .dict #[]}) h.objs.size (.dT []):=
 ⟨Ys _,aen.mpr (YG (Yj hb)),[], .nil,_,#[],0,X8 _ rfl,⟨rfl,rfl,rfl⟩,rfl,rfl,ZG⟩
def HD:TE:=λ_ H Q=>∀p,H p=none->Q (.ref p) (upd H p (.dK []))
def NI:TE:=λ_ H Q=>∀p,H p=none->Q (.ref p) (upd H p (.dT []))
section
variable{X:Cx}{pos:Pos}
theorem yV:PE X (.Dict [] [] pos) HD:=λf8 s σ H Q I h=>
 wpAny_Dict_empty ⟨.ref s.heap.objs.size,_,I.laid (a:=s.heap.objs.size) (o:= .dK []) (t':=s.toks) (λ_ _ q=>XJ _ q) (XM _) (yd s.heap I.big),rfl,h _ (I.hok.fresh (XM _))⟩
theorem GW:PE X (.Dict [] [] pos) NI:=λf8 s σ H Q I h=>
 wpAny_Dict_empty ⟨.ref s.heap.objs.size,_,I.laid (a:=s.heap.objs.size) (o:= .dT []) (t':=s.toks) (λ_ _ q=>XJ _ q) (XM _) (ye s.heap I.big),rfl,h _ (I.hok.fresh (XM _))⟩
end
def HF:List (TE×TE)->St->Hp->(List (V×V)->Hp->Prop)->Prop
 |[],_,H,Q=>Q [] H
 |(tk,tv)::r,σ,H,Q=>tk σ H λx H1=>tv σ H1 λy H2=>HF r σ H2 λps H3=>Q ((x,y)::ps) H3
abbrev VV:List (V×V)->List (Value×Value)->Prop:=acC λp q=>RelV p.1 q.1/\RelV p.2 q.2
def Q6(X:Cx)(pos:Pos)(keys:List (Option Expr))(values:List Expr)(Q2:List (TE×TE)):Prop:=
 ∀(f8:List (Addr×Obj)) (s:XD) (σ:St) (H:Hp) (Q:List (V×V)->Hp->Prop),Inv X f8 σ H s->HF Q2 σ H Q->
  wpAny (model X.prog X.w) X.A (evalPairs (pairTrees keys values X.env pos)) (λvs s'=>∃ps H',Inv X f8 σ H' s'/\VV ps vs/\Q ps H') X.xe s
theorem JJ{X:Cx}{pos:Pos}:Q6 X pos [] [] []:=λf8 s σ H Q I h=>pairTrees_nil_walk ⟨[],H,I, .nil,h⟩
theorem GZ{X:Cx}{pos:Pos}{k v:Expr}{ks:List (Option Expr)}{vs:List Expr}{tk tv:TE}{Q2:List (TE×TE)}(hk:PE X k tk)(hv:PE X v tv)(hr:Q6 X pos ks vs Q2):
 Q6 X pos (some k::ks) (v::vs) ((tk,tv)::Q2):=λf8 s σ H Q I h=>
 pairTrees_cons_walk (b_ (hk f8 s σ H _ I h) λu s1 ⟨x,H1,I1,rx,q1⟩=>b_ (hv f8 s1 σ H1 _ I1 q1) λw2 s2 ⟨y,H2,I2,ry,q2⟩=>
  b_ (hr f8 s2 σ H2 _ I2 q2) λws s3 ⟨ps,H3,I3,rel,q3⟩=>⟨(x,y)::ps,H3,I3, .cons ⟨rx,ry⟩ rel,q3⟩)
structure M1 (X:Cx) (o:Expr) (m:Str) (T0:Pos) (e:Expr) (aV:Pos):Prop where
 base:ZZ o m X.env (eval o X.env)=eval o X.env
 few:((ZI aV (X2 [e] X.env)).all (λx=>!x.1)&&(abG aV (aav [] X.env)).all (λx=>x.1.isSome)
  &&decide (([e]:List Expr).length+([]:List aap).length+(if ([]:List aap).isEmpty then 0 else 1)<30))=true
 line:(T0.endLine==aV.line)=true
 trees:ZI aV (X2 [e] X.env)=[(false,eval e X.env)]
structure M2 (X:Cx) (o:Expr) (m:Str) (T0:Pos) (e f:Expr) (aV:Pos):Prop where
 base:ZZ o m X.env (eval o X.env)=eval o X.env
 few:((ZI aV (X2 [e,f] X.env)).all (λx=>!x.1)&&(abG aV (aav [] X.env)).all (λx=>x.1.isSome)
  &&decide (([e,f]:List Expr).length+([]:List aap).length+(if ([]:List aap).isEmpty then 0 else 1)<30))=true
 line:(T0.endLine==aV.line)=true
 trees:ZI aV (X2 [e,f] X.env)=[(false,eval e X.env),(false,eval f X.env)]
def NP(H:Hp)(a:Addr):Prop:=(∃aA,Rd H a (.dK aA))\/∃aA,Rd H a (.dT aA)
theorem vS{X:Cx}{f8:List (Addr×Obj)}{σ:St}{H:Hp}{s:XD}{a:Addr}(I:Inv X f8 σ H s)(d:NP H a):
 s.TypeIs (.ref a) "dict"/\(∀b,Ye a= .ref b->∃ob,s.heap.get? b=some ob/\ob.dict=none)/\(a==Zf)=false:=by
 rcases d with⟨aA,e⟩ | ⟨aA,e⟩
 ·obtain⟨_,hd,vs,_,dd⟩:=oV I.hok e;refine⟨dd.typeIs,λb q=>?_,hd⟩;cases q;obtain⟨ob,_,_,h1,h2,_⟩:=dd;exact⟨ob,h1,h2.2.1⟩
 ·obtain⟨_,hd,xs,_,dd⟩:=lY I.hok e;refine⟨dd.typeIs,λb q=>?_,hd⟩;cases q;obtain⟨ob,_,_,h1,h2,_⟩:=dd;exact⟨ob,h1,h2.2.1⟩
section
variable{X:Cx}{f8:List (Addr×Obj)}{σ:St}{H:Hp}{s:XD}{a:Addr}{y d:V}{u r:Value}{o:Option V}{A:Yy}{E:Value->XD->Prop}
theorem Lv{Q:Value->XD->Prop}(hu:A.units+1<cLine)(I:Inv X f8 σ H s)(g:ly H a y o)(ry:RelV y u)(h:∀w' s',Inv X f8 σ H s'->RelV (o.getD .non) w'->Q w' s'):
 wpAny (model X.prog X.w) A (call (.builtin "dict.get") [.ref a,u]) Q E s:=by
 rcases g with⟨aA,k,e,ey,l⟩ | ⟨aA,k,b,e,ey,eb,l⟩
 ·subst ey;obtain⟨z,hd,vs,rel,dd⟩:=oV I.hok e;refine abS Zw dd.typeIs aaq (acT _ _) (meets_dict_get (bj X.prog X.w) a (ml ry) hd) ⟨_,dd.mapOf,h _ _ (I.tok _) ?_⟩;rw[l];exact(rel.val k).getD rfl
 ·subst ey;cases (show u=Ye b from ry);obtain⟨z,hd,xs,rel,dd⟩:=lY I.hok e;refine abS Zw dd.typeIs aaq (acT _ _) (meetsH_dict_get (ZT (bj X.prog X.w)) a b hd) ⟨aab hu,k,xs,jI I.hok eb,dd,h _ _ (I.tok _) ?_⟩;rw[l];exact(rel.val k).getD rfl
theorem Lw{Q:Value->XD->Prop}(hu:A.units+1<cLine)(I:Inv X f8 σ H s)(g:ly H a y o)(ry:RelV y u)(rd:RelV d r)(h:∀w' s',Inv X f8 σ H s'->RelV (o.getD d) w'->Q w' s'):
 wpAny (model X.prog X.w) A (call (.builtin "dict.get") [.ref a,u,r]) Q E s:=by
 rcases g with⟨aA,k,e,ey,l⟩ | ⟨aA,k,b,e,ey,eb,l⟩
 ·subst ey;obtain⟨z,hd,vs,rel,dd⟩:=oV I.hok e;refine abS Zw dd.typeIs aaq (acS _ _ _) (meets_dict_get_default (bj X.prog X.w) a (ml ry) hd r) ⟨_,dd.mapOf,h _ _ (I.tok _) ?_⟩;rw[l];exact(rel.val k).getD rd
 ·subst ey;cases (show u=Ye b from ry);obtain⟨z,hd,xs,rel,dd⟩:=lY I.hok e;refine abS Zw dd.typeIs aaq (acS _ _ _) (meetsH_dict_get_default (ZT (bj X.prog X.w)) a b hd r) ⟨aab hu,k,xs,jI I.hok eb,dd,h _ _ (I.tok _) ?_⟩;rw[l];exact(rel.val k).getD rd
end
def NG(td ty:TE):TE:=λσ H Q=>td σ H λx H1=>∃a,x= .ref a/\NP H1 a/\ty σ H1 λy H2=>∃o,ly H2 a y o/\Q (o.getD .non) H2
def NH(td ty tx:TE):TE:=λσ H Q=>td σ H λx H1=>∃a,x= .ref a/\NP H1 a/\ty σ H1 λy H2=>tx σ H2 λz H3=>∃o,ly H3 a y o/\Q (o.getD z) H3
section
variable{X:Cx}{o e f:Expr}{T0 aV:Pos}{td ty tx:TE}
theorem GU(hu:X.A.units+1<cLine)(ho:PE X o td)(he:PE X e ty)(m:M1 X o "get" T0 e aV):PE X (.Call (.Attribute o "get" T0) [e] [] aV) (NG td ty):=by
 intro f8 s σ H Q I h;refine abw m.base m.few m.line aam Zw ac6 (b_ (ho f8 s σ H _ I h) λu s1 ⟨x,H1,I1,rx,a,ex,d,q1⟩=>?_);subst ex;obtain rfl:u=Ye a:=rx;obtain⟨t1,t2,_⟩:=vS I1 d;refine⟨t1,t2,?_⟩;rw[m.trees];refine ZX rfl (ZH (Y4 (b_ (he f8 s1 σ H1 _ I1 q1) λiv s2 ⟨y,H2,I2,ry,ov,g,q2⟩=>ZJ ?_)));exact Lv hu I2 g ry λw' s3 I3 xK=>⟨_,H2,I3,xK,q2⟩
theorem GV(hu:X.A.units+1<cLine)(ho:PE X o td)(he:PE X e ty)(hf:PE X f tx)(m:M2 X o "get" T0 e f aV):PE X (.Call (.Attribute o "get" T0) [e,f] [] aV) (NH td ty tx):=by
 intro f8 s σ H Q I h;refine abw m.base m.few m.line aam Zw ac6 (b_ (ho f8 s σ H _ I h) λu s1 ⟨x,H1,I1,rx,a,ex,d,q1⟩=>?_);subst ex;obtain rfl:u=Ye a:=rx;obtain⟨t1,t2,_⟩:=vS I1 d;refine⟨t1,t2,?_⟩;rw[m.trees];refine ZX rfl (ZH (Y4 (b_ (he f8 s1 σ H1 _ I1 q1) λiv s2 ⟨y,H2,I2,ry,q2⟩=>
  Y4 (b_ (hf f8 s2 σ H2 _ I2 q2) λfv s3 ⟨z,H3,I3,rz,ov,g,q3⟩=>ZJ ?_))))
 exact Lw hu I3 g ry rz λw' s4 I4 xK=>⟨_,H3,I4,xK,q3⟩
end
end L2
namespace L3
open PySem PySem.Spec L2
open PyProof.Rows hiding St
inductive Rs (α:Type) where
 |ok (a:α) | ex (n:Nat)
def M(α:Type):=Option (Rs α)
def ae{α:Type}(a:α):M α:=some (.ok a)
def M.bind{α β:Type}(m:M α)(k:α->M β):M β:=match m with
 |none=>none
 |some (.ex n)=>some (.ex n)
 |some (.ok a)=>k a
def ag{α:Type}:M α:=none
def a7{α:Type}(n:Nat):M α:=some (.ex n)
instance:Monad M where
 pure:=ae
 bind:=M.bind
@[simp] theorem ax{α β:Type}(a:α)(k:α->M β):(ae a>>=k)=k a:=rfl
@[simp] theorem Lj{α β:Type}(a:α)(k:α->M β):((pure a:M α)>>=k)=k a:=rfl
@[simp] theorem Lk{α β:Type}(n:Nat)(k:α->M β):(a7 n>>=k)=a7 n:=rfl
@[simp] theorem Ll{α β:Type}(k:α->M β):((ag:M α)>>=k)=ag:=rfl
theorem M.cs{α:Type}(m:M α):m=ag\/(∃n,m=a7 n)\/∃a,m=ae a:=by
 match m with
 |none=>exact .inl rfl
 |some (.ex n)=>exact .inr (.inl ⟨n,rfl⟩)
 |some (.ok a)=>exact .inr (.inr ⟨a,rfl⟩)
theorem fw{α:Type}{a b:α}(h:ae a=ae b):a=b:=by
 have h:some (Rs.ok a)=some (Rs.ok b):=h;cases h;rfl
theorem eT{α:Type}{a:α}(h:ag=ae a):False:=by
 have h:none=some (Rs.ok a):=h;cases h
theorem G_{α:Type}{n:Nat}{a:α}(h:a7 n=ae a):False:=by
 have h:some (Rs.ex n)=some (Rs.ok a):=h;cases h
theorem d4{α β:Type}{m:M α}{k:α->M β}{r:β}(h:(m>>=k)=ae r):∃a,m=ae a/\k a=ae r:=by
 rcases m.cs with e | ⟨n,e⟩ | ⟨a,e⟩
 ·subst e;exact(eT h).elim
 ·subst e;exact(G_ h).elim
 ·subst e;exact⟨a,rfl,h⟩
def Bd(h:Heap)(ea D:Addr):Prop:=∃ox,h.get? ea=some ox/\ox.cls= .ref D
def Ld(ea D:Addr):HO:= .ext λh=>Bd h ea D
inductive D where
 |non | bl (b:Bool) | int (i:Int) | str (x:Str) | raw (v:V) | exc (C:Addr) | scr (l:List Int) | tup (l:List D) | lst (l:List D)
 |dct (ks:List (List Key)) (l:List D) | dci (ks:List Key) (l:List D)
instance:Inhabited D:=⟨.non⟩
def lim:Nat:=4096
theorem dS:lim<X6:=by rw[Zx];decide
mutual
def Den(K:XO)(F:Hp):D->V->Prop
 | .non,v=>v= .non
 | .bl b,v=>v= .bl b
 | .int i,v=>v= .int i
 | .str x,v=>v= .str x/\x.length<=lim
 | .raw u,v=>v=u
 | .exc C,v=>∃ea,v= .ref ea/\F ea=some (Ld ea C)
 | .scr ns,v=>∃a,v= .ref a/\SqL K F a (ns.map V.int)/\ns.length<=lim
 | .tup ds,v=>∃a vs,v= .ref a/\F a=some (.tup vs)/\DenL K F ds vs/\ds.length<=lim
 | .lst ds,v=>∃a vs,v= .ref a/\F a=some (.lst vs)/\DenL K F ds vs/\ds.length<=lim
 | .dct ks ds,v=>∃a ob vs,v= .ref a/\F a=some (.frz ob (.dT (ks.zip vs)))/\DenL K F ds vs/\ks.length=ds.length/\ds.length<=lim
 | .dci ks ds,v=>∃a ob vs,v= .ref a/\F a=some (.frz ob (.dK (ks.zip vs)))/\DenL K F ds vs/\ks.length=ds.length/\ds.length<=lim
def DenL(K:XO)(F:Hp):List D->List V->Prop
 |[],vs=>vs=[]
 |d::ds,vs=>∃v r,vs=v::r/\Den K F d v/\DenL K F ds r
end
theorem Same.rd{H H':Hp}{a:Addr}{u:HO}(e:Same H H')(h:Rd H a u):Rd H' a u:=by
 rcases h with h | ⟨o,h⟩
 ·exact .inl (e _ _ h)
 ·exact .inr ⟨o,e _ _ h⟩
theorem Same.tup{K:XO}{H H':Hp}{a:Addr}{xs:List V}(e:Same H H')(h:SqT K H a xs):SqT K H' a xs:=by
 rcases h with h | h
 ·exact .inl (Same.rd e h)
 ·exact .inr h
section
variable{K:XO}{F F':Hp}
mutual
theorem Den.mono(e:Same F F'):∀{d:D}{v:V},Den K F d v->Den K F' d v
 | .non,_,h=>h
 | .bl _,_,h=>h
 | .int _,_,h=>h
 | .str _,_,h=>h
 | .raw _,_,h=>h
 | .exc _,_,⟨a,h1,h2⟩=>⟨a,h1,e _ _ h2⟩
 | .scr _,_,⟨a,h1,h2,h3⟩=>⟨a,h1,Same.seq e h2,h3⟩
 | .tup _,_,⟨a,vs,h1,h2,h3,h4⟩=>⟨a,vs,h1,e _ _ h2,DenL.mono e h3,h4⟩
 | .lst _,_,⟨a,vs,h1,h2,h3,h4⟩=>⟨a,vs,h1,e _ _ h2,DenL.mono e h3,h4⟩
 | .dct _ _,_,⟨a,ob,vs,h1,h2,h3,h4⟩=>⟨a,ob,vs,h1,e _ _ h2,DenL.mono e h3,h4⟩
 | .dci _ _,_,⟨a,ob,vs,h1,h2,h3,h4⟩=>⟨a,ob,vs,h1,e _ _ h2,DenL.mono e h3,h4⟩
theorem DenL.mono(e:Same F F'):∀{ds:List D}{vs:List V},DenL K F ds vs->DenL K F' ds vs
 |[],_,h=>h
 |_::_,_,⟨v,r,h1,h2,h3⟩=>⟨v,r,h1,Den.mono e h2,DenL.mono e h3⟩
end
theorem DenL.nil:DenL K F [] []:=rfl
theorem DenL.cons{d:D}{v:V}{ds:List D}{vs:List V}(h:Den K F d v)(r:DenL K F ds vs):DenL K F (d::ds) (v::vs):=⟨v,vs,rfl,h,r⟩
theorem DenL.len:∀{ds:List D}{vs:List V},DenL K F ds vs->ds.length=vs.length
 |[],_,h=>by cases (show _=_ from h);rfl
 |_::ds,_,⟨v,r,h1,_,h3⟩=>by subst h1;rw[XH,XH,DenL.len h3]
theorem DenL.get:∀{ds:List D}{vs:List V}{i:Nat}{d:D},DenL K F ds vs->ds[i]? =some d->∃v,vs[i]? =some v/\Den K F d v
 |[],_,_,_,_,e=>by simp at e
 |d::ds,_,0,_,⟨v,r,h1,h2,h3⟩,e=>by subst h1;simp at e;subst e;exact⟨v,rfl,h2⟩
 |d::ds,_,i+1,_,⟨v,r,h1,h2,h3⟩,e=>by
  subst h1;obtain⟨w,e1,e2⟩:=DenL.get (i:=i) h3 (by simpa using e);exact⟨w,by simpa using e1,e2⟩
theorem DenL.at:∀{ds:List D}{vs:List V}{i:Nat}{v:V},DenL K F ds vs->vs[i]? =some v->∃d,ds[i]? =some d/\Den K F d v
 |[],_,_,_,h,e=>by cases (show _=_ from h);simp at e
 |d::ds,_,0,_,⟨v,r,h1,h2,h3⟩,e=>by subst h1;simp at e;subst e;exact⟨d,rfl,h2⟩
 |d::ds,_,i+1,_,⟨v,r,h1,h2,h3⟩,e=>by
  subst h1;obtain⟨w,e1,e2⟩:=DenL.at (i:=i) h3 (by simpa using e);exact⟨w,by simpa using e1,e2⟩
theorem DenL.append:∀{ds es:List D}{vs ws:List V},DenL K F ds vs->DenL K F es ws->DenL K F (ds++es) (vs++ws)
 |[],_,_,_,h,h'=>by cases (show _=_ from h);exact h'
 |d::ds,_,_,_,⟨v,r,h1,h2,h3⟩,h'=>by subst h1;exact⟨v,_,rfl,h2,DenL.append h3 h'⟩
theorem DenL.take:∀{ds:List D}{vs:List V}(n:Nat),DenL K F ds vs->DenL K F (ds.take n) (vs.take n)
 |_,_,0,_=>by simp[List.take];rfl
 |[],_,_+1,h=>by cases (show _=_ from h);rfl
 |d::ds,_,n+1,⟨v,r,h1,h2,h3⟩=>by subst h1;exact⟨v,_,rfl,h2,DenL.take n h3⟩
theorem DenL.ints(ns:List Int):DenL K F (ns.map D.int) (ns.map V.int):=by
 induction ns with
 |nil=>rfl
 |cons n ns ih=>exact .cons rfl ih
end
structure Ext (F H F' H':Hp):Prop where
 hh:Same H H'
 ff:Same F F'
 fh:Same F' H'
 new:∀a,H a≠none->F' a=F a\/∃ts,H a=some (.tup ts)
theorem Ext.old{F H F' H':Hp}(e:Ext F H F' H'){a:Addr}{o:HO}(h:H a=some o)(hn:∀ts,o≠ .tup ts):F' a=F a:=by
 rcases e.new a (by rw[h];exact λz=>nomatch z) with q | ⟨ts,q⟩
 ·exact q
 ·rw[h] at q;cases q;exact aej rfl (hn ts)
theorem Ext.refl{F H:Hp}(h:Same F H):Ext F H F H:=⟨Same.refl _,Same.refl _,h,λ_ _=> .inl rfl⟩
theorem Ext.trans{F H F' H' F'' H'':Hp}(a:Ext F H F' H')(b:Ext F' H' F'' H''):Ext F H F'' H'':=
 ⟨a.hh.trans b.hh,a.ff.trans b.ff,b.fh,λc hc=>by
  have:H' c≠none:=by
   cases q:H c with
   |none=>exact aej q hc
   |some o=>rw[a.hh c o q];exact λz=>nomatch z
  rcases a.new c hc with p | p
  ·rcases b.new c this with q | ⟨ts,q⟩
   ·exact .inl (q.trans p)
   ·cases z:H c with
    |none=>exact aej z hc
    |some o=>
     rw[a.hh c o z] at q;exact .inr ⟨ts,q⟩
  ·exact .inr p⟩
theorem Ext.lay{F H:Hp}{a:Addr}{o:HO}(h:Same F H)(n:H a=none):Ext F H (upd F a o) (upd H a o):=by
 have nf:F a=none:=Same.free h n;refine⟨λb u e=>?_,λb u e=>?_,λb u e=>?_,λb hb=>?_⟩
 ·rw[az (bp e n)];exact e
 ·rw[az (bp e nf)];exact e
 ·by_cases q:b=a
  ·subst q;rw[aG] at e⊢;exact e
  ·rw[az q] at e⊢;exact h b u e
 ·exact .inl (az λz=>hb (by rw[z];exact n))
theorem Ext.free{F H:Hp}{a:Addr}{o:HO}(h:Same F H)(n:H a=none):Ext F H F (upd H a o):=
 ⟨λb u e=>by rw[az (bp e n)];exact e,Same.refl _,λb u e=>by rw[az (bp (h b u e) n)];exact h b u e,λ_ _=> .inl rfl⟩
theorem Ext.tup{F H:Hp}{a:Addr}{ts:List V}(h:Same F H)(e:H a=some (.tup ts)):Ext F H (upd F a (.tup ts)) H:=by
 refine⟨Same.refl _,λb u q=>?_,λb u q=>?_,λb hb=>?_⟩
 ·by_cases z:b=a
  ·subst z;rw[aG,<-e];exact h b u q
  ·rw[az z];exact q
 ·by_cases z:b=a
  ·subst z;rw[aG] at q;rw[e];exact q
  ·rw[az z] at q;exact h b u q
 ·by_cases z:b=a
  ·subst z;exact .inr ⟨ts,e⟩
  ·exact .inl (az z)
def WP(K:XO)(Xw:Nat->Hp->Prop)(F H:Hp)(m:M D)(Q:VK):Prop:=
 match m with
 |none=>False
 |some (.ok d)=>∀v H' F',Ext F H F' H'->Den K F' d v->Q v H'
 |some (.ex n)=>∀F' H',Ext F H F' H'->Xw n H'
def WPL(K:XO)(Xw:Nat->Hp->Prop)(F H:Hp)(m:M (List D))(Q:List V->Hp->Prop):Prop:=
 match m with
 |none=>False
 |some (.ok ds)=>∀vs H' F',Ext F H F' H'->DenL K F' ds vs->Q vs H'
 |some (.ex n)=>∀F' H',Ext F H F' H'->Xw n H'
def WPB(Xw:Nat->Hp->Prop)(F H:Hp)(m:M Bool)(Q:Bool->Hp->Prop):Prop:=
 match m with
 |none=>False
 |some (.ok b)=>∀H' F',Ext F H F' H'->Q b H'
 |some (.ex n)=>∀F' H',Ext F H F' H'->Xw n H'
section
variable{K:XO}{Xw:Nat->Hp->Prop}{F F' H H':Hp}{Q:VK}
theorem WP.ext{m:M D}(e:Ext F H F' H')(h:WP K Xw F H m Q):WP K Xw F' H' m Q:=by
 match m,h with
 |none,h=>exact h
 |some (.ok d),h=>exact λv H2 F2 e2 q=>h v H2 F2 (e.trans e2) q
 |some (.ex n),h=>exact λF2 H2 e2=>h F2 H2 (e.trans e2)
theorem WPL.ext{m:M (List D)}{Q:List V->Hp->Prop}(e:Ext F H F' H')(h:WPL K Xw F H m Q):WPL K Xw F' H' m Q:=by
 match m,h with
 |none,h=>exact h
 |some (.ok d),h=>exact λv H2 F2 e2 q=>h v H2 F2 (e.trans e2) q
 |some (.ex n),h=>exact λF2 H2 e2=>h F2 H2 (e.trans e2)
theorem WPB.ext{m:M Bool}{Q:Bool->Hp->Prop}(e:Ext F H F' H')(h:WPB Xw F H m Q):WPB Xw F' H' m Q:=by
 match m,h with
 |none,h=>exact h
 |some (.ok d),h=>exact λH2 F2 e2=>h H2 F2 (e.trans e2)
 |some (.ex n),h=>exact λF2 H2 e2=>h F2 H2 (e.trans e2)
theorem WP.fin{d:D}{v:V}(h:WP K Xw F H (ae d) Q)(e:Ext F H F' H')(q:Den K F' d v):Q v H':=h v H' F' e q
theorem WP.now{d:D}{v:V}(h:WP K Xw F H (ae d) Q)(s:Same F H)(q:Den K F d v):Q v H:=h v H F (Ext.refl s) q
theorem WP.bind{m:M D}{k:D->M D}(h:WP K Xw F H (m>>=k) Q):WP K Xw F H m λv H1=>∃F1 d,Ext F H F1 H1/\Den K F1 d v/\WP K Xw F1 H1 (k d) Q:=by
 match m,h with
 |none,h=>exact h
 |some (.ok d),h=>exact λv H2 F2 e2 q=>⟨F2,d,e2,q,WP.ext e2 (show WP K Xw F H (k d) Q from h)⟩
 |some (.ex n),h=>exact h
theorem WP.bindL{m:M (List D)}{k:List D->M D}(h:WP K Xw F H (m>>=k) Q):WPL K Xw F H m λvs H1=>∃F1 ds,Ext F H F1 H1/\DenL K F1 ds vs/\WP K Xw F1 H1 (k ds) Q:=by
 match m,h with
 |none,h=>exact h
 |some (.ok d),h=>exact λv H2 F2 e2 q=>⟨F2,d,e2,q,WP.ext e2 (show WP K Xw F H (k d) Q from h)⟩
 |some (.ex n),h=>exact h
theorem WP.bindB{m:M Bool}{k:Bool->M D}(h:WP K Xw F H (m>>=k) Q):WPB Xw F H m λb H1=>∃F1,Ext F H F1 H1/\WP K Xw F1 H1 (k b) Q:=by
 match m,h with
 |none,h=>exact h
 |some (.ok d),h=>exact λH2 F2 e2=>⟨F2,e2,WP.ext e2 (show WP K Xw F H (k d) Q from h)⟩
 |some (.ex n),h=>exact h
theorem WPB.bind{m:M D}{k:D->M Bool}{Q:Bool->Hp->Prop}(h:WPB Xw F H (m>>=k) Q):WP K Xw F H m λv H1=>∃F1 d,Ext F H F1 H1/\Den K F1 d v/\WPB Xw F1 H1 (k d) Q:=by
 match m,h with
 |none,h=>exact h
 |some (.ok d),h=>exact λv H2 F2 e2 q=>⟨F2,d,e2,q,WPB.ext e2 (show WPB Xw F H (k d) Q from h)⟩
 |some (.ex n),h=>exact h
theorem WPB.bindB{m:M Bool}{k:Bool->M Bool}{Q:Bool->Hp->Prop}(h:WPB Xw F H (m>>=k) Q):WPB Xw F H m λb H1=>∃F1,Ext F H F1 H1/\WPB Xw F1 H1 (k b) Q:=by
 match m,h with
 |none,h=>exact h
 |some (.ok d),h=>exact λH2 F2 e2=>⟨F2,e2,WPB.ext e2 (show WPB Xw F H (k d) Q from h)⟩
 |some (.ex n),h=>exact h
theorem WPL.bind{m:M D}{k:D->M (List D)}{Q:List V->Hp->Prop}(h:WPL K Xw F H (m>>=k) Q):WP K Xw F H m λv H1=>∃F1 d,Ext F H F1 H1/\Den K F1 d v/\WPL K Xw F1 H1 (k d) Q:=by
 match m,h with
 |none,h=>exact h
 |some (.ok d),h=>exact λv H2 F2 e2 q=>⟨F2,d,e2,q,WPL.ext e2 (show WPL K Xw F H (k d) Q from h)⟩
 |some (.ex n),h=>exact h
theorem WPL.bindL{m:M (List D)}{k:List D->M (List D)}{Q:List V->Hp->Prop}(h:WPL K Xw F H (m>>=k) Q):WPL K Xw F H m λvs H1=>∃F1 ds,Ext F H F1 H1/\DenL K F1 ds vs/\WPL K Xw F1 H1 (k ds) Q:=by
 match m,h with
 |none,h=>exact h
 |some (.ok d),h=>exact λv H2 F2 e2 q=>⟨F2,d,e2,q,WPL.ext e2 (show WPL K Xw F H (k d) Q from h)⟩
 |some (.ex n),h=>exact h
theorem WP.mono{m:M D}{Q':VK}(h:WP K Xw F H m Q)(k:∀v H',Q v H'->Q' v H'):WP K Xw F H m Q':=by
 match m,h with
 |none,h=>exact h
 |some (.ok d),h=>exact λv H2 F2 e2 q=>k _ _ (h v H2 F2 e2 q)
 |some (.ex n),h=>exact h
theorem WPL.mono{m:M (List D)}{Q Q':List V->Hp->Prop}(h:WPL K Xw F H m Q)(k:∀v H',Q v H'->Q' v H'):WPL K Xw F H m Q':=by
 match m,h with
 |none,h=>exact h
 |some (.ok d),h=>exact λv H2 F2 e2 q=>k _ _ (h v H2 F2 e2 q)
 |some (.ex n),h=>exact h
theorem WPB.mono{m:M Bool}{Q Q':Bool->Hp->Prop}(h:WPB Xw F H m Q)(k:∀v H',Q v H'->Q' v H'):WPB Xw F H m Q':=by
 match m,h with
 |none,h=>exact h
 |some (.ok d),h=>exact λH2 F2 e2=>k _ _ (h H2 F2 e2)
 |some (.ex n),h=>exact h
end
inductive C where
 |lst (l:List D) | dct (ks:List (List Key)) (l:List D) | dci (ks:List Key) (l:List D)
def C.d:C->D
 | .lst ds=> .lst ds
 | .dct ks ds=> .dct ks ds
 | .dci ks ds=> .dci ks ds
inductive Sl where
 |fz (d:D) | ow (c:C)
abbrev aX:=List (Option Sl)
def DenC(K:XO)(F:Hp):C->HO->Prop
 | .lst ds,o=>∃vs,o= .lst vs/\DenL K F ds vs/\ds.length<=lim
 | .dct ks ds,o=>∃vs,o= .dT (ks.zip vs)/\DenL K F ds vs/\ks.length=ds.length/\ds.length<=lim
 | .dci ks ds,o=>∃vs,o= .dK (ks.zip vs)/\DenL K F ds vs/\ks.length=ds.length/\ds.length<=lim
theorem DenC.mono{K:XO}{F F':Hp}(e:Same F F'):∀{c:C}{o:HO},DenC K F c o->DenC K F' c o
 | .lst _,_,⟨vs,h1,h2,h3⟩=>⟨vs,h1,DenL.mono e h2,h3⟩
 | .dct _ _,_,⟨vs,h1,h2,h3⟩=>⟨vs,h1,DenL.mono e h2,h3⟩
 | .dci _ _,_,⟨vs,h1,h2,h3⟩=>⟨vs,h1,DenL.mono e h2,h3⟩
theorem DenC.notup{K:XO}{F:Hp}:∀{c:C}{o:HO},DenC K F c o->∀ts,o≠ .tup ts
 | .lst _,_,⟨_,h1,_⟩,ts,z=>by rw[h1] at z;cases z
 | .dct _ _,_,⟨_,h1,_⟩,ts,z=>by rw[h1] at z;cases z
 | .dci _ _,_,⟨_,h1,_⟩,ts,z=>by rw[h1] at z;cases z
def pX(ob:Obj):HO->HO
 | .dT aA=> .frz ob (.dT aA)
 | .dK aA=> .frz ob (.dK aA)
 |o=>o
theorem DenC.den{K:XO}{F F':Hp}{a:Addr}{ob:Obj}:∀{c:C}{o:HO},DenC K F c o->Same F F'->F' a=some (pX ob o)->Den K F' c.d (.ref a)
 | .lst _,_,⟨vs,h1,h2,h3⟩,e,q=>by subst h1;exact⟨a,vs,rfl,q,DenL.mono e h2,h3⟩
 | .dct _ _,_,⟨vs,h1,h2,h3⟩,e,q=>by subst h1;exact⟨a,ob,vs,rfl,q,DenL.mono e h2,h3⟩
 | .dci _ _,_,⟨vs,h1,h2,h3⟩,e,q=>by subst h1;exact⟨a,ob,vs,rfl,q,DenL.mono e h2,h3⟩
def DenO(K:XO)(F H:Hp):Sl->V->Prop
 | .fz d,v=>Den K F d v
 | .ow c,v=>∃a o,v= .ref a/\H a=some o/\F a=none/\DenC K F c o
structure StE (K:XO) (F H:Hp) (σ:St) (ρ:aX):Prop where
 fh:Same F H
 den:∀(i:Nat) (sl:Sl),ρ[i]? =some (some sl)->∃v,σ[i]? =some (some v)/\DenO K F H sl v
theorem DenO.ext{K:XO}{F H F' H':Hp}(e:Ext F H F' H'):∀{sl:Sl}{v:V},DenO K F H sl v->DenO K F' H' sl v
 | .fz _,_,h=>Den.mono e.ff h
 | .ow _,_,⟨a,o,h1,h2,h3,h4⟩=>⟨a,o,h1,e.hh _ _ h2,by rw[e.old h2 h4.notup];exact h3,DenC.mono e.ff h4⟩
theorem StE.ext{K:XO}{F H F' H':Hp}{σ:St}{ρ:aX}(s:StE K F H σ ρ)(e:Ext F H F' H'):StE K F' H' σ ρ:=
 ⟨e.fh,λi sl q=>let ⟨v,h1,h2⟩:=s.den i sl q;⟨v,h1,h2.ext e⟩⟩
abbrev DE:=aX->M D
abbrev DT:=aX->M Bool
abbrev DA:=aX->M (List D)
def tD(K:XO)(Xw:Nat->Hp->Prop)(δ:DE):TE:=λσ H Q=>∃F ρ,StE K F H σ ρ/\WP K Xw F H (δ ρ) Q
def Q0(K:XO)(Xw:Nat->Hp->Prop)(δ:DT):TT:=λσ H Q=>∃F ρ,StE K F H σ ρ/\WPB Xw F H (δ ρ) Q
def UK(K:XO)(Xw:Nat->Hp->Prop)(δ:DA):TA:=λσ H Q=>∃F ρ,StE K F H σ ρ/\WPL K Xw F H (δ ρ) Q
def PD(X:Cx)(Xw:Nat->Hp->Prop)(e:Expr)(δ:DE):Prop:=PE X e (tD X.K Xw δ)
def qA(X:Cx)(Xw:Nat->Hp->Prop)(e:Expr)(δ:DT):Prop:=PT X e (Q0 X.K Xw δ)
def gQ(X:Cx)(Xw:Nat->Hp->Prop)(es:List Expr)(δ:DA):Prop:=PA X es (UK X.K Xw δ)
theorem PE.weak{X:Cx}{e:Expr}{t t':TE}(h:PE X e t)(k:∀σ H Q,t' σ H Q->t σ H Q):PE X e t':=λf8 s σ H Q I w=>h f8 s σ H Q I (k σ H Q w)
theorem PT.weak{X:Cx}{e:Expr}{t t':TT}(h:PT X e t)(k:∀σ H Q,t' σ H Q->t σ H Q):PT X e t':=λf8 s σ H Q I w=>h f8 s σ H Q I (k σ H Q w)
theorem PA.weak{X:Cx}{e:List Expr}{t t':TA}(h:PA X e t)(k:∀σ H Q,t' σ H Q->t σ H Q):PA X e t':=λpos f8 s σ H Q I w=>h pos f8 s σ H Q I (k σ H Q w)
def dV(i:Nat):DE:=λρ=>match ρ[i]? with
 |some (some (.fz d))=>ae d
 |_=>ag
def dC(d:D):DE:=λ_=>ae d
def d1(g:D->M D)(a:DE):DE:=λρ=>a ρ>>=g
def d2(g:D->D->M D)(a b:DE):DE:=λρ=>a ρ>>=λx=>b ρ>>=λy=>g x y
def aN:DA:=λ_=>ae []
def aC(a:DE)(r:DA):DA:=λρ=>a ρ>>=λx=>r ρ>>=λxs=>ae (x::xs)
def dA(g:List D->M D)(a:DA):DE:=λρ=>a ρ>>=g
def Ef:D->M Bool
 | .bl b=>ae b
 |_=>ag
def cf(a:DE):DT:=λρ=>a ρ>>=Ef
def vE(a b:DT):DT:=λρ=>a ρ>>=λx=>if x then b ρ else ae false
def lS(a b:DT):DT:=λρ=>a ρ>>=λx=>if x then ae true else b ρ
def cG(a:DT):DT:=λρ=>a ρ>>=λx=>ae (!x)
def Qz(c:DT)(a b:DE):DE:=λρ=>c ρ>>=λx=>if x then a ρ else b ρ
def eE(a b:DE):DE:=λρ=>a ρ>>=λx=>Ef x>>=λc=>if c then b ρ else ae (.bl false)
def Kk(a:DE):DE:=λρ=>a ρ>>=λx=>Ef x>>=λc=>ae (.bl (!c))
section
variable{X:Cx}{Xw:Nat->Hp->Prop}{a b:Expr}{δa δb:DE}{pos:Pos}
theorem af{i:Nat}{x:Str}(h:PE X (.Name x pos) (lR i)):PD X Xw (.Name x pos) (dV i):=PE.weak h λσ H Q ⟨F,ρ,s,w⟩=>by
 unfold dV at w;split at w
 ·rename_i d e;obtain⟨v,h1,h2⟩:=s.den i _ e;exact⟨v,h1,WP.now w s.fh h2⟩
 ·exact w.elim
theorem iG{e:Expr}{d:D}{v:V}(h:PE X e (tC v))(hd:∀F,Den X.K F d v):PD X Xw e (dC d):=PE.weak h λσ H Q ⟨F,ρ,s,w⟩=>WP.now w s.fh (hd F)
theorem aq{i j}:PD X Xw (.Constant (.int i) j pos) (dC (.int i)):=iG M7 λ_=>rfl
theorem eX{i j}:PD X Xw (.Constant (.bool i) j pos) (dC (.bl i)):=iG K2 λ_=>rfl
theorem cW{j}:PD X Xw (.Constant .none j pos) (dC .non):=iG M8 λ_=>rfl
theorem cw{x j}(h:x.length<=lim:=by decide):PD X Xw (.Constant (.str x) j pos) (dC (.str x)):=iG Na λ_=>⟨rfl,h⟩
def zM(K:XO)(r:R2)(g:D->D->M D):Prop:=∀(Xw:Nat->Hp->Prop) (F H:Hp) (x y:V) (dx dy:D) (Q:VK),Same F H->Den K F dx x->Den K F dy y->WP K Xw F H (g dx dy) Q->r x y H Q
theorem xt{r:R2}{g:D->D->M D}(hg:zM X.K r g):∀σ H Q,tD X.K Xw (d2 g δa δb) σ H Q->Qp r (tD X.K Xw δa) (tD X.K Xw δb) σ H Q:=λσ H Q ⟨F,ρ,s,w⟩=>by
 refine⟨F,ρ,s,WP.mono (WP.bind w) λv H1 ⟨F1,d,e1,q1,w1⟩=>?_⟩;refine⟨F1,ρ,s.ext e1,WP.mono (WP.bind w1) λu H2 ⟨F2,d',e2,q2,w2⟩=>?_⟩;exact hg Xw F2 H2 v u d d' Q e2.fh (Den.mono e2.ff q1) q2 w2
theorem pH{op:Operator}{r:R2}{g:D->D->M D}(ho:OpR X (aaP op) r)(hg:zM X.K r g)(ha:PD X Xw a δa)(hb:PD X Xw b δb):PD X Xw (.BinOp a op b pos) (d2 g δa δb):=
 PE.weak (PU ho ha hb) (xt hg)
theorem AI{op:CmpOp}{r:R2}{g:D->D->M D}(ho:OpR X (YZ op) r)(hg:zM X.K r g)(ha:PD X Xw a δa)(hb:PD X Xw b δb)(hm:YY op b=false:=by first | exact Gm _ | rfl):PD X Xw (.Compare a [op] [b] pos) (d2 g δa δb):=
 PE.weak (JD ho ha hb hm) (xt hg)
theorem kM{op:CmpOp}{r:R2}{g:D->D->M D}(ho:OpR X (YZ op) r)(hg:zM X.K r g)(ha:PD X Xw a δa)(hb:PD X Xw b δb)(hm:YY op b=false:=by first | exact Gm _ | rfl):qA X Xw (.Compare a [op] [b] pos) (cf (d2 g δa δb)):=
 PT.weak (JO ho ha hb hm) λσ H Q ⟨F,ρ,s,w⟩=>by
  refine xt hg σ H _ ⟨F,ρ,s,WP.mono (WPB.bind w) λv H1 ⟨F1,d,e1,q1,w1⟩=>?_⟩;cases d with
  |bl k=>exact⟨k,q1,w1 _ _ (Ext.refl e1.fh)⟩
  |_=>exact w1.elim
theorem Cb{r:R2}{g:D->D->M D}(hr:Oc X r)(hg:zM X.K r g)(ha:PD X Xw a δa)(hb:PD X Xw b δb)(hs:kq b:=by intro _ _;rfl):PD X Xw (.Subscript a b pos) (d2 g δa δb):=
 PE.weak (PR hr ha hb hs) (xt hg)
theorem ah:gQ X Xw [] aN:=PA.weak wH λσ H Q ⟨F,ρ,s,w⟩=>w [] H F (Ext.refl s.fh) rfl
theorem aa{es:List Expr}{δs:DA}(ha:PD X Xw a δa)(hr:gQ X Xw es δs)(hs:X2 (a::es) X.env=(false,eval a X.env)::X2 es X.env:=by rfl):gQ X Xw (a::es) (aC δa δs):=
 PA.weak (wG ha hr hs) λσ H Q ⟨F,ρ,s,w⟩=>by
  refine⟨F,ρ,s,WP.mono (WPL.bind w) λv H1 ⟨F1,d,e1,q1,w1⟩=>?_⟩;refine⟨F1,ρ,s.ext e1,WPL.mono (WPL.bindL w1) λvs H2 ⟨F2,ds,e2,q2,w2⟩=>?_⟩;exact w2 _ _ _ (Ext.refl e2.fh) (.cons (Den.mono e2.ff q1) q2)
def aO(ds:List D):M D:=if ds.length<=lim then ae (.tup ds) else ag
def a_(ds:List D):M D:=if ds.length<=lim then ae (.lst ds) else ag
theorem As{ds:List D}{f:List D->D}{Q:VK}{F H:Hp}(w:WP X.K Xw F H (if ds.length<=lim then ae (f ds) else ag) Q):ds.length<=lim/\WP X.K Xw F H (ae (f ds)) Q:=by
 split at w
 ·rename_i h;exact⟨h,w⟩
 ·exact w.elim
theorem bL{x1}{es:List Expr}{δs:DA}(h:gQ X Xw es δs):PD X Xw (.Tuple es x1 pos) (dA aO δs):=PE.weak (Nb h) λσ H Q ⟨F,ρ,s,w⟩=>by
 refine⟨F,ρ,s,WPL.mono (WP.bindL w) λvs H1 ⟨F1,ds,e1,q1,w1⟩=>?_⟩;obtain⟨hl,w1⟩:=As (X:=X) w1;have hv:=q1.len;refine⟨by have:=dS;omega,λp hp=>WP.fin w1 (Ext.lay e1.fh hp) ⟨p,vs,rfl,aG,DenL.mono (Ext.lay e1.fh hp).ff q1,hl⟩⟩
theorem di{es:List Expr}{δs:DA}(h:gQ X Xw es δs):PD X Xw (.List es pos) (dA a_ δs):=PE.weak (GY h) λσ H Q ⟨F,ρ,s,w⟩=>by
 refine⟨F,ρ,s,WPL.mono (WP.bindL w) λvs H1 ⟨F1,ds,e1,q1,w1⟩=>?_⟩;obtain⟨hl,w1⟩:=As (X:=X) w1;have hv:=q1.len;refine⟨by have:=dS;omega,λp hp=>WP.fin w1 (Ext.lay e1.fh hp) ⟨p,vs,rfl,aG,DenL.mono (Ext.lay e1.fh hp).ff q1,hl⟩⟩
end
def ItD(K:XO)(F:Hp)(J:It)(ds:List D):Prop:=∀(F' H':Hp) (i:Nat),Same F F'->Same F' H'->
 (∀d,ds[i]? =some d->J.go i H'/\∀x H'',J.yld i H' x H''->∃F'',Ext F' H' F'' H''/\Den K F'' d x)/\(ds.length<=i->J.stop i H')
theorem ItD.mono{K:XO}{F F1:Hp}{J:It}{ds:List D}(h:ItD K F J ds)(e:Same F F1):ItD K F1 J ds:=λF' H' i s1 s2=>h F' H' i (e.trans s1) s2
def WPI(K:XO)(Xw:Nat->Hp->Prop)(F H:Hp)(m:M (List D))(R:It->Hp->Prop):Prop:=
 match m with
 |none=>False
 |some (.ok ds)=>∀J H' F',Ext F H F' H'->ItD K F' J ds->R J H'
 |some (.ex n)=>∀F' H',Ext F H F' H'->Xw n H'
def UL(K:XO)(Xw:Nat->Hp->Prop)(δ:DA):TI:=λσ H R=>∃F ρ,StE K F H σ ρ/\WPI K Xw F H (δ ρ) R
def zN(X:Cx)(Xw:Nat->Hp->Prop)(tg iter:Expr)(δ:DA):Prop:=PI X tg iter (UL X.K Xw δ)
theorem PI.weak{X:Cx}{tg e:Expr}{t t':TI}(h:PI X tg e t)(k:∀σ H Q,t' σ H Q->t σ H Q):PI X tg e t':=λf8 s σ H Q I w=>h f8 s σ H Q I (k σ H Q w)
theorem WPI.bind{K:XO}{Xw:Nat->Hp->Prop}{F H:Hp}{m:M D}{k:D->M (List D)}{R:It->Hp->Prop}(h:WPI K Xw F H (m>>=k) R):
 WP K Xw F H m λv H1=>∃F1 d,Ext F H F1 H1/\Den K F1 d v/\WPI K Xw F1 H1 (k d) R:=by
 match m,h with
 |none,h=>exact h
 |some (.ok d),h=>
  refine λv H2 F2 e2 q=>⟨F2,d,e2,q,?_⟩
  have h:WPI K Xw F H (k d) R:=h;show WPI K Xw F2 H2 (k d) R
  match k d,h with
  |none,h=>exact h
  |some (.ok ds),h=>exact λJ H3 F3 e3 q3=>h J H3 F3 (e2.trans e3) q3
  |some (.ex n),h=>exact λF3 H3 e3=>h F3 H3 (e2.trans e3)
 |some (.ex n),h=>exact h
theorem WPI.bindL{K:XO}{Xw:Nat->Hp->Prop}{F H:Hp}{m:M (List D)}{k:List D->M (List D)}{R:It->Hp->Prop}(h:WPI K Xw F H (m>>=k) R):
 WPL K Xw F H m λv H1=>∃F1 d,Ext F H F1 H1/\DenL K F1 d v/\WPI K Xw F1 H1 (k d) R:=by
 match m,h with
 |none,h=>exact h
 |some (.ok d),h=>
  refine λv H2 F2 e2 q=>⟨F2,d,e2,q,?_⟩
  have h:WPI K Xw F H (k d) R:=h;show WPI K Xw F2 H2 (k d) R
  match k d,h with
  |none,h=>exact h
  |some (.ok ds),h=>exact λJ H3 F3 e3 q3=>h J H3 F3 (e2.trans e3) q3
  |some (.ex n),h=>exact λF3 H3 e3=>h F3 H3 (e2.trans e3)
 |some (.ex n),h=>exact h
def lstM:D->M (List D)
 | .lst ds=>ae ds
 |_=>ag
def Tc:D->M (List D)
 | .tup ds=>ae ds
 |_=>ag
def cR(a:DE):DA:=λρ=>a ρ>>=lstM
def lG(a:DE):DA:=λρ=>a ρ>>=Tc
theorem FO{K:XO}{F:Hp}{a:Addr}{vs:List V}{ds:List D}(h:SqL K F a vs)(hd:DenL K F ds vs):ItD K F (Q4 K a) ds:=λF' H' i s1 s2=>by
 have hs:=Same.seq s2 (Same.seq s1 h);refine⟨λd e=>?_,λhl=>⟨vs,hs,by rw[<-hd.len];exact hl⟩⟩;obtain⟨v,e1,q⟩:=hd.get e;refine⟨⟨vs,v,hs,e1⟩,λx H'' y=>?_⟩;obtain⟨e2,y⟩:=y;subst e2;have:=y vs hs;rw[e1] at this;cases this;exact⟨F',Ext.refl s2,Den.mono s1 q⟩
theorem I_{K:XO}{F:Hp}{a:Addr}{vs:List V}{ds:List D}(h:SqT K F a vs)(hd:DenL K F ds vs):ItD K F (Q5 K a) ds:=λF' H' i s1 s2=>by
 have hs:=Same.tup s2 (Same.tup s1 h);refine⟨λd e=>?_,λhl=>⟨vs,hs,by rw[<-hd.len];exact hl⟩⟩;obtain⟨v,e1,q⟩:=hd.get e;refine⟨⟨vs,v,hs,e1⟩,λx H'' y=>?_⟩;obtain⟨e2,y⟩:=y;subst e2;have:=y vs hs;rw[e1] at this;cases this;exact⟨F',Ext.refl s2,Den.mono s1 q⟩
def iM(lo:Int)(n:Nat):List D:=(Yg n).map λ(i:Nat)=>D.int (lo+(i:Int))
theorem uN{K:XO}{F:Hp}(lo:Int)(n:Nat):ItD K F (Ob lo n) (iM lo n):=λF' H' i s1 s2=>by
 refine⟨λd e=>?_,λhl=>show n<=i by simpa[iM] using hl⟩;unfold iM at e;rw[XX] at e;have hi:i<n:=by
  by_cases hi:i<n
  ·exact hi
  ·rw[Z4 (by simpa using hi)] at e;cases e
 rw[adR hi] at e;cases e;refine⟨hi,λx H'' y=>?_⟩;obtain⟨e2,y⟩:=y;subst e2 y;exact⟨F',Ext.refl s2,rfl⟩
section
variable{X:Cx}{Xw:Nat->Hp->Prop}{tg l:Expr}{δ:DE}{pos:Pos}
theorem bq(h:PD X Xw l δ):zN X Xw tg l (cR δ):=PI.weak (JI h) λσ H R ⟨F,ρ,s,w⟩=>by
 refine⟨F,ρ,s,WP.mono (WPI.bind w) λv H1 ⟨F1,d,e1,q1,w1⟩=>?_⟩;cases d with
 |lst ds=>
  obtain⟨a,vs,h1,h2,h3,h4⟩:=q1;exact⟨a,h1,⟨vs,Same.seq e1.fh (SqL.of h2)⟩,w1 _ _ _ (Ext.refl e1.fh) (FO (SqL.of h2) h3)⟩
 |_=>exact w1.elim
theorem i4(h:PD X Xw l δ):zN X Xw tg l (lG δ):=PI.weak (Nh h) λσ H R ⟨F,ρ,s,w⟩=>by
 refine⟨F,ρ,s,WP.mono (WPI.bind w) λv H1 ⟨F1,d,e1,q1,w1⟩=>?_⟩;cases d with
 |tup ds=>
  obtain⟨a,vs,h1,h2,h3,h4⟩:=q1;exact⟨a,h1,⟨vs,Same.tup e1.fh (SqT.of h2)⟩,w1 _ _ _ (Ext.refl e1.fh) (I_ (SqT.of h2) h3)⟩
 |_=>exact w1.elim
def g8:List D->M (List D)
 |[.int j]=>if -4096<=j/\j<=4096 then ae (iM 0 j.toNat) else ag
 |_=>ag
def va:List D->M (List D)
 |[.int i, .int j]=>if (-4096<=i/\i<=4096)/\(-4096<=j/\j<=4096) then ae (iM i (j - i).toNat) else ag
 |_=>ag
theorem DenL.one{K:XO}{F:Hp}{d:D}{vs:List V}(h:DenL K F [d] vs):∃v,vs=[v]/\Den K F d v:=by
 obtain⟨v,r,h1,h2,h3⟩:=h;cases (show r=[] from h3);exact⟨v,h1,h2⟩
theorem DenL.two{K:XO}{F:Hp}{d d':D}{vs:List V}(h:DenL K F [d,d'] vs):∃v v',vs=[v,v']/\Den K F d v/\Den K F d' v':=by
 obtain⟨v,r,h1,h2,h3⟩:=h;obtain⟨v',h4,h5⟩:=h3.one;subst h4;exact⟨v,v',h1,h2,h5⟩
theorem d7{a:Expr}{δs:DA}{p:Pos}(hg:Gl X "range")(hm:X.mg "range"=none)(ha:gQ X Xw [a] δs)(hs:X2 [a] X.env=[(false,eval a X.env)]:=by rfl):zN X Xw tg (.Call (.Name "range" p) [a] [] pos) (λρ=>δs ρ>>=g8):=
 PI.weak (DP hg hm ha hs) λσ H R ⟨F,ρ,s,w⟩=>by
  refine⟨F,ρ,s,WPL.mono (WPI.bindL w) λvs H1 ⟨F1,ds,e1,q1,w1⟩=>?_⟩;unfold g8 at w1;split at w1
  ·rename_i j;obtain⟨v,h1,h2⟩:=q1.one;cases (show v=_ from h2);split at w1
   ·exact⟨j,h1,by omega,by omega,w1 _ _ _ (Ext.refl e1.fh) (uN 0 _)⟩
   ·exact w1.elim
  ·exact w1.elim
theorem sE{a b:Expr}{δs:DA}{p:Pos}(hg:Gl X "range")(hm:X.mg "range"=none)(ha:gQ X Xw [a,b] δs)(hs:X2 [a,b] X.env=[(false,eval a X.env),(false,eval b X.env)]:=by rfl)
 (N0:X2 [b] X.env=[(false,eval b X.env)]:=by rfl):zN X Xw tg (.Call (.Name "range" p) [a,b] [] pos) (λρ=>δs ρ>>=va):=
 PI.weak (DQ hg hm ha hs N0) λσ H R ⟨F,ρ,s,w⟩=>by
  refine⟨F,ρ,s,WPL.mono (WPI.bindL w) λvs H1 ⟨F1,ds,e1,q1,w1⟩=>?_⟩;unfold va at w1;split at w1
  ·rename_i i j;obtain⟨v,v',h1,h2,h3⟩:=q1.two;cases (show v=_ from h2);cases (show v'=_ from h3);split at w1
   ·exact⟨i,j,h1,⟨by omega,by omega,by omega,by omega⟩,w1 _ _ _ (Ext.refl e1.fh) (uN i _)⟩
   ·exact w1.elim
  ·exact w1.elim
end
def dF(tg N:List Str):List Str:=N.map λy=>if tg.contains y then y++(" ":Str) else y
def kZ(X:Cx)(scope:Scope)(tn:List Str)(f8:List (Addr×Obj))(cl:List (Str×Addr))(C:Addr)(fp:List Addr)(v6:XD)(H:Hp):Cx:=
 {X with N:=tn++dF tn X.N,aer:=v6,aeq:=H,env:=compEnvC scope cl C X.env,outer:=X.stack,ex:=fp,fn:=λ_=>false,pn:=X.pn++f8,xe:=λ_ _=>False}
structure CompSc (X:Cx) (scope:Scope) (tn:List Str):Prop where
 kind:scope.kind= .function
 nocell:∀y∈scope.names,y.2≠ .cell
 names:∀y∈scope.names,y.2= .local->scope.names.lookup y.1=some .local
 frees:∀y∈scope.names,y.2= .free->X.env.kindOf y.1=some .cell\/X.env.kindOf y.1=some .free
 vis:∀p∈(dF tn X.N).zip X.N,scope.names.lookup p.1=none\/(p.1=p.2/\scope.names.lookup p.1=some .free)
theorem lD{env:Env}:∀(names:List (Str×abk)) (v4:List (Str×Addr)),(∀y∈names,y.2= .free->∃c,env.cells.lookup y.1=some c)->
 (∀x c,v4.lookup x=some c->env.cells.lookup x=some c)->
 ∃cl,(forIn names v4 (λ(x:Str×abk) (r:List (Str×Addr))=>do
   let __x:=x
   if (__x.2==aec)=true then do let c<-cellOf env __x.1;pure (YW ((__x.1,c)::r)) else pure (YW r)):Sem (List (Str×Addr)))=pure cl/\
  (∀x c,cl.lookup x=some c->env.cells.lookup x=some c)/\(∀x c,v4.lookup x=some c->∃c',cl.lookup x=some c')/\(∀x,names.lookup x=some .free->∃c,cl.lookup x=some c)
 |[],v4,_,h2=>⟨v4,rfl,h2,λx c e=>⟨c,e⟩,λx e=>by simp at e⟩
 |(n,k)::r,v4,h1,h2=>by
  by_cases hk:k= .free
  ·subst hk;obtain⟨c,hc⟩:=h1 (n, .free) XA rfl;obtain⟨cl,e,a1,a2,a3⟩:=lD r ((n,c)::v4) (λy hy=>h1 y (Xz _ hy)) (λx c' q=>by
    rw[ZA] at q;split at q
    ·rename_i hx;cases q;rw[show x=n from by simpa using hx];exact hc
    ·exact h2 x c' q)
   refine⟨cl,?_,a1,λx c' q=>?_,λx q=>?_⟩
   ·rw[acH];have:cellOf env n=pure c:=by unfold cellOf;rw[hc]
    simp only[beq_self_eq_true,if_true,this,pure_bind];exact e
   ·by_cases hx:x=n
    ·subst hx;exact a2 x c (by simp[ZA])
    ·exact a2 x c' (by rw[ZA,show (x==n)=false from by simpa using hx];exact q)
   ·rw[ZA] at q;split at q
    ·rename_i hx;exact a2 x c (by rw[ZA,hx])
    ·exact a3 x q
  ·obtain⟨cl,e,a1,a2,a3⟩:=lD r v4 (λy hy=>h1 y (Xz _ hy)) h2;refine⟨cl,?_,a1,a2,λx q=>?_⟩
   ·rw[acH];have:((k==aec)=true)=False:=by simpa using hk
    simp only[this,if_false,pure_bind];exact e
   ·rw[ZA] at q;split at q
    ·cases q;exact aej rfl hk
    ·exact a3 x q
theorem qS{scope:Scope}{env:Env}(h:∀y∈scope.names,y.2= .free->∃c,env.cells.lookup y.1=some c):
 ∃cl,closureFor scope env=pure cl/\(∀x c,cl.lookup x=some c->env.cells.lookup x=some c)/\(∀x,scope.names.lookup x=some .free->∃c,cl.lookup x=some c):=by
 obtain⟨cl,e,a1,_,a3⟩:=lD (env:=env) scope.names [] h (λx c q=>by simp at q);refine⟨cl,?_,a1,a3⟩;unfold closureFor;show (forIn scope.names [] _>>=λr=>pure r)=_;rw[bind_pure];exact e
def noex{α:Type}:M α->M α
 |some (.ok a)=>some (.ok a)
 |_=>none
def d9(f:D->M (Option D)):List D->M (List D)
 |[]=>ae []
 |d::ds=>f d>>=λo=>d9 f ds>>=λr=>ae (match o with | some y=>y::r | none=>r)
def UM(n:Nat):D->M (List D):=λd=>match n,d with
 |0,d=>ae [d]
 |n, .tup ds=>if ds.length=n then ae ds else ag
 |_,_=>ag
def jc(n:Nat)(δt:DT)(δe:DE)(ρ:aX):D->M (Option D):=λd=>
 UM n d>>=λts=>δt (ts.map (λt=>some (Sl.fz t))++ρ)>>=λb=>if b then δe (ts.map (λt=>some (Sl.fz t))++ρ)>>=λy=>ae (some y) else ae none
def bA(n:Nat)(δi:DA)(δt:DT)(δe:DE):DE:=λρ=>δi ρ>>=λds=>noex (d9 (jc n δt δe ρ) ds)>>=a_
def dB:DT:=λ_=>ae true
theorem gu(f:D->M (Option D))(d:D)(ds:List D):d9 f (d::ds)=(f d>>=λo=>d9 f ds>>=λr=>ae (match o with | some y=>y::r | none=>r)):=rfl
theorem z3{f:D->M (Option D)}{ds:List D}{i:Nat}{d:D}{ys R:List D}(hd:ds[i]? =some d)
 (h:d9 f ds=(d9 f (ds.drop i)>>=λr=>ae (ys++r)))(hR:d9 f ds=ae R):
 ∃o,f d=ae o/\d9 f ds=(d9 f (ds.drop (i+1))>>=λr=>ae ((match o with | some y=>ys++[y] | none=>ys)++r)):=by
 have e:ds.drop i=d::ds.drop (i+1):=by
  obtain⟨hi,e⟩:=XI.mp hd;rw[aah hi,e]
 rw[e,gu] at h;have h':=h.symm.trans hR;obtain⟨r,h1,h2⟩:=d4 h';obtain⟨o,h3,h4⟩:=d4 h1;refine⟨o,h3,?_⟩;obtain⟨r',h5,h6⟩:=d4 h4;rw[h5,hR];rw[<-h2,<-fw h6];show ae _=ae _;cases o with
 |none=>rfl
 |some y=>simp
theorem zh{P:Yd}{w:World}{H:Hp}{h1 h2:Heap}{a:Addr}(x:HOk P w H h1)(s:Ze a h1 h2)(n:H a=none):HOk P w H h2:=λb o e=>by
 refine(x b o e).stay (λc v hc q=>(s.2 c ?_).trans q) (λ_ q=>q) λ_ _ q=>q;rintro rfl;rcases hc with rfl | hc
 ·rw[n] at e;cases e
 ·rw[n] at hc;cases hc
theorem CQ{prog:Yd}{w:World}{A:Yy}{R:Result->XD->Prop}{s:XD}{elt target iter:Expr}{ifs:List Expr}{scope:Scope}{pos:Pos}{it v4:Value}{env:Env}(I:Nat->XD->Prop)
 (turn:∀n s,I n s->wpAny (model prog w) A (abM it) (λr P3=>match r with
  |none=>R (.ok .next) P3
  |some v=>wpAny (model prog w) A (abR target it v) (λ_ UJ=>wpAny (model prog w) A (assign target env v) (λ_ v6=>
    wpAny (model prog w) A (forIn ifs true λc r=>if r=true then do let ok<-isTrue c env (eval c env);pure (YW ok) else pure (YW r)) (λok s₃=>
     if ok=true then wpAny (model prog w) A (eval elt env) (λx s₄=>
      wpAny (model prog w) A (call (.builtin "list.append") [v4,x]) (λ_ s₅=>∃m,m<n/\I m s₅) (adZ (model prog w) A env λe s'=>R (.error e) s') s₄) (adZ (model prog w) A env λe s'=>R (.error e) s') s₃
     else∃m,m<n/\I m s₃) (adZ (model prog w) A env λe s'=>R (.error e) s') v6) (adZ (model prog w) A env λe s'=>R (.error e) s') UJ) (adZ (model prog w) A env λe s'=>R (.error e) s') P3) (adZ (model prog w) A env λe s'=>R (.error e) s') s)
 (n:Nat) (h:I n s):
 abm (model prog w) A (.compLoop (.ListComp elt [⟨target,iter,ifs,0⟩] scope pos) 0 it v4 env) R s:=by
 refine codeAny_loop rfl I (λn s hI=>?_) n h;show wpAny _ A ((compTurn (.ListComp elt [⟨target,iter,ifs,0⟩] scope pos) 0 it v4 env).onRaise (λx=>do noteFrame x env;theTreesLotGoes x)) _ _ s;refine wpAny_noted ?_;rw[compTurn_list];refine Xy (wpAny_standAt (Xy (YV (turn n s hI) (λr P3 h₁=>?_) λ_ _ h'=>h')));cases r with
 |none=>exact XE h₁
 |some v=>
  refine Xy (YV h₁ (λ_ UJ h₁=>?_) λ_ _ h'=>h');refine Xy (YV h₁ (λ_ v6 h₂=>Xy (YV h₂ (λok s₃ h₃=>?_) λ_ _ h'=>h')) λ_ _ h'=>h');cases ok with
  |false=>exact XE ⟨rfl,h₃⟩
  |true=>
   exact Xy (Xy (YV h₃ (λx s₄ h₄=>Xy (YV h₄ (λ_ s₅ h₅=>XE (XE ⟨rfl,h₅⟩)) λ_ _ h'=>h')) λ_ _ h'=>h'))
def Er(X:Cx)(tg:Expr)(n:Nat)(σ:St):Prop:=∀(f8:List (Addr×Obj)) (s:XD) (σ':St) (F H:Hp) (d:D) (ts:List D) (v:V) (u:Value),Inv X f8 σ' H s->Same F H->σ'.drop (max n 1)=σ->RelV v u->Den X.K F d v->UM n d=ae ts->
 wpAny (model X.prog X.w) X.A (assign tg X.env u) (λ_ s'=>∃vs,Inv X f8 (vs.map some++σ) H s'/\DenL X.K F ts vs) X.xe s
def nA(X:Cx)(ifs:List Expr)(δt:DT):Prop:=∀(f8:List (Addr×Obj)) (s:XD) (σ:St) (H:Hp) (Q:Bool->Hp->Prop),Inv X f8 σ H s->Q0 X.K (λ_ _=>False) δt σ H Q->
 wpAny (model X.prog X.w) X.A (forIn ifs true λc r=>if r=true then do let ok<-isTrue c X.env (eval c X.env);pure (YW ok) else pure (YW r)) (TP X f8 σ Q) X.xe s
theorem eU{X:Cx}:nA X [] dB:=λf8 s σ H Q I ⟨F,ρ,S,w⟩=>wpAny_tests_nil ⟨H,I,w H F (Ext.refl S.fh)⟩
theorem kh{X:Cx}{c:Expr}{δ:DT}(h:qA X (λ_ _=>False) c δ):nA X [c] δ:=λf8 s σ H Q I w=>wpAny_tests_one (h f8 s σ H Q I w)
theorem StE.cons{K:XO}{F H:Hp}{σ:St}{ρ:aX}{ts:List D}{vs:List V}(s:StE K F H σ ρ)(h:DenL K F ts vs):StE K F H (vs.map some++σ) (ts.map (λt=>some (Sl.fz t))++ρ):=by
 refine⟨s.fh,λi sl e=>?_⟩;have hl:=h.len;by_cases hi:i<ts.length
 ·rw[Ym (by simpa using hi),XX] at e;cases q:ts[i]? with
  |none=>rw[q] at e;cases e
  |some t=>
   rw[q] at e;cases e;obtain⟨v,e1,e2⟩:=h.get q;exact⟨v,by rw[Ym (by simp;omega),XX,e1];rfl,e2⟩
 ·rw[YD (by simpa using hi)] at e;obtain⟨v,e1,e2⟩:=s.den _ _ e;refine⟨v,?_,e2⟩;rw[YD (by simp;omega)];simpa[hl] using e1
theorem WPB.take{Xw:Nat->Hp->Prop}{F H:Hp}{b:Bool}:WPB Xw F H (ae b) λb' H'=>b'=b/\∃F',Ext F H F' H':=λH' F' e=>⟨rfl,F',e⟩
theorem WP.take{K:XO}{Xw:Nat->Hp->Prop}{F H:Hp}{d:D}:WP K Xw F H (ae d) λv H'=>∃F',Ext F H F' H'/\Den K F' d v:=λv H' F' e q=>⟨F',e,q⟩
def oC(env:Env)(p:Str×abk):Str×abk:=if (p.2== .free&&env.scope.kind== .function&&env.kindOf p.1==some .cell) then(p.1, .cell) else(p.1,p.2)
theorem ie(scope:Scope)(env:Env):(relabel scope env).names=scope.names.map (oC env):=rfl
theorem Hb(env:Env)(p:Str×abk):(oC env p).1=p.1:=by unfold oC;split<;>rfl
theorem iY(env:Env)(x:Str):∀ns:List (Str×abk),(ns.map (oC env)).lookup x=(ns.lookup x).map λk=>(oC env (x,k)).2
 |[]=>rfl
 |(m,k)::r=>by
  rw[XN,ZA,ZA];have e:oC env (m,k)=(m,(oC env (m,k)).2):=ad3 (Hb env (m,k)) rfl;rw[e]
  dsimp only
  by_cases hx:(x==m)=true
  ·have hm:x=m:=by simpa using hx
   subst hm;rw[hx];rfl
  ·have hx:(x==m)=false:=by simpa using hx
   rw[hx];exact iY env x r
theorem wW{scope:Scope}{env:Env}{x:Str}(h:scope.names.lookup x=none):(relabel scope env).names.lookup x=none:=by
 rw[ie,iY,h];rfl
theorem wV{scope:Scope}{env:Env}{x:Str}(hc:∀y∈scope.names,y.2≠ .cell)(h:(relabel scope env).names.lookup x=some .cell\/(relabel scope env).names.lookup x=some .free):scope.names.lookup x=some .free:=by
 rw[ie,iY] at h;cases q:scope.names.lookup x with
 |none=>rw[q] at h;rcases h with h | h<;>cases h
 |some k=>
  rw[q] at h;have hk:k≠ .cell:=hc _ (Zr q);have h:(oC env (x,k)).2= .cell\/(oC env (x,k)).2= .free:=by simpa using h
  by_cases hf:k= .free
  ·rw[hf]
  ·have:(oC env (x,k)).2=k:=by
    unfold oC;rw[aeh];simp[hf]
   rw[this] at h;rcases h with h | h
   ·exact aej h hk
   ·exact aej h hf
theorem oD{scope:Scope}{env:Env}{x:Str}(h:scope.names.lookup x=some .free):¬(relabel scope env).names.lookup x=some .local:=by
 rw[ie,iY,h];intro z;have z:(oC env (x, .free)).2= .local:=by simpa using z
 unfold oC at z;split at z<;>cases z
structure BlockEnd (X:Cx) (f8:List (Addr×Obj)) (C:Addr) (H':Hp) (s1:XD):Prop where
 ns:∃m,s1.heap.Ns C m
 free:H' C=none
 nl:C≠X.env.locals
 nw:X.aer.heap.objs.size<=C
 nc:∀x c,X.env.cells.lookup x=some c->c≠C
 np:∀p∈X.pn++f8,p.1≠C
theorem xX{X:Cx}{Xw:Nat->Hp->Prop}{elt iter tg:Expr}{ifs:List Expr}{scope:Scope}{pos:Pos}{tn:List Str}{n:Nat}{δi:DA}{δt:DT}{δe:DE}{cl:List (Str×Addr)}{f8:List (Addr×Obj)}{s:XD}{σ:St}{H F:Hp}{ρ:aX}{Q:VK}{RR:Value->Addr->Result->XD->Prop}
 (sc:CompSc X scope tn)(hn:tn.length=max n 1)(hc:X.calm=true)(hi:zN X Xw tg iter δi)
 (hg:∀f8 cl C fp v6 H σ,Er (kZ X scope tn f8 cl C fp v6 H) tg n σ)
 (ht:∀f8 cl C fp v6 H,nA (kZ X scope tn f8 cl C fp v6 H) ifs δt)
 (he:∀f8 cl C fp v6 H,PD (kZ X scope tn f8 cl C fp v6 H) (λ_ _=>False) elt δe)
 (I:Inv X f8 σ H s)(S:StE X.K F H σ ρ)(w:WP X.K Xw F H (bA n δi δt δe ρ) Q)
 (cl1:∀x c,cl.lookup x=some c->X.env.cells.lookup x=some c)(cl2:∀x,scope.names.lookup x=some .free->∃c,cl.lookup x=some c)
 (Vi:∀(s1:XD) (C D:Addr) (H':Hp),Inv X f8 σ H' s1->Q (.ref D) H'->BlockEnd X f8 C H' s1->RR (.ref D) C (.ok .next) s1):
 wpAny (model X.prog X.w) X.A (eval iter X.env) (λx P3=>wpAny (model X.prog X.w) X.A (adM x) (λit v6=>wpAny (model X.prog X.w) X.A (newList []) (λv4 s₃=>
  wpAny (model X.prog X.w) X.A (newFunctionEnv scope X.env.globals cl [] X.env.qual none .none (some X.env)) (λOl s₄=>
   abm (model X.prog X.w) X.A (.compStart (.ListComp elt [⟨tg,iter,ifs,0⟩] scope pos) 0 it v4 {Ol with scope:=relabel scope X.env}) (RR v4 Ol.locals) s₄) X.xe s₃) X.xe v6) X.xe P3) X.xe s:=by
 refine b_ (hi f8 s σ H (λJ H2=>∃F2 ds,Ext F H F2 H2/\ItD X.K F2 J ds/\WP X.K Xw F2 H2 (noex (d9 (jc n δt δe ρ) ds)>>=a_) Q) I ⟨F,ρ,S,?_⟩) λxv P3 h₁=>b_ h₁ λit v6 h₂=>?_
 ·unfold bA at w;rcases(δi ρ).cs with hq | ⟨m,hq⟩ | ⟨ds,hq⟩
  ·rw[hq] at w;exact w.elim
  ·rw[hq] at w⊢;exact w
  ·rw[hq] at w⊢;exact λJ H' F' e q=>⟨F',ds,e,q,WP.ext e w⟩
 obtain⟨ia,fp,UN,J,H2,rfl,I2,T,A2,f2,F2,ds,e2,Ur,w2⟩:=h₂;obtain⟨R,hR,TK,w2⟩:∃R,d9 (jc n δt δe ρ) ds=ae R/\R.length<=lim/\WP X.K Xw F2 H2 (ae (.lst R)) Q:=by
  rcases(d9 (jc n δt δe ρ) ds).cs with hq | ⟨m,hq⟩ | ⟨R,hq⟩
  ·rw[hq] at w2;exact w2.elim
  ·rw[hq] at w2;exact w2.elim
  ·rw[hq] at w2;obtain⟨h1,h2⟩:=As (X:=X) (f:=D.lst) (show WP X.K Xw F2 H2 (a_ R) Q from w2);exact⟨R,hq,h1,h2⟩
 refine ZR (wpAny_newFunctionEnv sc.nocell (by intro y hy;simp at hy) (λh₁ Mb IS=>?_) sc.kind)
 dsimp only at Mb IS⊢
 generalize Ro:v6.heap.push {cls:= .type "list",dict:=none,data:= .seq ([]:List Value).toArray}=HL at Mb IS⊢;have hC:HL.objs.size=v6.heap.objs.size+1:=by rw[<-Ro,aa4]
 have CY:v6.heap.objs.size<HL.objs.size:=by rw[hC];exact abu _
 have old:∀b o,v6.heap.get? b=some o->h₁.get? b=some o:=λb o e=>IS.extBut b o (Yj (Z9 (XY e) CY)) (XJ _ (Ro▸XJ _ e));have tQ:h₁.get? v6.heap.objs.size=some {cls:= .type "list",data:= .seq ([]:List Value).toArray}:=IS.extBut _ _ (Yj CY) (XJ _ (Ro▸X8 _ rfl));have nD:H2 v6.heap.objs.size=none:=I2.hok.fresh (XM _);have nC:H2 HL.objs.size=none:=I2.hok.fresh (Y9 CY);have gC:v6.heap.get? HL.objs.size=none:=adI (Y9 CY);have fl:∀b∈fp,b<v6.heap.objs.size:=λb hb=>by
  obtain⟨o,e,_⟩:=T.obj 0 _ A2 b hb;exact XY e
 generalize ym:kZ X scope tn f8 cl HL.objs.size fp v6 H2=X';have UA:X'.Ok:=by
  subst ym;refine⟨I2.ok.mod,sc.kind,I2.ok.glob,I2.ok.blt,Y9 CY,λx y c h1 h2=>I2.ok.inj x y c (cl1 _ _ h1) (cl1 _ _ h2),λx hx=>?_,λ_ _ h=>(by cases h),I2.ok.hd,I2.ok.frames, .inl rfl,
   λb hb=>⟨Yj (Z9 (fl b hb) CY),λx c h=>(f2 b hb).2.2.2.2.1 x c (cl1 _ _ h)⟩,I2.bs,Yc I2.ok.bsz I2.sz,λb o e hb=>?_,λb hb z=>?_,I2.stack,I2.stkFree⟩
  ·have hx:(relabel scope X.env).names.lookup x=some .cell\/(relabel scope X.env).names.lookup x=some .free:=hx;exact cl2 x (wV sc.nocell hx)
  ·rcases(f2 b hb).2.2.2.1 with z | z
   ·exact I2.ok.noex b o e z
   ·exact aej (Yw (XY (I2.ok.bs b o e).1) z) (YH _)
  ·rcases XF.mp (I2.stkSub b z) with q | q
   ·exact(f2 b hb).2.1 q
   ·exact(f2 b hb).2.2.1 q
 have SE:∀b o,H2 b=some o->b≠v6.heap.objs.size:=λb o e=>bp e nD;have LR:∀{H':Hp},(∀b∈fp,H' b=none)->∀b∈fp,tJ X' [] H' b:=λV8 b hb=>by
  subst ym;refine⟨V8 b hb,Yj (Z9 (fl b hb) CY),λz=>UA.exfs b hb z, .inl hb,λx c h=>(f2 b hb).2.2.2.2.1 x c (cl1 _ _ h),λp hp=>?_⟩;rw[YF] at hp;exact(f2 b hb).2.2.2.2.2 p hp
 have I0:Inv X' [] (XT (max n 1) none++σ) (upd H2 v6.heap.objs.size (.lst [])) {v6 with heap:=h₁,toks:=v6.toks+([]:List (Str×Value)).length}:=by
  subst ym;have R6:HOk X.prog X.w (upd H2 v6.heap.objs.size (.lst [])) h₁:=I2.hok.laid old (XM _) ⟨Ys _,[],_, .nil,tQ⟩;refine⟨UA,rfl,I2.bare,Un.laid old (XM _) nD,⟨_,Mb,λi x v h1 h2 h3=>?_⟩,λx c h=>?_,?_,λx c h=>?_,λp hp=>?_,R6,?_⟩
  ·by_cases hi:i<max n 1
   ·rw[Ym (by simpa using hi),Y8,aeg hi] at h2;cases h2
   ·have uG:tn.length<=i:=by omega
    have h1:(tn++dF tn X.N)[i]? =some x:=h1;rw[YD uG] at h1;rw[YD (by simpa using hi),abD,<-hn] at h2;have hN:∃y,X.N[i - tn.length]? =some y/\(x,y)∈(dF tn X.N).zip X.N:=by
     have dG:=(XI.mp h1).1;have IM:i - tn.length<X.N.length:=by simpa[dF] using dG
     refine⟨X.N[i - tn.length],XC IM,?_⟩;refine List.mem_iff_getElem?.mpr ⟨i - tn.length,?_⟩;rw[List.getElem?_zip_eq_some];exact⟨h1,XC IM⟩
    obtain⟨y,hy,hm⟩:=hN;have hV:(relabel scope X.env).names.lookup x=some .local\/(relabel scope X.env).names.lookup x=some .cell\/(relabel scope X.env).names.lookup x=some .free:=h3;rcases sc.vis _ hm with rp | ⟨Sn,Ej⟩
    ·have rp:scope.names.lookup x=none:=rp;have:(relabel scope X.env).names.lookup x=none:=wW rp;rw[this] at hV;rcases hV with z | z | z<;>cases z
    ·have Sn:x=y:=Sn;subst Sn;have Ej:scope.names.lookup x=some .free:=Ej;have hk:=sc.frees (x, .free) (Zr Ej) rfl;obtain⟨m,HV,KC⟩:=I2.loc;obtain⟨u,ru,lk⟩:=KC _ x v hy h2 (by rcases hk with z | z;exact .inr (.inl z);exact .inr (.inr z));refine⟨u,ru, .inr ⟨?_,?_⟩⟩
     ·rcases hV with z | z | z
      ·exact aej z (oD Ej)
      ·exact .inl z
      ·exact .inr z
     ·rcases lk with⟨z,_⟩ | ⟨_,c,TR,Kx⟩
      ·rcases hk with q | q
       ·rw[show X.env.kindOf x=some .local from z] at q;cases q
       ·rw[show X.env.kindOf x=some .local from z] at q;cases q
      ·obtain⟨c',Fs⟩:=cl2 x Ej;have:=cl1 _ _ Fs;rw[TR] at this;cases this;obtain⟨o,ho,hd⟩:=Kx;exact⟨c,Fs,o,old _ _ ho,hd⟩
  ·obtain⟨v,o,ho,hd⟩:=I2.cell x c (cl1 _ _ h);exact⟨v,o,old _ _ ho,hd⟩
  ·show upd H2 v6.heap.objs.size (.lst []) HL.objs.size=none;rw[az (aaZ CY)];exact nC
  ·have OK:=cl1 _ _ h;obtain⟨v,q⟩:=I2.cell x c OK;rw[az (Yj q.lt)];exact I2.freeC x c OK
  ·rw[YF] at hp;obtain⟨e,nn,ne,nf,d⟩:=I2.pin p hp;have dG:=XY e;refine⟨old _ _ e,by rw[az (Yj dG)];exact nn,Yj (Z9 dG CY),λz=>?_,d⟩;rcases XF.mp (I2.stkSub p.1 z) with q | q
   ·exact ne q
   ·exact nf q
  ·show (XT (max n 1) none++σ).length=(tn++dF tn X.N).length;rw[XR,XR,abD,hn,show (dF tn X.N).length=X.N.length from by simp[dF],I2.len]
 have loop:∀s₃:XD,s₃={v6 with heap:=h₁,toks:=v6.toks+([]:List (Str×Value)).length}->
  abm (model X.prog X.w) X.A (.compLoop (.ListComp elt [⟨tg,iter,ifs,0⟩] scope pos) 0 (.ref ia) (.ref v6.heap.objs.size) (compEnvC scope cl HL.objs.size X.env))
   (RR (.ref v6.heap.objs.size) HL.objs.size) s₃:=by
  intro s₃ Wr;have E9:X'.env=compEnvC scope cl HL.objs.size X.env:=by subst ym;rfl
  have hA:X'.A=X.A:=by subst ym;rfl
  have hP:X'.prog=X.prog:=by subst ym;rfl
  have hw:X'.w=X.w:=by subst ym;rfl
  have hK:X'.K=X.K:=by subst ym;rfl
  have WK:X'.xe=λ_ _=>False:=by subst ym;rfl
  have Ky:X'.calm=true:=by subst ym;exact hc
  have Vx:X'.fs=h7 X.stack:=by subst ym;rfl
  have hex:X'.ex=fp:=by subst ym;rfl
  have Vf:X'.aeq=H2:=by subst ym;rfl
  have Ui:X'.aer=v6:=by subst ym;rfl
  have pass:∀{α:Type}{t:Sem α}{P:α->XD->Prop}{E':Value->XD->Prop}{s:XD},wpAny (model X'.prog X'.w) X'.A t P X'.xe s->wpAny (model X.prog X.w) X.A t P E' s:=λ{α t P E' s} h=>by
   rw[hP,hw,hA,WK] at h;exact YV h (λ_ _ q=>q) λ_ _ q=>q.elim
  refine CQ (λm s'=>∃(i:Nat) (F' H':Hp) (vs:List V) (ys:List D) (σt:St),m=ds.length - i/\i<=ds.length/\σt.length=max n 1/\Inv X' [] (σt++σ) H' s'/\UN i s'.heap/\(∀b∈fp,H' b=none)/\Ext F2 H2 F' H'/\
   H' v6.heap.objs.size=some (.lst vs)/\F' v6.heap.objs.size=none/\DenL X.K F' ys vs/\d9 (jc n δt δe ρ) ds=(d9 (jc n δt δe ρ) (ds.drop i)>>=λr=>ae (ys++r))) ?_ ds.length ?_
  ·rintro m s' ⟨i,F',H',vs,ys,σt,rfl,RN,WN,I',sY,Tu,z8,hD,fD,QT,heq⟩;by_cases dG:i<ds.length
   ·
    obtain⟨d,hd⟩:∃d,ds[i]? =some d:=⟨_,XC dG⟩
    obtain⟨L6,Aj⟩:=(Ur F' H' i z8.ff z8.fh).1 d hd;obtain⟨o,ho,OU⟩:=z3 hd heq hR;have So:ys.length<=lim:=by
     rw[heq] at hR;obtain⟨r,_,hr⟩:=d4 hR;rw[<-fw hr,XR] at TK;omega
    obtain⟨ts,Wx,ho⟩:=d4 ho;refine pass ?_;rw[hP,hw];refine b_ (T.item X' hP hw hK Ky i [] s' (σt++σ) H' X'.xe I' (LR Tu) sY L6) ?_;rintro r s1 ⟨u,rfl,h1⟩;refine pass ?_;rw[hP,hw];refine b_ h1 ?_;rintro _ s2 ⟨x,H3,I3,rx,y3,N6,QD⟩;obtain⟨F3,BD,q3⟩:=Aj x H3 y3;have TC:H3 v6.heap.objs.size=some (.lst vs):=BD.hh _ _ hD;have U7:F3 v6.heap.objs.size=none:=by rw[BD.old hD (λ_ z=>nomatch z)];exact fD
    have I3':=I3.pinned (LR QD) (T.obj _ _ N6);have BV:∀{σ7:St}{H7:Hp}{s7:XD},Inv X' ([]++sF fp s2.heap) σ7 H7 s7->UN (i+1) s7.heap/\∀b∈fp,H7 b=none:=λ{σ7 H7 s7} I7=>
     ⟨T.keep _ _ _ N6 λb hb o e=>(I7.pin (b,o) (YB _ (YB _ (iZ hb e)))).1,λb hb=>by
      obtain⟨o,e,_⟩:=T.obj _ _ N6 b hb;exact(I7.pin (b,o) (YB _ (YB _ (iZ hb e)))).2.1⟩
    have VA:Er X' tg n σ:=by subst ym;exact hg _ _ _ _ _ _ _
    have Wt:nA X' ifs δt:=by subst ym;exact ht _ _ _ _ _ _
    have Vs:PD X' (λ_ _=>False) elt δe:=by subst ym;exact he _ _ _ _ _ _
    refine pass ?_;rw[<-E9];refine b_ (VA _ s2 (σt++σ) F3 H3 d ts x u I3' BD.fh (by rw[<-WN];simp) rx (by rw[hK];exact q3) Wx) ?_;rintro _ s4 ⟨vt,I4,dt⟩;rw[hK] at dt;have S4:StE X.K F3 H3 (vt.map some++σ) (ts.map (λt=>some (Sl.fz t))++ρ):=StE.cons ((S.ext e2).ext (z8.trans BD)) dt;obtain⟨b,hb,ho⟩:=d4 ho;refine pass ?_
    try rw[<-E9]
    refine b_ (Wt _ s4 _ H3 (λb' H5=>b'=b/\∃F5,Ext F3 H3 F5 H5) I4 ⟨F3,_,by rw[hK];exact S4,by rw[hb];exact WPB.take⟩) ?_;rintro b' s5 ⟨H5,I5,rfl,F5,LK⟩;have Rn:H5 v6.heap.objs.size=some (.lst vs):=LK.hh _ _ TC;have Tr:F5 v6.heap.objs.size=none:=by rw[LK.old TC (λ_ z=>nomatch z)];exact U7
    cases b' with
    |false=>
     rw[aeh Yi] at ho⊢;obtain rfl:=fw ho;refine⟨ds.length - (i+1),by omega,i+1,F5,H5,vs,ys,vt.map some,rfl,dG,?_,I5.unpinned,(BV I5).1,(BV I5).2,z8.trans (BD.trans LK),Rn,Tr,DenL.mono (BD.trans LK).ff QT,OU⟩;have h1:=I5.len;have h2:=I3.len;rw[XR] at h1 h2;omega
    |true=>
     rw[aeg rfl] at ho⊢;obtain⟨yv,hy,ho⟩:=d4 ho;obtain rfl:=fw ho;refine pass ?_
     try rw[<-E9]
     refine b_ (Vs _ s5 _ H5 (λv H6=>∃F6,Ext F5 H5 F6 H6/\Den X.K F6 yv v) I5 ⟨F5,_,by rw[hK];exact S4.ext LK,by rw[hy,hK];exact WP.take⟩) ?_;rintro xv s6 ⟨v,H6,I6,rv,F6,QC,qv⟩;have Ve:H6 v6.heap.objs.size=some (.lst vs):=QC.hh _ _ Rn;have Ts:F6 v6.heap.objs.size=none:=by rw[QC.old Rn (λ_ z=>nomatch z)];exact Tr
     have WD:vs.length<X6:=by
      have:=QT.len;have:=dS;omega
     refine pass ?_;refine b_ (uV _ s6 _ H6 (.ref v6.heap.objs.size) [v] (.ref v6.heap.objs.size) [xv] (λ_ H7=>H7=upd H6 v6.heap.objs.size (.lst (vs++[v]))) I6 rfl (.cons rv .nil) ⟨_,vs,v,rfl,rfl,Ve,WD,rfl⟩) ?_;rintro _ s7 ⟨_,H7,I7,_,rfl⟩;have U5:Ext F2 H2 F6 (upd H6 v6.heap.objs.size (.lst (vs++[v]))):=by
      have e:=z8.trans (BD.trans (LK.trans QC));refine⟨λb u q=>?_,e.ff,λb u q=>?_,e.new⟩
      ·rw[az (SE b u q)];exact e.hh b u q
      ·rw[az (λz=>by rw[z,Ts] at q;cases q)];exact e.fh b u q
     refine⟨ds.length - (i+1),by omega,i+1,F6,_,vs++[v],ys++[yv],vt.map some,rfl,dG,?_,I7.unpinned,(BV I7).1,(BV I7).2,U5,aG,Ts,
      DenL.append (DenL.mono (BD.trans (LK.trans QC)).ff QT) (.cons qv .nil),OU⟩
     have h1:=I5.len;have h2:=I3.len;rw[XR] at h1 h2;omega
   ·
    have hi:i=ds.length:=by omega
    subst hi;rw[abq] at heq;have Vj:R=ys:=by
     rw[heq] at hR;have hR:ae (ys++[])=ae R:=hR;rw[<-fw hR,YF]
    subst Vj;refine pass ?_;rw[hP,hw];refine b_ (T.done X' hP hw hK Ky ds.length [] s' (σt++σ) H' X'.xe I' (LR Tu) sY ((Ur F' H' ds.length z8.ff z8.fh).2 (XM _))) ?_;rintro r s1 ⟨rfl,I1⟩;obtain⟨m,hm,_⟩:=I1.loc;rw[E9] at hm;have Vd:H' HL.objs.size=none:=by
     have:=I1.free;rw[E9] at this;exact this
    have u:=I1.base;rw[Vx,hex,Vf,Ui] at u;have O5:s1.os=v6.os:=by have:=I1.os;rw[Ui] at this;exact this
    have OY:=I1.hok;rw[hP,hw] at OY;refine Vi s1 HL.objs.size v6.heap.objs.size H' (I2.call' (s':=s1) (ch:=fp) O5 u OY I1.bare (λb hb=>⟨(f2 b hb).2.2.2.1,(f2 b hb).2.1,(f2 b hb).2.2.2.2.1,(f2 b hb).2.2.2.2.2⟩)) ?_
     ⟨⟨m,hm⟩,Vd,aaZ (Z9 I2.lt CY),Yc I2.sz (Y9 CY),λx c q z=>?_,λp hp z=>?_⟩
    rotate_left
    ·obtain⟨v,q'⟩:=I2.cell x c q;exact aej (Z9 q'.lt CY) (by rw[z];exact YH _)
    ·exact aej (Z9 (XY (I2.pin p hp).1) CY) (by rw[z];exact YH _)
    refine WP.fin w2 (F':=upd F' v6.heap.objs.size (.lst vs)) ⟨z8.hh,λb u q=>?_,λb u q=>?_,λa ha=>?_⟩ ⟨_,vs,rfl,aG,DenL.mono (λb u q=>?_) QT,TK⟩
    ·rw[az (λz=>by have:=z8.ff b u q;rw[z,fD] at this;cases this)];exact z8.ff b u q
    ·by_cases z:b=v6.heap.objs.size
     ·rw[z,aG] at q;rw[z,hD];exact q
     ·rw[az z] at q;exact z8.fh b u q
    ·rcases z8.new a ha with q | q
     ·exact .inl (by rw[az (λz=>ha (by rw[z];exact nD))];exact q)
     ·exact .inr q
    ·rw[az (λz=>by rw[z,fD] at q;cases q)];exact q
  ·rw[Wr];refine⟨0,F2,_,[],[],XT (max n 1) none,by simp,Ys _,by simp,I0,T.keep _ _ _ A2 (λb hb o e=>old b o e),λb hb=>?_,⟨λb u q=>?_,Same.refl _,λb u q=>?_,λ_ _=> .inl rfl⟩,aG,Same.free e2.fh nD,rfl,?_⟩
   ·rw[az (Yj (fl b hb))];exact(f2 b hb).1
   ·rw[az (SE b u q)];exact q
   ·rw[az (SE b u (e2.fh b u q))];exact e2.fh b u q
   ·rw[List.drop_zero];rcases(d9 (jc n δt δe ρ) ds).cs with hq | ⟨m,hq⟩ | ⟨R,hq⟩<;>rw[hq]<;>rfl
 exact codeAny_compStart_list (loop _ rfl) (T.self X.A 0 _ _ _ (T.keep _ _ _ A2 (λb hb o e=>old b o e)) (loop _ rfl))
theorem Inv.block{X:Cx}{f8:List (Addr×Obj)}{σ:St}{H':Hp}{s1:XD}{C:Addr}{h':Heap}(I:Inv X f8 σ H' s1)(b:BlockEnd X f8 C H' s1)(vN:Ze C s1.heap h'):Inv X f8 σ H' {s1 with heap:=h'}:=
 I.turned (t':=s1.toks) (λa o ha e=>(vN.2 a ha).trans e) b.free b.nl (.inr b.nw) b.nc b.np
section
variable{X:Cx}{Xw:Nat->Hp->Prop}{elt iter tg:Expr}{ifs:List Expr}{scope:Scope}{pos:Pos}{tn:List Str}{n:Nat}{δi:DA}{δt:DT}{δe:DE}
theorem dO(sc:CompSc X scope tn)(hn:tn.length=max n 1)(hc:X.calm=true)(hi:zN X Xw tg iter δi)
 (hg:∀f8 cl C fp v6 H σ,Er (kZ X scope tn f8 cl C fp v6 H) tg n σ)
 (ht:∀f8 cl C fp v6 H,nA (kZ X scope tn f8 cl C fp v6 H) ifs δt)
 (he:∀f8 cl C fp v6 H,PD (kZ X scope tn f8 cl C fp v6 H) (λ_ _=>False) elt δe)
 (hs:∀x,ZU iter X.env x=pure x:=by intro _;rfl):
 PD X Xw (.ListComp elt [⟨tg,iter,ifs,0⟩] scope pos) (bA n δi δt δe):=by
 intro f8 s σ H Q I ⟨F,ρ,S,w⟩;obtain⟨cl,Fu,cl1,cl2⟩:=qS (scope:=scope) (env:=X.env) λy hy hf=>I.ok.has y.1 (sc.frees y hy hf);rw[eval_ListComp];refine adK (use:=none) rfl hs Fu sc.kind sc.names (xX (RR:=λv4 C=>compPost (model X.prog X.w) X.A X.xe none (EP X f8 σ Q) v4 C) sc hn hc hi hg ht he I S w cl1 cl2 λs1 C D H' I1 q b=>?_);obtain⟨m,hm⟩:=b.ns;exact⟨m,hm,λh' vN=>⟨.ref D,H',Inv.block I1 b vN,rfl,q⟩⟩
end
inductive Out where
 |nx (ρ:aX) | rt (d:D)
abbrev DS:=aX->M Out
structure StOk (K:XO) (u8 aeq F H:Hp) (σ:St) (ρ:aX):Prop where
 ext:Ext u8 aeq F H
 st:StE K F H σ ρ
 len:ρ.length=σ.length
 own:∀(i:Nat) (c:C) (a:Addr),ρ[i]? =some (some (.ow c))->σ[i]? =some (some (.ref a))->aeq a=none
 sep:∀(i j:Nat) (c c':C) (a:Addr),ρ[i]? =some (some (.ow c))->ρ[j]? =some (some (.ow c'))->σ[i]? =some (some (.ref a))->σ[j]? =some (some (.ref a))->i=j
def WPS(K:XO)(Xw:Nat->Hp->Prop)(u8 aeq:Hp)(m:M Out)(Dn:Ends):Prop:=
 match m with
 |none=>False
 |some (.ok (.nx ρ))=>∀σ F H,StOk K u8 aeq F H σ ρ->Dn.nx σ H
 |some (.ok (.rt d))=>∀v F H,Ext u8 aeq F H->Den K F d v->Dn.rt v H
 |some (.ex n)=>∀F H,Ext u8 aeq F H->Xw n H
def tS(K:XO)(Xw:Nat->Hp->Prop)(u8 aeq:Hp)(τ:DS):TS:=λDn σ H=>∃F ρ,StOk K u8 aeq F H σ ρ/\WPS K Xw u8 aeq (τ ρ) Dn
def iO(X:Cx)(Xw:Nat->Hp->Prop)(st:Stmt)(τ:DS):Prop:=∀u8 aeq,PS X st (tS X.K Xw u8 aeq τ)
def PSDs(X:Cx)(Xw:Nat->Hp->Prop)(st:List Stmt)(τ:DS):Prop:=∀u8 aeq,PSs X st (tS X.K Xw u8 aeq τ)
theorem PS.weak{X:Cx}{st:Stmt}{t t':TS}(h:PS X st t)(k:∀D σ H,t' D σ H->t D σ H):PS X st t':=λf8 s σ H D I w=>h f8 s σ H D I (k D σ H w)
theorem PSs.weak{X:Cx}{st:List Stmt}{t t':TS}(h:PSs X st t)(k:∀D σ H,t' D σ H->t D σ H):PSs X st t':=λf8 s σ H D I w=>h f8 s σ H D I (k D σ H w)
section
variable{K:XO}{u8 aeq F H F' H':Hp}{σ:St}{ρ:aX}
theorem StOk.ext'(s:StOk K u8 aeq F H σ ρ)(e:Ext F H F' H'):StOk K u8 aeq F' H' σ ρ:=⟨s.ext.trans e,s.st.ext e,s.len,s.own,s.sep⟩
theorem StOk.set(s:StOk K u8 aeq F H σ ρ){i:Nat}{d:D}{v:V}(h:Den K F d v):StOk K u8 aeq F H (σ.set i (some v)) (ρ.set i (some (.fz d))):=by
 have hl:=s.len;have get:∀(j:Nat) (sl:Sl),(ρ.set i (some (.fz d)))[j]? =some (some sl)->(j=i/\i<ρ.length/\sl= .fz d)\/(j≠i/\ρ[j]? =some (some sl)):=λj sl e=>by
  by_cases hj:j=i
  ·subst hj;have hi:j<ρ.length:=by
    have:=(XI.mp e).1;simpa using this
   rw[X1 hi] at e;cases e;exact .inl ⟨rfl,hi,rfl⟩
  ·rw[XQ (YG hj)] at e;exact .inr ⟨hj,e⟩
 refine⟨s.ext,⟨s.st.fh,λj sl e=>?_⟩,by simp[hl],λj c a e e'=>?_,λj k c c' a e1 e2 e3 e4=>?_⟩
 ·rcases get j sl e with⟨rfl,hi,rfl⟩ | ⟨hj,e⟩
  ·exact⟨v,by rw[X1 (by omega)],h⟩
  ·obtain⟨u,h1,h2⟩:=s.st.den j sl e;exact⟨u,by rw[XQ (YG hj)];exact h1,h2⟩
 ·rcases get j _ e with⟨_,_,z⟩ | ⟨hj,e⟩
  ·cases z
  ·rw[XQ (YG hj)] at e';exact s.own j c a e e'
 ·rcases get j _ e1 with⟨_,_,z⟩ | ⟨hj,e1⟩
  ·cases z
  ·rcases get k _ e2 with⟨_,_,z⟩ | ⟨hk,e2⟩
   ·cases z
   ·rw[XQ (YG hj)] at e3;rw[XQ (YG hk)] at e4;exact s.sep j k c c' a e1 e2 e3 e4
theorem StOk.setNew(s:StOk K u8 aeq F H σ ρ){i:Nat}{a:Addr}{o:HO}{c₀:C}(n:H a=none)(h:DenC K F c₀ o):
 StOk K u8 aeq F (upd H a o) (σ.set i (some (.ref a))) (ρ.set i (some (.ow c₀))):=by
 have hle:=s.len;have e0:=Ext.free (o:=o) s.st.fh n;have nF:F a=none:=Same.free s.st.fh n;have get:∀(j:Nat) (sl:Sl),(ρ.set i (some (.ow c₀)))[j]? =some (some sl)->(j=i/\i<ρ.length/\sl= .ow c₀)\/(j≠i/\ρ[j]? =some (some sl)):=λj sl e=>by
  by_cases hj:j=i
  ·subst hj;have hi:j<ρ.length:=by
    have:=(XI.mp e).1;simpa using this
   rw[X1 hi] at e;cases e;exact .inl ⟨rfl,hi,rfl⟩
  ·rw[XQ (YG hj)] at e;exact .inr ⟨hj,e⟩
 have old:∀(j:Nat) (c:C) (b:Addr),ρ[j]? =some (some (.ow c))->σ[j]? =some (some (.ref b))->b≠a:=λj c b e e' z=>by
  obtain⟨u,h1,b',o,h2,h3,_⟩:=s.st.den j _ e;rw[h1] at e';cases e';cases h2;rw[z,n] at h3;cases h3
 refine⟨s.ext.trans e0,⟨e0.fh,λj sl e=>?_⟩,by simp[hle],λj c b e e'=>?_,λj k c c' b e1 e2 e3 e4=>?_⟩
 ·rcases get j sl e with⟨rfl,hi,rfl⟩ | ⟨hj,e⟩
  ·exact⟨.ref a,by rw[X1 (by omega)],a,_,rfl,aG,nF,h⟩
  ·obtain⟨u,h1,h2⟩:=s.st.den j sl e;exact⟨u,by rw[XQ (YG hj)];exact h1,h2.ext e0⟩
 ·rcases get j _ e with⟨rfl,hi,_⟩ | ⟨hj,e⟩
  ·rw[X1 (by omega)] at e';cases e';exact Same.free s.ext.hh n
  ·rw[XQ (YG hj)] at e';exact s.own j c b e e'
 ·rcases get j _ e1 with⟨rfl,hi,_⟩ | ⟨hj,e1⟩
  ·rw[X1 (by omega)] at e3;cases e3;rcases get k _ e2 with⟨rfl,_,_⟩ | ⟨hk,e2⟩
   ·rfl
   ·rw[XQ (YG hk)] at e4;exact aej rfl (old k c' a e2 e4)
  ·rcases get k _ e2 with⟨RU,hi,_⟩ | ⟨hk,e2⟩
   ·rw[RU,X1 (by omega)] at e4;cases e4;rw[XQ (YG hj)] at e3;exact aej rfl (old j c a (by assumption) e3)
   ·rw[XQ (YG hj)] at e3;rw[XQ (YG hk)] at e4;exact s.sep j k c c' b e1 e2 e3 e4
theorem StOk.chg(s:StOk K u8 aeq F H σ ρ){i:Nat}{a:Addr}{c c₀:C}{o₀:HO}(hi:ρ[i]? =some (some (.ow c)))(ha:σ[i]? =some (some (.ref a)))(h:DenC K F c₀ o₀):
 StOk K u8 aeq F (upd H a o₀) σ (ρ.set i (some (.ow c₀))):=by
 have hle:=s.len;have h0:=s.own i c a hi ha;obtain⟨u,q1,a',o,q2,q3,q4,q5⟩:=s.st.den i _ hi;rw[ha] at q1;cases q1;cases q2;have NX:i<ρ.length:=(XI.mp hi).1;have get:∀(j:Nat) (sl:Sl),(ρ.set i (some (.ow c₀)))[j]? =some (some sl)->(j=i/\sl= .ow c₀)\/(j≠i/\ρ[j]? =some (some sl)):=λj sl e=>by
  by_cases hj:j=i
  ·subst hj;rw[X1 NX] at e;cases e;exact .inl ⟨rfl,rfl⟩
  ·rw[XQ (YG hj)] at e;exact .inr ⟨hj,e⟩
 have fh:Same F (upd H a o₀):=λb o e=>by
  rw[az (λz=>by rw[z,q4] at e;cases e)];exact s.st.fh b o e
 refine⟨⟨λb o e=>?_,s.ext.ff,fh,s.ext.new⟩,⟨fh,λj sl e=>?_⟩,by simp[hle],λj c' b e e'=>?_,λj k c1 c2 b e1 e2 e3 e4=>?_⟩
 ·rw[az (λz=>by rw[z,h0] at e;cases e)];exact s.ext.hh b o e
 ·rcases get j sl e with⟨rfl,rfl⟩ | ⟨hj,e⟩
  ·exact⟨.ref a,ha,a,_,rfl,aG,q4,h⟩
  ·obtain⟨u,h1,h2⟩:=s.st.den j sl e;refine⟨u,h1,?_⟩;cases sl with
   |fz d=>exact h2
   |ow c'=>
    obtain⟨b,o',r1,r2,r3,r4⟩:=h2;refine⟨b,o',r1,?_,r3,r4⟩;rw[az (λz=>hj (s.sep j i c' c a e hi (by rw[h1,r1,z]) ha))];exact r2
 ·rcases get j _ e with⟨rfl,_⟩ | ⟨hj,e⟩
  ·rw[ha] at e';cases e';exact h0
  ·exact s.own j c' b e e'
 ·have k1:∃c,ρ[j]? =some (some (.ow c)):=by
   rcases get j _ e1 with⟨rfl,_⟩ | ⟨_,e⟩
   ·exact⟨c,hi⟩
   ·exact⟨_,e⟩
  have k2:∃c,ρ[k]? =some (some (.ow c)):=by
   rcases get k _ e2 with⟨rfl,_⟩ | ⟨_,e⟩
   ·exact⟨c,hi⟩
   ·exact⟨_,e⟩
  obtain⟨_,k1⟩:=k1;obtain⟨_,k2⟩:=k2;exact s.sep j k _ _ b k1 k2 e3 e4
def frz(i:Nat)(ρ:aX):aX:=match ρ[i]? with
 |some (some (.ow c))=>ρ.set i (some (.fz c.d))
 |_=>ρ
theorem StOk.frz(s:StOk K u8 aeq F H σ ρ)(i:Nat)(obj:Addr->Obj):(∃a o,H a=some o/\DenC K F (ρ[i]?.elim (.lst []) λx=>x.elim (.lst []) λy=>match y with | .ow c=>c | _=> .lst []) o/\σ[i]? =some (some (.ref a))/\StOk K u8 aeq (upd F a (pX (obj a) o)) (upd H a (pX (obj a) o)) σ (frz i ρ))\/frz i ρ=ρ:=by
 unfold L3.frz;split
 ·rename_i c₀ hi;have hle:=s.len;obtain⟨u,ha,a,o,rfl,q3,q4,T3⟩:=s.st.den i _ hi;refine .inl ⟨a,o,q3,by rw[hi];exact T3,ha,?_⟩;have h0:=s.own i _ a hi ha;have NX:i<ρ.length:=(XI.mp hi).1;have ff:Same F (upd F a (pX (obj a) o)):=λb o e=>by rw[az (λz=>by rw[z,q4] at e;cases e)];exact e
  have fh:Same (upd F a (pX (obj a) o)) (upd H a (pX (obj a) o)):=λb o e=>by
   by_cases z:b=a
   ·rw[z,aG] at e⊢;exact e
   ·rw[az z] at e⊢;exact s.st.fh b o e
  have get:∀(j:Nat) (sl:Sl),(ρ.set i (some (.fz c₀.d)))[j]? =some (some sl)->(j=i/\sl= .fz c₀.d)\/(j≠i/\ρ[j]? =some (some sl)):=λj sl e=>by
   by_cases hj:j=i
   ·subst hj;rw[X1 NX] at e;cases e;exact .inl ⟨rfl,rfl⟩
   ·rw[XQ (YG hj)] at e;exact .inr ⟨hj,e⟩
  refine⟨⟨λb u q=>?_,s.ext.ff.trans ff,fh,λb hb=>?_⟩,⟨fh,λj sl e=>?_⟩,by simp[hle],λj c' b e e'=>?_,λj k c1 c2 b e1 e2 e3 e4=>?_⟩
  ·rw[az (λz=>by rw[z,h0] at q;cases q)];exact s.ext.hh b u q
  ·rcases s.ext.new b hb with q | q
   ·exact .inl (by rw[az (λz=>hb (by rw[z];exact h0))];exact q)
   ·exact .inr q
  ·rcases get j sl e with⟨rfl,rfl⟩ | ⟨hj,e⟩
   ·exact⟨.ref a,ha,DenC.den T3 ff aG⟩
   ·obtain⟨u,h1,h2⟩:=s.st.den j sl e;refine⟨u,h1,?_⟩;cases sl with
    |fz d=>exact Den.mono ff h2
    |ow c'=>
     obtain⟨b,o',r1,r2,r3,r4⟩:=h2;have fo:b≠a:=λz=>hj (s.sep j i c' _ a e hi (by rw[h1,r1,z]) ha);exact⟨b,o',r1,by rw[az fo];exact r2,by rw[az fo];exact r3,DenC.mono ff r4⟩
  ·rcases get j _ e with⟨_,z⟩ | ⟨hj,e⟩
   ·cases z
   ·exact s.own j c' b e e'
  ·rcases get j _ e1 with⟨_,z⟩ | ⟨_,e1⟩
   ·cases z
   ·rcases get k _ e2 with⟨_,z⟩ | ⟨_,e2⟩
    ·cases z
    ·exact s.sep j k _ _ b e1 e2 e3 e4
 ·exact .inr rfl
end
def join(F H:Hp):Hp:=λa=>match F a with
 |some o=>some o
 |none=>H a
theorem StOk.rebase{K:XO}{u8 aeq F H:Hp}{σ:St}{ρ:aX}(s:StOk K u8 aeq F H σ ρ):StOk K F (join F aeq) F H σ ρ/\∀F' H',Ext F (join F aeq) F' H'->Ext u8 aeq F' H':=by
 have hj:Same (join F aeq) H:=λb o e=>by
  unfold join at e;cases q:F b with
  |some u=>rw[q] at e;cases e;exact s.st.fh b _ q
  |none=>rw[q] at e;exact s.ext.hh b o e
 have h0:Same aeq (join F aeq):=λb o e=>by
  unfold join;cases q:F b with
  |some u=>
   have h1:=s.st.fh b u q;rw[s.ext.hh b o e] at h1;exact h1.symm
  |none=>exact e
 refine⟨⟨⟨hj,Same.refl _,s.st.fh,λ_ _=> .inl rfl⟩,s.st,s.len,λi c a e e'=>?_,s.sep⟩,λF' H' x=>⟨h0.trans x.hh,s.ext.ff.trans x.ff,x.fh,λa ha=>?_⟩⟩
 ·have h1:=s.own i c a e e';obtain⟨v,q1,a',o,q2,q3,q4,_⟩:=s.st.den i _ e;rw[e'] at q1;cases q1;cases q2;unfold join;rw[q4];exact h1
 ·have:join F aeq a≠none:=by
   cases q:aeq a with
   |none=>exact aej q ha
   |some o=>rw[h0 a o q];exact λz=>nomatch z
  rcases s.ext.new a ha with p | p
  ·rcases x.new a this with q | ⟨ts,q⟩
   ·exact .inl (q.trans p)
   ·cases z:aeq a with
    |none=>exact aej z ha
    |some o=>
     rw[h0 a o z] at q;exact .inr ⟨ts,q⟩
  ·exact .inr p
theorem StOk.unbase{K:XO}{u8 aeq F U F' H':Hp}{σ:St}{ρ:aX}(k:∀F' H',Ext F U F' H'->Ext u8 aeq F' H')(s:StOk K F U F' H' σ ρ)(h:Same aeq U):StOk K u8 aeq F' H' σ ρ:=
 ⟨k _ _ s.ext,s.st,s.len,λi c a e e'=>Same.free h (s.own i c a e e'),s.sep⟩
theorem Dk{K:XO}{u8 aeq F H:Hp}{σ:St}{ρ:aX}(s:StOk K u8 aeq F H σ ρ):Same aeq (join F aeq):=λb o e=>by
 unfold join;cases q:F b with
 |some u=>
  have h1:=s.st.fh b u q;rw[s.ext.hh b o e] at h1;exact h1.symm
 |none=>exact e
theorem Inv.refrz{X:Cx}{f8:List (Addr×Obj)}{σ:St}{H:Hp}{s:XD}{a:Addr}{o o':HO}(I:Inv X f8 σ H s)(e:H a=some o)
 (ho:o'=o\/∃u,o'= .frz ((s.heap.get? a).getD {cls:= .none,data:= .fields #[]}) u/\((∃k,o= .dT k/\u= .dT k)\/∃k,o= .dK k/\u= .dK k)):Inv X f8 σ (upd H a o') s:=by
 rcases ho with rfl | ⟨u,rfl,hu⟩
 ·have:upd H a o'=H:=by
   funext b;by_cases z:b=a
   ·rw[z,aG,e]
   ·rw[az z]
  rw[this];exact I
 have V_:o=u:=by rcases hu with⟨k,h1,h2⟩ | ⟨k,h1,h2⟩<;>rw[h1,h2]
 subst V_;have nt:∀ts,o≠ .tup ts:=λts z=>by rcases hu with⟨k,h1,_⟩ | ⟨k,h1,_⟩<;>rw[h1] at z<;>cases z
 have nf:∀ob v,o≠ .frz ob v:=λob v z=>by rcases hu with⟨k,h1,_⟩ | ⟨k,h1,_⟩<;>rw[h1] at z<;>cases z
 have nb:∀p,o≠ .tbl p:=λp z=>by rcases hu with⟨k,h1,_⟩ | ⟨k,h1,_⟩<;>rw[h1] at z<;>cases z
 have no:∀p,o≠ .own p:=λp z=>by rcases hu with⟨k,h1,_⟩ | ⟨k,h1,_⟩<;>rw[h1] at z<;>cases z
 have ne:∀b,H b=none->b≠a:=λb hb z=>by rw[z,e] at hb;cases hb
 have hk:=I.hok a o e;have dG:=hk.lt;obtain⟨ob,Me⟩:∃ob,s.heap.get? a=some ob:=by
  rcases hu with⟨k,h1,_⟩ | ⟨k,h1,_⟩
  ·subst h1;obtain⟨_,_,_,_,ob,_,_,q,_⟩:=hk;exact⟨ob,q⟩
  ·subst h1;obtain⟨_,_,_,_,ob,_,_,q,_⟩:=hk;exact⟨ob,q⟩
 rw[Me];refine⟨I.ok,I.os,I.bare,⟨I.base.keep,I.base.slot,λb q h1 h2 h3=>?_,I.base.there,λb xs q=>?_,λb q1 v q=>?_,λb ps q=>?_⟩,I.loc,I.cell,?_,λx c q=>?_,λp hp=>?_,λb v q=>?_,I.len⟩
 ·have:=I.base.free b q h1 h2 h3;rw[az (ne b this)];exact this
 ·have:=I.base.tups b xs q;rw[az (λz=>by rw[z,e] at this;exact nt xs (Yn this))];exact this
 ·have:=I.base.frzs b q1 v q;rw[az (λz=>by rw[z,e] at this;exact nf _ _ (Yn this))];exact this
 ·obtain⟨m,this⟩:=I.base.tbls b ps q;exact⟨m,by rw[az (λz=>by rw[z,e] at this;exact nb _ (Yn this))];exact this⟩
 ·rw[az (ne _ I.free)];exact I.free
 ·rw[az (ne _ (I.freeC x c q))];exact I.freeC x c q
 ·obtain⟨h1,h2,h3⟩:=I.pin p hp;exact⟨h1,by rw[az (ne _ h2)];exact h2,h3⟩
 ·have st:∀{c:Addr}{v:HO},ObjOk X.prog X.w H s.heap c v->ObjOk X.prog X.w (upd H a (.frz ob o)) s.heap c v:=λ{c v} k=>k.stay (λ_ _ _ q=>q)
   (λc' q=>by rw[az (λz=>by rw[z,e] at q;exact no _ (Yn q))];exact q) λc' xs q=>by rw[az (λz=>by rw[z,e] at q;exact nt _ (Yn q))];exact q
  by_cases z:b=a
  ·subst z;rw[show (some ob).getD _=ob from rfl,aG] at q;cases q;exact⟨Me,st hk⟩
  ·rw[az z] at q;exact st (I.hok b v q)
def aB(a b:DS):DS:=λρ=>a ρ>>=λo=>match o with | .nx ρ'=>b ρ' | .rt d=>ae (.rt d)
def b9:DS:=λρ=>ae (.nx ρ)
def bc(δ:DE):DS:=λρ=>δ ρ>>=λd=>ae (.rt d)
def jq(δ:DE):DS:=λρ=>δ ρ>>=λ_=>ae (.nx ρ)
def bu(i:Nat)(δ:DE):DS:=λρ=>δ ρ>>=λd=>ae (.nx (ρ.set i (some (.fz d))))
def fP(c:DT)(a b:DS):DS:=λρ=>c ρ>>=λx=>if x then a ρ else b ρ
def zd(i:Nat)(a:DS):DS:=λρ=>a (frz i ρ)
def zf(i:Nat):DS:=λρ=>ae (.nx (ρ.set i (some (.ow (.lst [])))))
def DJ(ρ:aX)(i:Nat):Option (List D):=match ρ[i]? with
 |some (some (.ow (.lst ds)))=>some ds
 |_=>none
theorem uY{ρ:aX}{i:Nat}{ds:List D}(h:DJ ρ i=some ds):ρ[i]? =some (some (.ow (.lst ds))):=by
 unfold DJ at h;split at h
 ·rename_i ds' e;cases h;exact e
 ·cases h
def sP(i:Nat)(δ:DE):DS:=λρ=>match DJ ρ i with
 |some ds=>δ ρ>>=λd=>if ds.length<lim then ae (.nx (ρ.set i (some (.ow (.lst (ds++[d])))))) else ag
 |none=>ag
def Hi(i:Nat)(δ:DE):DS:=λρ=>match DJ ρ i with
 |some ds=>δ ρ>>=λd=>lstM d>>=λes=>if ds.length+es.length<=lim then ae (.nx (ρ.set i (some (.ow (.lst (ds++es)))))) else ag
 |none=>ag
def forL(put:D->aX->Option aX)(body:DS):List D->DS
 |[],ρ=>ae (.nx ρ)
 |d::ds,ρ=>(match put d ρ with | none=>ag | some ρ1=>body ρ1>>=λo=>match o with | .nx ρ2=>forL put body ds ρ2 | .rt v=>ae (.rt v))
def putN(i:Nat):D->aX->Option aX:=λd ρ=>some (ρ.set i (some (.fz d)))
def cY(put:D->aX->Option aX)(δi:DA)(body:DS):DS:=λρ=>δi ρ>>=λds=>forL put body ds ρ
section
variable{X:Cx}{Xw:Nat->Hp->Prop}{u8 aeq:Hp}{st:Stmt}{W1:List Stmt}{τ τ':DS}{e:Expr}{δ:DE}{pos:Pos}
theorem bh:PSDs X Xw [] b9:=λu8 aeq=>PSs.weak Ck λD σ H ⟨F,ρ,s,w⟩=>w σ F H s
theorem ak(h1:iO X Xw st τ)(h2:PSDs X Xw W1 τ'):PSDs X Xw (st::W1) (aB τ τ'):=λu8 aeq=>PSs.weak (y0 (h1 u8 aeq) (h2 u8 aeq)) λD σ H ⟨F,ρ,s,w⟩=>by
 refine⟨F,ρ,s,?_⟩;unfold aB at w
 match τ ρ,w with
 |none,w=>exact w
 |some (.ok (.nx ρ')),w=>exact λσ' F' H' s'=>⟨F',ρ',s',w⟩
 |some (.ok (.rt d)),w=>exact w
 |some (.ex n),w=>exact w
theorem ar(h1:iO X Xw st τ):PSDs X Xw [st] τ:=λu8 aeq=>qt (h1 u8 aeq)
theorem du{i:Nat}(h:iO X Xw st τ):iO X Xw st (zd i τ):=λu8 aeq f8 sh σ H D I ⟨F,ρ,s,w⟩=>by
 rcases s.frz i (λa=>(sh.heap.get? a).getD {cls:= .none,data:= .fields #[]}) with⟨a,o,ha,hc,hσ,s'⟩ | e
 ·refine h u8 aeq f8 sh σ _ D (L3.Inv.refrz I ha ?_) ⟨_,_,s',w⟩;generalize (ρ[i]?.elim (C.lst []) λx=>x.elim (.lst []) λy=>match y with | .ow c=>c | _=> .lst [])=c at hc;cases c with
  |lst ds=>obtain⟨vs,rfl,_⟩:=hc;exact .inl rfl
  |dct ks ds=>obtain⟨vs,rfl,_⟩:=hc;exact .inr ⟨_,rfl, .inl ⟨_,rfl,rfl⟩⟩
  |dci ks ds=>obtain⟨vs,rfl,_⟩:=hc;exact .inr ⟨_,rfl, .inr ⟨_,rfl,rfl⟩⟩
 ·exact h u8 aeq f8 sh σ H D I ⟨F,ρ,s,by unfold zd at w;rw[e] at w;exact w⟩
theorem aD(h:PD X Xw e δ):iO X Xw (.Return (some e) pos) (bc δ):=λu8 aeq=>PS.weak (Nk h) λD σ H ⟨F,ρ,s,w⟩=>by
 refine⟨F,ρ,s.st,?_⟩;unfold bc at w
 match δ ρ,w with
 |none,w=>exact w
 |some (.ok d),w=>exact λv H' F' e' q=>w v F' H' (s.ext.trans e') q
 |some (.ex n),w=>exact λF' H' e'=>w F' H' (s.ext.trans e')
theorem ft(h:PD X Xw e δ)(hs:aa9 e none pos.line X.env=pure false:=by rfl):iO X Xw (.Expr e pos) (jq δ):=λu8 aeq=>PS.weak (qr h hs) λD σ H ⟨F,ρ,s,w⟩=>by
 refine⟨F,ρ,s.st,?_⟩;unfold jq at w
 match δ ρ,w with
 |none,w=>exact w
 |some (.ok d),w=>exact λv H' F' e' q=>w σ F' H' (s.ext' e')
 |some (.ex n),w=>exact λF' H' e'=>w F' H' (s.ext.trans e')
theorem aI{i:Nat}{x:Str}{pos':Pos}(hN:X.N.Nodup)(hi:X.N[i]? =some x)(hx:Loc X.env.scope x)(he:PD X Xw e δ)(hf:X.fn x=true\/X.env.scope.names.lookup x=some .local:=by first | exact .inl rfl | exact .inr rfl)
 (hs:acy [.Name x pos'] e pos.line X.env=pure false:=by rfl):
 iO X Xw (.Assign [.Name x pos'] e pos) (bu i δ):=λu8 aeq=>PS.weak (ou he (aT hN hi hx hf) hs) λD σ H ⟨F,ρ,s,w⟩=>by
 refine⟨F,ρ,s.st,?_⟩;unfold bu at w
 match δ ρ,w with
 |none,w=>exact w
 |some (.ok d),w=>exact λv H' F' e' q=>w _ F' H' ((s.ext' e').set q)
 |some (.ex n),w=>exact λF' H' e'=>w F' H' (s.ext.trans e')
theorem yZ{elt iter tg:Expr}{ifs:List Expr}{scope:Scope}{aV:Pos}{tn:List Str}{n:Nat}{δi:DA}{δt:DT}{δe:DE}{i:Nat}{x:Str}{pos':Pos}(hN:X.N.Nodup)(uG:X.N[i]? =some x)(hx:Loc X.env.scope x)
 (sc:CompSc X scope tn)(hn:tn.length=max n 1)(hc:X.calm=true)(hi:zN X Xw tg iter δi)
 (hg:∀f8 cl C fp v6 H σ,Er (kZ X scope tn f8 cl C fp v6 H) tg n σ)
 (ht:∀f8 cl C fp v6 H,nA (kZ X scope tn f8 cl C fp v6 H) ifs δt)
 (he:∀f8 cl C fp v6 H,PD (kZ X scope tn f8 cl C fp v6 H) (λ_ _=>False) elt δe)
 (hf:X.fn x=true\/X.env.scope.names.lookup x=some .local:=by first | exact .inl rfl | exact .inr rfl)
 (Wq:aa9 (.ListComp elt [⟨tg,iter,ifs,0⟩] scope aV) (some (.Name x pos')) pos.line X.env=pure true:=by rfl)
 (hs:∀x,ZU iter X.env x=pure x:=by intro _;rfl):
 iO X Xw (.Assign [.Name x pos'] (.ListComp elt [⟨tg,iter,ifs,0⟩] scope aV) pos) (bu i (bA n δi δt δe)):=λu8 aeq f8 s σ H D I ⟨F,ρ,S,w⟩=>by
 obtain⟨cl,Fu,cl1,cl2⟩:=qS (scope:=scope) (env:=X.env) λy hy hf=>I.ok.has y.1 (sc.frees y hy hf);have w':WP X.K Xw F H (bA n δi δt δe ρ) (λv H'=>D.nx (σ.set i (some v)) H'):=by
  have w:WPS X.K Xw u8 aeq (bA n δi δt δe ρ>>=λd=>ae (.nx (ρ.set i (some (.fz d))))) D:=w
  match bA n δi δt δe ρ,w with
  |none,w=>exact w
  |some (.ok d),w=>exact λv H' F' e' q=>w _ F' H' ((S.ext' e').set q)
  |some (.ex n),w=>exact λF' H' e'=>w F' H' (S.ext.trans e')
 rw[exec_Assign_Name_used _ _ _ _ Wq];refine Xy (wpAny_standAt (Xy ?_));show wpAny _ X.A (do let _<-comprehension (.ListComp elt [⟨tg,iter,ifs,0⟩] scope aV) scope X.env _ (newList []) false (eval iter X.env) (some (assign (.Name x pos') X.env))) _ _ s;refine Xy (YV (adK (use:=some (assign (.Name x pos') X.env)) (Q:=λ_ s'=>SP X f8 D .next s') rfl hs Fu sc.kind sc.names
  (xX (RR:=λv4 C=>compPost (model X.prog X.w) X.A X.xe (some (assign (.Name x pos') X.env)) (λ_ s'=>SP X f8 D .next s') v4 C) sc hn hc hi hg ht he I S.st w' cl1 cl2 λs1 C D' H' I1 q b=>?_)) (λ_ s' hq=>XE (XE hq)) λ_ _ e=>e)
 show wpAny _ X.A (assign (.Name x pos') X.env (.ref D')) _ _ _;refine acO (oJ I1 hN uG hx (v:= .ref D') rfl (λs2 I2 ⟨a,sb,ha⟩=>?_) hf);have Vc:C≠a:=by
  rcases ha with z | z
  ·rw[z];exact b.nl
  ·exact YG (b.nc x a z)
 obtain⟨m,hm⟩:=b.ns;have HV:s2.heap.Ns C m:=hm.sameBut sb Vc;refine⟨m,HV,λh' vN=>⟨_,H',Inv.block I2 ⟨⟨m,HV⟩,b.free,b.nl,b.nw,b.nc,b.np⟩ vN,q⟩⟩
theorem bI{c:Expr}{a b:List Stmt}{tc:DT}(hc:qA X Xw c tc)(ha:PSDs X Xw a τ)(hb:PSDs X Xw b τ'):iO X Xw (.If c a b pos) (fP tc τ τ'):=λu8 aeq=>PS.weak (K3 hc (ha u8 aeq) (hb u8 aeq)) λD σ H ⟨F,ρ,s,w⟩=>by
 refine⟨F,ρ,s.st,?_⟩;unfold fP at w
 match tc ρ,w with
 |none,w=>exact w
 |some (.ok true),w=>exact λH' F' e'=>⟨F',ρ,s.ext' e',w⟩
 |some (.ok false),w=>exact λH' F' e'=>⟨F',ρ,s.ext' e',w⟩
 |some (.ex n),w=>exact λF' H' e'=>w F' H' (s.ext.trans e')
theorem kK{i:Nat}{x:Str}{pos' yY:Pos}(hN:X.N.Nodup)(hi:X.N[i]? =some x)(hx:Loc X.env.scope x)(hf:X.fn x=true\/X.env.scope.names.lookup x=some .local:=by first | exact .inl rfl | exact .inr rfl):
 iO X Xw (.Assign [.Name x pos'] (.List [] yY) pos) (zf i):=λu8 aeq=>PS.weak (ou (GY wH) (aT hN hi hx hf) rfl) λD σ H ⟨F,ρ,s,w⟩=>by
 refine⟨Ys _,λp hp=>?_⟩;exact w _ F _ (s.setNew (c₀:= .lst []) hp ⟨[],rfl,rfl,Ys _⟩)
def Eo(K:XO)(g:TG)(put:D->aX->Option aX):Prop:=∀(u8 aeq F H:Hp) (σ:St) (ρ ρ':aX) (d:D) (v:V) (Q:St->Hp->Prop),StOk K u8 aeq F H σ ρ->Den K F d v->put d ρ=some ρ'->
 (∀σ',StOk K u8 aeq F H σ' ρ'->Q σ' H)->g v σ H Q
theorem bo{K:XO}{i:Nat}:Eo K (k9 i) (putN i):=λu8 aeq F H σ ρ ρ' d v Q s q e k=>by
 cases e;exact k _ (s.set q)
def Xa(K:XO)(Xw:Nat->Hp->Prop)(τ:DS):TS:=λD σ H=>∃u8 aeq,tS K Xw u8 aeq τ D σ H
theorem PSDs.ex{body:List Stmt}(h:PSDs X Xw body τ):PSs X body (Xa X.K Xw τ):=λf8 s σ H D I ⟨u8,aeq,w⟩=>h u8 aeq f8 s σ H D I w
theorem bD{tg iter:Expr}{body:List Stmt}{δi:DA}{g:TG}{put:D->aX->Option aX}(hp:adl (model X.prog X.w) X.A X.env X.xe)(hc:X.calm=true)(hi:zN X Xw tg iter δi)(hg:PG X tg g)(Mi:Eo X.K g put)(hb:PSDs X Xw body τ)
 (hs:∀x,ZU iter X.env x=pure x:=by intro _;rfl):iO X Xw (.For tg iter body [] pos) (cY put δi τ):=λu8 aeq=>PS.weak (AU hp hc hi hg hb.ex hs) λD σ H ⟨F,ρ,s,w⟩=>by
 refine⟨F,ρ,s.st,?_⟩;unfold cY at w
 match δi ρ,w with
 |none,w=>exact w
 |some (.ex n),w=>exact λF' H' e'=>w F' H' (s.ext.trans e')
 |some (.ok ds),w=>
  have w:WPS X.K Xw u8 aeq (forL put τ ds ρ) D:=w;intro J H1 F1 e1 Ut;obtain⟨s1,back⟩:=(s.ext' e1).rebase;have hU:=Dk (s.ext' e1);generalize join F1 aeq=U at s1 back hU;refine⟨λi m σ H=>m=ds.length - i/\i<=ds.length/\∃F ρ,StOk X.K F1 U F H σ ρ/\WPS X.K Xw u8 aeq (forL put τ (ds.drop i) ρ) D,⟨ds.length,by simp,Ys _,F1,ρ,s1,by simpa using w⟩,?_⟩;rintro i m σ2 H2 ⟨rfl,RN,F2,ρ2,s2,w2⟩;by_cases dG:i<ds.length
  ·obtain⟨d,hd⟩:∃d,ds[i]? =some d:=⟨_,XC dG⟩
   obtain⟨L6,Aj⟩:=(Ut F2 H2 i s2.ext.ff s2.st.fh).1 d hd;have ed:ds.drop i=d::ds.drop (i+1):=by
    obtain⟨hi,e⟩:=XI.mp hd;rw[aah hi,e]
   rw[ed] at w2;unfold forL at w2;refine .inr ⟨L6,λσ' H'=>∃F' ρ',StOk X.K F1 U F' H' σ' ρ'/\WPS X.K Xw u8 aeq (forL put τ (ds.drop (i+1)) ρ') D,λσ' H' ⟨F',ρ',h2,h3⟩=>⟨ds.length - (i+1),by omega,rfl,dG,F',ρ',h2,h3⟩,λx H3 y3=>?_⟩;obtain⟨F3,BD,q3⟩:=Aj x H3 y3
   match Wb:put d ρ2,w2 with
   |none,w2=>exact w2.elim
   |some ρ3,w2=>
    refine Mi F1 U F3 H3 σ2 ρ2 ρ3 d x _ (s2.ext' BD) q3 Wb λσ3 s3=>⟨F1,U,F3,ρ3,s3,?_⟩
    have w2:WPS X.K Xw u8 aeq (τ ρ3>>=λo=>match o with | .nx ρ2=>forL put τ (ds.drop (i+1)) ρ2 | .rt v=>ae (.rt v)) D:=w2
    match τ ρ3,w2 with
    |none,w2=>exact w2
    |some (.ok (.nx ρ')),w2=>exact λσ' F' H' s'=>⟨F',ρ',s',w2⟩
    |some (.ok (.rt d)),w2=>exact λv F' H' e q=>w2 v F' H' (back _ _ e) q
    |some (.ex n),w2=>exact λF' H' e=>w2 F' H' (back _ _ e)
  ·have hi:i=ds.length:=by omega
   subst hi;rw[abq] at w2;exact .inl ⟨(Ut F2 H2 ds.length s2.ext.ff s2.st.fh).2 (XM _),w2 σ2 F2 H2 (s2.unbase back hU)⟩
end
def gI(f:Int->Int->D):D->D->M D
 | .int i, .int j=>ae (f i j)
 |_,_=>ag
def OB(c:Int->Int->Bool)(f:Int->Int->D):D->D->M D
 | .int i, .int j=>if c i j then ae (f i j) else ag
 |_,_=>ag
theorem GC{K:XO}{gv:Int->Int->V}{gd:Int->Int->D}(h:∀F i j,Den K F (gd i j) (gv i j)):zM K (DZ gv) (gI gd):=λXw F H x y dx dy Q s hx hy w=>by
 unfold gI at w;split at w
 ·rename_i i j;exact⟨i,j,hx,hy,WP.now w s (h F i j)⟩
 ·exact w.elim
theorem AD{K:XO}{gv:Int->Int->V}{gd:Int->Int->D}{c:Int->Int->Bool}{C:Int->Int->Prop}(h:∀F i j,Den K F (gd i j) (gv i j))(hc:∀i j,c i j=true->C i j):zM K (rI C gv) (OB c gd):=λXw F H x y dx dy Q s hx hy w=>by
 unfold OB at w;split at w
 ·rename_i i j;split at w
  ·rename_i QI;exact⟨i,j,hx,hy,hc i j QI,WP.now w s (h F i j)⟩
  ·exact w.elim
 ·exact w.elim
def dN:=gI λi j=> .int (i+j)
def Ac:=gI λi j=> .int (i - j)
def gS:=OB (λi j=>decide ((-(2 ^ 64)<i/\i<2 ^ 64)\/(-(2 ^ 64)<j/\j<2 ^ 64))) λi j=> .int (i*j)
def tO:=OB (λ_ j=>decide (0<j/\j<1073741824)) λi j=> .int (i / j)
def l9:=OB (λ_ j=>decide (0<j)) λi j=> .int (i % j)
section
variable{X:Cx}{Xw:Nat->Hp->Prop}{a b:Expr}{δa δb:DE}{pos:Pos}
theorem cu(ha:PD X Xw a δa)(hb:PD X Xw b δb):PD X Xw (.BinOp a .Add b pos) (d2 dN δa δb):=pH MM (GC λ_ _ _=>rfl) ha hb
theorem wO(ha:PD X Xw a δa)(hb:PD X Xw b δb):PD X Xw (.BinOp a .Sub b pos) (d2 Ac δa δb):=pH MT (GC λ_ _ _=>rfl) ha hb
theorem i3(ha:PD X Xw a δa)(hb:PD X Xw b δb):PD X Xw (.BinOp a .Mult b pos) (d2 gS δa δb):=pH MR (AD (λ_ _ _=>rfl) λi j h=>by unfold CMul;exact aek h) ha hb
theorem wL(ha:PD X Xw a δa)(hb:PD X Xw b δb):PD X Xw (.BinOp a .FloorDiv b pos) (d2 tO δa δb):=pH Jn (AD (λ_ _ _=>rfl) λi j h=>by unfold N9;exact aek h) ha hb
theorem oj(ha:PD X Xw a δa)(hb:PD X Xw b δb):PD X Xw (.BinOp a .Mod b pos) (d2 l9 δa δb):=pH MQ (AD (λ_ _ _=>rfl) λi j h=>aek h) ha hb
def tP:D->D->M D
 | .lst ds, .int i=>match atI ds i with | some d=>ae d | none=>ag
 |_,_=>ag
def bb:D->D->M D
 | .tup ds, .int i=>match atI ds i with | some d=>ae d | none=>ag
 |_,_=>ag
def Fi:D->D->M D
 | .scr ns, .int i=>match atI ns i with | some n=>ae (.int n) | none=>ag
 |_,_=>ag
def rh:D->D->M D
 | .str x, .int i=>match atI x.cps.toList i with | some c=>ae (.str ⟨#[c]⟩) | none=>ag
 |_,_=>ag
theorem DenL.atI{K:XO}{F:Hp}{ds:List D}{vs:List V}(h:DenL K F ds vs){i:Int}{d:D}(e:L2.atI ds i=some d):∃v,L2.atI vs i=some v/\Den K F d v:=by
 unfold L2.atI at e⊢;rw[<-h.len];cases q:Mu ds.length i with
 |none=>rw[q] at e;cases e
 |some j=>
  rw[q] at e;exact h.get e
theorem Jo{K:XO}:zM K (Nv K) tP:=λXw F H x y dx dy Q s hx hy w=>by
 unfold tP at w;split at w
 ·rename_i ds i;obtain⟨a,vs,h1,h2,h3,h4⟩:=hx;split at w
  ·rename_i d e;obtain⟨v,e1,q⟩:=h3.atI e;exact⟨a,vs,i,v,h1,hy,SqL.of (s _ _ h2),e1,WP.now w s q⟩
  ·exact w.elim
 ·exact w.elim
theorem Jr{K:XO}:zM K (P7 K) bb:=λXw F H x y dx dy Q s hx hy w=>by
 unfold bb at w;split at w
 ·rename_i ds i;obtain⟨a,vs,h1,h2,h3,h4⟩:=hx;split at w
  ·rename_i d e;obtain⟨v,e1,q⟩:=h3.atI e;exact⟨a,vs,i,v,h1,hy,SqT.of (s _ _ h2),e1,WP.now w s q⟩
  ·exact w.elim
 ·exact w.elim
theorem Jp{K:XO}:zM K (Nv K) Fi:=λXw F H x y dx dy Q s hx hy w=>by
 unfold Fi at w;split at w
 ·rename_i ns i;obtain⟨a,h1,h2,h3⟩:=hx;split at w
  ·rename_i n e;refine⟨a,_,i, .int n,h1,hy,Same.seq s h2,?_,WP.now w s rfl⟩;unfold L2.atI at e⊢;rw[XB];cases q:Mu ns.length i with
   |none=>rw[q] at e;cases e
   |some j=>
    rw[q] at e;have e:ns[j]? =some n:=e;show (ns.map V.int)[j]? =some (.int n);rw[XX,e];rfl
  ·exact w.elim
 ·exact w.elim
theorem Jq{K:XO}:zM K P6 rh:=λXw F H x y dx dy Q s hx hy w=>by
 unfold rh at w;split at w
 ·rename_i z i;obtain⟨h1,h2⟩:=hx;split at w
  ·rename_i c e;exact⟨z,i,c,h1,hy,by have:=dS;omega,e,WP.now w s ⟨rfl,by show 1<=lim;decide⟩⟩
  ·exact w.elim
 ·exact w.elim
theorem AJ(ha:PD X Xw a δa)(hb:PD X Xw b δb)(hs:kq b:=by intro _ _;rfl):PD X Xw (.Subscript a b pos) (d2 tP δa δb):=Cb BU Jo ha hb hs
theorem MZ(ha:PD X Xw a δa)(hb:PD X Xw b δb)(hs:kq b:=by intro _ _;rfl):PD X Xw (.Subscript a b pos) (d2 Fi δa δb):=Cb BU Jp ha hb hs
theorem bH(ha:PD X Xw a δa)(hb:PD X Xw b δb)(hs:kq b:=by intro _ _;rfl):PD X Xw (.Subscript a b pos) (d2 bb δa δb):=Cb Mw Jr ha hb hs
theorem AK(ha:PD X Xw a δa)(hb:PD X Xw b δb)(hs:kq b:=by intro _ _;rfl):PD X Xw (.Subscript a b pos) (d2 rh δa δb):=Cb Mv Jq ha hb hs
def jF:D->D->M D
 | .lst x, .lst y=>if x.length+y.length<=lim then ae (.lst (x++y)) else ag
 |_,_=>ag
def Fl:D->D->M D
 | .lst x, .int k=>if (0<=k/\k<=64)/\x.length*k.toNat<=lim then ae (.lst (XT k.toNat x).flatten) else ag
 |_,_=>ag
theorem kg(x y:Str):(x++y).length=x.length+y.length:=by
 show (x.cps++y.cps).size=_;simp[Str.length]
theorem wJ(ha:PD X Xw a δa)(hb:PD X Xw b δb):PD X Xw (.BinOp a .Add b pos) (d2 jF δa δb):=pH MN (λXw F H x y dx dy Q s hx hy w=>by
 unfold jF at w;split at w
 ·rename_i i j;obtain⟨a,vs,h1,h2,h3,h4⟩:=hx;obtain⟨a',vs',k1,k2,k3,k4⟩:=hy;split at w
  ·rename_i hl;have e1:=h3.len;have e2:=k3.len;have:=dS;refine⟨a,a',vs,vs',h1,k1,s _ _ h2,s _ _ k2,by omega,λp hp=>?_⟩;exact WP.fin w (Ext.lay s hp) ⟨p,_,rfl,aG,DenL.mono (Ext.lay s hp).ff (h3.append k3),by rw[XR];exact hl⟩
  ·exact w.elim
 ·exact w.elim) ha hb
theorem DenL.rep{K:XO}{F:Hp}{ds:List D}{vs:List V}(h:DenL K F ds vs):∀n:Nat,DenL K F (XT n ds).flatten (XT n vs).flatten
 |0=>rfl
 |n+1=>by
  rw[Zs,Zs,aac,aac];exact h.append (DenL.rep h n)
theorem GL(ha:PD X Xw a δa)(hb:PD X Xw b δb):PD X Xw (.BinOp a .Mult b pos) (d2 Fl δa δb):=pH MS (λXw F H x y dx dy Q s hx hy w=>by
 unfold Fl at w;split at w
 ·rename_i i k;obtain⟨a,vs,h1,h2,h3,h4⟩:=hx;split at w
  ·rename_i hl;obtain⟨⟨l1,l2⟩,l3⟩:=hl;have e1:=h3.len;have:=dS;refine⟨a,k,vs,h1,hy,s _ _ h2,by omega,by omega,by rw[<-e1];omega,λp hp=>?_⟩;exact WP.fin w (Ext.lay s hp) ⟨p,_,rfl,aG,DenL.mono (Ext.lay s hp).ff (h3.rep _),by rw[len_rep,adD];exact l3⟩
  ·exact w.elim
 ·exact w.elim) ha hb
end
end L3
namespace L3
open PySem PySem.Spec L2 SeqAt
open PyProof.Rows hiding St
def tI(f:D->D->Option Bool):List D->List D->Option Bool
 |[],[]=>some true
 |x::xs,y::ys=>match f x y,tI f xs ys with
  |some b,some r=>some (b&&r)
  |_,_=>none
 |[],_::_=>some false
 |_::_,[]=>some false
def z6:D->D->Option Bool
 | .non, .non=>some true
 | .bl a, .bl b=>some (a==b)
 | .bl a, .int j=>some ((if a then 1 else 0)==j)
 | .int i, .bl b=>some (i==(if b then 1 else 0))
 | .int i, .int j=>some (i==j)
 | .str x, .str y=>some (x==y)
 | .non, .bl _=>some false
 | .non, .int _=>some false
 | .non, .str _=>some false
 | .non, .lst _=>some false
 | .non, .tup _=>some false
 | .bl _, .non=>some false
 | .bl _, .str _=>some false
 | .bl _, .lst _=>some false
 | .bl _, .tup _=>some false
 | .int _, .non=>some false
 | .int _, .str _=>some false
 | .int _, .lst _=>some false
 | .int _, .tup _=>some false
 | .str _, .non=>some false
 | .str _, .bl _=>some false
 | .str _, .int _=>some false
 | .str _, .lst _=>some false
 | .str _, .tup _=>some false
 | .lst _, .non=>some false
 | .lst _, .bl _=>some false
 | .lst _, .int _=>some false
 | .lst _, .str _=>some false
 | .lst _, .tup _=>some false
 | .tup _, .non=>some false
 | .tup _, .bl _=>some false
 | .tup _, .int _=>some false
 | .tup _, .str _=>some false
 | .tup _, .lst _=>some false
 |_,_=>none
def kz:Nat->D->D->Option Bool
 |n+1, .tup xs, .tup ys=>tI (kz n) xs ys
 |n+1, .lst xs, .lst ys=>tI (kz n) xs ys
 |n+1, .scr xs, .lst ys=>tI (kz n) (xs.map D.int) ys
 |_,x,y=>z6 x y
structure EqAll (A:Yy) (s:XD) (u v:Value) (b:Bool):Prop where
 rc:RcAt A s u v b
 ne:RcNeAt A s u v (!b)
 eq:EqAt A s u v b
section
variable{X:Cx}{f8:List (Addr×Obj)}{σ:St}{F H:Hp}{s:XD}{A:Yy}
theorem fS(I:Inv X f8 σ H s)(hs:Same F H){ds:List D}{v:V}{u:Value}(h:Den X.K F (.tup ds) v)(r:RelV v u):∃a vs aK,u= .ref a/\v= .ref a/\F a=some (.tup vs)/\DenL X.K F ds vs/\Vals vs aK/\s.heap.IsTuple a aK.toArray:=by
 obtain⟨a,vs,rfl,h2,h3,h4⟩:=h;obtain⟨aK,r1,p1,_⟩:=I.tuple (SqT.of (hs _ _ h2));exact⟨a,vs,aK,r,rfl,h2,h3,r1,p1⟩
theorem e_(I:Inv X f8 σ H s)(hs:Same F H){ds:List D}{v:V}{u:Value}(h:Den X.K F (.lst ds) v)(r:RelV v u):∃a vs aK,u= .ref a/\v= .ref a/\F a=some (.lst vs)/\DenL X.K F ds vs/\Vals vs aK/\s.heap.IsList a aK.toArray:=by
 obtain⟨a,vs,rfl,h2,h3,h4⟩:=h;obtain⟨aK,r1,p1,_⟩:=I.list (SqL.of (hs _ _ h2));exact⟨a,vs,aK,r,rfl,h2,h3,r1,p1.isList⟩
theorem NB(I:Inv X f8 σ H s)(hs:Same F H){ns:List Int}{v:V}{u:Value}(h:Den X.K F (.scr ns) v)(r:RelV v u):∃a aK,u= .ref a/\v= .ref a/\SqL X.K F a (ns.map V.int)/\Vals (ns.map V.int) aK/\s.heap.IsList a aK.toArray:=by
 obtain⟨a,rfl,h2,h3⟩:=h;obtain⟨aK,r1,p1,_⟩:=I.list (Same.seq hs h2);exact⟨a,aK,r,rfl,h2,r1,p1.isList⟩
theorem yh(I:Inv X f8 σ H s)(hs:Same F H)(hu:A.units<cLine){x y:D}{v w:V}{u t:Value}{b:Bool}(hx:Den X.K F x v)(hy:Den X.K F y w)(rx:RelV v u)(ry:RelV w t)(e:z6 x y=some b):EqAll A s u t b:=by
 cases x with
 |non=>
  cases y with
  |non=>
   cases e;cases (show _=_ from hx);cases rx;cases (show _=_ from hy);cases ry;exact⟨RcAt.none_none,RcNeAt.none_none,EqAt.same _⟩
  |bl d=>
   cases e;cases (show _=_ from hx);cases rx;cases (show _=_ from hy);cases ry;exact⟨RcAt.none_bool _,RcNeAt.none_bool _,EqAt.none_bool _⟩
  |int d=>
   cases e;cases (show _=_ from hx);cases rx;cases (show _=_ from hy);obtain⟨t2,rfl⟩:=ry;exact⟨RcAt.none_int _ _,RcNeAt.none_int _ _,EqAt.none_int _ _⟩
  |str d=>
   cases e;cases (show _=_ from hx);cases rx;cases (show _=_ from hy.1);obtain⟨t2,rfl⟩:=ry;exact⟨RcAt.none_str _ _,RcNeAt.none_str _ _,EqAt.none_str _ _⟩
  |raw d=>cases e
  |dct _ _=>cases e
  |dci _ _=>cases e
  |exc d=>cases e
  |scr d=>cases e
  |tup d=>
   cases e;cases (show _=_ from hx);cases rx;obtain⟨a2,_,_,rfl,_,_,_,_,p2⟩:=fS I hs hy ry;exact⟨RcAt.none_tuple p2 hu,RcNeAt.none_tuple p2 hu,EqAt.none_tuple p2 hu⟩
  |lst d=>
   cases e;cases (show _=_ from hx);cases rx;obtain⟨a2,_,_,rfl,_,_,_,_,p2⟩:=e_ I hs hy ry;exact⟨RcAt.none_list p2 hu,RcNeAt.none_list p2 hu,EqAt.none_list p2 hu⟩
 |bl c=>
  cases y with
  |non=>
   cases e;cases (show _=_ from hx);cases rx;cases (show _=_ from hy);cases ry;exact⟨RcAt.bool_none _,RcNeAt.bool_none _,EqAt.bool_none _⟩
  |bl d=>
   cases e;cases (show _=_ from hx);cases rx;cases (show _=_ from hy);cases ry;exact⟨RcAt.bool_bool _ _,RcNeAt.bool_bool _ _,EqAt.bool_bool _ _⟩
  |int d=>
   cases e;cases (show _=_ from hx);cases rx;cases (show _=_ from hy);obtain⟨t2,rfl⟩:=ry;exact⟨RcAt.bool_int _ _ _,RcNeAt.bool_int _ _ _,EqAt.bool_int _ _ _⟩
  |str d=>
   cases e;cases (show _=_ from hx);cases rx;cases (show _=_ from hy.1);obtain⟨t2,rfl⟩:=ry;exact⟨RcAt.bool_str _ _ _,RcNeAt.bool_str _ _ _,EqAt.bool_str _ _ _⟩
  |raw d=>cases e
  |dct _ _=>cases e
  |dci _ _=>cases e
  |exc d=>cases e
  |scr d=>cases e
  |tup d=>
   cases e;cases (show _=_ from hx);cases rx;obtain⟨a2,_,_,rfl,_,_,_,_,p2⟩:=fS I hs hy ry;exact⟨RcAt.bool_tuple _ p2 hu,RcNeAt.bool_tuple _ p2 hu,EqAt.bool_tuple _ p2 hu⟩
  |lst d=>
   cases e;cases (show _=_ from hx);cases rx;obtain⟨a2,_,_,rfl,_,_,_,_,p2⟩:=e_ I hs hy ry;exact⟨RcAt.bool_list _ p2 hu,RcNeAt.bool_list _ p2 hu,EqAt.bool_list _ p2 hu⟩
 |int c=>
  cases y with
  |non=>
   cases e;cases (show _=_ from hx);obtain⟨t1,rfl⟩:=rx;cases (show _=_ from hy);cases ry;exact⟨RcAt.int_none _ _,RcNeAt.int_none _ _,EqAt.int_none _ _⟩
  |bl d=>
   cases e;cases (show _=_ from hx);obtain⟨t1,rfl⟩:=rx;cases (show _=_ from hy);cases ry;exact⟨RcAt.int_bool _ _ _,RcNeAt.int_bool _ _ _,EqAt.int_bool _ _ _⟩
  |int d=>
   cases e;cases (show _=_ from hx);obtain⟨t1,rfl⟩:=rx;cases (show _=_ from hy);obtain⟨t2,rfl⟩:=ry;exact⟨RcAt.int_int _ _ _ _,RcNeAt.int_int _ _ _ _,EqAt.int_int _ _ _ _⟩
  |str d=>
   cases e;cases (show _=_ from hx);obtain⟨t1,rfl⟩:=rx;cases (show _=_ from hy.1);obtain⟨t2,rfl⟩:=ry;exact⟨RcAt.int_str _ _ _ _,RcNeAt.int_str _ _ _ _,EqAt.int_str _ _ _ _⟩
  |raw d=>cases e
  |dct _ _=>cases e
  |dci _ _=>cases e
  |exc d=>cases e
  |scr d=>cases e
  |tup d=>
   cases e;cases (show _=_ from hx);obtain⟨t1,rfl⟩:=rx;obtain⟨a2,_,_,rfl,_,_,_,_,p2⟩:=fS I hs hy ry;exact⟨RcAt.int_tuple _ _ p2 hu,RcNeAt.int_tuple _ _ p2 hu,EqAt.int_tuple _ _ p2 hu⟩
  |lst d=>
   cases e;cases (show _=_ from hx);obtain⟨t1,rfl⟩:=rx;obtain⟨a2,_,_,rfl,_,_,_,_,p2⟩:=e_ I hs hy ry;exact⟨RcAt.int_list _ _ p2 hu,RcNeAt.int_list _ _ p2 hu,EqAt.int_list _ _ p2 hu⟩
 |str c=>
  cases y with
  |non=>
   cases e;cases (show _=_ from hx.1);obtain⟨t1,rfl⟩:=rx;cases (show _=_ from hy);cases ry;exact⟨RcAt.str_none _ _,RcNeAt.str_none _ _,EqAt.str_none _ _⟩
  |bl d=>
   cases e;cases (show _=_ from hx.1);obtain⟨t1,rfl⟩:=rx;cases (show _=_ from hy);cases ry;exact⟨RcAt.str_bool _ _ _,RcNeAt.str_bool _ _ _,EqAt.str_bool _ _ _⟩
  |int d=>
   cases e;cases (show _=_ from hx.1);obtain⟨t1,rfl⟩:=rx;cases (show _=_ from hy);obtain⟨t2,rfl⟩:=ry;exact⟨RcAt.str_int _ _ _ _,RcNeAt.str_int _ _ _ _,EqAt.str_int _ _ _ _⟩
  |str d=>
   cases e;cases (show _=_ from hx.1);obtain⟨t1,rfl⟩:=rx;cases (show _=_ from hy.1);obtain⟨t2,rfl⟩:=ry;exact⟨RcAt.str_str _ _ _ _,RcNeAt.str_str _ _ _ _,EqAt.str_str _ _ _ _⟩
  |raw d=>cases e
  |dct _ _=>cases e
  |dci _ _=>cases e
  |exc d=>cases e
  |scr d=>cases e
  |tup d=>
   cases e;cases (show _=_ from hx.1);obtain⟨t1,rfl⟩:=rx;obtain⟨a2,_,_,rfl,_,_,_,_,p2⟩:=fS I hs hy ry;exact⟨RcAt.str_tuple _ _ p2 hu,RcNeAt.str_tuple _ _ p2 hu,EqAt.str_tuple _ _ p2 hu⟩
  |lst d=>
   cases e;cases (show _=_ from hx.1);obtain⟨t1,rfl⟩:=rx;obtain⟨a2,_,_,rfl,_,_,_,_,p2⟩:=e_ I hs hy ry;exact⟨RcAt.str_list _ _ p2 hu,RcNeAt.str_list _ _ p2 hu,EqAt.str_list _ _ p2 hu⟩
 |raw _=>cases y<;>cases e
 |dct _ _=>cases y<;>cases e
 |dci _ _=>cases y<;>cases e
 |exc _=>cases y<;>cases e
 |scr c=>cases y<;>cases e
 |tup c=>
  cases y with
  |non=>
   cases e;obtain⟨a1,_,_,rfl,_,_,_,_,p1⟩:=fS I hs hx rx;cases (show _=_ from hy);cases ry;exact⟨RcAt.tuple_none p1 hu,RcNeAt.tuple_none p1 hu,EqAt.tuple_none p1 hu⟩
  |bl d=>
   cases e;obtain⟨a1,_,_,rfl,_,_,_,_,p1⟩:=fS I hs hx rx;cases (show _=_ from hy);cases ry;exact⟨RcAt.tuple_bool _ p1 hu,RcNeAt.tuple_bool _ p1 hu,EqAt.tuple_bool _ p1 hu⟩
  |int d=>
   cases e;obtain⟨a1,_,_,rfl,_,_,_,_,p1⟩:=fS I hs hx rx;cases (show _=_ from hy);obtain⟨t2,rfl⟩:=ry;exact⟨RcAt.tuple_int _ _ p1 hu,RcNeAt.tuple_int _ _ p1 hu,EqAt.tuple_int _ _ p1 hu⟩
  |str d=>
   cases e;obtain⟨a1,_,_,rfl,_,_,_,_,p1⟩:=fS I hs hx rx;cases (show _=_ from hy.1);obtain⟨t2,rfl⟩:=ry;exact⟨RcAt.tuple_str _ _ p1 hu,RcNeAt.tuple_str _ _ p1 hu,EqAt.tuple_str _ _ p1 hu⟩
  |raw d=>cases e
  |dct _ _=>cases e
  |dci _ _=>cases e
  |exc d=>cases e
  |scr d=>cases e
  |tup d=>cases e
  |lst d=>
   cases e;obtain⟨a1,_,_,rfl,_,_,_,_,p1⟩:=fS I hs hx rx;obtain⟨a2,_,_,rfl,_,_,_,_,p2⟩:=e_ I hs hy ry;exact⟨RcAt.tuple_list p1 p2 hu,RcNeAt.tuple_list p1 p2 hu,EqAt.tuple_list p1 p2 hu⟩
 |lst c=>
  cases y with
  |non=>
   cases e;obtain⟨a1,_,_,rfl,_,_,_,_,p1⟩:=e_ I hs hx rx;cases (show _=_ from hy);cases ry;exact⟨RcAt.list_none p1 hu,RcNeAt.list_none p1 hu,EqAt.list_none p1 hu⟩
  |bl d=>
   cases e;obtain⟨a1,_,_,rfl,_,_,_,_,p1⟩:=e_ I hs hx rx;cases (show _=_ from hy);cases ry;exact⟨RcAt.list_bool _ p1 hu,RcNeAt.list_bool _ p1 hu,EqAt.list_bool _ p1 hu⟩
  |int d=>
   cases e;obtain⟨a1,_,_,rfl,_,_,_,_,p1⟩:=e_ I hs hx rx;cases (show _=_ from hy);obtain⟨t2,rfl⟩:=ry;exact⟨RcAt.list_int _ _ p1 hu,RcNeAt.list_int _ _ p1 hu,EqAt.list_int _ _ p1 hu⟩
  |str d=>
   cases e;obtain⟨a1,_,_,rfl,_,_,_,_,p1⟩:=e_ I hs hx rx;cases (show _=_ from hy.1);obtain⟨t2,rfl⟩:=ry;exact⟨RcAt.list_str _ _ p1 hu,RcNeAt.list_str _ _ p1 hu,EqAt.list_str _ _ p1 hu⟩
  |raw d=>cases e
  |dct _ _=>cases e
  |dci _ _=>cases e
  |exc d=>cases e
  |scr d=>cases e
  |tup d=>
   cases e;obtain⟨a1,_,_,rfl,_,_,_,_,p1⟩:=e_ I hs hx rx;obtain⟨a2,_,_,rfl,_,_,_,_,p2⟩:=fS I hs hy ry;exact⟨RcAt.list_tuple p1 p2 hu,RcNeAt.list_tuple p1 p2 hu,EqAt.list_tuple p1 p2 hu⟩
  |lst d=>cases e
end
def ev(f:D->D->Option Bool)(xs ys:List D)(j:Nat):Bool:=match xs[j]?,ys[j]? with
 |some x,some y=>(f x y).getD false
 |_,_=>false
theorem yf{f:D->D->Option Bool}:∀{xs ys:List D}{b:Bool},tI f xs ys=some b->∀(j:Nat) (x y:D),xs[j]? =some x->ys[j]? =some y->∃c,f x y=some c
 |[],_,_,_,_,_,_,h,_=>by simp at h
 |_::_,[],_,_,_,_,_,_,h=>by simp at h
 |x::xs,y::ys,b,e,j,x',y',hx,hy=>by
  unfold tI at e;split at e
  ·rename_i b1 r1 e1 e2;cases j with
   |zero=>simp at hx hy;subst hx hy;exact⟨_,e1⟩
   |succ j=>exact yf e2 j x' y' (by simpa using hx) (by simpa using hy)
  ·cases e
theorem vG{f:D->D->Option Bool}:∀{xs ys:List D}{b:Bool},tI f xs ys=some b->b=((Yg (min xs.length ys.length)).all (ev f xs ys)&&xs.length==ys.length)
 |[],[],_,e=>by cases e;rfl
 |[],_::_,_,e=>by cases e;simp
 |_::_,[],_,e=>by cases e;simp
 |x::xs,y::ys,b,e=>by
  unfold tI at e;split at e
  ·rename_i b1 r1 e1 e2;cases e;have h:=vG e2;rw[XH,XH,Nat.succ_min_succ,adm,aaS,aaJ];have e0:ev f (x::xs) (y::ys) 0=b1:=by unfold ev;simp[e1]
   have e3:(ev f (x::xs) (y::ys)∘Nat.succ)=ev f xs ys:=by funext j;simp[ev,aee]
   have e4:(xs.length+1==ys.length+1)=(xs.length==ys.length):=by simp
   rw[e0,e3,e4,h,Bool.and_assoc]
  ·cases e
section
variable{X:Cx}{f8:List (Addr×Obj)}{σ:St}{F H:Hp}{s:XD}
theorem l6{f:D->D->Option Bool}(h:∀x y v b,Den X.K F x v->Den X.K F y v->f x y=some b->b=true):∀{xs ys:List D}{vs:List V}{b:Bool},DenL X.K F xs vs->DenL X.K F ys vs->tI f xs ys=some b->b=true
 |[],[],_,_,_,_,e=>by cases e;rfl
 |[],_::_,_,_,h1,h2,_=>by
  cases (show _=_ from h1);obtain⟨v,r,z,_⟩:=h2;cases z
 |_::_,[],_,_,h1,h2,_=>by
  cases (show _=_ from h2);obtain⟨v,r,z,_⟩:=h1;cases z
 |x::xs,y::ys,_,b,⟨v,r,e1,q1,q2⟩,⟨v',r',e2,q3,q4⟩,e=>by
  subst e1;cases e2;unfold tI at e;split at e
  ·rename_i b1 r1 f1 f2;cases e;rw[h x y v b1 q1 q3 f1,l6 h q2 q4 f2];rfl
  ·cases e
theorem uB{x y:D}{v:V}{b:Bool}(hx:Den X.K F x v)(hy:Den X.K F y v)(e:z6 x y=some b):b=true:=by
 cases x<;>cases y<;>first
  |(cases e;done)
  |(cases e;cases (show _=_ from hx);cases (show _=_ from hy);first | rfl | simp)
  |(cases e;cases (show _=_ from hx.1);cases (show _=_ from hy.1);simp)
  |(cases e;cases (show _=_ from hx);cases (show _=_ from hy.1))
  |(cases e;cases (show _=_ from hx.1);cases (show _=_ from hy))
  |(cases e;obtain⟨_,_,z,_⟩:=hx;subst z;cases (show _=_ from hy);done)
  |(cases e;obtain⟨_,_,z,_⟩:=hx;subst z;cases (show _=_ from hy.1);done)
  |(cases e;obtain⟨_,z,_⟩:=hx;subst z;cases (show _=_ from hy);done)
  |(cases e;obtain⟨_,z,_⟩:=hx;subst z;cases (show _=_ from hy.1);done)
  |(cases e;obtain⟨_,_,z,_⟩:=hy;subst z;cases (show _=_ from hx);done)
  |(cases e;obtain⟨_,_,z,_⟩:=hy;subst z;cases (show _=_ from hx.1);done)
  |(cases e;obtain⟨_,z,_⟩:=hy;subst z;cases (show _=_ from hx);done)
  |(cases e;obtain⟨_,z,_⟩:=hy;subst z;cases (show _=_ from hx.1);done)
  |(cases e;obtain⟨_,_,z,h2,_⟩:=hx;obtain⟨_,_,z',Tx,_⟩:=hy;subst z;cases z';rw[h2] at Tx;cases Tx;done)
  |(cases e;cases (show _=_ from hx);cases (show _=_ from hy);done)
  |(cases e;cases (show _=_ from hx.1);cases (show _=_ from hy.1);done)
theorem l5(I:Inv X f8 σ H s)(hs:Same F H):∀(n:Nat) (x y:D) (v:V) (b:Bool),Den X.K F x v->Den X.K F y v->kz n x y=some b->b=true
 |0,x,y,v,b,hx,hy,e=>uB hx hy (by unfold kz at e;exact e)
 |n+1,x,y,v,b,hx,hy,e=>by
  unfold kz at e;split at e
  ·rename_i xs ys _;obtain⟨a,vs,rfl,h2,h3,_⟩:=hx;obtain⟨a',vs',z,k2,k3,_⟩:=hy;cases z;rw[h2] at k2;cases k2;exact l6 (l5 I hs _) h3 k3 (by simpa using e)
  ·rename_i xs ys _;obtain⟨a,vs,rfl,h2,h3,_⟩:=hx;obtain⟨a',vs',z,k2,k3,_⟩:=hy;cases z;rw[h2] at k2;cases k2;exact l6 (l5 I hs _) h3 k3 (by simpa using e)
  ·rename_i xs ys _;obtain⟨a,rfl,h2,_⟩:=hx;obtain⟨a',vs',z,k2,k3,_⟩:=hy;cases z;have hv:=I.list_inj (Same.seq hs h2) (SqL.of (hs _ _ k2));rw[<-hv] at k3;exact l6 (l5 I hs _) (DenL.ints xs) k3 (by simpa using e)
  ·exact uB hx hy e
theorem Vals.at{vs:List V}{aK:List Value}(r:Vals vs aK){j:Nat}(h:j<aK.toArray.size):∃v,vs[j]? =some v/\RelV v aK.toArray[j]:=by
 have hl:=r.length;have hj:j<vs.length:=by rw[XW] at h;omega
 obtain⟨u,e1,e2⟩:=r.get (XC hj);refine⟨vs[j],XC hj,?_⟩;have:aK.toArray[j]=u:=by
  have:=(XI.mp e1).2;simpa using this
 rw[this];exact e2
theorem qg{f:D->D->Option Bool}{A:Yy}{xs ys:List D}{vs ws:List V}{aK gG:List Value}{b:Bool}(h1:DenL X.K F xs vs)(h2:DenL X.K F ys ws)(r1:Vals vs aK)(r2:Vals ws gG)(e:tI f xs ys=some b)
 (ih:∀x y v w u t c,Den X.K F x v->Den X.K F y w->RelV v u->RelV w t->f x y=some c->EqAt A s u t c):
 ∀j (k1:j<aK.toArray.size) (k2:j<gG.toArray.size),EqAt A s aK.toArray[j] gG.toArray[j] (ev f xs ys j):=λj k1 k2=>by
 obtain⟨v,e1,q1⟩:=Vals.at r1 k1;obtain⟨w,e2,q2⟩:=Vals.at r2 k2;obtain⟨x,e3,q3⟩:=h1.at e1;obtain⟨y,e4,q4⟩:=h2.at e2;obtain⟨c,hc⟩:=yf e j x y e3 e4;have:ev f xs ys j=c:=by unfold ev;rw[e3,e4];simp[hc]
 rw[this];exact ih x y v w _ _ c q3 q4 q1 q2 hc
theorem uU{f:D->D->Option Bool}{A:Yy}(hu:A.units<cLine){xs ys:List D}{vs ws:List V}{aK gG:List Value}{b:Bool}{a a':Addr}(h1:DenL X.K F xs vs)(h2:DenL X.K F ys ws)(r1:Vals vs aK)(r2:Vals ws gG)
 (p1:s.heap.IsList a aK.toArray)(p2:s.heap.IsList a' gG.toArray)(e:tI f xs ys=some b)(hr:a=a'->b=true)
 (ih:∀x y v w u t c,Den X.K F x v->Den X.K F y w->RelV v u->RelV w t->f x y=some c->EqAt A.in1 s u t c):EqAll A s (.ref a) (.ref a') b:=by
 have l1:=h1.len;have l2:=h2.len;have l3:=r1.length;have l4:=r2.length;have hv:=vG e;have core:RcAt A s (.ref a) (.ref a') b/\RcNeAt A s (.ref a) (.ref a') (!b):=by
  by_cases hl:xs.length=ys.length
  ·have hsz:aK.toArray.size=gG.toArray.size:=by rw[XW,XW];omega
   have hb:b=(Yg aK.toArray.size).all (ev f xs ys):=by
    rw[hv,hl,adE,beq_self_eq_true,ac9];congr 2;rw[XW];omega
   rw[hb];exact⟨RcAt.lists p1 p2 hsz hu (qg h1 h2 r1 r2 e ih),RcNeAt.lists p1 p2 hsz hu (qg h1 h2 r1 r2 e ih)⟩
  ·have hb:b=false:=by rw[hv,show (xs.length==ys.length)=false from by simpa using hl,abP]
   have hsz:(aK.toArray.size !=gG.toArray.size)=true:=by
    rw[XW,XW];simp;omega
   rw[hb];exact⟨RcAt.lists_lengths p1 p2 hsz hu,RcNeAt.lists_lengths p1 p2 hsz hu⟩
 refine⟨core.1,core.2,?_⟩;by_cases hq:a=a'
 ·rw[hr hq];subst hq;exact EqAt.same _
 ·exact EqAt.of_refs hq core.1
theorem A5{f:D->D->Option Bool}{A:Yy}(hu:A.units<cLine){xs ys:List D}{vs ws:List V}{aK gG:List Value}{b:Bool}{a a':Addr}(h1:DenL X.K F xs vs)(h2:DenL X.K F ys ws)(r1:Vals vs aK)(r2:Vals ws gG)
 (p1:s.heap.IsTuple a aK.toArray)(p2:s.heap.IsTuple a' gG.toArray)(e:tI f xs ys=some b)(hr:a=a'->b=true)
 (ih:∀x y v w u t c,Den X.K F x v->Den X.K F y w->RelV v u->RelV w t->f x y=some c->EqAt A.in1 s u t c):EqAll A s (.ref a) (.ref a') b:=by
 have l1:=h1.len;have l2:=h2.len;have l3:=r1.length;have l4:=r2.length;have hb:b=((Yg (min aK.toArray.size gG.toArray.size)).all (ev f xs ys)&&aK.toArray.size==gG.toArray.size):=by
  rw[vG e,XW,XW,<-l3,<-l4,<-l1,<-l2]
 have core:RcAt A s (.ref a) (.ref a') b/\RcNeAt A s (.ref a) (.ref a') (!b):=by
  rw[hb];exact⟨RcAt.tuples p1 p2 hu (qg h1 h2 r1 r2 e ih),RcNeAt.tuples p1 p2 hu (qg h1 h2 r1 r2 e ih)⟩
 refine⟨core.1,core.2,?_⟩;by_cases hq:a=a'
 ·rw[hr hq];subst hq;exact EqAt.same _
 ·exact EqAt.of_refs hq core.1
theorem vH(I:Inv X f8 σ H s)(hs:Same F H):∀(n:Nat) (A:Yy) (x y:D) (v w:V) (u t:Value) (b:Bool),A.units+n<cLine->Den X.K F x v->Den X.K F y w->RelV v u->RelV w t->kz n x y=some b->EqAll A s u t b
 |0,A,x,y,v,w,u,t,b,hu,hx,hy,rx,ry,e=>yh I hs (by omega) hx hy rx ry (by unfold kz at e;exact e)
 |n+1,A,x,y,v,w,u,t,b,hu,hx,hy,rx,ry,e=>by
  have QR:A.units<cLine:=by omega
  have Wz:A.in1.units+n<cLine:=by show A.units+1+n<cLine;omega
  have hrefl:=l5 (F:=F) I hs (n+1) x y;have ih:∀x y v w u t c,Den X.K F x v->Den X.K F y w->RelV v u->RelV w t->kz n x y=some c->EqAt A.in1 s u t c:=λx y v w u t c q1 q2 q3 q4 q5=>(vH I hs n A.in1 x y v w u t c Wz q1 q2 q3 q4 q5).eq;have e0:=e;unfold kz at e;split at e
  ·rename_i xs ys heq;cases heq;obtain⟨a,vs,aK,rfl,Ow,h2,h3,r1,p1⟩:=fS I hs hx rx;obtain⟨a',vs',its',rfl,Ox,k2,k3,PY,PM⟩:=fS I hs hy ry;exact A5 QR h3 k3 r1 PY p1 PM e (λz=>by subst z;exact hrefl v b hx (by rw[Ow,<-Ox];exact hy) e0) ih
  ·rename_i xs ys heq;cases heq;obtain⟨a,vs,aK,rfl,Ow,h2,h3,r1,p1⟩:=e_ I hs hx rx;obtain⟨a',vs',its',rfl,Ox,k2,k3,PY,PM⟩:=e_ I hs hy ry;exact uU QR h3 k3 r1 PY p1 PM e (λz=>by subst z;exact hrefl v b hx (by rw[Ow,<-Ox];exact hy) e0) ih
  ·rename_i xs ys heq;cases heq;obtain⟨a,aK,rfl,Ow,h2,r1,p1⟩:=NB I hs hx rx;obtain⟨a',vs',its',rfl,Ox,k2,k3,PY,PM⟩:=e_ I hs hy ry;exact uU QR (DenL.ints _) k3 r1 PY p1 PM e (λz=>by subst z;exact hrefl v b hx (by rw[Ow,<-Ox];exact hy) e0) ih
  ·exact yh I hs QR hx hy rx ry e
end
def ny(x y:D):M D:=match kz 6 x y with | some b=>ae (.bl b) | none=>ag
def ib(x y:D):M D:=match kz 6 x y with | some b=>ae (.bl (!b)) | none=>ag
def P1(K:XO):R2:=λx y H Q=>∃F dx dy b,Same F H/\Den K F dx x/\Den K F dy y/\kz 6 dx dy=some b/\Q (.bl b) H
def P8(K:XO):R2:=λx y H Q=>∃F dx dy b,Same F H/\Den K F dx x/\Den K F dy y/\kz 6 dx dy=some b/\Q (.bl (!b)) H
section
variable{X:Cx}{Xw:Nat->Hp->Prop}{a b:Expr}{δa δb:DE}{pos:Pos}
theorem Gz(hu:X.A.units+64<cLine):OpR X (YZ .Eq) (P1 X.K):=by
 intro f8 s σ H x y v u Q I rx ry h;obtain⟨F,dx,dy,b,hs,hx,hy,e,q⟩:=h;exact(vH I hs 6 X.A dx dy x y v u b (by omega) hx hy rx ry e).rc _ _ _ _ ⟨.bl b,H,I,rfl,q⟩
theorem GA(hu:X.A.units+64<cLine):OpR X (YZ .NotEq) (P8 X.K):=by
 intro f8 s σ H x y v u Q I rx ry h;obtain⟨F,dx,dy,b,hs,hx,hy,e,q⟩:=h;exact(vH I hs 6 X.A dx dy x y v u b (by omega) hx hy rx ry e).ne _ _ _ _ ⟨.bl (!b),H,I,rfl,q⟩
theorem GD{K:XO}:zM K (P1 K) ny:=λXw F H x y dx dy Q s hx hy w=>by
 unfold ny at w;split at w
 ·rename_i b e;exact⟨F,dx,dy,b,s,hx,hy,e,WP.now w s rfl⟩
 ·exact w.elim
theorem GF{K:XO}:zM K (P8 K) ib:=λXw F H x y dx dy Q s hx hy w=>by
 unfold ib at w;split at w
 ·rename_i b e;exact⟨F,dx,dy,b,s,hx,hy,e,WP.now w s rfl⟩
 ·exact w.elim
theorem u4(hu:X.A.units+64<cLine)(ha:PD X Xw a δa)(hb:PD X Xw b δb):qA X Xw (.Compare a [.Eq] [b] pos) (cf (d2 ny δa δb)):=kM (Gz hu) GD ha hb
theorem g7(hu:X.A.units+64<cLine)(ha:PD X Xw a δa)(hb:PD X Xw b δb):qA X Xw (.Compare a [.NotEq] [b] pos) (cf (d2 ib δa δb)):=kM (GA hu) GF ha hb
theorem yT(hu:X.A.units+64<cLine)(ha:PD X Xw a δa)(hb:PD X Xw b δb):PD X Xw (.Compare a [.Eq] [b] pos) (d2 ny δa δb):=AI (Gz hu) GD ha hb
theorem PQ(hu:X.A.units+64<cLine)(ha:PD X Xw a δa)(hb:PD X Xw b δb):PD X Xw (.Compare a [.NotEq] [b] pos) (d2 ib δa δb):=AI (GA hu) GF ha hb
end
def PDW(X:Cx)(Xw:Nat->Hp->Prop)(e:Expr)(δ:DT):Prop:=PW X e (Q0 X.K Xw δ)
theorem PW.weak{X:Cx}{e:Expr}{t t':TT}(h:PW X e t)(k:∀σ H Q,t' σ H Q->t σ H Q):PW X e t':=λwh f8 s σ H Q I w=>h wh f8 s σ H Q I (k σ H Q w)
section
variable{X:Cx}{Xw:Nat->Hp->Prop}{a b c:Expr}{W1:List Expr}{δa δb δc:DE}{τa τb:DT}{pos:Pos}
theorem GP(ha:qA X Xw a τa):PDW X Xw (.BoolOp .And [a] pos) τa:=JS ha
theorem g6(ha:qA X Xw a τa):PDW X Xw (.BoolOp .Or [a] pos) τa:=Nt ha
theorem Ce(ha:qA X Xw a τa)(hb:PDW X Xw (.BoolOp .And (b::W1) pos) τb):PDW X Xw (.BoolOp .And (a::b::W1) pos) (vE τa τb):=PW.weak (Nq ha hb) λσ H Q ⟨F,ρ,s,w⟩=>by
 refine⟨F,ρ,s,WPB.mono (WPB.bindB w) λv H1 ⟨F1,e1,w1⟩=>?_⟩;cases v with
 |true=>exact⟨F1,ρ,s.ext e1,w1⟩
 |false=>exact w1 _ _ (Ext.refl e1.fh)
theorem jY(ha:qA X Xw a τa)(hb:PDW X Xw (.BoolOp .Or (b::W1) pos) τb):PDW X Xw (.BoolOp .Or (a::b::W1) pos) (lS τa τb):=PW.weak (PX ha hb) λσ H Q ⟨F,ρ,s,w⟩=>by
 refine⟨F,ρ,s,WPB.mono (WPB.bindB w) λv H1 ⟨F1,e1,w1⟩=>?_⟩;cases v with
 |false=>exact⟨F1,ρ,s.ext e1,w1⟩
 |true=>exact w1 _ _ (Ext.refl e1.fh)
theorem PDW.t(h:PDW X Xw a τa):qA X Xw a τa:=PW.pt h
theorem dq(ha:qA X Xw a τa):qA X Xw (.UnaryOp .Not a pos) (cG τa):=PT.weak (Nm ha) λσ H Q ⟨F,ρ,s,w⟩=>
 ⟨F,ρ,s,WPB.mono (WPB.bindB w) λv H1 ⟨F1,e1,w1⟩=>w1 _ _ (Ext.refl e1.fh)⟩
def zy:D->M Bool
 | .non=>ae false
 | .bl b=>ae b
 | .lst ds=>ae (!ds.isEmpty)
 | .tup ds=>ae (!ds.isEmpty)
 |_=>ag
def bT(δ:DE):DT:=λρ=>δ ρ>>=zy
theorem DenL.isEmpty{K:XO}{F:Hp}{ds:List D}{vs:List V}(h:DenL K F ds vs):ds.isEmpty=vs.isEmpty:=by
 have:=h.len;cases ds<;>cases vs<;>simp_all
theorem cC(ha:PD X Xw a δa)(he:∀whole,isTrue a X.env whole=(do let v<-whole;standAt a.pos;holding [v] (truthy v)):=by intro _;rfl):qA X Xw a (bT δa):=PT.weak (G5 ha he) λσ H Q ⟨F,ρ,s,w⟩=>by
 refine⟨F,ρ,s,WP.mono (WPB.bind (K:=X.K) w) λv H1 ⟨F1,d,e1,q1,w1⟩=>?_⟩;cases d with
 |non=>cases (show _=_ from q1);exact⟨false,rfl,w1 _ _ (Ext.refl e1.fh)⟩
 |bl b=>cases (show _=_ from q1);exact⟨b,rfl,w1 _ _ (Ext.refl e1.fh)⟩
 |lst ds=>
  obtain⟨a,vs,rfl,h2,h3,_⟩:=q1;exact⟨!ds.isEmpty, .inl ⟨vs,SqL.of (e1.fh _ _ h2),by rw[h3.isEmpty]⟩,w1 _ _ (Ext.refl e1.fh)⟩
 |tup ds=>
  obtain⟨a,vs,rfl,h2,h3,_⟩:=q1;exact⟨!ds.isEmpty, .inr (.inl ⟨vs,SqT.of (e1.fh _ _ h2),by rw[h3.isEmpty]⟩),w1 _ _ (Ext.refl e1.fh)⟩
 |_=>exact w1.elim
theorem wN{op}(h:PD X Xw a δa):PD X Xw (.BoolOp op [a] pos) δa:=M_ h
theorem sC(ha:PD X Xw a δa)(hb:PD X Xw (.BoolOp .And (b::W1) pos) δb):PD X Xw (.BoolOp .And (a::b::W1) pos) (eE δa δb):=PE.weak (M3 ha hb) λσ H Q ⟨F,ρ,s,w⟩=>by
 refine⟨F,ρ,s,WP.mono (WP.bind w) λv H1 ⟨F1,d,e1,q1,w1⟩=>?_⟩;cases d with
 |bl k=>
  refine⟨k,q1,?_⟩;cases k with
  |true=>exact⟨F1,ρ,s.ext e1,w1⟩
  |false=>exact WP.now w1 e1.fh rfl
 |_=>exact w1.elim
theorem M0(ha:PD X Xw a δa):PD X Xw (.UnaryOp .Not a pos) (Kk δa):=PE.weak (M9 ha) λσ H Q ⟨F,ρ,s,w⟩=>by
 refine⟨F,ρ,s,WP.mono (WP.bind w) λv H1 ⟨F1,d,e1,q1,w1⟩=>?_⟩;cases d with
 |bl k=>exact⟨k,q1,WP.now w1 e1.fh rfl⟩
 |_=>exact w1.elim
theorem PO(hc:qA X Xw c τa)(ha:PD X Xw a δa)(hb:PD X Xw b δb):PD X Xw (.IfExp c a b pos) (Qz τa δa δb):=PE.weak (GX hc ha hb) λσ H Q ⟨F,ρ,s,w⟩=>by
 refine⟨F,ρ,s,WPB.mono (WP.bindB w) λv H1 ⟨F1,e1,w1⟩=>?_⟩;cases v with
 |true=>exact⟨F1,ρ,s.ext e1,w1⟩
 |false=>exact⟨F1,ρ,s.ext e1,w1⟩
def vC(p q:Int->Int->Bool)(a b c:DE):DE:=λρ=>a ρ>>=λx=>b ρ>>=λy=>match x,y with
 | .int i, .int j=>if p i j then c ρ>>=λz=>gI (λi j=> .bl (q i j)) y z else ae (.bl false)
 |_,_=>ag
theorem vh{p q:Int->Int->Bool}:∀σ H Q,tD X.K Xw (vC p q δa δb δc) σ H Q->A4 (DZ λi j=> .bl (p i j)) (DZ λi j=> .bl (q i j)) (tD X.K Xw δa) (tD X.K Xw δb) (tD X.K Xw δc) σ H Q:=λσ H Q ⟨F,ρ,s,w⟩=>by
 refine⟨F,ρ,s,WP.mono (WP.bind w) λv H1 ⟨F1,d,e1,q1,w1⟩=>?_⟩;refine⟨F1,ρ,s.ext e1,WP.mono (WP.bind w1) λu H2 ⟨F2,d',e2,q2,w2⟩=>?_⟩;cases d with
 |int i=>
  cases d' with
  |int j=>
   refine⟨i,j,q1,q2,p i j,rfl,?_⟩;have w2:WP X.K Xw F2 H2 (if p i j then δc ρ>>=λz=>gI (λi j=> .bl (q i j)) (.int j) z else ae (.bl false)) Q:=w2;cases hp:p i j with
   |false=>
    rw[hp] at w2;exact WP.now w2 e2.fh rfl
   |true=>
    rw[hp] at w2;refine⟨F2,ρ,(s.ext e1).ext e2,WP.mono (WP.bind w2) λu' H3 ⟨F3,UW,e3,q3,w3⟩=>?_⟩;exact GC (K:=X.K) (gv:=λi j=> .bl (q i j)) (gd:=λi j=> .bl (q i j)) (λ_ _ _=>rfl) Xw F3 H3 u u' (.int j) UW Q e3.fh q2 q3 w3
  |_=>exact w2.elim
 |_=>exact w2.elim
theorem wK{op AB:CmpOp}{p q:Int->Int->Bool}(ho:OpR X (YZ op) (DZ λi j=> .bl (p i j)))(me:OpR X (YZ AB) (DZ λi j=> .bl (q i j)))(ha:PD X Xw a δa)(hb:PD X Xw b δb)(hc:PD X Xw c δc)
 (hm:lastMarks [op,AB] [b,c]=false:=by with_unfolding_all rfl):PD X Xw (.Compare a [op,AB] [b,c] pos) (vC p q δa δb δc):=PE.weak (GS ho me ha hb hc hm) vh
theorem G3{op AB:CmpOp}{p q:Int->Int->Bool}(ho:OpR X (YZ op) (DZ λi j=> .bl (p i j)))(me:OpR X (YZ AB) (DZ λi j=> .bl (q i j)))(ha:PD X Xw a δa)(hb:PD X Xw b δb)(hc:PD X Xw c δc)
 (hm:lastMarks [op,AB] [b,c]=false:=by with_unfolding_all rfl):qA X Xw (.Compare a [op,AB] [b,c] pos) (cf (vC p q δa δb δc)):=PT.weak (G4 ho me ha hb hc hm) λσ H Q ⟨F,ρ,s,w⟩=>by
 refine vh σ H _ ⟨F,ρ,s,WP.mono (WPB.bind w) λv H1 ⟨F1,d,e1,q1,w1⟩=>?_⟩;cases d with
 |bl k=>exact⟨k,q1,w1 _ _ (Ext.refl e1.fh)⟩
 |_=>exact w1.elim
def xM(K:XO)(r:List V->Hp->VK->Prop)(g:List D->M D):Prop:=∀(Xw:Nat->Hp->Prop) (F H:Hp) (vs:List V) (ds:List D) (Q:VK),Same F H->DenL K F ds vs->WP K Xw F H (g ds) Q->r vs H Q
variable{x:Str}{p:Pos}{e:Expr}{es:List Expr}{δs:DA}{id T:String}{r:List V->Hp->VK->Prop}{g:List D->M D}
theorem HB(h:xM X.K r g):∀σ H Q,tD X.K Xw (dA g δs) σ H Q->SY r (UK X.K Xw δs) σ H Q:=λσ H Q ⟨F,ρ,s,w⟩=>
 ⟨F,ρ,s,WPL.mono (WP.bindL w) λvs H1 ⟨F1,ds,e1,q1,w1⟩=>h Xw F1 H1 vs ds Q e1.fh q1 w1⟩
theorem fK(hc:CallR X (.builtin id) r)(hd:xM X.K r g)(hg:Gl X x)(hm:X.mg x=none)(hv:YJ x=some (.builtin id))(ha:gQ X Xw (e::es) δs)(hn:x≠"__name__":=by decide)(md:(x==("__debug__":Str))=false:=by decide)
 (he:X2 (e::es) X.env=(false,eval e X.env)::X2 es X.env:=by rfl)(kX:(ZI pos (X2 es X.env)).any (·.1)=false:=by rfl):PD X Xw (.Call (.Name x p) (e::es) [] pos) (dA g δs):=
 PE.weak (GR hc hg hm hv ha hn md he kX) (HB hd)
theorem DM(hc:CallR X (.type T) r)(hd:xM X.K r g)(hg:Gl X x)(hm:X.mg x=none)(hv:YJ x=some (.type T))(ha:gQ X Xw (e::es) δs)(hn:x≠"__name__":=by decide)(md:(x==("__debug__":Str))=false:=by decide)
 (he:X2 (e::es) X.env=(false,eval e X.env)::X2 es X.env:=by rfl)(kX:(ZI pos (X2 es X.env)).any (·.1)=false:=by rfl):PD X Xw (.Call (.Name x p) (e::es) [] pos) (dA g δs):=
 PE.weak (DO hc hg hm hv ha hn md he kX) (HB hd)
def bF:List D->M D
 |[.lst ds]=>ae (.int ds.length)
 |[.tup ds]=>ae (.int ds.length)
 |[.str x]=>ae (.int x.length)
 |[.scr ns]=>ae (.int ns.length)
 |_=>ag
theorem Dq:xM X.K (λxs H Q=>(∃p ys,xs=[.ref p]/\(SqL X.K H p ys\/SqT X.K H p ys)/\Q (.int ys.length) H)\/∃z,xs=[.str z]/\z.length<=X6/\Q (.int z.length) H) bF:=λXw F H vs ds Q s h w=>by
 unfold bF at w;split at w
 ·obtain⟨v,rfl,h1⟩:=h.one;obtain⟨a,vs,rfl,h2,h3,_⟩:=h1;exact .inl ⟨a,vs,rfl, .inl (SqL.of (s _ _ h2)),by rw[<-h3.len];exact WP.now w s rfl⟩
 ·obtain⟨v,rfl,h1⟩:=h.one;obtain⟨a,vs,rfl,h2,h3,_⟩:=h1;exact .inl ⟨a,vs,rfl, .inr (SqT.of (s _ _ h2)),by rw[<-h3.len];exact WP.now w s rfl⟩
 ·obtain⟨v,rfl,h1⟩:=h.one;cases (show _=_ from h1.1);exact .inr ⟨_,rfl,by have:=h1.2;have:=dS;omega,WP.now w s rfl⟩
 ·obtain⟨v,rfl,h1⟩:=h.one;obtain⟨a,rfl,h2,_⟩:=h1;exact .inl ⟨a,_,rfl, .inl (Same.seq s h2),by rw[XB];exact WP.now w s rfl⟩
 ·exact w.elim
theorem b7(hg:Gl X "len")(hm:X.mg "len"=none)(ha:gQ X Xw [e] δs)(he:X2 [e] X.env=[(false,eval e X.env)]:=by rfl):PD X Xw (.Call (.Name "len" p) [e] [] pos) (dA bF δs):=
 fK (vA.or vB) Dq hg hm PySem.boot_len ha (by decide) (by decide) he rfl
def Et:List D->M D
 |[.int i]=>ae (.int (if i<0 then -i else i))
 |_=>ag
def Ar:List D->M D
 |[.int i, .int j]=>ae (.int (if j>i then j else i))
 |_=>ag
def tV:List D->M D
 |[.int i, .int j]=>ae (.int (if j<i then j else i))
 |_=>ag
theorem GI(hg:Gl X "abs")(hm:X.mg "abs"=none)(ha:gQ X Xw [e] δs)(hb:YJ "abs"=some (.builtin "abs"))(he:X2 [e] X.env=[(false,eval e X.env)]:=by rfl):PD X Xw (.Call (.Name "abs" p) [e] [] pos) (dA Et δs):=
 fK EK (λXw F H vs ds Q s h w=>by
  unfold Et at w;split at w
  ·obtain⟨v,rfl,h1⟩:=h.one;cases (show _=_ from h1);exact⟨_,rfl,WP.now w s rfl⟩
  ·exact w.elim) hg hm hb ha (by decide) (by decide) he rfl
end
theorem WP.xw{K:XO}{Xw Xw':Nat->Hp->Prop}{F H:Hp}{m:M D}{Q:VK}(h:WP K Xw F H m Q)(k:∀n H,Xw n H->Xw' n H):WP K Xw' F H m Q:=by
 match m,h with
 |none,h=>exact h
 |some (.ok d),h=>exact h
 |some (.ex n),h=>exact λF' H' e=>k n H' (h F' H' e)
theorem cE{X:Cx}{Xw:Nat->Hp->Prop}{st:Stmt}{τ:DS}(h:iO X.nox (λ_ _=>False) st τ):iO X Xw st (λρ=>noex (τ ρ)):=λu8 aeq f8 s σ H D I ⟨F,ρ,S,w⟩=>by
 have w:WPS X.K Xw u8 aeq (noex (τ ρ)) D:=w;have w':tS X.K (λ_ _=>False) u8 aeq τ D σ H:=by
  refine⟨F,ρ,S,?_⟩;rcases(τ ρ).cs with e | ⟨n,e⟩ | ⟨o,e⟩
  ·rw[e] at w;exact w.elim
  ·rw[e] at w;exact w.elim
  ·rw[e] at w⊢;cases o with
   |nx ρ'=>exact w
   |rt d=>exact w
 refine YV (h u8 aeq f8 s σ H D (I.wish _) w') (λf s' q=>SP.unwish q) λ_ _ z=>z.elim
def EX(cv:Nat->Value)(Xw:Nat->Hp->Prop):XK:=λc _ H=>∃n,c=cv n/\Xw n H
def HZ(K:XO)(cv:Nat->Value)(k:Nat)(f:List D->M D):Sp:=λvs H Q E=>∃F ds,Same F H/\DenL K F ds vs/\vs.length=k/\WP K (λn H'=>E (cv n) none H') F H (f ds) Q
def bM(n:Nat)(τ:DS):List D->M D:=λds=>τ (ds.map (λd=>some (Sl.fz d))++XT (n - ds.length) none)>>=λo=>match o with
 | .nx _=>ae .non
 | .rt d=>ae d
section
variable{P:Yd}{w:World}{K:XO}{mg:Str->Option Value}{base:Heap}{CX:Bc}{cv:Nat->Value}
theorem Oz{x qual:Str}{st:Stmt}{f:Addr}{fd:ZP}{N ps:List Str}{k:Nat}{τ:DS}(Fn:Fun K x qual st f fd)(S:FnScope N ps (ai st))
 (ir:∀(bY:Value) (A:Yy) (outer:List Env) (s:XD) (H:Hp) (E:XK),Room k (A.deeper (Zz qual (ai st) s.heap.objs.size f bY))->
  PSDs (aY CX P w K mg base N qual (ai st) f bY A outer s H E) (λn H'=>E (cv n) none H') (bg st) τ):FnOk P w K mg base CX (k+1) f fd ps (HZ K cv ps.length (bM N.length τ)):=by
 obtain⟨oc,od,kV,doc,pm,an,bY,ct,Em,rfl,lk,rm⟩:=Fn.ex;refine Kr lk rm S (λvs H Q E ⟨_,_,_,_,hl,_⟩=>hl) λA outer s H vs Q E hr xI=>?_;obtain⟨F,ds,fh,hd,hl,hw⟩:=xI;refine⟨_,ir bY A outer s H E hr F H,F,ds.map (λd=>some (Sl.fz d))++XT (N.length - ds.length) none,⟨Ext.refl fh,⟨fh,λi sl e=>?_⟩,?_,λi c a e=>?_,λi j c c' a e=>?_⟩,?_⟩
 ·have hlen:=hd.len;by_cases hi:i<ds.length
  ·rw[Ym (by simpa using hi),XX] at e;cases q:ds[i]? with
   |none=>rw[q] at e;cases e
   |some d=>
    rw[q] at e;cases e;obtain⟨v,e1,e2⟩:=hd.get q;refine⟨v,?_,e2⟩;unfold L2.start;rw[Ym (by simp;omega),XX,e1];rfl
  ·rw[YD (by simpa using hi),Y8] at e;split at e<;>cases e
 ·have hlen:=hd.len;unfold L2.start;simp[hlen]
 ·exfalso
  by_cases hi:i<ds.length
  ·rw[Ym (by simpa using hi),XX] at e;cases q:ds[i]? with
   |none=>rw[q] at e;cases e
   |some d=>rw[q] at e;cases e
  ·rw[YD (by simpa using hi),Y8] at e;split at e<;>cases e
 ·exfalso
  by_cases hi:i<ds.length
  ·rw[Ym (by simpa using hi),XX] at e;cases q:ds[i]? with
   |none=>rw[q] at e;cases e
   |some d=>rw[q] at e;cases e
  ·rw[YD (by simpa using hi),Y8] at e;split at e<;>cases e
 ·have hw:WP K (λn H'=>E (cv n) none H') F H (τ (ds.map (λd=>some (Sl.fz d))++XT (N.length - ds.length) none)>>=λo=>match o with | .nx _=>ae .non | .rt d=>ae d) Q:=hw;rcases(τ (ds.map (λd=>some (Sl.fz d))++XT (N.length - ds.length) none)).cs with e | ⟨n,e⟩ | ⟨o,e⟩
  ·rw[e] at hw;exact hw.elim
  ·rw[e] at hw⊢;exact hw
  ·rw[e] at hw⊢;cases o with
   |nx ρ'=>exact λσ' F' H' s'=>hw .non H' F' s'.ext rfl
   |rt d=>exact λv F' H' e' q=>hw v H' F' e' q
end
section
variable{X:Cx}{Xw:Nat->Hp->Prop}{CX:Bc}{cv:Nat->Value}{k m:Nat}{f:Addr}{fd:ZP}{ps:List Str}{g:List D->M D}{x:Str}{p pos:Pos}{e:Expr}{es:List Expr}{δs:DA}
theorem Jt(F:FnOk X.prog X.w X.K X.mg X.base CX k f fd ps (HZ X.K cv m g))(hr:Room k X.A)(hg:Gl X x)(hm:X.mg x=some (.ref f))(hk:Zl X.K (.ref f)=true)(hb:Binds X.K fd ps [])(hx:Passes CX X (EX cv Xw))
 (ha:gQ X Xw (e::es) δs)(hl:(e::es).length=m)(md:(x==("__debug__":Str))=false:=by decide)(he:X2 (e::es) X.env=(false,eval e X.env)::X2 es X.env:=by rfl)(kX:(ZI pos (X2 es X.env)).any (·.1)=false:=by rfl):
 PD X Xw (.Call (.Name x p) (e::es) [] pos) (λρ=>δs ρ>>=λds=>if ds.length=m then g ds else ag):=PE.weak (JC F hr hg hm hk hb .nil hx ha md he kX) λσ H Q ⟨F,ρ,s,w⟩=>by
 refine⟨F,ρ,s,WPL.mono (WP.bindL w) λvs H1 ⟨F1,ds,e1,q1,w1⟩=>?_⟩;split at w1
 ·rename_i C_;refine⟨F1,ds,e1.fh,by simpa using q1,by rw[YF,<-q1.len];exact C_,WP.xw w1 λn H h=>⟨n,rfl,h⟩⟩
 ·exact w1.elim
theorem wM{x:Str}{d:D}{v:V}{u:Value}(hg:Gl X x)(hm:X.mg x=some u)(r:RelV v u)(hd:∀F,Den X.K F d v)(md:(x==("__debug__":Str))=false:=by decide):PD X Xw (.Name x pos) (dC d):=
 iG (JG hg hm r md) hd
end
theorem obj_some{P:Yd}{w:World}{H:Hp}{h:Heap}{a:Addr}{o:HO}(x:ObjOk P w H h a o):∃ob,h.get? a=some ob:=by
 cases o with
 |lst xs=>obtain⟨_,_,_,_,e⟩:=x;exact⟨_,e⟩
 |tup xs=>obtain⟨_,_,_,ob,e,_⟩:=x;exact⟨_,e⟩
 |dK aA=>obtain⟨_,_,_,_,o,_,_,e,_⟩:=x;exact⟨_,e⟩
 |dT aA=>obtain⟨_,_,_,_,o,_,_,e,_⟩:=x;exact⟨_,e⟩
 |set S n=>obtain⟨o,_,_,_,e,_⟩:=x;exact⟨_,e⟩
 |ins C dx fs=>obtain⟨_,_,_,e,_⟩:=x;exact⟨_,e⟩
 |own y=>obtain⟨_,e⟩:=x;exact⟨_,e⟩
 |xd fs=>obtain⟨_,⟨_,_,_,e,_⟩,_⟩:=x;exact⟨_,e⟩
 |rng lo hi=>obtain⟨_,_,_,e⟩:=x;exact⟨_,e⟩
 |frz ob u=>obtain⟨e,_⟩:=x;exact⟨_,e⟩
 |tbl ps=>exact⟨_,(show h.get? a=some _ from x)⟩
 |met f y=>exact⟨_,(show h.get? a=some _ from x)⟩
 |ext φ=>obtain⟨_,⟨_,e⟩,_⟩:=x;exact⟨_,e⟩
def cQ(P:Yd)(w:World)(cv:Nat->Value):Bc:=λouter H s E e s'=>∃(ea:Addr) (n:Nat) (a0:Value) (B:Heap) (H':Hp),e= .ref ea/\s'.os=s.os/\abZ s'.gens/\HOk P w H' s'.heap/\Un (h7 outer) [] H H' s.heap s'.heap/\
 Heap.FlyingW B outer ea (cv n) a0 s'.heap/\(∀b o,s'.heap.get? b=some o->(H' b≠none\/(s.heap.get? b).isSome=true)->b∉h7 outer->B.get? b=some o)/\E (cv n) none H'
section
variable{P:Yd}{w:World}{fs:List Addr}{aeq H:Hp}{h₀ h h':Heap}
theorem xx(u:Un fs [] aeq H h₀ h)(ka:∀b o,h.get? b=some o->b∉fs->(H b≠none\/(h₀.get? b).isSome=true)->h'.get? b=some o)(kb:∀b o,h.get? b=some o->b∈fs->∃sl,h'.get? b=some {o with slots:=sl}):Un fs [] aeq H h₀ h' where
 keep:=λb o e n hb hx=>ka b o (u.keep b o e n hb hx) hb (.inr (by rw[e];rfl))
 slot:=λb o e n hb hx=>by
  obtain⟨sl,q⟩:=u.slot b o e n hb hx;obtain⟨J1,q'⟩:=kb b _ q hb;exact⟨J1,q'⟩
 free:=u.free
 there:=λb o e hx=>by
  obtain⟨o',q⟩:=u.there b o e hx;by_cases hb:b∈fs
  ·obtain⟨sl,q'⟩:=kb b _ q hb;exact⟨_,q'⟩
  ·exact⟨o',ka b o' q hb (.inr (by rw[e];rfl))⟩
 tups:=u.tups
 frzs:=u.frzs
 tbls:=u.tbls
theorem rq(x:HOk P w H h)(hf:∀b∈fs,H b=none)(ka:∀b o,h.get? b=some o->b∉fs->H b≠none->h'.get? b=some o):HOk P w H h':=λa o e=>by
 refine(x a o e).stay (λb u hb q=>ka b u q (λz=>?_) ?_) (λ_ q=>q) λ_ _ q=>q
 ·have hz:=hf b z;rcases hb with rfl | hb
  ·rw[hz] at e;cases e
  ·rw[hz] at hb;cases hb
 ·rcases hb with rfl | hb
  ·rw[e];exact λz=>nomatch z
  ·rw[hb];exact λz=>nomatch z
end
section
variable{P:Yd}{w:World}{K:XO}{mg:Str->Option Value}{base:Heap}{N:List Str}{qual:Str}{scope:Scope}{f:Addr}{cd:Value}{A:Yy}{outer:List Env}{aer:XD}{aeq:Hp}{E:XK}{cv:Nat->Value}
theorem bC:Passes (cQ P w cv) (aY (cQ P w cv) P w K mg base N qual scope f cd A outer aer aeq E) (EX cv λn H'=>E (cv n) none H'):=by
 intro f8 σ H s e s' I ⟨ea,n,a0,B,H',he,O5,hg,hok,un,CW,hB,m,hm,hE⟩;subst he;have Ah:((aY (cQ P w cv) P w K mg base N qual scope f cd A outer aer aeq E)).env.locals=aer.heap.objs.size:=rfl;have vP:h7 ((aY (cQ P w cv) P w K mg base N qual scope f cd A outer aer aeq E)).stack=aer.heap.objs.size::h7 outer:=rfl;show wpAny (model P w) (A.deeper (Zz qual scope aer.heap.objs.size f cd)) (leaving (Zz qual scope aer.heap.objs.size f cd) (.ref ea)) _ _ s';refine wpAny_leaves_onW (base:=B) (outer:=outer) (L:=aer.heap.objs.size) I.ok.frames rfl CW λh' LN ups=>?_;have Ej:∀b∈h7 ((aY (cQ P w cv) P w K mg base N qual scope f cd A outer aer aeq E)).stack,H' b=none:=λb hb=>by
  obtain⟨o,ho⟩:∃o,s.heap.get? b=some o:=by
   obtain⟨_,o,ho,_⟩:=I.stack.mem hb;exact⟨o,ho⟩
  exact un.free b o ho (I.stkFree b hb) (by simp)
 have mn:∀b o,s'.heap.get? b=some o->b∉h7 ((aY (cQ P w cv) P w K mg base N qual scope f cd A outer aer aeq E)).stack->(H' b≠none\/(s.heap.get? b).isSome=true)->h'.get? b=some o:=λb o e hb hc=>LN.1 b o (hB b o e hc hb);have unA:Un (h7 outer) [] aeq H' aer.heap s'.heap:=by
  have u1:Un (h7 outer) [] aeq H aer.heap s.heap:=I.base;refine⟨λb o e nn hb hx=>?_,λb o e nn hb hx=>?_,λb o e nn hx=>?_,λb o e hx=>?_,λb xs q=>un.tups b xs (u1.tups b xs q),λb o u q=>un.frzs b o u (u1.frzs b o u q),λb ps q=>?_⟩
  ·refine un.keep b o (u1.keep b o e nn hb hx) (u1.free b o e nn hx) (λz=>?_) (by simp);rw[vP] at z;rcases XF.mp z with z | z
   ·exact aej (XY e) (by rw[z];exact YH _)
   ·exact hb z
  ·obtain⟨sl,q⟩:=u1.slot b o e nn hb hx;obtain⟨J1,q'⟩:=un.slot b _ q (u1.free b o e nn hx) (by rw[vP];exact Xz _ hb) (by simp);exact⟨J1,q'⟩
  ·obtain⟨o',q⟩:=u1.there b o e hx;exact un.free b o' q (u1.free b o e nn hx) (by simp)
  ·obtain⟨o',q⟩:=u1.there b o e hx;exact un.there b o' q (by simp)
  ·obtain⟨m1,q1⟩:=u1.tbls b ps q;obtain⟨m2,q2⟩:=un.tbls b _ q1;exact⟨m1++m2,by rw[q2,abY]⟩
 have Up:∀b,(aer.heap.get? b).isSome=true->(s.heap.get? b).isSome=true:=λb hb=>by
  obtain⟨o,ho⟩:=YN.mp hb;obtain⟨o',q⟩:=(show Un (h7 outer) [] aeq H aer.heap s.heap from I.base).there b o ho (by simp);rw[q];rfl
 have Dy:∀b,(aer.heap.get? b).isSome=true->b≠aer.heap.objs.size:=λb hb z=>by
  obtain⟨o,ho⟩:=YN.mp hb;exact aej (XY ho) (by rw[z];exact YH _)
 have Gq:∀b,b∉h7 outer->(H' b≠none\/(aer.heap.get? b).isSome=true)->b∉h7 ((aY (cQ P w cv) P w K mg base N qual scope f cd A outer aer aeq E)).stack:=λb hb hc z=>by
  rcases hc with hc | hc
  ·exact hc (Ej b z)
  ·rw[vP] at z;rcases XF.mp z with z | z
   ·exact Dy b hc z
   ·exact hb z
 refine⟨ea,n,a0,B,H',rfl,O5.trans I.os,hg,rq hok Ej (λb o e hb hc=>mn b o e hb (.inl hc)),xx unA (λb o e hb hc=>mn b o e (Gq b hb hc) (hc.imp id (Up b))) (λb o e hb=>?_),LN,λb o e hc hb=>?_,?_⟩
 ·obtain⟨_,o',me,hd⟩:=CW.2.2.1.mem (show b∈h7 ((aY (cQ P w cv) P w K mg base N qual scope f cd A outer aer aeq E)).stack by rw[vP];exact Xz _ hb);rw[e] at me;cases me;exact ups b o e hd
 ·have Af:=Gq b hb hc;obtain⟨o',me⟩:∃o',s'.heap.get? b=some o':=by
   rcases hc with hc | hc
   ·cases q:H' b with
    |none=>exact aej q hc
    |some u=>
     exact obj_some (hok b u q)
   ·obtain⟨o1,h1⟩:=YN.mp hc;exact unA.there b o1 h1 (by simp)
  have:=hB b o' me (hc.imp id (Up b)) Af;rw[LN.1 b o' this] at e;cases e;exact this
 ·rw[hm];exact hE
def Ke(X:Cx)(cv:Nat->Value)(Xw:Nat->Hp->Prop):Prop:=∀(n:Nat) (f8:List (Addr×Obj)) (σ:St) (H:Hp) (s:XD) (h':Heap) (ea:Addr) (args:List Value),Inv X f8 σ H s->Heap.MadeExcOf s.heap h' ea (cv n) args->Xw n H->X.xe (.ref ea) {s with heap:=h'}
theorem BY:Ke (aY (cQ P w cv) P w K mg base N qual scope f cd A outer aer aeq E) cv (λn H'=>E (cv n) none H'):=by
 intro n f8 σ H s hh ea args I hx hE;have vP:h7 ((aY (cQ P w cv) P w K mg base N qual scope f cd A outer aer aeq E)).stack=aer.heap.objs.size::h7 outer:=rfl;have jG:∀env∈((aY (cQ P w cv) P w K mg base N qual scope f cd A outer aer aeq E)).stack,∀b,env.frame=some b->b∈h7 ((aY (cQ P w cv) P w K mg base N qual scope f cd A outer aer aeq E)).stack:=λenv he b hb=>aas.mpr ⟨env,he,hb⟩;have stays:(aaN s.heap (h7 ((aY (cQ P w cv) P w K mg base N qual scope f cd A outer aer aeq E)).stack)).StaysIn s.heap:=λb o q=>adt _ q;show wpAny (model P w) (A.deeper (Zz qual scope aer.heap.objs.size f cd)) (leaving (Zz qual scope aer.heap.objs.size f cd) (.ref ea)) _ _ _;refine wpAny_leaves_madeW (base:=aaN s.heap (h7 ((aY (cQ P w cv) P w K mg base N qual scope f cd A outer aer aeq E)).stack)) (h:=s.heap) (outer:=outer) (L:=aer.heap.objs.size) I.ok.frames rfl stays (PySem.W.funFrames_hide I.stack jG) hx λh' t CW _ _ ups=>?_;have hB:∀b o,s.heap.get? b=some o->b∉h7 ((aY (cQ P w cv) P w K mg base N qual scope f cd A outer aer aeq E)).stack->(aaN s.heap (h7 ((aY (cQ P w cv) P w K mg base N qual scope f cd A outer aer aeq E)).stack)).get? b=some o:=λb o e hb=>adk _ e hb;have mn:∀b o,s.heap.get? b=some o->b∉h7 ((aY (cQ P w cv) P w K mg base N qual scope f cd A outer aer aeq E)).stack->h'.get? b=some o:=λb o e hb=>CW.1 b o (hB b o e hb);have u1:Un (h7 outer) [] aeq H aer.heap s.heap:=I.base;have Dy:∀b,(aer.heap.get? b).isSome=true->b≠aer.heap.objs.size:=λb hb z=>by
  obtain⟨o,ho⟩:=YN.mp hb;exact aej (XY ho) (by rw[z];exact YH _)
 have Gq:∀b,b∉h7 outer->(H b≠none\/(aer.heap.get? b).isSome=true)->b∉h7 ((aY (cQ P w cv) P w K mg base N qual scope f cd A outer aer aeq E)).stack:=λb hb hc z=>by
  rcases hc with hc | hc
  ·exact hc (I.stkFree b z)
  ·rw[vP] at z;rcases XF.mp z with z | z
   ·exact Dy b hc z
   ·exact hb z
 refine⟨ea,n, .ref t,aaN s.heap (h7 ((aY (cQ P w cv) P w K mg base N qual scope f cd A outer aer aeq E)).stack),H,rfl,I.os,I.bare,rq I.hok I.stkFree (λb o e hb hc=>mn b o e hb),xx u1 (λb o e hb hc=>mn b o e (Gq b hb hc)) (λb o e hb=>?_),CW,λb o e hc hb=>?_,hE⟩
 ·obtain⟨_,o',me,hd⟩:=I.stack.mem (show b∈h7 ((aY (cQ P w cv) P w K mg base N qual scope f cd A outer aer aeq E)).stack by rw[vP];exact Xz _ hb);rw[e] at me;cases me;exact ups b o (hx.keeps b o e) hd
 ·obtain⟨o',me⟩:∃o',s.heap.get? b=some o':=by
   rcases hc with hc | hc
   ·cases q:H b with
    |none=>exact aej q hc
    |some u=>exact obj_some (I.hok b u q)
   ·obtain⟨o1,h1⟩:=YN.mp hc;exact u1.there b o1 h1 (by simp)
  have Af:=Gq b hb hc;rw[mn b o' me Af] at e;cases e;exact hB b o me Af
end
section
variable{X:Cx}{Xw:Nat->Hp->Prop}{cv:Nat->Value}{n:Nat}{C:Addr}{x:Str}{np aV pos:Pos}{e:Expr}{es:List Expr}{δs:DA}{bm:List Value}{B newId Mq:String}
theorem kL(O:OwnCls x C bm newId X.mg X.base)(FB:ExcBaseFacts B newId Mq bm)(hg:Gl X x)(hc:X.calm=true)(ON:cv n= .ref C)(hx:Ke X cv Xw)(ha:gQ X Xw (e::es) δs)(md:(x==("__debug__":Str))=false:=by decide)
 (he:X2 (e::es) X.env=(false,eval e X.env)::X2 es X.env:=by rfl)(kX:(ZI aV (X2 es X.env)).any (·.1)=false:=by rfl):
 iO X Xw (.Raise (some (.Call (.Name x np) (e::es) [] aV)) none pos) (λρ=>δs ρ>>=λds=>if ds.length<=lim then a7 n else ag):=λu8 aeq f8 s σ H D I ⟨F,ρ,S,w⟩=>by
 obtain⟨tl,Nn,nm,q,bs,hdct,sn,sub,ab,col,dd,k0,k1,k2,k3,k5,mN,hC,hN,V6,T⟩:=O.obj;refine wpAny_Raise_call_subT (C:=C) (nm:=nm) (q:=q) (N:=Nn) (bs:=bs) (bm:=tl) (hdct:=hdct) (sn:=sn) (sub:=sub) (ab:=ab) (col:=col) (dd:=dd) (k0:=k0) (k1:=k1) (k2:=k2) (k3:=k3) (k5:=k5)
  FB (mN:=mN) (T.hasType FB.hasBase) (I.ok.hd hc) (by rw[he];show (false||(ZI aV (X2 es X.env)).any (·.1))=false;rw[kX];rfl) V6 (mr I hg O.bound ⟨rfl,?_⟩ md)
 have w:WPS X.K Xw u8 aeq (δs ρ>>=λds=>if ds.length<=lim then a7 n else ag) D:=w;have hA:=ha aV f8 s σ H (λvs H1=>vs.length<=lim/\Xw n H1) I ⟨F,ρ,S.st,by
  rcases(δs ρ).cs with q | ⟨m,q⟩ | ⟨ds,q⟩
  ·rw[q] at w;exact w.elim
  ·rw[q] at w⊢;exact λF' H' e'=>w F' H' (S.ext.trans e')
  ·rw[q] at w⊢;intro vs H' F' e' hd;have w:WPS X.K Xw u8 aeq (if ds.length<=lim then a7 n else ag) D:=w;split at w
   ·rename_i hl;exact⟨by rw[<-hd.len];exact hl,w F' H' (S.ext.trans e')⟩
   ·exact w.elim⟩
 rw[he] at hA⊢;refine ZH (b_ hA λus v6 ⟨vs,H1,I1,r,hl,hX⟩=>⟨rfl,by rw[<-r.length];have:=dS;omega,I1.bk _ _ hC,hN.keeps I1.bk,T.keeps I1.bk,λh' ea hm=>hx n f8 σ H1 v6 h' ea us I1 (by rw[ON];exact hm) hX⟩)
end
def KN:D->Option String
 | .non=>some "NoneType"
 | .bl _=>some "bool"
 | .int _=>some "int"
 | .str _=>some "str"
 | .tup _=>some "tuple"
 | .lst _=>some "list"
 |_=>none
def Mt(k T:String):Option Bool:=if T="str"\/T="int"\/T="bool"\/T="tuple"\/T="list" then some (decide (k=T)||(decide (k="bool")&&decide (T="int"))) else none
def iV:List D->M D
 |[d, .raw (.ty T)]=>match KN d with
  |some k=>match Mt k T with
   |some b=>ae (.bl b)
   |none=>ag
  |none=>ag
 |_=>ag
theorem MD{K:XO}{k T:String}{b:Bool}(hk:k="NoneType"\/k="bool"\/k="int"\/k="str"\/k="tuple"\/k="list")(h:Mt k T=some b):X3 K (.type k) (.type T)=some b:=by
 unfold Mt at h;split at h
 ·rename_i hT;cases h;rcases hk with rfl | rfl | rfl | rfl | rfl | rfl<;>rcases hT with rfl | rfl | rfl | rfl | rfl<;>with_unfolding_all rfl
 ·cases h
section
variable{X:Cx}{Xw:Nat->Hp->Prop}{a b e e2:Expr}{δs:DA}{pos p:Pos}
def P4(K:XO):List V->Hp->VK->Prop:=λxs H Q=>∃x T t b,xs=[x, .ty T]/\TyOf K H x t/\X3 K t (.type T)=some b/\Q (.bl b) H
theorem EL:CallR X (.builtin "isinstance") (P4 X.K):=by
 intro f8 s σ H xs us Q I r h;obtain⟨x,T,t,b,rfl,ty,e,q⟩:=h;obtain⟨u,w',rfl,r1,r2⟩:=vals2 r;cases (show w'=_ from r2);exact Dj I r1 ty e λtk=>⟨.bl b,H,I.tok tk,rfl,q⟩
theorem HI{K:XO}{F H:Hp}{d:D}{v:V}{k:String}(s:Same F H)(h:Den K F d v)(hk:KN d=some k):TyOf K H v (.type k)/\(k="NoneType"\/k="bool"\/k="int"\/k="str"\/k="tuple"\/k="list"):=by
 cases d with
 |non=>cases hk;cases (show _=_ from h);exact⟨.non, .inl rfl⟩
 |bl x=>cases hk;cases (show _=_ from h);exact⟨.bl x, .inr (.inl rfl)⟩
 |int x=>cases hk;cases (show _=_ from h);exact⟨.int x, .inr (.inr (.inl rfl))⟩
 |str x=>cases hk;cases (show _=_ from h.1);exact⟨.str x, .inr (.inr (.inr (.inl rfl)))⟩
 |tup x=>cases hk;obtain⟨a,vs,rfl,h2,_⟩:=h;exact⟨.tup (s _ _ h2), .inr (.inr (.inr (.inr (.inl rfl))))⟩
 |lst x=>cases hk;obtain⟨a,vs,rfl,h2,_⟩:=h;exact⟨.lst (s _ _ h2), .inr (.inr (.inr (.inr (.inr rfl))))⟩
 |_=>cases hk
theorem Di{K:XO}:xM K (P4 K) iV:=λXw F H vs ds Q s h w=>by
 unfold iV at w;split at w
 ·rename_i d T;obtain⟨v,v',rfl,h1,h2⟩:=h.two;cases (show _=_ from h2);split at w
  ·rename_i k hk;split at w
   ·rename_i b hb;obtain⟨ty,pZ⟩:=HI s h1 hk;exact⟨v,T, .type k,b,rfl,ty,MD pZ hb,WP.now w s rfl⟩
   ·exact w.elim
  ·exact w.elim
 ·exact w.elim
theorem lM(hg:Gl X "isinstance")(hm:X.mg "isinstance"=none)(hb:YJ "isinstance"=some (.builtin "isinstance"))(ha:gQ X Xw [e,e2] δs)(he:X2 [e,e2] X.env=(false,eval e X.env)::X2 [e2] X.env:=by rfl)
 (kX:(ZI pos (X2 [e2] X.env)).any (·.1)=false:=by rfl):PD X Xw (.Call (.Name "isinstance" p) [e,e2] [] pos) (dA iV δs):=
 fK EL Di hg hm hb ha (by decide) (by decide) he kX
theorem pI{x:Str}{T:String}(hg:Gl X x)(hm:X.mg x=none)(hv:YJ x=some (.type T))(hn:x≠"__name__":=by decide)(hd:(x==("__debug__":Str))=false:=by decide):PD X Xw (.Name x pos) (dC (.raw (.ty T))):=
 iG (v:= .ty T) (JB hg hm hv (show RelV (.ty T) (.type T) from rfl) hn hd) λ_=>rfl
def bools:List D->Option (List Bool)
 |[]=>some []
 | .bl b::r=>(bools r).map (b:: ·)
 |_=>none
def allM:List D->M D
 |[.lst ds]=>match bools ds with
  |some bs=>ae (.bl (bs.all id))
  |none=>ag
 |_=>ag
theorem ku{K:XO}{F:Hp}:∀{ds:List D}{vs:List V}{bs:List Bool},bools ds=some bs->DenL K F ds vs->vs=bs.map V.bl
 |[],_,_,e,h=>by cases e;exact h
 | .bl b::r,_,_,e,⟨v,r',h1,h2,h3⟩=>by
   unfold bools at e;cases q:bools r with
   |none=>rw[q] at e;cases e
   |some bs=>rw[q] at e;cases e;subst h1;rw[ku q h3,show v= .bl b from h2];rfl
 | .non::_,_,_,e,_=>by cases e
 | .int _::_,_,_,e,_=>by cases e
 | .str _::_,_,_,e,_=>by cases e
 | .raw _::_,_,_,e,_=>by cases e
 | .exc _::_,_,_,e,_=>by cases e
 | .scr _::_,_,_,e,_=>by cases e
 | .tup _::_,_,_,e,_=>by cases e
 | .lst _::_,_,_,e,_=>by cases e
theorem qy:∀{bs:List Bool}{aK:List Value},Vals (bs.map V.bl) aK->aK=bs.map Z7
 |[],_,r=>by cases r;rfl
 |b::bs,_,r=>by
  cases r with
  |cons r1 r2=>cases (show _=_ from r1);rw[qy r2];rfl
def SK:List V->Hp->VK->Prop:=λxs H Q=>∃(a:Addr) (bs:List Bool),xs=[.ref a]/\H a=some (.lst (bs.map V.bl))/\Q (.bl (bs.all id)) H
theorem all_range{bs:List Bool}:(Yg bs.length).all (λi=>bs.getD i false)=bs.all id:=by
 induction bs with
 |nil=>rfl
 |cons b bs ih=>
  rw[XH,adm,aaS,aaJ,aaS];congr 1
theorem CL(hc:X.calm=true):CallR X (.builtin "all") SK:=by
 intro f8 s σ H xs us Q I r h;obtain⟨a,bs,rfl,hH,q⟩:=h;obtain⟨u,rfl,r1⟩:=vals1 r;cases (show u=_ from r1);obtain⟨aK,r2,pl,hz⟩:=I.list (SqL.of (K:=X.K) hH);obtain rfl:=qy r2;have fo:a≠s.heap.objs.size:=Yj (I.hok.lt hH);refine call_all_walk (acM pl.isList ?_);refine⟨s.heap.objs.size,_,_,_,_,_,λi=>bs.getD i false,rfl,Walks.list (A:=X.A.in1) (show X.A.in1.handled=none from I.ok.hd hc) s.heap.objs.size a fo (bs.map Z7).toArray,⟨⟨_,X8 _ rfl,rfl,rfl⟩,Heap.IsList.at pl.isList λo e=>XJ _ e⟩,?_,λh' tk k=>?_⟩
 ·intro i v s' Q' E' hv hq;have hv:(bs.map Z7).toArray[i]? =some v:=hv;rw[ady,XX] at hv;cases q':bs[i]? with
  |none=>rw[q'] at hv;cases hv
  |some b=>
   rw[q'] at hv;cases hv;have:bs.getD i false=b:=by rw[X9,q'];rfl
   have hq:Q' (bs.getD i false) s':=hq;rw[this] at hq;exact Zu hq
 ·have e:(Yg (bs.map Z7).toArray.size).all (λi=>bs.getD i false)=bs.all id:=by
   rw[XW,XB];exact all_range
  rw[e];refine⟨.bl (bs.all id),H,I.kept (h':=h') (t':=tk) λb o e'=>k b o (λz=>?_) (XJ _ e'),rfl,q⟩;have z:b=s.heap.objs.size:=by simpa using z
  exact aej (XY e') (by rw[z];exact YH _)
theorem wI(hc:X.calm=true)(hg:Gl X "all")(hm:X.mg "all"=none)(hb:YJ "all"=some (.builtin "all"))(ha:gQ X Xw [e] δs)(he:X2 [e] X.env=[(false,eval e X.env)]:=by rfl):PD X Xw (.Call (.Name "all" p) [e] [] pos) (dA allM δs):=
 fK (CL hc) (λXw F H vs ds Q s h w=>by
  unfold allM at w;split at w
  ·rename_i ds;obtain⟨v,rfl,h1⟩:=h.one;obtain⟨a,ws,rfl,h2,h3,_⟩:=h1;split at w
   ·rename_i bs hb;exact⟨a,bs,rfl,by rw[<-ku hb h3];exact s _ _ h2,WP.now w s rfl⟩
   ·exact w.elim
  ·exact w.elim) hg hm hb ha (by decide) (by decide) he rfl
end
section
variable{X:Cx}{Xw:Nat->Hp->Prop}{a b e e2:Expr}{es:List Expr}{δ δa δb:DE}{pos p T0 aV:Pos}
theorem J8{i:Nat}:∀u8 aeq D σ H,tS X.K Xw u8 aeq (sP i δ) D σ H->HE (SX X.K "list" Cq (lR i) (HC (tD X.K Xw δ) NJ)) D σ H:=λu8 aeq D σ H ⟨F,ρ,s,w⟩=>by
 unfold sP at w;cases ho:DJ ρ i with
 |none=>rw[ho] at w;exact w.elim
 |some ds=>
  rw[ho] at w;have hi:=uY ho;obtain⟨v,hv,a,o,rfl,hH,hF,vs,rfl,hd,hl⟩:=s.st.den i _ hi;have w:WPS X.K Xw u8 aeq (δ ρ>>=λd=>if ds.length<lim then ae (.nx (ρ.set i (some (.ow (.lst (ds++[d])))))) else ag) D:=w;refine⟨.ref a,hv, .inl ⟨rfl,vs,SqL.of hH⟩,F,ρ,s.st,?_⟩;rcases(δ ρ).cs with q | ⟨n,q⟩ | ⟨d,q⟩
  ·rw[q] at w;exact w.elim
  ·rw[q] at w⊢;exact λF' H' e'=>w F' H' (s.ext.trans e')
  ·rw[q] at w⊢;intro u H1 F1 e1 hq;have w:WPS X.K Xw u8 aeq (if ds.length<lim then ae (.nx (ρ.set i (some (.ow (.lst (ds++[d])))))) else ag) D:=w;split at w
   ·rename_i dG;have hlen:=hd.len;refine⟨a,vs,u,rfl,rfl,e1.hh _ _ hH,by have:=dS;omega,?_⟩;exact w σ F1 _ ((s.ext' e1).chg (c₀:= .lst (ds++[d])) hi hv ⟨_,rfl,DenL.append (DenL.mono e1.ff hd) (.cons hq .nil),by rw[XR];exact dG⟩)
   ·exact w.elim
theorem J9{i:Nat}:∀u8 aeq D σ H,tS X.K Xw u8 aeq (Hi i δ) D σ H->HE (SX X.K "list" Cr (lR i) (HC (tD X.K Xw δ) NJ)) D σ H:=λu8 aeq D σ H ⟨F,ρ,s,w⟩=>by
 unfold Hi at w;cases ho:DJ ρ i with
 |none=>rw[ho] at w;exact w.elim
 |some ds=>
  rw[ho] at w;have hi:=uY ho;obtain⟨v,hv,a,o,rfl,hH,hF,vs,rfl,hd,hl⟩:=s.st.den i _ hi;have w:WPS X.K Xw u8 aeq (δ ρ>>=λd=>lstM d>>=λes=>if ds.length+es.length<=lim then ae (.nx (ρ.set i (some (.ow (.lst (ds++es)))))) else ag) D:=w;refine⟨.ref a,hv, .inl ⟨rfl,vs,SqL.of hH⟩,F,ρ,s.st,?_⟩;rcases(δ ρ).cs with q | ⟨n,q⟩ | ⟨d,q⟩
  ·rw[q] at w;exact w.elim
  ·rw[q] at w⊢;exact λF' H' e'=>w F' H' (s.ext.trans e')
  ·rw[q] at w⊢;intro u H1 F1 e1 hq;cases d with
   |lst es=>
    obtain⟨b,ws,rfl,k2,k3,k4⟩:=hq;have w:WPS X.K Xw u8 aeq (if ds.length+es.length<=lim then ae (.nx (ρ.set i (some (.ow (.lst (ds++es)))))) else ag) D:=w;split at w
    ·rename_i dG;have hlen:=hd.len;have T9:=k3.len;refine⟨a,b,vs,ws,rfl,rfl,e1.hh _ _ hH,e1.fh _ _ k2,by have:=dS;omega,?_⟩;exact w σ F1 _ ((s.ext' e1).chg (c₀:= .lst (ds++es)) hi hv ⟨_,rfl,DenL.append (DenL.mono e1.ff hd) k3,by rw[XR];exact dG⟩)
    ·exact w.elim
   |_=>exact w.elim
theorem mY{i:Nat}{x:Str}(hv:PE X (.Name x p) (lR i))(he:PD X Xw e δ)(hs:aa9 (.Call (.Attribute (.Name x p) "append" T0) [e] [] aV) none pos.line X.env=pure false:=by rfl)
 (iq:ZZ (.Name x p) "append" X.env (eval (.Name x p) X.env)=eval (.Name x p) X.env:=by rfl)
 (nQ:((ZI aV (X2 [e] X.env)).all (λx=>!x.1)&&(abG aV (aav [] X.env)).all (λx=>x.1.isSome)&&decide ([e].length+([]:List aap).length+(if ([]:List aap).isEmpty then 0 else 1)<30))=true:=by rfl)
 (iu:(T0.endLine==aV.line)=true:=by rfl)(vO:X2 [e] X.env=[(false,eval e X.env)]:=by rfl):iO X Xw (.Expr (.Call (.Attribute (.Name x p) "append" T0) [e] [] aV) pos) (sP i δ):=λu8 aeq=>
 PS.weak (qr (GQ aal PySem.F.slot_list_append PySem.F.type_list_append uV hv (wG he wH vO) iq nQ iu vO rfl) hs) λD σ H w=>J8 u8 aeq D σ H w
theorem JK{i:Nat}{x:Str}(hv:PE X (.Name x p) (lR i))(he:PD X Xw e δ)(hs:aa9 (.Call (.Attribute (.Name x p) "extend" T0) [e] [] aV) none pos.line X.env=pure false:=by rfl)
 (iq:ZZ (.Name x p) "extend" X.env (eval (.Name x p) X.env)=eval (.Name x p) X.env:=by rfl)
 (nQ:((ZI aV (X2 [e] X.env)).all (λx=>!x.1)&&(abG aV (aav [] X.env)).all (λx=>x.1.isSome)&&decide ([e].length+([]:List aap).length+(if ([]:List aap).isEmpty then 0 else 1)<30))=true:=by rfl)
 (iu:(T0.endLine==aV.line)=true:=by rfl)(vO:X2 [e] X.env=[(false,eval e X.env)]:=by rfl):iO X Xw (.Expr (.Call (.Attribute (.Name x p) "extend" T0) [e] [] aV) pos) (Hi i δ):=λu8 aeq=>
 PS.weak (qr (GQ aal PySem.F.slot_list_extend PySem.F.type_list_extend Dx hv (wG he wH vO) iq nQ iu vO rfl) hs) λD σ H w=>J9 u8 aeq D σ H w
theorem Gy:OpR X (aaP .Add) (λx y H Q=>∃a b ys,x= .ref a/\y= .ref b/\SqT X.K H a []/\SqT X.K H b ys/\Q (.ref b) H):=by
 intro f8 s σ H x y v u Q I rx ry h;obtain⟨a,b,ys,rfl,rfl,ha,hb,q⟩:=h;cases rx;cases ry;obtain⟨aK,r1,p1,_⟩:=I.tuple ha;obtain⟨gG,r2,p2,_⟩:=I.tuple hb;cases r1;obtain⟨⟨cls,dd,data,sl⟩,ho,hc,n,hd⟩:=id p1;obtain⟨⟨cls2,Io,data2,QZ⟩,Mc,Kx,n2,hd2⟩:=id p2;simp only at hc hd Kx hd2;subst hc hd Kx hd2;exact concat_meets ⟨_,ho,rfl⟩ ⟨_,Mc,rfl⟩ ac2 adX abf aba (aaX _ _)
  (tuple_addW0 a b _ _ n n2 dd Io sl QZ (by simp)) ⟨ho,Mc,⟨.ref b,H,I,rfl,q⟩⟩
def BK:D->D->M D
 | .tup x, .tup y=>if x.length+y.length<=lim then ae (.tup (x++y)) else ag
 |_,_=>ag
theorem Ju(ha:PD X Xw a δa)(hb:PD X Xw b δb):PD X Xw (.BinOp a .Add b pos) (d2 BK δa δb):=pH (Gy.or Jm) (λXw F H x y dx dy Q s hx hy w=>by
 unfold BK at w;split at w
 ·rename_i i j;obtain⟨a,vs,h1,h2,h3,h4⟩:=hx;obtain⟨a',vs',k1,k2,k3,k4⟩:=hy;split at w
  ·rename_i hl;have e1:=h3.len;have e2:=k3.len;have:=dS;by_cases hv:vs=[]
   ·subst hv;have:i=[]:=by cases i with | nil=>rfl | cons _ _=>simp at e1
    subst this;exact .inl ⟨a,a',vs',h1,k1,SqT.of (s _ _ h2),SqT.of (s _ _ k2),WP.now w s ⟨a',vs',k1▸rfl,k2,k3,k4⟩⟩
   ·refine .inr ⟨a,a',vs,vs',h1,k1,SqT.of (s _ _ h2),SqT.of (s _ _ k2),hv,by omega,λz=>?_,λz p hp=>?_⟩
    ·subst z;have:j=[]:=by cases j with | nil=>rfl | cons _ _=>simp at e2
     subst this;rw[YF] at w;exact WP.now w s ⟨a,vs,rfl,h2,h3,h4⟩
    ·exact WP.fin w (Ext.lay s hp) ⟨p,_,rfl,aG,DenL.mono (Ext.lay s hp).ff (h3.append k3),by rw[XR];exact hl⟩
  ·exact w.elim
 ·exact w.elim) ha hb
end
section
variable{X:Cx}{Xw:Nat->Hp->Prop}{a b e e2 o:Expr}{es:List Expr}{δa δb δo:DE}{δs:DA}{pos p T0 aV:Pos}
def dM(kd:D->Bool)(g:D->List D->M D)(o:DE)(s:DA):DE:=λρ=>o ρ>>=λd=>if kd d then s ρ>>=λds=>g d ds else ag
theorem GJ{T:String}{name:Str}{id:String}{r:V->List V->Hp->VK->Prop}{kd:D->Bool}{g:D->List D->M D}(pa:PlainAttrs T)(slot:Slot T name id)(Si:typeOf (.builtin id)=pure (.type "method_descriptor"))(hm:Od X id r)
 (hk:∀(F H:Hp) (x:V) (d:D),kd d=true->Same F H->Den X.K F d x->Qr X.K T x H)
 (hd:∀(Xw:Nat->Hp->Prop) (F H:Hp) (x:V) (vs:List V) (d:D) (ds:List D) (Q:VK),Same F H->Den X.K F d x->DenL X.K F ds vs->WP X.K Xw F H (g d ds) Q->r x vs H Q)
 (ho:PD X Xw o δo)(ha:gQ X Xw (e::es) δs)
 (iq:ZZ o name X.env (eval o X.env)=eval o X.env:=by rfl)
 (nQ:((ZI aV (X2 (e::es) X.env)).all (λx=>!x.1)&&(abG aV (aav [] X.env)).all (λx=>x.1.isSome)
  &&decide ((e::es).length+([]:List aap).length+(if ([]:List aap).isEmpty then 0 else 1)<30))=true:=by rfl)
 (iu:(T0.endLine==aV.line)=true:=by rfl) (hs:X2 (e::es) X.env=(false,eval e X.env)::X2 es X.env:=by rfl) (Ai:(ZI aV (X2 es X.env)).any (·.1)=false:=by rfl):
 PD X Xw (.Call (.Attribute o name T0) (e::es) [] aV) (dM kd g δo δs):=PE.weak (GQ pa slot Si hm ho ha iq nQ iu hs Ai) λσ H Q ⟨F,ρ,s,w⟩=>by
 refine⟨F,ρ,s,WP.mono (WP.bind w) λv H1 ⟨F1,d,e1,q1,w1⟩=>?_⟩;split at w1
 ·rename_i IL;refine⟨hk F1 H1 v d IL e1.fh q1,F1,ρ,s.ext e1,WPL.mono (WP.bindL w1) λvs H2 ⟨F2,ds,e2,q2,w2⟩=>?_⟩;exact hd Xw F2 H2 v vs d ds Q e2.fh (Den.mono e2.ff q1) q2 w2
 ·exact w1.elim
def QV:D->Bool
 | .str _=>true
 |_=>false
def mh:D->Bool
 | .lst _=>true
 |_=>false
theorem Mr{K:XO}(F H:Hp)(x:V)(d:D)(h:QV d=true)(s:Same F H)(q:Den K F d x):Qr K "str" x H:=by
 cases d with
 |str z=>cases (show _=_ from q.1);exact rfl
 |_=>cases h
theorem yq{K:XO}(F H:Hp)(x:V)(d:D)(h:mh d=true)(s:Same F H)(q:Den K F d x):Qr K "list" x H:=by
 cases d with
 |lst z=>obtain⟨a,vs,rfl,h2,_⟩:=q;exact .inl ⟨rfl,vs,SqL.of (s _ _ h2)⟩
 |_=>cases h
def xu:List D->Option (List Str)
 |[]=>some []
 | .str x::r=>(xu r).map (x:: ·)
 |_=>none
theorem tf{K:XO}{F:Hp}:∀{ds:List D}{vs:List V}{xs:List Str},xu ds=some xs->DenL K F ds vs->vs=xs.map V.str
 |[],_,_,e,h=>by cases e;exact h
 | .str b::r,_,_,e,⟨v,r',h1,h2,h3⟩=>by
   unfold xu at e;cases q:xu r with
   |none=>rw[q] at e;cases e
   |some bs=>rw[q] at e;cases e;subst h1;rw[tf q h3,show v= .str b from h2.1];rfl
 | .non::_,_,_,e,_=>by cases e
 | .int _::_,_,_,e,_=>by cases e
 | .bl _::_,_,_,e,_=>by cases e
 | .raw _::_,_,_,e,_=>by cases e
 | .exc _::_,_,_,e,_=>by cases e
 | .scr _::_,_,_,e,_=>by cases e
 | .tup _::_,_,_,e,_=>by cases e
 | .lst _::_,_,_,e,_=>by cases e
theorem tm:∀{xs:List Str}{aK:List Value},Vals (xs.map V.str) aK->StrsAre aK xs
 |[],_,r=>by cases r;exact .nil
 |b::bs,_,r=>by
  cases r with
  |cons r1 r2=>obtain⟨t,rfl⟩:=r1;exact .cons b t (tm r2)
def fQ:List Str->Str
 |[]=>⟨#[]⟩
 |x::r=>x++fQ r
def joinM:D->List D->M D
 | .str sep,[.lst ds]=>match xu ds with
   |some xs=>if sep.length=0/\(xs.map (·.length)).sum<=lim then ae (.str (fQ xs)) else ag
   |none=>ag
 | .str sep,[.tup ds]=>match xu ds with
   |some xs=>if sep.length=0/\(xs.map (·.length)).sum<=lim then ae (.str (fQ xs)) else ag
   |none=>ag
 |_,_=>ag
theorem qP:∀xs:List Str,(fQ xs).length=(xs.map (·.length)).sum
 |[]=>rfl
 |x::r=>by
  show (x++fQ r).length=_;rw[kg,qP r,XN,ab2]
theorem J4{x:Str}(h:x.length=0):x=⟨#[]⟩:=by
 obtain⟨⟨l⟩⟩:=x;have:l.length=0:=h;cases l with
 |nil=>rfl
 |cons _ _=>simp at this
theorem pK(x:Str):x++(⟨#[]⟩:Str)=x:=by
 obtain⟨c⟩:=x;show (⟨c++ #[]⟩:Str)=⟨c⟩
 simp
theorem oY(sep:Str)(h:sep.length=0):∀xs:List Str,Txt.join sep xs=fQ xs:=by
 have e:=J4 h;subst e;intro xs;show Builtin.Str.glued _ xs=_;rw[StrLaws.glued_eq_join];induction xs with
 |nil=>rfl
 |cons x r ih=>
  cases r with
  |nil=>show x=x++(⟨#[]⟩:Str);rw[pK]
  |cons y r=>show x++(⟨#[]⟩:Str)++Str.join _ (y::r)=x++fQ (y::r);rw[pK,ih]
def rJoin(K:XO):V->List V->Hp->VK->Prop:=λx vs H Q=>∃(sep:Str) (a:Addr) (xs:List Str),x= .str sep/\vs=[.ref a]/\(H a=some (.lst (xs.map V.str))\/H a=some (.tup (xs.map V.str)))/\sep.length=0/\(xs.map (·.length)).sum<=lim/\Q (.str (fQ xs)) H
theorem Jh:Od X "str.join" (rJoin X.K):=by
 intro f8 s σ H x vs v us Q I rx rv h;obtain⟨sep,a,xs,rfl,rfl,hH,hs,hl,q⟩:=h;obtain⟨t,rfl⟩:=rx;obtain⟨u,rfl,r1⟩:=rv.one;cases (show u=_ from r1);have hok:(xs.map (·.length)).sum+xs.length*sep.length<=16777216:=by
  rw[hs,Nat.mul_zero];unfold lim at hl;omega
 rcases hH with hH | hH
 ·obtain⟨aK,r2,pl,hz⟩:=I.list (SqL.of (K:=X.K) hH);refine join_list pl.isList (by simpa using tm r2) hok λt' k=>⟨.str (fQ xs),H,I.tok k,⟨t',by rw[oY sep hs]⟩,q⟩
 ·obtain⟨aK,r2,pl,hz⟩:=I.tuple (SqT.of (K:=X.K) hH);refine join_tuple pl (by simpa using tm r2) hok λt' k=>⟨.str (fQ xs),H,I.tok k,⟨t',by rw[oY sep hs]⟩,q⟩
theorem Jx(ho:PD X Xw o δo)(ha:gQ X Xw [e] δs)(iq:ZZ o "join" X.env (eval o X.env)=eval o X.env:=by rfl)
 (nQ:((ZI aV (X2 [e] X.env)).all (λx=>!x.1)&&(abG aV (aav [] X.env)).all (λx=>x.1.isSome)&&decide ([e].length+([]:List aap).length+(if ([]:List aap).isEmpty then 0 else 1)<30))=true:=by rfl)
 (iu:(T0.endLine==aV.line)=true:=by rfl)(vO:X2 [e] X.env=[(false,eval e X.env)]:=by rfl):PD X Xw (.Call (.Attribute o "join" T0) [e] [] aV) (dM QV joinM δo δs):=
 GJ PySem.F.plainAttrs_str PySem.F.slot_str_join PySem.F.type_str_join Jh Mr (λXw F H x vs d ds Q s hx hv w=>by
  unfold joinM at w;split at w
  ·rename_i sep ds;obtain⟨v,rfl,h1⟩:=hv.one;obtain⟨a,ws,rfl,h2,h3,_⟩:=h1;split at w
   ·rename_i xs Pg;split at w
    ·rename_i hc;exact⟨sep,a,xs,hx.1,rfl, .inl (by rw[<-tf Pg h3];exact s _ _ h2),hc.1,hc.2,WP.now w s ⟨rfl,by rw[qP];exact hc.2⟩⟩
    ·exact w.elim
   ·exact w.elim
  ·rename_i sep ds;obtain⟨v,rfl,h1⟩:=hv.one;obtain⟨a,ws,rfl,h2,h3,_⟩:=h1;split at w
   ·rename_i xs Pg;split at w
    ·rename_i hc;exact⟨sep,a,xs,hx.1,rfl, .inr (by rw[<-tf Pg h3];exact s _ _ h2),hc.1,hc.2,WP.now w s ⟨rfl,by rw[qP];exact hc.2⟩⟩
    ·exact w.elim
   ·exact w.elim
  ·exact w.elim) ho ha iq nQ iu vO rfl
theorem AL(hc:X.calm=true)(hg:Gl X "max")(hm:X.mg "max"=none)(hb:YJ "max"=some (.builtin "max"))(ha:gQ X Xw [e,e2] δs)(he:X2 [e,e2] X.env=(false,eval e X.env)::X2 [e2] X.env:=by rfl)
 (kX:(ZI pos (X2 [e2] X.env)).any (·.1)=false:=by rfl):PD X Xw (.Call (.Name "max" p) [e,e2] [] pos) (dA Ar δs):=
 fK (CN hc) (λXw F H vs ds Q s h w=>by
  unfold Ar at w;split at w
  ·obtain⟨v,v',rfl,h1,h2⟩:=h.two;cases (show _=_ from h1);cases (show _=_ from h2);exact⟨_,_,rfl,WP.now w s rfl⟩
  ·exact w.elim) hg hm hb ha (by decide) (by decide) he kX
theorem AM(hc:X.calm=true)(hg:Gl X "min")(hm:X.mg "min"=none)(hb:YJ "min"=some (.builtin "min"))(ha:gQ X Xw [e,e2] δs)(he:X2 [e,e2] X.env=(false,eval e X.env)::X2 [e2] X.env:=by rfl)
 (kX:(ZI pos (X2 [e2] X.env)).any (·.1)=false:=by rfl):PD X Xw (.Call (.Name "min" p) [e,e2] [] pos) (dA tV δs):=
 fK (CO hc) (λXw F H vs ds Q s h w=>by
  unfold tV at w;split at w
  ·obtain⟨v,v',rfl,h1,h2⟩:=h.two;cases (show _=_ from h1);cases (show _=_ from h2);exact⟨_,_,rfl,WP.now w s rfl⟩
  ·exact w.elim) hg hm hb ha (by decide) (by decide) he kX
def nums:List D->Option (List Int)
 |[]=>some []
 | .int x::r=>(nums r).map (x:: ·)
 |_=>none
theorem mf{K:XO}{F:Hp}:∀{ds:List D}{vs:List V}{xs:List Int},nums ds=some xs->DenL K F ds vs->vs=xs.map V.int
 |[],_,_,e,h=>by cases e;exact h
 | .int b::r,_,_,e,⟨v,r',h1,h2,h3⟩=>by
   unfold nums at e;cases q:nums r with
   |none=>rw[q] at e;cases e
   |some bs=>rw[q] at e;cases e;subst h1;rw[mf q h3,show v= .int b from h2];rfl
 | .non::_,_,_,e,_=>by cases e
 | .str _::_,_,_,e,_=>by cases e
 | .bl _::_,_,_,e,_=>by cases e
 | .raw _::_,_,_,e,_=>by cases e
 | .exc _::_,_,_,e,_=>by cases e
 | .scr _::_,_,_,e,_=>by cases e
 | .tup _::_,_,_,e,_=>by cases e
 | .lst _::_,_,_,e,_=>by cases e
def IC(neg:Bool):D->D->M D
 | .int i, .tup ds=>match nums ds with | some ns=>ae (.bl (if neg then !ns.contains i else ns.contains i)) | none=>ag
 |_,_=>ag
theorem FI(i:Int)(ns:List Int):QU (.int i) (ns.map V.int)=ns.contains i:=by
 unfold QU;rw[List.any_map];induction ns with
 |nil=>rfl
 |cons n ns ih=>
  rw[aaR,List.contains_cons,ih];congr 1;show HQ (.int n) (.int i)=(i==n)
  unfold HQ;exact Bool.beq_comm
theorem Mn{neg:Bool}{K:XO}:zM K (UD K neg) (IC neg):=λXw F H x y dx dy Q s hx hy w=>by
 unfold IC at w;split at w
 ·rename_i i ds;obtain⟨a,vs,h1,h2,h3,h4⟩:=hy;split at w
  ·rename_i ns hn;have hv:=mf hn h3;subst hv;cases (show _=_ from hx);refine⟨a,ns.map V.int,h1, .inr (SqT.of (s _ _ h2)),rfl,?_,?_⟩
   ·rw[aaJ];exact Yh.mpr λ_ _=>rfl
   ·rw[FI];exact WP.now w s rfl
  ·exact w.elim
 ·exact w.elim
theorem DV(ha:PD X Xw a δa)(hb:PD X Xw b δb)(hm:YY .NotIn b=false:=by rfl):qA X Xw (.Compare a [.NotIn] [b] pos) (cf (d2 (IC true) δa δb)):=kM wD Mn ha hb hm
def Fh(neg:Bool):D->D->M D
 | .str x, .str y=>ae (.bl (if neg then !(!(aag y x 0 y.length 1).isEmpty) else !(aag y x 0 y.length 1).isEmpty))
 |_,_=>ag
theorem MY(ha:PD X Xw a δa)(hb:PD X Xw b δb)(hm:YY .In b=false:=by rfl):PD X Xw (.Compare a [.In] [b] pos) (d2 (Fh false) δa δb):=AI DG (λXw F H x y dx dy Q s hx hy w=>by
 unfold Fh at w;split at w
 ·exact⟨_,_,hx.1,hy.1,WP.now w s rfl⟩
 ·exact w.elim) ha hb hm
end
end L3
namespace L3
open PySem PySem.Spec L2 SeqAt HT
open PyProof.Rows hiding St
section
variable{Xw:Nat->Hp->Prop}{b:Expr}
def WPO(Xw:Nat->Hp->Prop)(F H:Hp)(m:M (Option Int))(Q:Option Int->Hp->Prop):Prop:=
 match m with
 |none=>False
 |some (.ok b)=>∀H' F',Ext F H F' H'->Q b H'
 |some (.ex n)=>∀F' H',Ext F H F' H'->Xw n H'
theorem WPO.mono{Xw:Nat->Hp->Prop}{F H:Hp}{m:M (Option Int)}{Q Q':Option Int->Hp->Prop}(h:WPO Xw F H m Q)(k:∀v H',Q v H'->Q' v H'):WPO Xw F H m Q':=by
 match m,h with
 |none,h=>exact h
 |some (.ok d),h=>exact λH2 F2 e2=>k _ _ (h H2 F2 e2)
 |some (.ex n),h=>exact h
end
def Qv(x:Str):It:=⟨λi _=>i<x.cps.size,λi H v H'=>H'=H/\∃c,x.cps[i]? =some c/\v= .str ⟨#[c]⟩,λi _=>x.cps.size<=i⟩
theorem Ea{P:Yd}{w:World}{K:XO}{tg:Expr}(it:Addr)(x:Str)(t:Tok):Turn P w K tg (Qv x) [it] it (λi h=>i<=x.cps.size/\h.IsStrIter it "str_ascii_iterator" x t i) where
 mem:=by simp
 obj:=λi h st b hb=>by
  have e:b=it:=by simpa using hb
  subst e;obtain⟨_,o,e,c,d⟩:=st;exact⟨o,e,λv z=>by rw[d] at z;cases z⟩
 keep:=λi h h' st k=>⟨st.1,let ⟨o,e,r⟩:=st.2;⟨o,k it (by simp) o e,r⟩⟩
 item:=by
  intro X hP hw hK hc i f8 s σ H E I hf st hg;subst hP hw hK;obtain⟨f0,f1,f2,f3,f4,f5⟩:=hf it (by simp);have hi:i<x.cps.size:=hg;refine(Walks.strAscii (prog:=X.prog) (w:=X.w) (I.ok.hd hc) it x t).item i s _ _ hi st.2 λv h' tk hv sY kk=>?_;obtain⟨c,u,RA,rfl⟩:=hv;have I1:Inv X f8 σ H {s with heap:=h',toks:=tk}:=I.turned (λb o hb e=>kk b o (by simpa using hb) e) f0 f1 f3 f4 f5;obtain⟨o,e,cc,dd⟩:=id sY;exact⟨_,rfl,uF (s:={s with heap:=h',toks:=tk}) e cc dd (by decide) ⟨.str ⟨#[c]⟩,H,I1,⟨u,rfl⟩,⟨rfl,c,RA,rfl⟩,⟨hi,sY⟩,λb hb=>(hf b hb).1⟩⟩
 done:=by
  intro X hP hw hK hc i f8 s σ H E I hf st hg;subst hP hw hK;obtain⟨f0,f1,f2,f3,f4,f5⟩:=hf it (by simp);have hi:i=x.cps.size:=aay st.1 hg;subst hi;exact(Walks.strAscii (prog:=X.prog) (w:=X.w) (I.ok.hd hc) it x t).done s _ _ st.2 λh' tk kk=>⟨rfl,I.turned (λb o hb e=>kk b o (by simpa using hb) e) f0 f1 f3 f4 f5⟩
 self:=λ_ _ _ _ _ st h=>wpAny_pyIter_striter_ascii st.2 h
theorem Eb{P:Yd}{w:World}{K:XO}{tg:Expr}(it:Addr)(x:Str)(t:Tok):Turn P w K tg (Qv x) [it] it (λi h=>i<=x.cps.size/\h.IsStrIter it "str_iterator" x t i) where
 mem:=by simp
 obj:=λi h st b hb=>by
  have e:b=it:=by simpa using hb
  subst e;obtain⟨_,o,e,c,d⟩:=st;exact⟨o,e,λv z=>by rw[d] at z;cases z⟩
 keep:=λi h h' st k=>⟨st.1,let ⟨o,e,r⟩:=st.2;⟨o,k it (by simp) o e,r⟩⟩
 item:=by
  intro X hP hw hK hc i f8 s σ H E I hf st hg;subst hP hw hK;obtain⟨f0,f1,f2,f3,f4,f5⟩:=hf it (by simp);have hi:i<x.cps.size:=hg;refine(Walks.strWide (prog:=X.prog) (w:=X.w) (I.ok.hd hc) it x t).item i s _ _ hi st.2 λv h' tk hv sY kk=>?_;obtain⟨c,u,RA,rfl⟩:=hv;have I1:Inv X f8 σ H {s with heap:=h',toks:=tk}:=I.turned (λb o hb e=>kk b o (by simpa using hb) e) f0 f1 f3 f4 f5;obtain⟨o,e,cc,dd⟩:=id sY;exact⟨_,rfl,uF (s:={s with heap:=h',toks:=tk}) e cc dd (by decide) ⟨.str ⟨#[c]⟩,H,I1,⟨u,rfl⟩,⟨rfl,c,RA,rfl⟩,⟨hi,sY⟩,λb hb=>(hf b hb).1⟩⟩
 done:=by
  intro X hP hw hK hc i f8 s σ H E I hf st hg;subst hP hw hK;obtain⟨f0,f1,f2,f3,f4,f5⟩:=hf it (by simp);have hi:i=x.cps.size:=aay st.1 hg;subst hi;exact(Walks.strWide (prog:=X.prog) (w:=X.w) (I.ok.hd hc) it x t).done s _ _ st.2 λh' tk kk=>⟨rfl,I.turned (λb o hb e=>kk b o (by simpa using hb) e) f0 f1 f3 f4 f5⟩
 self:=λ_ _ _ _ _ st h=>wpAny_pyIter_striter_wide st.2 h
section
variable{X:Cx}{Xw:Nat->Hp->Prop}{tg a b e l o:Expr}{δ δo:DE}{δs:DA}{p T0 aV:Pos}
def Sq(tl:TE):TI:=λσ H R=>tl σ H λx H1=>∃z,x= .str z/\R (Qv z) H1
theorem Ng{tl:TE}(hl:PE X l tl):PI X tg l (Sq tl):=by
 intro f8 s σ H R I h;refine b_ (hl f8 s σ H _ I h) λv s1 ⟨x,H1,I1,r1,q1⟩=>?_;obtain⟨z,e,q⟩:=q1;subst e;obtain⟨t,rfl⟩:=r1;have fp:∀b∈[s1.heap.objs.size],tJ X f8 H1 b:=λb hb=>by
  have e:b=s1.heap.objs.size:=by simpa using hb
  subst e;exact I1.fpOk (XM _) (I1.hok.fresh (XM _))
 cases ha:z.cps.all (· <128)
 ·exact wpAny_pyIter_wide ha ⟨s1.heap.objs.size,[s1.heap.objs.size],_,_,H1,rfl,I1.kept (t':=s1.toks) λb o e=>XJ _ e,Eb _ z t,⟨Ys _,_,X8 _ rfl,rfl,rfl⟩,fp,q⟩
 ·exact wpAny_pyIter_ascii ha ⟨s1.heap.objs.size,[s1.heap.objs.size],_,_,H1,rfl,I1.kept (t':=s1.toks) λb o e=>XJ _ e,Ea _ z t,⟨Ys _,_,X8 _ rfl,rfl,rfl⟩,fp,q⟩
def signs(x:Str):List D:=x.cps.toList.map λc=>D.str ⟨#[c]⟩
def NC:D->M (List D)
 | .str x=>ae (signs x)
 |_=>ag
theorem IZ{K:XO}{F:Hp}(x:Str):ItD K F (Qv x) (signs x):=λF' H' i s1 s2=>by
 refine⟨λd e=>?_,λhl=>show x.cps.size<=i by simpa[signs] using hl⟩;unfold signs at e;rw[XX] at e;cases q:x.cps.toList[i]? with
 |none=>rw[q] at e;cases e
 |some c=>
  rw[q] at e;cases e;have hi:i<x.cps.size:=by
   have:=(XI.mp q).1;simpa using this
  refine⟨hi,λv H'' y=>?_⟩;obtain⟨e2,c',Fs,rfl⟩:=y;subst e2;have:c'=c:=by
   have q':x.cps[i]? =some c:=by simpa using q
   rw[q'] at Fs;exact(Yn Fs).symm
  subst this;exact⟨F',Ext.refl s2,rfl,by show 1<=lim;decide⟩
theorem JA(h:PD X Xw l δ):zN X Xw tg l (λρ=>δ ρ>>=NC):=PI.weak (Ng h) λσ H R ⟨F,ρ,s,w⟩=>by
 refine⟨F,ρ,s,WP.mono (WPI.bind w) λv H1 ⟨F1,d,e1,q1,w1⟩=>?_⟩;cases d with
 |str z=>exact⟨z,q1.1,w1 _ _ _ (Ext.refl e1.fh) (IZ z)⟩
 |_=>exact w1.elim
def Ms:Value->Bool
 | .bool b=>b
 |_=>false
theorem E_{A:Yy}{s:XD}{bs:List Bool}:∀y,y∈(bs.map Z7).toArray->EqAt A s y (.bool true) (Ms y):=λy hy=>by
 have hy:y∈bs.map Z7:=by simpa using hy
 obtain⟨b,_,rfl⟩:=XS.mp hy;have:=EqAt.bool_bool (A:=A) (s:=s) b true;cases b<;>exact this
def z0:D->List D->M D
 | .lst ds,[.bl true]=>match bools ds with | some bs=>ae (.int (bs.count true)) | none=>ag
 |_,_=>ag
def Ml:D->List D->M D
 | .lst ds,[.bl true]=>match bools ds with
   |some bs=>if bs.contains true then ae (.int (bs.idxOf true)) else ag
   |none=>ag
 |_,_=>ag
theorem xY:∀bs:List Bool,(bs.map Z7).countP Ms=bs.count true
 |[]=>rfl
 |b::bs=>by
  rw[XN,List.countP_cons,xY bs,List.count_cons];cases b<;>rfl
def SN:V->List V->Hp->VK->Prop:=λx vs H Q=>∃(a:Addr) (bs:List Bool),x= .ref a/\vs=[.bl true]/\H a=some (.lst (bs.map V.bl))/\Q (.int (bs.count true)) H
def SO:V->List V->Hp->VK->Prop:=λx vs H Q=>∃(a:Addr) (bs:List Bool),x= .ref a/\vs=[.bl true]/\H a=some (.lst (bs.map V.bl))/\bs.contains true=true/\Q (.int (bs.idxOf true)) H
theorem MI:Od X "list.count" SN:=by
 intro f8 s σ H x vs v us Q I rx rv h;obtain⟨a,bs,rfl,rfl,hH,q⟩:=h;cases rx;obtain⟨u,rfl,r1⟩:=rv.one;cases (show u=_ from r1);obtain⟨z,aK,n,r,hl,e⟩:=I.lstM hH;obtain rfl:=qy r;refine ab0 F.slot_list_count ⟨_,e,rfl⟩ F.entry_list_count (F.args_list_count_2 _ _) (list_countAt a _ n none #[] (.bool true) Ms) ⟨e,E_,?_⟩;have ec:((bs.map Z7).toArray.toList.countP Ms)=bs.count true:=xY bs;rw[ec];exact⟨.int (bs.count true),H,I.tok _,⟨_,rfl⟩,q⟩
theorem MJ:Od X "list.index" SO:=by
 intro f8 s σ H x vs v us Q I rx rv h;obtain⟨a,bs,rfl,rfl,hH,hc,q⟩:=h;cases rx;obtain⟨u,rfl,r1⟩:=rv.one;cases (show u=_ from r1);obtain⟨z,aK,n,r,hl,e⟩:=I.lstM hH;obtain rfl:=qy r;have hm:true∈bs:=by simpa using hc
 have dG:bs.idxOf true<bs.length:=List.idxOf_lt_length_iff.mpr hm;have hz:bs.length<=X6:=by simpa using z
 have hs:X6=16777216:=Zx;refine ab0 F.slot_list_index ⟨_,e,rfl⟩ F.entry_list_index (F.args_list_index_2 _ _) (list_indexAt a _ n none #[] (.bool true) Ms (bs.idxOf true) (by simpa using dG) (by omega) ?_ ?_) ⟨e,E_,?_⟩
 ·have:bs[bs.idxOf true]=true:=List.getElem_idxOf dG;simp[Ms,this]
 ·intro m VZ IM;have HV:m<bs.length:=by simpa using VZ
  have:bs[m]≠true:=λz=>by
   have:=List.not_of_lt_findIdx (p:=(· ==true)) (xs:=bs) (i:=m) IM;rw[z] at this;simp at this
  simp[Ms];simpa using this
 ·exact⟨.int (bs.idxOf true),H,I.tok _,⟨_,rfl⟩,q⟩
theorem MW(ho:PD X Xw o δo)(ha:gQ X Xw [e] δs)(iq:ZZ o "count" X.env (eval o X.env)=eval o X.env:=by rfl)
 (nQ:((ZI aV (X2 [e] X.env)).all (λx=>!x.1)&&(abG aV (aav [] X.env)).all (λx=>x.1.isSome)&&decide ([e].length+([]:List aap).length+(if ([]:List aap).isEmpty then 0 else 1)<30))=true:=by rfl)
 (iu:(T0.endLine==aV.line)=true:=by rfl)(vO:X2 [e] X.env=[(false,eval e X.env)]:=by rfl):PD X Xw (.Call (.Attribute o "count" T0) [e] [] aV) (dM mh z0 δo δs):=
 GJ aal PySem.F.slot_list_count PySem.F.type_list_count MI yq (λXw F H x vs d ds Q s hx hv w=>by
  unfold z0 at w;split at w
  ·rename_i ds;obtain⟨v,rfl,h1⟩:=hv.one;cases (show _=_ from h1);obtain⟨a,ws,rfl,h2,h3,_⟩:=hx;split at w
   ·rename_i bs hb;exact⟨a,bs,rfl,rfl,by rw[<-ku hb h3];exact s _ _ h2,WP.now w s rfl⟩
   ·exact w.elim
  ·exact w.elim) ho ha iq nQ iu vO rfl
theorem MX(ho:PD X Xw o δo)(ha:gQ X Xw [e] δs)(iq:ZZ o "index" X.env (eval o X.env)=eval o X.env:=by rfl)
 (nQ:((ZI aV (X2 [e] X.env)).all (λx=>!x.1)&&(abG aV (aav [] X.env)).all (λx=>x.1.isSome)&&decide ([e].length+([]:List aap).length+(if ([]:List aap).isEmpty then 0 else 1)<30))=true:=by rfl)
 (iu:(T0.endLine==aV.line)=true:=by rfl)(vO:X2 [e] X.env=[(false,eval e X.env)]:=by rfl):PD X Xw (.Call (.Attribute o "index" T0) [e] [] aV) (dM mh Ml δo δs):=
 GJ aal PySem.F.slot_list_index PySem.F.type_list_index MJ yq (λXw F H x vs d ds Q s hx hv w=>by
  unfold Ml at w;split at w
  ·rename_i ds;obtain⟨v,rfl,h1⟩:=hv.one;cases (show _=_ from h1);obtain⟨a,ws,rfl,h2,h3,_⟩:=hx;split at w
   ·rename_i bs hb;split at w
    ·rename_i hc;exact⟨a,bs,rfl,rfl,by rw[<-ku hb h3];exact s _ _ h2,hc,WP.now w s rfl⟩
    ·exact w.elim
   ·exact w.elim
  ·exact w.elim) ho ha iq nQ iu vO rfl
end
end L3
namespace L3
open PySem PySem.Spec L2 SeqAt HT
open PyProof.Rows hiding St
open PySem.W (Frag Looks InstAt findIn mroIn)
open PySem.Builtin PySem.Builtin.ObjectAttr PySem.Builtin.Getset_descriptor
section
variable{prog:Yd}{w:World}{A:Yy}{E:Value->XD->Prop}{h:Heap}{g:Array ad5}{d:Drawn}{t:Nat}{os:OsState}{x D:Addr}{ox:Obj}{K:Frag}
theorem zZ{tp:Value}{R:Result->XD->Prop}(X:K.In h)(hx:h.get? x=some ox)(hc:ox.cls= .ref D)(hm:mroIn K D (.type "object")=some true)
 (hq:R (.ok (.ret (.ref D))) ⟨h,g,d,t,os⟩):abm (model prog w) A (.call (.builtin "getset_descriptor.__get__") ⟨[.builtin "object.__class__", .ref x,tp],[]⟩) R ⟨h,g,d,t,os⟩:=by
 have L0:Looks (model prog w) h (typeOf (.ref x)) (.ref D):=hc▸(Looks.ld hx).andThen .now;have L1:=adi (M:=model prog w) X hm;refine ab5 PySem.W.KF.slot_gs.plain PySem.W.KF.entry_gs (PySem.W.KF.slot_gs.check _ _ _ _ _ _ _ _ PySem.W.KF.type_class (PySem.W.KF.args_gs _ _ _) ?_);unfold aaF.«getset_descriptor.__get__» descrGet;rw[PySem.W.dga_obj];refine Xy (XE ?_);unfold descrGetter descrCheckInstance descrNameAndClass isInstance;simp only[PySem.W.KF.owner_class]
 repeat lk
 refine⟨ad7 _ (by decide+kernel),aa_ PySem.W.KF.entry_class ?_⟩;unfold aaF.«object.__class__» shownTypeOf
 repeat lk
 exact hq
theorem pW{tk:Tok}{Q:PySem.Fin->XD->Prop}(X:K.In h)(hx:h.get? x=some ox)(hc:ox.cls= .ref D)(ha:findIn K (.ref D) "__class__"=some (some (.builtin "object.__class__")))(hm:mroIn K D (.type "object")=some true)
 (hq:Q (.done (.ret (.ref D))) ⟨h,g,d,t,os⟩):wpAny (model prog w) A (aaF.«object.__getattribute__» ⟨[.ref x, .str "__class__" tk],[]⟩) Q E ⟨h,g,d,t,os⟩:=by
 have Xj:(⟨h,g,d,t,os⟩:XD).TypeIs (.builtin "object.__class__") "getset_descriptor":=ad6;have f5:=ad6;have f6:=F.slot_gs_get.lookup;have f7:=F.slot_gs_set.lookup;have LC:Looks (model prog w) h (adL (.ref D) "__class__") (some (.builtin "object.__class__")):=aby X ha
 repeat (any_goals (first | assumption | (with_reducible refine acN hx ?_;rw[hc]) | with_reducible refine LC.at ?_ | wp_step))
 exact zZ X hx hc hm (XE hq)
theorem vD{M:Model}{KP:Value}{Q:Unit->XD->Prop}(X:K.In h)(hx:h.get? x=some ox)(hc:ox.cls= .ref D)(hb:mroIn K D (.type "BaseException")=some true)(hq:Q () ⟨h,g,d,t,os⟩):
 wpAny M A (ac3 "BaseException.__getattribute__" ⟨[.ref x,KP],[]⟩) Q E ⟨h,g,d,t,os⟩:=by
 have hk:builtinKind "BaseException.__getattribute__"=some .slot:=by decide+kernel
 have Mk:splitId "BaseException.__getattribute__"=some ("BaseException","__getattribute__"):=by decide+kernel
 have LB:Looks M h (isSubtype (.ref D) (.type "BaseException")) true:=adi X hb;have ha:=F.args_bexc_ga (.ref x) KP;simp only[ac3,hk,Mk];refine Xy ?_
 ·unfold isInstance
  repeat (first | (with_reducible refine acN hx ?_;rw[hc]) | with_reducible refine LB.at ?_ | wp_step)
  exact hq
theorem qR{tk:Tok}{R:Result->XD->Prop}(X:K.In h)(hx:h.get? x=some ox)(hc:ox.cls= .ref D)(ha:findIn K (.ref D) "__class__"=some (some (.builtin "object.__class__")))(hm:mroIn K D (.type "object")=some true)(hb:mroIn K D (.type "BaseException")=some true)
 (hq:R (.ok (.ret (.ref D))) ⟨h,g,d,t,os⟩):abm (model prog w) A (.call (.builtin "BaseException.__getattribute__") ⟨[.ref x, .str "__class__" tk],[]⟩) R ⟨h,g,d,t,os⟩:=
 ab5 (by decide+kernel) F.entry_bexc_ga (vD X hx hc hb (pW X hx hc ha hm hq))
theorem qQ{Q:Option Value->XD->Prop}(X:K.In h)(hx:h.get? x=some ox)(hc:ox.cls= .ref D)(VB:findIn K (.ref D) "__getattribute__"=some (some (.builtin "BaseException.__getattribute__")))(VG:findIn K (.ref D) "__getattr__"=some none)
 (ha:findIn K (.ref D) "__class__"=some (some (.builtin "object.__class__")))(hm:mroIn K D (.type "object")=some true)(hb:mroIn K D (.type "BaseException")=some true)
 (hq:Q (some (.ref D)) ⟨h,g,d,t+1,os⟩):wpAny (model prog w) A (getAttr? (.ref x) "__class__") Q E ⟨h,g,d,t,os⟩:=by
 have LG:Looks (model prog w) h (adL (.ref D) "__getattribute__") (some (.builtin "BaseException.__getattribute__")):=aby X VB;have LH:Looks (model prog w) h (adL (.ref D) "__getattr__") none:=aby X VG;have Sm:(aaM "BaseException.__getattribute__"==aaM "object.__getattribute__")=false:=by decide+kernel
 have Um:(onTheHeap (Ye D)&&aaM "BaseException.__getattribute__"==aaM "object.__getattribute__")=false:=by rw[Sm];rfl
 have f3:=PySem.F.excAttr_ValueError.ga.bind (.ref x);unfold getAttr? getAttrBy?
 repeat (any_goals (first | assumption | (with_reducible refine acN hx ?_;rw[hc]) | with_reducible refine LG.at ?_ | with_reducible refine LH.at ?_ | wp_step))
 refine qR X hx hc ha hm hb ?_
 repeat (any_goals (first | assumption | wp_step))
structure ExcC (K:Frag) (D:Addr):Prop where
 ga:findIn K (.ref D) "__getattribute__"=some (some (.builtin "BaseException.__getattribute__"))
 gt:findIn K (.ref D) "__getattr__"=some none
 ca:findIn K (.ref D) "__class__"=some (some (.builtin "object.__class__"))
 mo:mroIn K D (.type "object")=some true
 mb:mroIn K D (.type "BaseException")=some true
 cl:(aak K D).isSome=true
theorem yt(c:ExcC K D):PySem.W.KitX K (.ref x) (.ref D) (λh=>∃ox,h.get? x=some ox/\ox.cls= .ref D) where
 ty:=λ_ _ _ ⟨_,hx,hc⟩=>hc▸(Looks.ld hx).andThen .now
 it:=λ_ _ X _=>by
  obtain⟨UT,LY⟩:=YN.mp c.cl;unfold aak at LY;split at LY
  ·rename_i c' d' US J1 ho;intro A' Q' E' s' k q;unfold isType loadHead;exact Xy (wpAny_loadPart (k _ _ (X _ _ ho)) (XE q))
  ·cases LY
 ne:=λh tp dd aK n sl X Ww=>by
  obtain⟨UT,LY⟩:=YN.mp c.cl;refine aef.mpr λq=>?_;have e:D=tp:=ad0 (beq_iff_eq.mp q);subst e;unfold aak at LY;split at LY
  ·rename_i c' d' US J1 ho;have z:=(X _ _ ho).symm.trans Ww;cases z
  ·cases LY
 ca:=λ{_ _ _ _ _ s} X ⟨_,hx,hc⟩ k=>by
  obtain⟨hh,g,d,t,os⟩:=s;exact qQ X hx hc c.ga c.gt c.ca c.mo c.mb k
end
section
variable{X:Cx}{Xw:Nat->Hp->Prop}{e e2:Expr}{δs:DA}{pos p:Pos}
def SQ(K:Frag):List V->Hp->VK->Prop:=λxs H Q=>∃ea C D b,xs=[.ref ea, .ref D]/\H ea=some (Ld ea C)/\ExcC K C/\X3 K (.ref C) (.ref D)=some b/\Q (.bl b) H
def P5(K:Frag):List V->Hp->VK->Prop:=λxs H Q=>∃ea C T b,xs=[.ref ea, .ty T]/\H ea=some (Ld ea C)/\ExcC K C/\X3 K (.ref C) (.type T)=some b/\Q (.bl b) H
theorem EM:CallR X (.builtin "isinstance") (SQ X.K):=by
 intro f8 s σ H xs us Q I r h;obtain⟨ea,C,D,b,rfl,hH,hc,e,q⟩:=h;obtain⟨u,w',rfl,r1,r2⟩:=vals2 r;cases (show u=_ from r1);cases (show w'=_ from r2);obtain⟨hx,_,_⟩:=I.hok ea _ hH;exact YQ (yt hc) I.kIn hx e (λz=>nomatch z) λtk=>⟨.bl b,H,I.tok tk,rfl,q⟩
theorem CM:CallR X (.builtin "isinstance") (P5 X.K):=by
 intro f8 s σ H xs us Q I r h;obtain⟨ea,C,D,b,rfl,hH,hc,e,q⟩:=h;obtain⟨u,w',rfl,r1,r2⟩:=vals2 r;cases (show u=_ from r1);cases (show w'=_ from r2);obtain⟨hx,_,_⟩:=I.hok ea _ hH;exact YQ (yt hc) I.kIn hx e (λz=>nomatch z) λtk=>⟨.bl b,H,I.tok tk,rfl,q⟩
def vU(K:Frag)(cs:List Addr):List D->M D
 |[.exc C, .raw (.ref D)]=>if C∈cs then(match X3 K (.ref C) (.ref D) with | some b=>ae (.bl b) | none=>ag) else ag
 |[.exc C, .raw (.ty T)]=>if C∈cs then(match X3 K (.ref C) (.type T) with | some b=>ae (.bl b) | none=>ag) else ag
 |_=>ag
theorem sD{cs:List Addr}(TY:∀C∈cs,ExcC X.K C)(hg:Gl X "isinstance")(hm:X.mg "isinstance"=none)(hb:YJ "isinstance"=some (.builtin "isinstance"))(ha:gQ X Xw [e,e2] δs)(he:X2 [e,e2] X.env=(false,eval e X.env)::X2 [e2] X.env:=by rfl)
 (kX:(ZI pos (X2 [e2] X.env)).any (·.1)=false:=by rfl):PD X Xw (.Call (.Name "isinstance" p) [e,e2] [] pos) (dA (vU X.K cs) δs):=
 fK (EM.or CM) (λXw F H vs ds Q s h w=>by
  unfold vU at w;split at w
  ·rename_i C D;obtain⟨v,v',rfl,h1,h2⟩:=h.two;cases (show _=_ from h2);obtain⟨ea,rfl,h3⟩:=h1;split at w
   ·rename_i hC;split at w
    ·rename_i b hb;exact .inl ⟨ea,C,D,b,rfl,s _ _ h3,TY C hC,hb,WP.now w s rfl⟩
    ·exact w.elim
   ·exact w.elim
  ·rename_i C T;obtain⟨v,v',rfl,h1,h2⟩:=h.two;cases (show _=_ from h2);obtain⟨ea,rfl,h3⟩:=h1;split at w
   ·rename_i hC;split at w
    ·rename_i b hb;exact .inr ⟨ea,C,T,b,rfl,s _ _ h3,TY C hC,hb,WP.now w s rfl⟩
    ·exact w.elim
   ·exact w.elim
  ·exact w.elim) hg hm hb ha (by decide) (by decide) he kX
end
end L3
namespace L3
open PySem PySem.Spec L2 SeqAt HT
open PyProof.Rows hiding St
open PySem.W (Frag Looks findIn mroIn)
theorem vT{ea C:Addr}{h1 h2:Heap}(x:Bd h1 ea C)(k:∀o,h1.get? ea=some o->h2.get? ea=some o):Bd h2 ea C:=
 let ⟨ox,a,b⟩:=x
 ⟨ox,k ox a,b⟩
def Hj(τ:DS)(hd:Nat->M D):DS:=λρ=>match τ ρ with
 |some (.ex n)=>hd n>>=λd=>ae (.rt d)
 |r=>r
abbrev rB(X:Cx)(pn:List (Addr×Obj))(E:Value->XD->Prop):Cx:={X with pn:=pn,xe:=E}
abbrev kF(X:Cx)(ea:Addr)(E:Value->XD->Prop):Cx:={X with A:=X.A.mark (some (.ref ea)),calm:=false,xe:=E}
section
variable{X:Cx}{f8 pn:List (Addr×Obj)}{σ:St}{H:Hp}{s:XD}{E:Value->XD->Prop}{ea:Addr}
theorem Gw(ok:X.Ok):(rB X pn E).Ok:=⟨ok.mod,ok.kind,ok.glob,ok.blt,ok.above,ok.inj,ok.has,ok.cab,ok.hd,ok.frames,ok.stk,ok.exf,ok.bs,ok.bsz,ok.noex,ok.exfs,ok.funs,ok.frf⟩
theorem Dg(I:Inv X f8 σ H s)(hp:X.pn=[]):Inv (rB X f8 E) [] σ H s:=
 ⟨Gw I.ok,I.os,I.bare,I.base,I.loc,I.cell,I.free,I.freeC,λp q=>I.pin p (by rw[hp];rw[YF] at q;exact q),I.hok,I.len⟩
theorem DD(ok:(rB X pn E).Ok):X.Ok:=⟨ok.mod,ok.kind,ok.glob,ok.blt,ok.above,ok.inj,ok.has,ok.cab,ok.hd,ok.frames,ok.stk,ok.exf,ok.bs,ok.bsz,ok.noex,ok.exfs,ok.funs,ok.frf⟩
theorem gF{yX:List (Addr×Obj)}(I:Inv (rB X f8 E) yX σ H s)(hp:X.pn=[]):Inv X f8 σ H s:=
 ⟨DD I.ok,I.os,I.bare,I.base,I.loc,I.cell,I.free,I.freeC,λp q=>I.pin p (by rw[hp] at q;exact Zm _ q),I.hok,I.len⟩
theorem jH(I:Inv X f8 σ H s):Inv (kF X ea E) f8 σ H s:=
 ⟨⟨I.ok.mod,I.ok.kind,I.ok.glob,I.ok.blt,I.ok.above,I.ok.inj,I.ok.has,I.ok.cab,λz=>(by cases z),I.ok.frames,I.ok.stk,I.ok.exf,I.ok.bs,I.ok.bsz,I.ok.noex,I.ok.exfs,I.ok.funs,I.ok.frf⟩,I.os,I.bare,I.base,I.loc,I.cell,I.free,I.freeC,I.pin,I.hok,I.len⟩
theorem vR(I:Inv (kF X ea E) f8 σ H s)(hd:X.calm=true->X.A.handled=none)(Ej:X.A.frames=some X.stack):Inv X f8 σ H s:=
 ⟨⟨I.ok.mod,I.ok.kind,I.ok.glob,I.ok.blt,I.ok.above,I.ok.inj,I.ok.has,I.ok.cab,hd,Ej,I.ok.stk,I.ok.exf,I.ok.bs,I.ok.bsz,I.ok.noex,I.ok.exfs,I.ok.funs,I.ok.frf⟩,I.os,I.bare,I.base,I.loc,I.cell,I.free,I.freeC,I.pin,I.hok,I.len⟩
theorem Ak{h':Heap}{m':Str->Option Value}{tk:Nat}(I:Inv X f8 σ H s)(vN:Ze X.env.locals s.heap h')(hn:h'.Ns X.env.locals m'):Inv X f8 (σ.map λ_=>none) H {s with heap:=h',toks:=tk}:=by
 have N4:∀b o,X.aer.heap.get? b=some o->b≠X.env.locals:=λb o e=>Yj (Yw (XY e) I.ok.above);refine⟨I.ok,I.os,I.bare,⟨λb o e n hb hx=>?_,λb o e n hb hx=>?_,I.base.free,λb o e hx=>?_,I.base.tups,I.base.frzs,I.base.tbls⟩,⟨m',hn,λi x v h1 h2 h3=>?_⟩,λx c e=>?_,I.free,I.freeC,λp hp=>?_,zh I.hok vN I.free,by rw[XB];exact I.len⟩
 ·exact(vN.2 b (N4 b o e)).trans (I.base.keep b o e n hb hx)
 ·obtain⟨sl,q⟩:=I.base.slot b o e n hb hx;exact⟨sl,(vN.2 b (N4 b o e)).trans q⟩
 ·obtain⟨o',q⟩:=I.base.there b o e hx;exact⟨o',(vN.2 b (N4 b o e)).trans q⟩
 ·rw[XX] at h2;cases q:σ[i]? with
  |none=>rw[q] at h2;cases h2
  |some z=>rw[q] at h2;cases h2
 ·obtain⟨v,q⟩:=I.cell x c e;exact⟨v,q.sameBut vN (I.cne x c e)⟩
 ·obtain⟨e,n,ne,nf,d⟩:=I.pin p hp;exact⟨(vN.2 p.1 ne).trans e,n,ne,nf,d⟩
theorem Dh{a:Addr}{o:HO}(I:Inv X f8 σ H s)(hn:H a=none)(h0:X.aer.heap.get? a=none)(hl:a≠X.env.locals)(hc:∀x c,X.env.cells.lookup x=some c->c≠a)(hp:∀p∈X.pn++f8,p.1≠a)(ho:ObjOk X.prog X.w (upd H a o) s.heap a o):
 Inv X f8 σ (upd H a o) s:=by
 have ne:∀b u,H b=some u->b≠a:=λb u e=>bp e hn;have WV:∀b u,X.aer.heap.get? b=some u->b≠a:=λb u e z=>by rw[z,h0] at e;cases e
 refine⟨I.ok,I.os,I.bare,⟨I.base.keep,I.base.slot,λb u e n hx=>?_,I.base.there,λb xs e=>?_,λb u xs e=>?_,λb ps e=>?_⟩,I.loc,I.cell,?_,λx c e=>?_,λp q=>?_,λb u e=>?_,I.len⟩
 ·rw[az (WV b u e)];exact I.base.free b u e n hx
 ·have q:=I.base.tups b xs e;rw[az (ne b _ q)];exact q
 ·have q:=I.base.frzs b u xs e;rw[az (ne b _ q)];exact q
 ·obtain⟨more,q⟩:=I.base.tbls b ps e;exact⟨more,by rw[az (ne b _ q)];exact q⟩
 ·rw[az (YG hl)];exact I.free
 ·rw[az (hc x c e)];exact I.freeC x c e
 ·obtain⟨e,n,r1,r2,d⟩:=I.pin p q;exact⟨e,by rw[az (hp p q)];exact n,r1,r2,d⟩
 ·by_cases hb:b=a
  ·subst hb;rw[aG] at e;cases e;exact ho
  ·rw[az hb] at e;exact(I.hok b u e).stay (λ_ _ _ q=>q) (λc q=>by rw[az (ne c _ q)];exact q) λc xs q=>by rw[az (ne c _ q)];exact q
end
section
variable{P:Yd}{w:World}{K:XO}{mg:Str->Option Value}{base:Heap}{N:List Str}{qual:Str}{scope:Scope}{f:Addr}{cd:Value}{A:Yy}{outer:List Env}{aer:XD}{aeq:Hp}{E:XK}{cv:Nat->Value}
theorem JM{Xw:Nat->Hp->Prop}{body HA:List Stmt}{b₀:Stmt}{x n:Str}{np O8 pos:Pos}{i:Nat}{Cp:Addr}{τb τh:DS}{hd:Nat->M D}{cA:Nat->Addr}
 (ON:∀k,cv k= .ref (cA k))(hN:(aY (cQ P w cv) P w K mg base N qual scope f cd A outer aer aeq E).N.Nodup)(hi:(aY (cQ P w cv) P w K mg base N qual scope f cd A outer aer aeq E).N[i]? =some n)(Ah:(aY (cQ P w cv) P w K mg base N qual scope f cd A outer aer aeq E).env.scope.names.lookup n=some .local)(hg:Gl (aY (cQ P w cv) P w K mg base N qual scope f cd A outer aer aeq E) x)(hm:mg x=some (.ref Cp))(hex:∀k,aaW K (cv k) (.ref Cp)=some true)
 (hb:∀(pn:List (Addr×Obj)) (Ec:Value->XD->Prop) (Xw':Nat->Hp->Prop),Passes (cQ P w cv) (rB (aY (cQ P w cv) P w K mg base N qual scope f cd A outer aer aeq E) pn Ec) (EX cv Xw')->PSDs (rB (aY (cQ P w cv) P w K mg base N qual scope f cd A outer aer aeq E) pn Ec) Xw' body τb)
 (hs:∀ea,PSDs (kF (aY (cQ P w cv) P w K mg base N qual scope f cd A outer aer aeq E) ea λ_ _=>False) (λ_ _=>False) (b₀::HA) τh)(hh:∀(k:Nat) (ρ:aX),ρ.length=N.length->ρ[i]? =some (some (.fz (.exc (cA k))))->τh ρ=(hd k>>=λd=>ae (.rt d)))
 (md:(x==("__debug__":Str))=false:=by decide):
 iO (aY (cQ P w cv) P w K mg base N qual scope f cd A outer aer aeq E) Xw (.Try body [.ExceptHandler (some (.Name x np)) (some n) (b₀::HA) O8] [] [] pos) (Hj τb λk=>noex (hd k)):=λG₀ J₀ f8 s σ H D I ⟨F,ρ,S,wq⟩=>by
 have vP:h7 (aY (cQ P w cv) P w K mg base N qual scope f cd A outer aer aeq E).stack=aer.heap.objs.size::h7 outer:=rfl;have pass:Passes (cQ P w cv) (rB (aY (cQ P w cv) P w K mg base N qual scope f cd A outer aer aeq E) f8 λe P3=>wpAny (model P w) (aY (cQ P w cv) P w K mg base N qual scope f cd A outer aer aeq E).A (noteFrame e (aY (cQ P w cv) P w K mg base N qual scope f cd A outer aer aeq E).env) (λ_ v6=>wpAny (model P w) (aY (cQ P w cv) P w K mg base N qual scope f cd A outer aer aeq E).A (setFlight e none) (λ_ s₃=>wpAny (model P w) (aY (cQ P w cv) P w K mg base N qual scope f cd A outer aer aeq E).A (handleBy e (aY (cQ P w cv) P w K mg base N qual scope f cd A outer aer aeq E).env [.ExceptHandler (some (.Name x np)) (some n) (b₀::HA) O8]) (SP (aY (cQ P w cv) P w K mg base N qual scope f cd A outer aer aeq E) f8 D) (aY (cQ P w cv) P w K mg base N qual scope f cd A outer aer aeq E).xe s₃) (aY (cQ P w cv) P w K mg base N qual scope f cd A outer aer aeq E).xe v6) (aY (cQ P w cv) P w K mg base N qual scope f cd A outer aer aeq E).xe P3)
  (EX cv λk H'=>∃F',Ext G₀ J₀ F' H'/\WPS K Xw G₀ J₀ (noex (hd k)>>=λd=>ae (.rt d)) D):=by
  intro yX σ' H1 s1 e s' I1 ⟨ea,nn,a0,B,H',he,O5,VE,hok,un,CW,hB,m,QN,F',ext',w'⟩;subst he;have Ej:∀b∈h7 (aY (cQ P w cv) P w K mg base N qual scope f cd A outer aer aeq E).stack,H' b=none:=λb hb=>by
   obtain⟨_,o,ho,_⟩:=I1.stack.mem hb;exact un.free b o ho (I1.stkFree b hb) (by simp)
  have Rl:ea∉h7 (aY (cQ P w cv) P w K mg base N qual scope f cd A outer aer aeq E).stack:=λhb=>by
   obtain⟨_,o,ho,qh⟩:=CW.2.2.1.mem hb;obtain⟨oe,vs,q1,_,q2,_⟩:=CW.first;rw[q1] at ho;cases ho;exact qh vs q2
  have TB:B.get? ea=none:=CW.2.1;have vM:s1.heap.get? ea=none:=by
   cases q:s1.heap.get? ea with
   |none=>rfl
   |some o=>
    obtain⟨ob,h1,_⟩:=CW.there;have:=hB ea ob h1 (.inr (by rw[q];rfl)) Rl;rw[TB] at this;cases this
  have TH:H' ea=none:=by
   cases q:H' ea with
   |none=>rfl
   |some u=>
    obtain⟨ob,h1,_⟩:=CW.there;have:=hB ea ob h1 (.inl (by rw[q];exact λz=>nomatch z)) Rl;rw[TB] at this;cases this
  have KJ:∀h₅,B.StaysIn h₅->s'.heap.UpToSlots h₅->Inv (aY (cQ P w cv) P w K mg base N qual scope f cd A outer aer aeq E) f8 σ' H' {s' with heap:=h₅}:=λh₅ st ups=>by
   have mn:∀b o,s'.heap.get? b=some o->b∉h7 (aY (cQ P w cv) P w K mg base N qual scope f cd A outer aer aeq E).stack->(H' b≠none\/(s1.heap.get? b).isSome=true)->h₅.get? b=some o:=λb o e hb hc=>st b o (hB b o e hc hb);have Xd:Un (h7 (aY (cQ P w cv) P w K mg base N qual scope f cd A outer aer aeq E).stack) [] H1 H' s1.heap h₅:=xx un (λb o e hb hc=>mn b o e hb hc) (λb o e hb=>by
    obtain⟨_,o',me,qh⟩:=CW.2.2.1.mem hb;rw[e] at me;cases me;exact ups b o e qh)
   have R5:HOk P w H' h₅:=rq hok Ej λb o e hb hc=>mn b o e hb (.inl hc);exact gF (I1.call' (s':={s' with heap:=h₅}) (ch:=[]) O5 Xd R5 VE (λb hb=>aej hb (by simp))) rfl
  show wpAny (model P w) (aY (cQ P w cv) P w K mg base N qual scope f cd A outer aer aeq E).A (noteFrame (.ref ea) (aY (cQ P w cv) P w K mg base N qual scope f cd A outer aer aeq E).env) _ _ s';refine wpAny_looks_onW (base:=B) (outer:=outer) (L:=aer.heap.objs.size) I1.ok.frames rfl CW λh₄ OT Qs=>?_;refine wpAny_landsW OT λh₅ LO Qt=>?_;have J5:=KJ h₅ LO.1 (Qs.trans Qt);have M5:Inv (kF (aY (cQ P w cv) P w K mg base N qual scope f cd A outer aer aeq E) ea λ_ _=>False) f8 σ' H' {s' with heap:=h₅}:=jH J5;refine wpAny_handleBy_cons (codeAny_handlers_test (mr M5 hg hm ?_ md)) (by intro q;cases q);have LT:Looks (model P w) h₅ (typeOf (.ref ea)) (cv nn):=by
   obtain⟨ob,h1,h2⟩:=LO.there;exact h2▸(Looks.ld h1).andThen .now
  refine(PySem.W.exm_one M5.kIn LT (hex nn)).here ?_;refine codeAny_handlers_suite_as ?_;refine lands_againW LO λh₆ Oy Td=>?_;have J6:=KJ h₆ Oy.1 ((Qs.trans Qt).trans Td);have M6:Inv (kF (aY (cQ P w cv) P w K mg base N qual scope f cd A outer aer aeq E) ea λ_ _=>False) f8 σ' H' {s' with heap:=h₆}:=jH J6;have Dy:ea≠(aY (cQ P w cv) P w K mg base N qual scope f cd A outer aer aeq E).env.locals:=λz=>Rl (by rw[vP,z];exact XA);have KR:∀y c,(aY (cQ P w cv) P w K mg base N qual scope f cd A outer aer aeq E).env.cells.lookup y=some c->c≠ea:=λy c q z=>by
   obtain⟨v,o,ho,_⟩:=I1.cell y c q;rw[z,vM] at ho;cases ho
  refine oJ J6 hN hi (.inl Ah) (v:= .ref ea) rfl (λs7 I7 ⟨a,sb,ha⟩=>?_) (.inr Ah);have OS:Bd s7.heap ea (cA nn):=by
   obtain⟨ob,h1,h2⟩:=Oy.there;refine⟨ob,(sb.2 ea ?_).trans h1,by rw[h2,ON]⟩;rcases ha with z | z
   ·rw[z];exact Dy
   ·exact YG (KR n a z)
  have h0:aer.heap.get? ea=none:=by
   cases q:aer.heap.get? ea with
   |none=>rfl
   |some o=>
    obtain⟨o',q'⟩:=I1.base.there ea o q (λz=>aej (show ea∈([]:List Addr) from z) (by simp));rw[vM] at q';cases q'
  have I8:Inv (kF (aY (cQ P w cv) P w K mg base N qual scope f cd A outer aer aeq E) ea λ_ _=>False) f8 (σ'.set i (some (.ref ea))) (upd H' ea (Ld ea (cA nn))) s7:=
   Dh (jH I7) TH h0 Dy KR (λp q z=>by
    have hp:=I1.pin p (Zm _ (show p∈f8 from q));rw[z,vM] at hp;cases hp.1) ⟨OS,(by obtain⟨ox,h1,_⟩:=OS;exact⟨ox,h1⟩),λh1 h2 hx k=>vT hx k⟩
  have hlen:σ'.length=N.length:=I1.len;have NX:i<σ'.length:=by rw[hlen];exact(XI.mp hi).1
  have eL:=Ext.lay (o:=Ld ea (cA nn)) ext'.fh TH;have hρ:((XT σ'.length none).set i (some (Sl.fz (.exc (cA nn)))))[i]? =some (some (.fz (.exc (cA nn)))):=X1 (by simpa using NX);have only:∀(j:Nat) (sl:Sl),((XT σ'.length (none:Option Sl)).set i (some (Sl.fz (.exc (cA nn)))))[j]? =some (some sl)->j=i/\sl= .fz (.exc (cA nn)):=λj sl e=>by
   by_cases hj:j=i
   ·subst hj;rw[hρ] at e;cases e;exact⟨rfl,rfl⟩
   ·rw[XQ (YG hj),Y8] at e;split at e<;>cases e
  have S8:StOk K G₀ J₀ (upd F' ea (Ld ea (cA nn))) (upd H' ea (Ld ea (cA nn))) (σ'.set i (some (.ref ea))) ((XT σ'.length none).set i (some (.fz (.exc (cA nn))))):=by
   refine⟨ext'.trans eL,⟨eL.fh,λj sl e=>?_⟩,by simp,λj c a e=>?_,λj k c c' a e=>?_⟩
   ·obtain⟨rfl,rfl⟩:=only j sl e;exact⟨.ref ea,X1 NX,ea,rfl,aG⟩
   ·obtain⟨_,z⟩:=only j _ e;cases z
   ·obtain⟨_,z⟩:=only j _ e;cases z
  have Rz:cA m=cA nn:=by
   have:=QN;rw[ON,ON] at this;exact(ad0 this).symm
  have w8:WPS K (λ_ _=>False) G₀ J₀ (τh ((XT σ'.length none).set i (some (.fz (.exc (cA nn)))))) {nx:=λ_ _=>False,rt:=D.rt}:=by
   rw[hh m _ (by simpa using hlen) (by rw[Rz];exact hρ)];rcases(hd m).cs with q | ⟨k,q⟩ | ⟨d,q⟩
   ·rw[q] at w';exact w'.elim
   ·rw[q] at w';exact w'.elim
   ·rw[q] at w'⊢;exact w'
  refine YV (hs ea G₀ J₀ f8 s7 _ _ {nx:=λ_ _=>False,rt:=D.rt} I8 ⟨_,_,S8,w8⟩) (λfl s8 q8=>?_) λ_ _ z=>z.elim;cases fl with
  |next=>obtain⟨_,_,_,z⟩:=q8;exact z.elim
  |brk=>obtain⟨_,_,_,z⟩:=q8;exact z.elim
  |cont=>obtain⟨_,_,_,z⟩:=q8;exact z.elim
  |ret u=>
   obtain⟨v,σ9,H9,I9,rv,q9⟩:=q8;have I10:Inv (aY (cQ P w cv) P w K mg base N qual scope f cd A outer aer aeq E) f8 σ9 H9 s8:=vR I9 J5.ok.hd J5.ok.frames;obtain⟨mm,QP,_⟩:=I10.loc;exact wpAny_nameGoes Ah QP (by rw[show (aY (cQ P w cv) P w K mg base N qual scope f cd A outer aer aeq E).env.scope.kind= .function from I10.ok.kind];rfl) λh' m' IP vN=>⟨v,_,H9,Ak I10 vN IP,rv,q9⟩
 have wb:WPS K (λk H'=>∃F',Ext G₀ J₀ F' H'/\WPS K Xw G₀ J₀ (noex (hd k)>>=λd=>ae (.rt d)) D) G₀ J₀ (τb ρ) D:=by
  unfold Hj at wq
  match τb ρ,wq with
  |none,wq=>exact wq
  |some (.ok (.nx ρ')),wq=>exact wq
  |some (.ok (.rt d)),wq=>exact wq
  |some (.ex k),wq=>exact λF' H' e=>⟨F',e,wq⟩
 refine wpAny_Try_except (YV (hb f8 _ _ pass G₀ J₀ [] s σ H D (Dg I rfl) ⟨F,ρ,S,wb⟩) (λfl s1 q1=>?_) λ_ _ z=>z);cases fl with
 |next=>obtain⟨σ1,H1,I1,q⟩:=q1;exact aa7 ⟨σ1,H1,gF I1 rfl,q⟩
 |brk=>obtain⟨σ1,H1,I1,q⟩:=q1;exact⟨σ1,H1,gF I1 rfl,q⟩
 |cont=>obtain⟨σ1,H1,I1,q⟩:=q1;exact⟨σ1,H1,gF I1 rfl,q⟩
 |ret u=>obtain⟨v,σ1,H1,I1,r,q⟩:=q1;exact⟨v,σ1,H1,gF I1 rfl,r,q⟩
end
end L3
namespace L3
open PySem PySem.Spec L2 SeqAt HT
open PyProof.Rows hiding St
structure RoomH (k:Nat) (A:Yy):Prop where
 dp:A.depth+3*k+5<aca
 un:A.units+16*k+200<cLine
theorem RoomH.deeper{k:Nat}{A:Yy}(r:RoomH (k+1) A)(env:Env):RoomH k (A.deeper env):=
 ⟨by have:=r.dp;show A.depth+1+3*k+5<_;omega,by have:=r.un;show A.units+3+16*k+200<_;omega⟩
theorem RoomH.of{k:Nat}{A:Yy}(r:Room k A)(v:Option Value):RoomH k (A.mark v):=⟨r.dp,r.un⟩
theorem RoomH.units{k:Nat}{A:Yy}(r:RoomH k A):A.units+64<cLine:=by have:=r.un;omega
structure FnOkH (P:Yd) (w:World) (K:XO) (mg:Str->Option Value) (base:Heap) (k:Nat) (f:Addr) (fd:ZP) (ps:List Str) (sp:Sp):Prop where
 len:∀vs H Q E,sp vs H Q E->vs.length=ps.length
 run:∀(A:Yy) (outer:List Env) (s:XD) (H:Hp) (args:Args) (us:List Value) (vs:List V) (Q:VK) (E:XK),RoomH k A->Env0 P w K mg base A outer s H->adp s fd args (ps.zip us)->Vals vs us->sp vs H Q E->
  abm (model P w) A (.call (.ref f) args) (CR N_ outer P w H s Q E) s
abbrev ux(P:Yd)(w:World)(K:XO)(mg:Str->Option Value)(base:Heap)(N:List Str)(qual:Str)(scope:Scope)(f:Addr)(cd:Value)(A:Yy)(outer:List Env)(s:XD)(H:Hp):Cx:=
 {aY N_ P w K mg base N qual scope f cd A outer s H E0 with calm:=false,xe:=λ_ _=>False}
theorem Al{P:Yd}{w:World}{K:XO}{mg:Str->Option Value}{base:Heap}{N ps:List Str}{qual:Str}{scope:Scope}{f:Addr}{cd:Value}{A:Yy}{outer:List Env}{s s1:XD}{H:Hp}{us:List Value}{vs:List V}
 (S:FnScope N ps scope)(e0:Env0 P w K mg base A outer s H)(hl:vs.length=ps.length)(r:Vals vs us)
 (x:InCallC s s.heap.objs.size (bindL (Zz qual scope s.heap.objs.size f cd).kindOf (ps.zip us) λ_=>none) (adf (s.heap.objs.size+1) scope.names []) (bindC (Zz qual scope s.heap.objs.size f cd).kindOf (ps.zip us) λ_=>none) s1):
 Inv (ux P w K mg base N qual scope f cd A outer s H) [] (L2.start N vs) H s1:=by
 have e1:Env0 P w K mg base {A with handled:=none} outer s H:=⟨e0.frames,e0.mod,e0.bs,e0.bsz,e0.funs,e0.frf,e0.hok,e0.bare⟩
 have J:=uL (CX:=N_) (E:=E0) (A:={A with handled:=none}) S rfl e1 hl r x;exact⟨⟨J.ok.mod,J.ok.kind,J.ok.glob,J.ok.blt,J.ok.above,J.ok.inj,J.ok.has,J.ok.cab,λz=>(by cases z),adq e0.frames,J.ok.stk,J.ok.exf,J.ok.bs,J.ok.bsz,J.ok.noex,J.ok.exfs,J.ok.funs,J.ok.frf⟩,J.os,J.bare,J.base,J.loc,J.cell,J.free,J.freeC,J.pin,J.hok,J.len⟩
theorem LP{P:Yd}{w:World}{K:XO}{mg:Str->Option Value}{base:Heap}{k:Nat}{f:Addr}{name qual:Str}{params:Arguments}{body:List Stmt}{scope:Scope}{dV kV doc pm bY ct oc:Value}{an od:Option Addr}
 {Em:Array (Option Value)}{N ps:List Str}{sp:Sp}(lk:K.lookup f=some ⟨oc,od, .func (Y5 name qual params body scope dV kV doc pm an bY ct),Em⟩)(rm:aad K bY qual=true)(S:FnScope N ps scope)
 (len:∀vs H Q E,sp vs H Q E->vs.length=ps.length)
 (ir:∀(A:Yy) (outer:List Env) (s:XD) (H:Hp) (vs:List V) (Q:VK) (E:XK),RoomH k (A.deeper (Zz qual scope s.heap.objs.size f bY))->sp vs H Q E->
  ∃t,PSs (ux P w K mg base N qual scope f bY A outer s H) body t/\t {nx:=λ_ H'=>Q .non H',rt:=Q} (L2.start N vs) H):
 FnOkH P w K mg base (k+1) f (Y5 name qual params body scope dV kV doc pm an bY ct) ps sp:=by
 refine⟨len,λA outer s H args us vs Q E hr e0 hb r xI=>?_⟩;have hl:=len _ _ _ _ xI;have KX:K.In s.heap:=e0.mod.kin.keeps λb o e=>(e0.bs b o e).1;have lim:s.heap.NoLimit:=e0.mod.nolimit.keeps λb o e=>(e0.bs b o e).1;have FA:∀y∈ps.zip us,scope.names.lookup y.1=some .local\/(scope.names.lookup y.1=some .cell/\((adf (s.heap.objs.size+1) scope.names []).lookup y.1).isSome=true):=λ⟨n,v⟩ hy=>by
  rcases S.par n (abC hy).1 with q | q
  ·exact .inl q
  ·exact .inr ⟨q,abe _ _ _ (.inl q)⟩
 have RD:A.depth<aca:=by have:=hr.dp;omega
 refine codeAny_call_function RD (KX _ _ lk) rfl S.co S.gen rfl (adu KX rm) (hb _ _ _ _ ?_);refine ads S.kind FA λenv he s1 x=>?_;subst he;refine⟨lim.keeps x.toInCall.keep,codeAny_func ?_⟩;obtain⟨t,ht,hq⟩:=ir A outer s H vs Q E (hr.deeper _) xI;have I:Inv (ux P w K mg base N qual scope f bY A outer s H) [] (L2.start N vs) H s1:=Al S e0 hl r x;refine YV (ht [] s1 (L2.start N vs) H _ I hq) (λfl s' hs=>?_) λe s' hs=>hs.elim;have fin:∀{σ':St}{H':Hp}{v:V}{u:Value},Inv (ux P w K mg base N qual scope f bY A outer s H) [] σ' H' s'->RelV v u->Q v H'->CE outer P w H s Q u s':=
  λ{σ' H' v u} J rv q=>⟨v,H',J.os,J.bare,J.base,J.hok,rv,q⟩
 cases fl with
 |ret u=>
  obtain⟨v,σ',H',J,rv,q⟩:=hs;exact fin J rv q
 |next=>
  obtain⟨σ',H',J,q⟩:=hs;exact fin (v:=V.non) (u:=YO) J rfl q
 |brk=>
  obtain⟨_,_,_,q⟩:=hs;exact Y_ q
 |cont=>
  obtain⟨_,_,_,q⟩:=hs;exact Y_ q
theorem Hz{K:XO}{F H:Hp}{N:List Str}{ds:List D}{vs:List V}(fh:Same F H)(hd:DenL K F ds vs):StOk K F H F H (L2.start N vs) (ds.map (λd=>some (Sl.fz d))++XT (N.length - ds.length) none):=by
 have hlen:=hd.len;have get:∀(i:Nat) (sl:Sl),(ds.map (λd=>some (Sl.fz d))++XT (N.length - ds.length) none)[i]? =some (some sl)->∃d,ds[i]? =some d/\sl= .fz d:=λi sl e=>by
  by_cases hi:i<ds.length
  ·rw[Ym (by simpa using hi),XX] at e;cases q:ds[i]? with
   |none=>rw[q] at e;cases e
   |some d=>rw[q] at e;cases e;exact⟨d,rfl,rfl⟩
  ·rw[YD (by simpa using hi),Y8] at e;split at e<;>cases e
 refine⟨Ext.refl fh,⟨fh,λi sl e=>?_⟩,?_,λi c a e=>?_,λi j c c' a e=>?_⟩
 ·obtain⟨d,q,rfl⟩:=get i sl e;obtain⟨v,e1,e2⟩:=hd.get q;have hi:=(XI.mp q).1;refine⟨v,?_,e2⟩;unfold L2.start;rw[Ym (by simp;omega),XX,e1];rfl
 ·unfold L2.start;simp[hlen]
 ·obtain⟨d,_,z⟩:=get i _ e;cases z
 ·obtain⟨d,_,z⟩:=get i _ e;cases z
section
variable{P:Yd}{w:World}{K:XO}{mg:Str->Option Value}{base:Heap}{cv:Nat->Value}
theorem OA{x qual:Str}{st:Stmt}{f:Addr}{fd:ZP}{N ps:List Str}{k:Nat}{τ:DS}(Fn:Fun K x qual st f fd)(S:FnScope N ps (ai st))
 (ir:∀(bY:Value) (A:Yy) (outer:List Env) (s:XD) (H:Hp),RoomH k (A.deeper (Zz qual (ai st) s.heap.objs.size f bY))->
  PSDs (ux P w K mg base N qual (ai st) f bY A outer s H) (λ_ _=>False) (bg st) τ):FnOkH P w K mg base (k+1) f fd ps (HZ K cv ps.length λds=>noex (bM N.length τ ds)):=by
 obtain⟨oc,od,kV,doc,pm,an,bY,ct,Em,rfl,lk,rm⟩:=Fn.ex;refine LP lk rm S (λvs H Q E ⟨_,_,_,_,hl,_⟩=>hl) λA outer s H vs Q E hr xI=>?_;obtain⟨F,ds,fh,hd,hl,hw⟩:=xI;refine⟨_,ir bY A outer s H hr F H,F,_,Hz fh hd,?_⟩;have hw:WP K (λn H'=>E (cv n) none H') F H (noex (τ (ds.map (λd=>some (Sl.fz d))++XT (N.length - ds.length) none)>>=λo=>match o with | .nx _=>ae .non | .rt d=>ae d)) Q:=hw;rcases(τ (ds.map (λd=>some (Sl.fz d))++XT (N.length - ds.length) none)).cs with e | ⟨n,e⟩ | ⟨o,e⟩
 ·rw[e] at hw;exact hw.elim
 ·rw[e] at hw;exact hw.elim
 ·rw[e] at hw⊢;cases o with
  |nx ρ'=>exact λσ' F' H' s'=>hw .non H' F' s'.ext rfl
  |rt d=>exact λv F' H' e' q=>hw v H' F' e' q
end
section
variable{X:Cx}{Xw:Nat->Hp->Prop}{cv:Nat->Value}{k m:Nat}{f:Addr}{fd:ZP}{ps:List Str}{g:List D->M D}{x:Str}{p pos:Pos}{e:Expr}{es:List Expr}{δs:DA}
theorem GK(F:FnOkH X.prog X.w X.K X.mg X.base k f fd ps (HZ X.K cv m g))(hr:RoomH k X.A)(hg:Gl X x)(hm:X.mg x=some (.ref f))(hk:Zl X.K (.ref f)=true)(hb:Binds X.K fd ps [])
 (ha:gQ X Xw (e::es) δs)(md:(x==("__debug__":Str))=false:=by decide)(he:X2 (e::es) X.env=(false,eval e X.env)::X2 es X.env:=by rfl)(kX:(ZI pos (X2 es X.env)).any (·.1)=false:=by rfl):
 PD X Xw (.Call (.Name x p) (e::es) [] pos) (λρ=>δs ρ>>=λds=>if ds.length=m then noex (g ds) else ag):=by
 intro f8 s σ H Q I ⟨Fz,ρ,S,wq⟩;refine aaa (mr I hg hm ?_ md);refine adv (h₀:=X.base) I.ok.mod.kin hk (b_ (ha pos f8 s σ H _ I ⟨Fz,ρ,S,WP.bindL wq⟩) λus s1 ⟨vs,H1,I1,r,q⟩=>⟨I1.kIn,?_⟩) he kX;obtain⟨F1,ds,e1,q1,w1⟩:=q;split at w1
 ·rename_i C_;have xI:HZ X.K cv m g vs H1 Q E0:=⟨F1,ds,e1.fh,q1,by rw[<-q1.len];exact C_,by
   rcases(g ds).cs with q | ⟨n,q⟩ | ⟨d,q⟩
   ·rw[q] at w1;exact w1.elim
   ·rw[q] at w1;exact w1.elim
   ·rw[q] at w1⊢;exact w1⟩
  have VY:us.length=ps.length:=by rw[<-r.length];exact F.len _ _ _ _ xI
  refine wpAny_call (abj (F.run X.A X.stack s1 H1 ⟨us,[]⟩ us vs Q E0 hr I1.env0 (by have:=hb s1 us I1.kIn (by rw[YF];exact VY);rwa [YF] at this) r xI) λres s' hq=>?_);cases res with
  |error e=>exact hq.elim
  |ok fl=>
   cases fl with
   |ret u=>exact I1.after hq
   |next=>exact Y_ hq
   |brk=>exact Y_ hq
   |cont=>exact Y_ hq
 ·exact w1.elim
end
def Br(N:List Str)(osc scope:Scope)(tn:List Str):Bool:=
 decide (scope.kind= .function)&&scope.names.all (λy=>decide (y.2≠ .cell))&&scope.names.all (λy=>decide (y.2= .local->scope.names.lookup y.1=some .local))&&
 scope.names.all (λy=>decide (y.2= .free->(osc.names.lookup y.1=some .cell\/osc.names.lookup y.1=some .free)))&&
 ((dF tn N).zip N).all (λp=>decide (scope.names.lookup p.1=none\/(p.1=p.2/\scope.names.lookup p.1=some .free)))
theorem bP{X:Cx}{N:List Str}{osc scope:Scope}{tn:List Str}(hN:X.N=N)(ho:X.env.scope=osc)(h:Br N osc scope tn=true):CompSc X scope tn:=by
 unfold Br at h;simp only[X5,Yh,ael] at h;obtain⟨⟨⟨⟨h1,h2⟩,h3⟩,h4⟩,h5⟩:=h;refine⟨h1,h2,h3,λy hy hf=>?_,?_⟩
 ·have:=h4 y hy hf;rw[<-ho] at this;exact this
 ·rw[hN];exact h5
theorem dz{X:Cx}{x:Str}{px:Pos}{σ:St}(hN:X.N.Nodup)(h0:X.N[0]? =some x)(Ah:X.env.scope.names.lookup x=some .local):Er X (.Name x px) 0 σ:=λf8 s σ' F H d ts v u I fh hd rv q e=>by
 have e:ae [d]=ae ts:=e;have e:=fw e;subst e;refine acO (zu I hN h0 (.inl Ah) rv (λs' I'=>⟨[v],?_, .cons q .nil⟩) (.inr Ah));have hl:0<σ'.length:=by rw[I.len];exact(XI.mp h0).1
 have:σ'.set 0 (some v)=[v].map some++σ:=by
  cases σ' with
  |nil=>simp at hl
  |cons a r=>
   have hd:r=σ:=by simpa using hd
   subst hd;rfl
 rw[<-this];exact I'
theorem b6{P:Yd}{w:World}{cv:Nat->Value}{X:Cx}:Passes (cQ P w cv) X (EX cv λ_ _=>False):=λ_ _ _ _ _ _ _ ⟨_,_,_,_,_,_,_,_,_,_,_,_,_,_,z⟩=>z.elim
def bx(K:XO)(mg:Str->Option Value)(x:Str)(st:Stmt)(f:Addr):Prop:=mg x=some (.ref f)/\∃fd,Fun K x x st f fd
def au(P:Yd)(w:World)(K:XO)(mg:Str->Option Value)(base:Heap)(cv:Nat->Value)(k:Nat)(x:Str)(m:Nat)(g:List D->M D):Prop:=
 ∃f fd ps,mg x=some (.ref f)/\Zl K (.ref f)=true/\Binds K fd ps []/\FnOk P w K mg base (cQ P w cv) k f fd ps (HZ K cv m g)
section
variable{X:Cx}{Xw:Nat->Hp->Prop}{cv:Nat->Value}{k m:Nat}{g:List D->M D}{x:Str}{p pos:Pos}{e:Expr}{es:List Expr}{δs:DA}
def aw(m:Nat)(g:List D->M D)(δs:DA):DE:=λρ=>δs ρ>>=λds=>if ds.length=m then g ds else ag
theorem bf(F:au X.prog X.w X.K X.mg X.base cv k x m g)(hr:Room k X.A)(hg:Gl X x)(hx:Passes (cQ X.prog X.w cv) X (EX cv Xw))
 (ha:gQ X Xw (e::es) δs)(hl:(e::es).length=m)(md:(x==("__debug__":Str))=false:=by decide)(he:X2 (e::es) X.env=(false,eval e X.env)::X2 es X.env:=by rfl)(kX:(ZI pos (X2 es X.env)).any (·.1)=false:=by rfl):
 PD X Xw (.Call (.Name x p) (e::es) [] pos) (aw m g δs):=by
 obtain⟨f,fd,ps,h1,h2,h3,h4⟩:=F;exact Jt h4 hr hg h1 h2 h3 hx ha hl md he kX
end
theorem aF{P:Yd}{w:World}{K:XO}{mg:Str->Option Value}{base:Heap}{cv:Nat->Value}{k:Nat}{x:Str}{st:Stmt}{f:Addr}{N ps:List Str}{τ:DS}(T:bx K mg x st f)(S:FnScope N ps (ai st))
 (QH:∀(kV doc pm:Value) (an:Option Addr) (bY ct:Value) (us:List Value),us.length=ps.length->bindArgs (Y5 x x (eF st) (bg st) (ai st) .none kV doc pm an bY ct) ⟨us,[]⟩=pure (ps.zip us))
 (ir:∀(bY:Value) (A:Yy) (outer:List Env) (s:XD) (H:Hp) (E:XK),Room k (A.deeper (Zz x (ai st) s.heap.objs.size f bY))->
  PSDs (aY (cQ P w cv) P w K mg base N x (ai st) f bY A outer s H E) (λn H'=>E (cv n) none H') (bg st) τ):au P w K mg base cv (k+1) x ps.length (bM N.length τ):=by
 obtain⟨h1,fd,Fn⟩:=T;exact⟨f,fd,ps,h1,Fn.kp,Fn.binds QH,Oz Fn S ir⟩
section
variable{X:Cx}{Xw:Nat->Hp->Prop}{a:Expr}{δ:DE}{pos:Pos}
def Gf:D->M D
 | .int i=>ae (.int (-i))
 |_=>ag
theorem AN(ha:PD X Xw a δ):PD X Xw (.UnaryOp .USub a pos) (d1 Gf δ):=PE.weak (PV NO ha) λσ H Q ⟨F,ρ,s,w⟩=>by
 refine⟨F,ρ,s,WP.mono (WP.bind w) λv H1 ⟨F1,d,e1,q,w1⟩=>?_⟩;cases d with
 |int i=>
  have q:v= .int i:=q;subst q;exact⟨i,rfl,WP.now w1 e1.fh rfl⟩
 |_=>exact w1.elim
end
section
variable{X:Cx}{Xw:Nat->Hp->Prop}{pos:Pos}
theorem Jy{x z:Str}(hg:Gl X x)(h:∃t,X.mg x=some (.str z t))(hz:z.length<=lim)(md:(x==("__debug__":Str))=false:=by decide):PD X Xw (.Name x pos) (dC (.str z)):=by
 obtain⟨t,h⟩:=h;exact wM (v:= .str z) hg h ⟨t,rfl⟩ (λ_=>⟨rfl,hz⟩) md
theorem Ca{x:Str}{i:Int}(hg:Gl X x)(h:∃t,X.mg x=some (.int i t))(md:(x==("__debug__":Str))=false:=by decide):PD X Xw (.Name x pos) (dC (.int i)):=by
 obtain⟨t,h⟩:=h;exact wM (v:= .int i) hg h ⟨t,rfl⟩ (λ_=>rfl) md
theorem qp{x:Str}{a:Addr}(hg:Gl X x)(h:X.mg x=some (.ref a))(md:(x==("__debug__":Str))=false:=by decide):PD X Xw (.Name x pos) (dC (.raw (.ref a))):=
 wM (v:= .ref a) hg h rfl (λ_=>rfl) md
end
def JT(sc osc:Scope):Scope:={sc with names:=sc.names.map λ(n,k)=>if (k== .free&&osc.kind== .function&&osc.names.lookup n==some .cell) then(n, .cell) else(n,k)}
def qe(P:Yd)(w:World)(K:XO)(mg:Str->Option Value)(base:Heap)(cv:Nat->Value)(k:Nat)(x:Str)(m:Nat)(g:List D->M D):Prop:=
 ∃f fd ps,mg x=some (.ref f)/\Zl K (.ref f)=true/\Binds K fd ps []/\FnOkH P w K mg base k f fd ps (HZ K cv m λds=>noex (g ds))
def EJ(m:Nat)(g:List D->M D)(δs:DA):DE:=λρ=>δs ρ>>=λds=>if ds.length=m then noex (noex (g ds)) else ag
theorem Ig{X:Cx}{Xw:Nat->Hp->Prop}{cv:Nat->Value}{k m:Nat}{g:List D->M D}{x:Str}{p pos:Pos}{e:Expr}{es:List Expr}{δs:DA}(F:qe X.prog X.w X.K X.mg X.base cv k x m g)(hr:RoomH k X.A)(hg:Gl X x)
 (ha:gQ X Xw (e::es) δs)(md:(x==("__debug__":Str))=false:=by decide)(he:X2 (e::es) X.env=(false,eval e X.env)::X2 es X.env:=by rfl)(kX:(ZI pos (X2 es X.env)).any (·.1)=false:=by rfl):
 PD X Xw (.Call (.Name x p) (e::es) [] pos) (EJ m g δs):=by
 obtain⟨f,fd,ps,h1,h2,h3,h4⟩:=F;exact GK h4 hr hg h1 h2 h3 ha md he kX
theorem zY{P:Yd}{w:World}{K:XO}{mg:Str->Option Value}{base:Heap}{cv:Nat->Value}{k:Nat}{x:Str}{st:Stmt}{f:Addr}{N ps:List Str}{τ:DS}(T:bx K mg x st f)(S:FnScope N ps (ai st))
 (QH:∀(kV doc pm:Value) (an:Option Addr) (bY ct:Value) (us:List Value),us.length=ps.length->bindArgs (Y5 x x (eF st) (bg st) (ai st) .none kV doc pm an bY ct) ⟨us,[]⟩=pure (ps.zip us))
 (ir:∀(bY:Value) (A:Yy) (outer:List Env) (s:XD) (H:Hp),RoomH k (A.deeper (Zz x (ai st) s.heap.objs.size f bY))->
  PSDs (ux P w K mg base N x (ai st) f bY A outer s H) (λ_ _=>False) (bg st) τ):qe P w K mg base cv (k+1) x ps.length (bM N.length τ):=by
 obtain⟨h1,fd,Fn⟩:=T;exact⟨f,fd,ps,h1,Fn.kp,Fn.binds QH,OA Fn S ir⟩
structure Box (p:Prop):Prop where
 out:p
section
variable{X:Cx}{Xw:Nat->Hp->Prop}
theorem jt{st:Stmt}{W1:List Stmt}{τ τ':DS}(h1:Box (iO X Xw st τ))(h2:Box (PSDs X Xw W1 τ')):Box (PSDs X Xw (st::W1) (aB τ τ')):=⟨ak h1.out h2.out⟩
theorem Lo{st:Stmt}{τ:DS}(h1:Box (iO X Xw st τ)):Box (PSDs X Xw [st] τ):=⟨ar h1.out⟩
end
theorem Qu{l:ad2}{n k:Nat}{q:Yd}{loose:List Str}{XP:(Str->Option Value)->Heap->Prop}{YP:World->Heap->Prop}{d:DefRec}{K:Params->XO}{x:Str}{g:List D->M D}
 (hn:l.most=some n)(QO:n<=lim)(OP:d.params.defaults=[])(hr:Room k acQ)
 (hY:∀(w:World) (h:Heap),YP w h->(K w.params).In h)(hg:∀ns:List Int,ns.length<=n->g [.scr ns]=ae (.bl true))
 (F:∀(w:World) (mg:Str->Option Value) (fa:Addr) (h:Heap),(K w.params).In h->h.Ns Yb mg->mg d.name=some (.ref fa)->
  ∃(cv:Nat->Value) (fd:ZP),(∀(s:XD) (u:Value),adp s fd ⟨[u],[]⟩ [(x,u)])/\
   ∀base:Heap,(K w.params).In base->base.Ns Yb mg->FnOk l.prog w (K w.params) mg base (cQ l.prog w cv) k fa fd [x] (HZ (K w.params) cv 1 g)):
 PySem.W.WalkO q loose XP YP l.row.toRowW d [] (λf vs=>ad1 f vs):=by
 refine Att.attach_call hn OP λw aer P3 mg mb fa o pm cd doc a vs ns G Y ho hd rm Ma FE hints hlen VF=>?_;have KX:=hY w _ Y;obtain⟨cv,fd,hb,hF⟩:=F w mg fa _ KX G.T.g Ma;refine yu KX G.T.g G.T.b G.T.builtins G.T.nolimit VF FE hints (Yc hlen (Yc QO (Y9 dS))) hr hF hb (λH hO hS=>?_) λH e s' z=>?_
 ·refine⟨H,[.scr ns],λ_ _ e=>e,⟨_,_,rfl,⟨a,rfl,hS,Yc hlen QO⟩,rfl⟩,rfl,?_⟩;rw[hg ns hlen];exact λv H' F' e q=>q
 ·obtain⟨_,_,_,_,_,_,_,_,_,_,_,_,_,_,y⟩:=z
theorem wF{K:XO}{h:Heap}{mg:Str->Option Value}{x:Str}{C:Addr}{ms:List Value}{id:String}(hK:K.In h)(hG:h.Ns Yb mg)(at':Yp K Yb x=some (some (.ref C)))
 (qq:aaK K C ms id=true):OwnCls x C ms id mg h:=OwnCls.mk (Zk hK hG at')<|by
 revert qq;unfold aaK;split<;>intro qq
 rotate_left
 ·exact Bool.noConfusion qq
 rename_i Ot Nw UG LQ;split at qq
 rotate_left
 ·exact Bool.noConfusion qq
 rename_i C₁ SD v0 v1 v2 v3 WQ v5 em es;rw[X5,X5,X5,X5,X5] at qq;rcases qq with⟨⟨⟨⟨⟨q1,q2⟩,q3⟩,q4⟩,q5⟩,q6⟩
 have q1:=ade q1;have q2:=ade q2;have q6:=ade q6;have q3:Nw.hasDel=false:=by
  cases z:Nw.hasDel
  ·rfl
  ·rw[z] at q3;cases q3
 subst q1 q2;rcases Nw with⟨r1,r2,r3,r4,r5,r6,r7,r8,r9,W3,W4⟩
 have em:r3=_:=em;have q3:W4=false:=q3;subst em q3;have W7:UG= #[v0,v1,v2,v3,some (.builtin WQ),v5]:=by
  rcases UG with⟨y⟩
  exact aeo Array.mk es
 subst W7;have n5:=Heap.Ns.of_isNs (PySem.W.isNs_of_in hK q5);have n6:=PySem.W.nsMap_none_of_in hK q5 q6;exact⟨SD,r4,r1,r5,r2,r6,r7,r8,r9,W3,Ot,v0,v1,v2,v3,v5,_,hK _ _ LQ,n5,n6,PySem.W.tail_of_in hK q4⟩
theorem vI{K:XO}{t c:Value}(h1:PySem.W.subIn K c (.type "BaseException")=some true)(h2:X3 K t c=some true)(fo:(t==c)=false):aaW K t c=some true:=by
 unfold aaW;unfold X3 at h2;rw[fo] at h2;rw[h1];exact h2
theorem ra{α β:Type}{f g:α->Option β}:∀{l:List α},(∀x∈l,f x=g x)->l.filterMap f=l.filterMap g
 |[],_=>rfl
 |a::l,h=>by rw[aaj,aaj,h a (XA ..),ra λx hx=>h x (Xz _ hx)]
section
variable{e:Expr}
end
def rL:D->Option Key
 | .int i=>some (.inl i)
 | .str x=>some (.inr x)
 |_=>none
def Jb:List D->Option (List Key)
 |[]=>some []
 |d::ds=>match rL d,Jb ds with
  |some k,some ks=>some (k::ks)
  |_,_=>none
def kY:D->Option (List Key)
 | .tup ds=>Jb ds
 |_=>none
theorem iw{K:XO}{F:Hp}{d:D}{v:V}{k:Key}(e:rL d=some k)(h:Den K F d v):v=kV k:=by
 cases d<;>first | cases e | skip
 ·exact h
 ·exact h.1
theorem mq{K:XO}{F:Hp}:∀{ds:List D}{vs:List V}{ks:List Key},Jb ds=some ks->DenL K F ds vs->vs=ks.map kV
 |[],_,_,e,h=>by cases e;exact h
 |d::ds,_,_,e,⟨v,r,h1,h2,h3⟩=>by
  unfold Jb at e;split at e
  ·rename_i k ks e1 e2;cases e;subst h1;rw[XN,iw e1 h2,mq e2 h3]
  ·cases e
section
variable{κ:Type}[DecidableEq κ]
def dR:List κ->List D->κ->Option D
 |k'::ks,d::ds,k=>if k'=k then some d else dR ks ds k
 |_,_,_=>none
def oE:List κ->List D->κ->D->List D
 |k'::ks,d'::ds,k,d=>(if k'=k then d else d')::oE ks ds k d
 |_,_,_,_=>[]
theorem nj{K:XO}{F:Hp}:∀{ks:List κ}{ds:List D}{vs:List V}(k:κ),DenL K F ds vs->ks.length=ds.length->
 (match dR ks ds k with | some d=>∃v,fO (ks.zip vs) k=some v/\Den K F d v | none=>fO (ks.zip vs) k=none)
 |[],[],_,_,_,_=>rfl
 |k'::ks,d::ds,_,k,⟨v,r,h1,h2,h3⟩,hl=>by
  subst h1;unfold dR;rw[Y6];by_cases e:k'=k
  ·rw[aeg e,km (p:=(k',v)) e];exact⟨v,rfl,h2⟩
  ·rw[aeh e,kl (p:=(k',v)) e];exact nj k h3 (by simpa using hl)
 |[],_::_,_,_,_,hl=>by simp at hl
 |_::_,[],_,_,_,hl=>by simp at hl
theorem ki{K:XO}{F:Hp}{ks:List κ}{ds:List D}{vs:List V}(k:κ)(h:DenL K F ds vs)(hl:ks.length=ds.length):(fO (ks.zip vs) k).isSome=(dR ks ds k).isSome:=by
 have:=nj k h hl;split at this
 ·rename_i d e;obtain⟨v,e1,_⟩:=this;rw[e1,e];rfl
 ·rename_i e;rw[this,e];rfl
theorem za{K:XO}{F:Hp}{d:D}{v:V}(hd:Den K F d v):∀{ks:List κ}{ds:List D}{vs:List V}(k:κ),DenL K F ds vs->ks.length=ds.length->
 ∃ws,(ks.zip vs).map (λkv=>if kv.1=k then(kv.1,v) else kv)=ks.zip ws/\DenL K F (oE ks ds k d) ws
 |[],[],_,_,h,_=>⟨[],rfl,rfl⟩
 |k'::ks,d'::ds,_,k,⟨v',r,h1,h2,h3⟩,hl=>by
  subst h1;obtain⟨ws,e1,e2⟩:=za hd k h3 (by simpa using hl);by_cases e:k'=k
  ·refine⟨v::ws,?_,?_⟩
   ·rw[Y6,XN,e1,aeg e];rfl
   ·unfold oE;rw[aeg e];exact .cons hd e2
  ·refine⟨v'::ws,?_,?_⟩
   ·rw[Y6,XN,e1,aeh e];rfl
   ·unfold oE;rw[aeh e];exact .cons h2 e2
 |[],_::_,_,_,_,hl=>by simp at hl
 |_::_,[],_,_,_,hl=>by simp at hl
theorem j4:∀(ks:List κ) (ds:List D) (k:κ) (d:D),ks.length=ds.length->(oE ks ds k d).length=ds.length
 |[],[],_,_,_=>rfl
 |_::ks,_::ds,k,d,h=>by unfold oE;rw[XH,XH,j4 ks ds k d (by simpa using h)]
 |[],_::_,_,_,h=>by simp at h
 |_::_,[],_,_,h=>by simp at h
def dw(ks:List κ)(ds:List D)(k:κ):List κ:=if (dR ks ds k).isSome then ks else ks++[k]
def cz(ks:List κ)(ds:List D)(k:κ)(d:D):List D:=if (dR ks ds k).isSome then oE ks ds k d else ds++[d]
theorem wQ{K:XO}{F:Hp}{d:D}{v:V}(hd:Den K F d v){ks:List κ}{ds:List D}{vs:List V}(k:κ)(h:DenL K F ds vs)(hl:ks.length=ds.length):
 ∃ws,putK (ks.zip vs) k v=(dw ks ds k).zip ws/\DenL K F (cz ks ds k d) ws/\(dw ks ds k).length=(cz ks ds k d).length:=by
 have hs:=ki (K:=K) (F:=F) k h hl;unfold putK dw cz;have ha:((ks.zip vs).any λkv=>decide (kv.1=k))=(fO (ks.zip vs) k).isSome:=kj ..;rw[ha,hs];cases e:(dR ks ds k).isSome with
 |true=>
  rw[aeg rfl,aeg rfl,aeg rfl];obtain⟨ws,e1,e2⟩:=za hd k h hl;exact⟨ws,e1,e2,by rw[j4 ks ds k d hl];exact hl⟩
 |false=>
  rw[aeh Yi,aeh Yi,aeh Yi];refine⟨vs++[v],?_,h.append (.cons hd .nil),by simp[hl]⟩;rw[aar (by rw[hl];exact h.len)];rfl
end
theorem CB{κ:Type}{K:XO}{F:Hp}{ks:List κ}{ds:List D}{vs:List V}(h:DenL K F ds vs)(hl:ks.length=ds.length):(ks.zip vs).length=ds.length:=by
 rw[Z3,hl,<-h.len];omega
def sW(ρ:aX)(i:Nat):Option D:=match ρ[i]? with
 |some (some (.fz d))=>some d
 |some (some (.ow c))=>some c.d
 |_=>none
theorem Hs{K:XO}{F H:Hp}{σ:St}{ρ:aX}{i:Nat}{ks:List (List Key)}{ds:List D}(s:StE K F H σ ρ)(e:sW ρ i=some (.dct ks ds)):
 ∃a vs,σ[i]? =some (some (.ref a))/\Rd H a (.dT (ks.zip vs))/\DenL K F ds vs/\ks.length=ds.length/\ds.length<=lim:=by
 unfold sW at e;split at e
 ·rename_i d e1;cases e;obtain⟨v,h1,a,ob,vs,rfl,h2,h3,h4,h5⟩:=s.den i _ e1;exact⟨a,vs,h1, .inr ⟨ob,s.fh _ _ h2⟩,h3,h4,h5⟩
 ·rename_i c e1;cases c<;>cases e
  obtain⟨v,h1,a,o,rfl,h2,_,vs,rfl,h3,h4,h5⟩:=s.den i _ e1;exact⟨a,vs,h1, .inl h2,h3,h4,h5⟩
 ·cases e
theorem Hr{K:XO}{F H:Hp}{σ:St}{ρ:aX}{i:Nat}{ks:List Key}{ds:List D}(s:StE K F H σ ρ)(e:sW ρ i=some (.dci ks ds)):
 ∃a vs,σ[i]? =some (some (.ref a))/\Rd H a (.dK (ks.zip vs))/\DenL K F ds vs/\ks.length=ds.length/\ds.length<=lim:=by
 unfold sW at e;split at e
 ·rename_i d e1;cases e;obtain⟨v,h1,a,ob,vs,rfl,h2,h3,h4,h5⟩:=s.den i _ e1;exact⟨a,vs,h1, .inr ⟨ob,s.fh _ _ h2⟩,h3,h4,h5⟩
 ·rename_i c e1;cases c<;>cases e
  obtain⟨v,h1,a,o,rfl,h2,_,vs,rfl,h3,h4,h5⟩:=s.den i _ e1;exact⟨a,vs,h1, .inl h2,h3,h4,h5⟩
 ·cases e
def CH:D->D->Option (Option D)
 | .dct ks ds,k=>(kY k).map (dR ks ds)
 | .dci ks ds,k=>(rL k).map (dR ks ds)
 |_,_=>none
theorem Bi{K:XO}{F H:Hp}{σ:St}{ρ:aX}{i:Nat}{d k:D}{y:V}{o:Option D}(s:StE K F H σ ρ)(hi:sW ρ i=some d)(hk:Den K F k y)(e:CH d k=some o):
 ∃a ov,σ[i]? =some (some (.ref a))/\ly H a y ov/\ov.isSome=o.isSome/\∀d',o=some d'->∃v,ov=some v/\Den K F d' v:=by
 unfold CH at e;split at e
 ·rename_i ks ds;cases q:kY k with
  |none=>rw[q] at e;cases e
  |some kk=>
   rw[q] at e;cases e;obtain⟨a,vs,h1,h2,h3,h4,h5⟩:=Hs s hi;unfold kY at q;split at q
   ·rename_i es;obtain⟨b,ws,rfl,k2,k3,_⟩:=hk;have e1:=mq q k3;subst e1;refine⟨a,_,h1, .inr ⟨_,kk,b,h2,rfl,s.fh _ _ k2,rfl⟩,ki kk h3 h4,λd' qh=>?_⟩;have:=nj (K:=K) (F:=F) kk h3 h4;rw[qh] at this;exact this
   ·cases q
 ·rename_i ks ds;cases q:rL k with
  |none=>rw[q] at e;cases e
  |some kk=>
   rw[q] at e;cases e;obtain⟨a,vs,h1,h2,h3,h4,h5⟩:=Hr s hi;have e1:=iw q hk;subst e1;refine⟨a,_,h1, .inl ⟨_,kk,h2,rfl,rfl⟩,ki kk h3 h4,λd' qh=>?_⟩;have:=nj (K:=K) (F:=F) kk h3 h4;rw[qh] at this;exact this
 ·cases e
section
variable{X:Cx}{Xw:Nat->Hp->Prop}{a e:Expr}{δ δk δv:DE}{pos p pos' yY:Pos}{x:Str}{i:Nat}
def Om(neg:Bool)(i:Nat)(δ:DE):DE:=λρ=>δ ρ>>=λk=>match sW ρ i with
 |some d=>match CH d k with
  |some o=>ae (.bl (if neg then !o.isSome else o.isSome))
  |none=>ag
 |none=>ag
theorem Mp{neg:Bool}{σ:St}{H:Hp}{Q:VK}(h:tD X.K Xw (Om neg i δ) σ H Q):(λσ H Q=>tD X.K Xw δ σ H λy H1=>lR i σ H1 λx H2=>∃a o,x= .ref a/\ly H2 a y o/\Q (.bl (if neg then !o.isSome else o.isSome)) H2) σ H Q:=by
 obtain⟨F,ρ,s,w⟩:=h;refine⟨F,ρ,s,WP.mono (WP.bind w) λy H1 ⟨F1,k,e1,q1,w1⟩=>?_⟩;have s1:=s.ext e1;cases hi:sW ρ i with
 |none=>rw[hi] at w1;exact w1.elim
 |some d=>
  rw[hi] at w1;have w1:WP X.K Xw F1 H1 (match CH d k with | some o=>ae (.bl (if neg then !o.isSome else o.isSome)) | none=>ag) Q:=w1;cases he:CH d k with
  |none=>rw[he] at w1;exact w1.elim
  |some o=>
   rw[he] at w1;obtain⟨a,ov,h1,h2,h3,_⟩:=Bi s1 hi q1 he;refine⟨.ref a,h1,a,ov,rfl,h2,?_⟩;rw[h3];exact WP.now w1 e1.fh rfl
theorem SJ(hu:X.A.units+64<cLine)(ha:PD X Xw a δ)(hv:PE X (.Name x p) (lR i))(hm:YY .In (.Name x p)=false:=by rfl):PD X Xw (.Compare a [.In] [.Name x p] pos) (Om false i δ):=
 PE.weak (M4 (MV (by omega) ha hv) hm) λσ H Q h=>Mp (neg:=false) h
def vb(i:Nat):DS:=λρ=>ae (.nx (ρ.set i (some (.ow (.dct [] [])))))
def K8(i:Nat):DS:=λρ=>ae (.nx (ρ.set i (some (.ow (.dci [] [])))))
theorem jZ(hN:X.N.Nodup)(hi:X.N[i]? =some x)(hx:Loc X.env.scope x)(hf:X.fn x=true\/X.env.scope.names.lookup x=some .local:=by first | exact .inl rfl | exact .inr rfl):
 iO X Xw (.Assign [.Name x pos'] (.Dict [] [] yY) pos) (vb i):=λu8 aeq=>PS.weak (ou GW (aT hN hi hx hf) rfl) λD σ H ⟨F,ρ,s,w⟩=>λq hq=>
 w _ F _ (s.setNew (c₀:= .dct [] []) hq ⟨[],rfl,rfl,rfl,Ys _⟩)
theorem G2(hN:X.N.Nodup)(hi:X.N[i]? =some x)(hx:Loc X.env.scope x)(hf:X.fn x=true\/X.env.scope.names.lookup x=some .local:=by first | exact .inl rfl | exact .inr rfl):
 iO X Xw (.Assign [.Name x pos'] (.Dict [] [] yY) pos) (K8 i):=λu8 aeq=>PS.weak (ou yV (aT hN hi hx hf) rfl) λD σ H ⟨F,ρ,s,w⟩=>λq hq=>
 w _ F _ (s.setNew (c₀:= .dci [] []) hq ⟨[],rfl,rfl,rfl,Ys _⟩)
def jm:C->D->D->Option C
 | .dct ks ds,k,d=>match kY k with
   |some kk=>if ds.length<lim then some (.dct (dw ks ds kk) (cz ks ds kk d)) else none
   |none=>none
 | .dci ks ds,k,d=>match rL k with
   |some kk=>if ds.length<lim then some (.dci (dw ks ds kk) (cz ks ds kk d)) else none
   |none=>none
 |_,_,_=>none
def ud(ρ:aX)(i:Nat):Option C:=match ρ[i]? with
 |some (some (.ow c))=>some c
 |_=>none
theorem n_{ρ:aX}{i:Nat}{c:C}(h:ud ρ i=some c):ρ[i]? =some (some (.ow c)):=by
 unfold ud at h;split at h
 ·rename_i c' e;cases h;exact e
 ·cases h
def fT(i:Nat)(δk δv:DE):DS:=λρ=>match ud ρ i with
 |some c=>δv ρ>>=λv=>δk ρ>>=λk=>match jm c k v with
  |some c'=>ae (.nx (ρ.set i (some (.ow c'))))
  |none=>ag
 |none=>ag
theorem u5{κ:Type}[DecidableEq κ]{ks:List κ}{ds:List D}{k:κ}{d:D}(hl:ks.length=ds.length)(h:ds.length<lim):(cz ks ds k d).length<=lim:=by
 unfold cz;split
 ·rw[j4 ks ds k d hl];omega
 ·rw[XR];exact h
theorem G6{K:XO}{F H:Hp}{c c':C}{k d:D}{y v:V}{o:HO}{b:Addr}(hs:Same F H)(hb:H b=some o)(hc:DenC K F c o)(hk:Den K F k y)(hd:Den K F d v)(e:jm c k d=some c'):∃o',DPut H b y v (upd H b o')/\DenC K F c' o':=by
 have L9:=dS;unfold jm at e;split at e
 ·rename_i ks ds k d;obtain⟨vs,rfl,h3,h4,h5⟩:=hc;split at e
  ·rename_i kk q;split at e
   ·rename_i dG;cases e;unfold kY at q;split at q
    ·rename_i es;obtain⟨b2,ws,rfl,k2,k3,_⟩:=hk;have e1:=mq q k3;subst e1;obtain⟨us,e2,e3,e4⟩:=wQ hd kk h3 h4;refine⟨_,DPut.t hb (hs _ _ k2) (by rw[CB h3 h4];omega),us,?_,e3,e4,u5 h4 dG⟩;rw[e2]
    ·cases q
   ·cases e
  ·cases e
 ·rename_i ks ds k d;obtain⟨vs,rfl,h3,h4,h5⟩:=hc;split at e
  ·rename_i kk q;split at e
   ·rename_i dG;cases e;have e1:=iw q hk;subst e1;obtain⟨us,e2,e3,e4⟩:=wQ hd kk h3 h4;refine⟨_,DPut.k hb (by rw[CB h3 h4];omega),us,?_,e3,e4,u5 h4 dG⟩;rw[e2]
   ·cases e
  ·cases e
 ·cases e
theorem gL(hu:X.A.units+64<cLine)(hv:PE X (.Name x p) (lR i))(hk:PD X Xw a δk)(he:PD X Xw e δv)(hs:aa9 e (some (.Subscript (.Name x p) a pos')) pos.line X.env=pure false:=by rfl):
 iO X Xw (.Assign [.Subscript (.Name x p) a pos'] e pos) (fT i δk δv):=λu8 aeq=>PS.weak (Cj (by omega) hv hk he hs) λD σ H ⟨F,ρ,s,w⟩=>by
 unfold fT at w;cases ho:ud ρ i with
 |none=>rw[ho] at w;exact w.elim
 |some c=>
  rw[ho] at w;have hi:=n_ ho;have w:WPS X.K Xw u8 aeq (δv ρ>>=λv=>δk ρ>>=λk=>match jm c k v with | some c'=>ae (.nx (ρ.set i (some (.ow c')))) | none=>ag) D:=w;refine⟨F,ρ,s.st,?_⟩;rcases(δv ρ).cs with q | ⟨n,q⟩ | ⟨dv,q⟩
  ·rw[q] at w;exact w.elim
  ·rw[q] at w⊢;exact λF' H' e'=>w F' H' (s.ext.trans e')
  ·rw[q] at w⊢;intro v H1 F1 e1 hq;have s1:=s.ext' e1;obtain⟨u,h1,b,o,rfl,h2,h3,h4⟩:=s1.st.den i _ hi;have w:WPS X.K Xw u8 aeq (δk ρ>>=λk=>match jm c k dv with | some c'=>ae (.nx (ρ.set i (some (.ow c')))) | none=>ag) D:=w;refine⟨.ref b,h1,F1,ρ,s1.st,?_⟩;rcases(δk ρ).cs with q2 | ⟨n,q2⟩ | ⟨dk,q2⟩
   ·rw[q2] at w;exact w.elim
   ·rw[q2] at w⊢;exact λF' H' e'=>w F' H' (s1.ext.trans e')
   ·rw[q2] at w⊢;intro y H2 F2 e2 hy;have w:WPS X.K Xw u8 aeq (match jm c dk dv with | some c'=>ae (.nx (ρ.set i (some (.ow c')))) | none=>ag) D:=w;cases hp:jm c dk dv with
    |none=>rw[hp] at w;exact w.elim
    |some c'=>
     rw[hp] at w;have s2:=s1.ext' e2;obtain⟨u2,k1,b2,o2,LX,k2,k3,k4⟩:=s2.st.den i _ hi;rw[h1] at k1;cases k1;cases LX;obtain⟨o',g,hc⟩:=G6 s2.st.fh k2 k4 hy (Den.mono e2.ff hq) hp;exact⟨b,_,rfl,g,w σ F2 _ (s2.chg hi h1 hc)⟩
end
def d8(c:DT)(body:DS):Nat->DS
 |0,_=>ag
 |n+1,ρ=>c ρ>>=λb=>if b then body ρ>>=λo=>match o with | .nx ρ'=>d8 c body n ρ' | .rt d=>ae (.rt d) else ae (.nx ρ)
def wZ(c:DT)(body:DS):DS:=λρ=>d8 c body lim ρ
section
variable{X:Cx}{Xw:Nat->Hp->Prop}{τ:DS}{tc:DT}{pos:Pos}
theorem oy{c:Expr}{body:List Stmt}(hp:adl (model X.prog X.w) X.A X.env X.xe)(hc:qA X Xw c tc)(hb:PSDs X Xw body τ):iO X Xw (.While c body [] pos) (wZ tc τ):=λu8 aeq=>PS.weak (G0 hp hc hb.ex) λD σ H ⟨F,ρ,s,w⟩=>by
 refine⟨λm σ H=>∃F ρ,StOk X.K u8 aeq F H σ ρ/\WPS X.K Xw u8 aeq (d8 tc τ m ρ) D,⟨lim,F,ρ,s,w⟩,?_⟩;rintro m σ H ⟨F,ρ,s,w⟩;cases m with
 |zero=>exact w.elim
 |succ m=>
  refine⟨F,ρ,s.st,?_⟩;unfold d8 at w
  match tc ρ,w with
  |none,w=>exact w
  |some (.ex n),w=>exact λF' H' e'=>w F' H' (s.ext.trans e')
  |some (.ok false),w=>exact λH' F' e'=>w σ F' H' (s.ext' e')
  |some (.ok true),w=>
   intro H' F' e';have w:WPS X.K Xw u8 aeq (τ ρ>>=λo=>match o with | .nx ρ'=>d8 tc τ m ρ' | .rt d=>ae (.rt d)) D:=w;refine⟨λσ' H'=>∃F' ρ',StOk X.K u8 aeq F' H' σ' ρ'/\WPS X.K Xw u8 aeq (d8 tc τ m ρ') D,λσ' H' h=>⟨m,abu m,h⟩,u8,aeq,F',ρ,s.ext' e',?_⟩
   match τ ρ,w with
   |none,w=>exact w
   |some (.ok (.nx ρ')),w=>exact λσ' F' H' s'=>⟨F',ρ',s',w⟩
   |some (.ok (.rt d)),w=>exact w
   |some (.ex n),w=>exact w
end
end L3
namespace L3
open PySem PySem.W PyProof.Rows
def dX{α:Type}(b:Nat->Nat->Bool):KasT α->α
 | .ret a=>a
 | .ask i j k=>dX b (k (b i j))
theorem gk{α β:Type}(b:Nat->Nat->Bool)(f:α->KasT β):∀t:KasT α,dX b (t.bind f)=dX b (f (dX b t))
 | .ret _=>rfl
 | .ask i j k=>gk b f (k (b i j))
structure Lt (n:Nat) (b:Nat->Nat->Bool):Prop where
 tr:∀i j k,b i j=true->b j k=true->b i k=true
 Xi:∀i j,b i j=true->b j i=false
 tot:∀i j,i<n->j<n->i≠j->b i j=true\/b j i=true
abbrev at'(p:Array Nat)(i:Nat):Nat:=p.getD i 0
def Ri(b:Nat->Nat->Bool)(p:Array Nat)(k:Nat):Prop:=∀i j,i<j->j<k->b (at' p i) (at' p j)=true
def Fa(b:Nat->Nat->Bool)(p:Array Nat)(k:Nat):Prop:=∀i j,i<j->j<k->b (at' p j) (at' p i)=true
structure PN (n:Nat) (p:Array Nat):Prop where
 sz:p.size=n
 lt:∀i,i<n->at' p i<n
 inj:∀i j,i<n->j<n->at' p i=at' p j->i=j
section
variable{n:Nat}{b:Nat->Nat->Bool}(L:Lt n b)
include L
theorem Ri.more{p:Array Nat}{k:Nat}(h:Ri b p k)(h1:1<=k)(e:b (at' p (k - 1)) (at' p k)=true):Ri b p (k+1):=λi j BO hj=>by
 by_cases hk:j<k
 ·exact h i j BO hk
 ·have:j=k:=by omega
  subst this;by_cases hi:i=j - 1
  ·subst hi;exact e
  ·exact L.tr _ _ _ (h i (j - 1) (by omega) (by omega)) e
theorem Fa.more{p:Array Nat}{k:Nat}(h:Fa b p k)(h1:1<=k)(e:b (at' p k) (at' p (k - 1))=true):Fa b p (k+1):=λi j BO hj=>by
 by_cases hk:j<k
 ·exact h i j BO hk
 ·have:j=k:=by omega
  subst this;by_cases hi:i=j - 1
  ·subst hi;exact e
  ·exact L.tr _ _ _ e (h i (j - 1) (by omega) (by omega))
theorem vo{p:Array Nat}(P:PN n p):∀(f k:Nat),1<=k->k+f<=n->Ri b p k->k<=dX b (kas_asc p f k)/\dX b (kas_asc p f k)<=k+f/\Ri b p (dX b (kas_asc p f k))/\(dX b (kas_asc p f k)<k+f->b (at' p (dX b (kas_asc p f k))) (at' p (dX b (kas_asc p f k) - 1))=true)
 |0,k,h1,hn,h=>⟨XM _,XM _,h,λz=>aej z (YH _)⟩
 |f+1,k,h1,hn,h=>by
  have e:dX b (kas_asc p (f+1) k)=dX b (if b (at' p k) (at' p (k - 1))=true then KasT.ret k else kas_asc p f (k+1)):=rfl;rw[e];by_cases hb:b (at' p k) (at' p (k - 1))=true
  ·rw[aeg hb];exact⟨XM _,by show k<=_;omega,h,λ_=>hb⟩
  ·rw[aeh hb];have hr:b (at' p (k - 1)) (at' p k)=true:=by
    rcases L.tot (at' p (k - 1)) (at' p k) (P.lt _ (by omega)) (P.lt _ (by omega)) (λz=>by have:=P.inj _ _ (by omega) (by omega) z;omega) with q | q
    ·exact q
    ·exact aej q hb
   obtain⟨a1,a2,a3,a4⟩:=vo P f (k+1) (by omega) (by omega) (Ri.more L h h1 hr);exact⟨by omega,by omega,a3,λz=>a4 (by omega)⟩
theorem x9{p:Array Nat}(P:PN n p):∀(f k:Nat),1<=k->k+f<=n->Fa b p k->∃m,dX b (kas_desc f p k 0)=(p,m,0)/\k<=m/\m<=k+f/\Fa b p m
 |0,k,h1,hn,h=>⟨k,rfl,XM _,XM _,h⟩
 |f+1,k,h1,hn,h=>by
  have e:dX b (kas_desc (f+1) p k 0)=dX b (if b (at' p k) (at' p (k - 1))=true then(if 0>0 then kas_desc f (kas_rev p (k - (0+1)) k) (k+1) 0 else kas_desc f p (k+1) 0)
   else .ask (p.getD (k - 1) 0) (p.getD k 0) λd=>if d=true then .ret (p,k,0) else kas_desc f p (k+1) (0+1)):=rfl
  rw[e];by_cases hb:b (at' p k) (at' p (k - 1))=true
  ·rw[aeg hb,aeh (by omega)];obtain⟨m,e1,e2,e3,e4⟩:=x9 P f (k+1) (by omega) (by omega) (Fa.more L h h1 hb);exact⟨m,e1,by omega,by omega,e4⟩
  ·rw[aeh hb];have hr:b (at' p (k - 1)) (at' p k)=true:=by
    rcases L.tot (at' p (k - 1)) (at' p k) (P.lt _ (by omega)) (P.lt _ (by omega)) (λz=>by have:=P.inj _ _ (by omega) (by omega) z;omega) with q | q
    ·exact q
    ·exact aej q hb
   refine⟨k,?_,XM _,by omega,h⟩;show dX b (if b (at' p (k - 1)) (at' p k)=true then KasT.ret (p,k,0) else kas_desc f p (k+1) (0+1))=_;rw[aeg hr];rfl
end
theorem e9(p:Array Nat)(k:Nat):at' p k=(p[k]?).getD 0:=by
 unfold at';rw[XZ]
theorem Hc{p:Array Nat}{m:Nat}(hm:m<=p.size)(k:Nat):at' (kas_rev p 0 m) k=if k<m then at' p (m - 1 - k) else at' p k:=by
 have e:=getElem?_mirror_all (xs:=p) (i:=0) hm k;rw[e9];show (((mirror p 0 m ((m - 0) / 2))[k]?).getD 0)=_;rw[e];by_cases h:k<m
 ·rw[aeg ⟨Ys _,h⟩,aeg h,e9,Z8]
 ·rw[aeh (λz=>h z.2),aeh h,e9]
theorem EF{p:Array Nat}{k l:Nat}(hk:k<p.size)(hl:l<=k)(j:Nat):at' (bubble p k (k - l)) j=if j=l then at' p k else if l<j/\j<=k then at' p (j - 1) else at' p j:=by
 have e:=getElem?_bubble hk (k - l) (by omega) j;have e2:k - (k - l)=l:=by omega
 rw[e2] at e;rw[e9 (bubble p k (k - l)),e,e9 p k,e9 p (j - 1),e9 p j];by_cases c1:j=l
 ·rw[aeg c1,aeg c1]
 ·rw[aeh c1,aeh c1];by_cases c2:l<j/\j<=k
  ·rw[aeg c2,aeg c2]
  ·rw[aeh c2,aeh c2]
section
variable{n:Nat}{b:Nat->Nat->Bool}
theorem PN.rev{p:Array Nat}(P:PN n p){m:Nat}(hm:m<=n):PN n (kas_rev p 0 m):=by
 have ha:=Hc (p:=p) (m:=m) (by rw[P.sz];exact hm);refine⟨(mirror_size ..).trans P.sz,λi hi=>?_,λi j hi hj e=>?_⟩
 ·rw[ha];split
  ·exact P.lt _ (by omega)
  ·exact P.lt _ hi
 ·rw[ha,ha] at e;split at e<;>split at e
  ·have:=P.inj _ _ (by omega) (by omega) e;omega
  ·have:=P.inj _ _ (by omega) hj e;omega
  ·have:=P.inj _ _ hi (by omega) e;omega
  ·exact P.inj _ _ hi hj e
theorem PN.bub{p:Array Nat}(P:PN n p){k l:Nat}(hk:k<n)(hl:l<=k):PN n (bubble p k (k - l)):=by
 have ha:=EF (p:=p) (k:=k) (l:=l) (by rw[P.sz];exact hk) hl;refine⟨(bubble_size ..).trans P.sz,λi hi=>?_,λi j hi hj e=>?_⟩
 ·rw[ha];split
  ·exact P.lt _ hk
  ·split
   ·exact P.lt _ (by omega)
   ·exact P.lt _ hi
 ·rw[ha,ha] at e;split at e
  ·split at e
   ·omega
   ·split at e
    ·have:=P.inj _ _ hk (by omega) e;omega
    ·have:=P.inj _ _ hk hj e;omega
  ·split at e
   ·split at e
    ·have:=P.inj _ _ (by omega) hk e;omega
    ·split at e
     ·have:=P.inj _ _ (by omega) (by omega) e;omega
     ·have:=P.inj _ _ (by omega) hj e;omega
   ·split at e
    ·have:=P.inj _ _ hi hk e;omega
    ·split at e
     ·have:=P.inj _ _ hi (by omega) e;omega
     ·exact P.inj _ _ hi hj e
theorem Fa.rev{p:Array Nat}(P:PN n p){m:Nat}(hm:m<=n)(h:Fa b p m):Ri b (kas_rev p 0 m) m:=λi j BO hj=>by
 have ha:=Hc (p:=p) (m:=m) (by rw[P.sz];exact hm);rw[ha,ha,aeg (by omega),aeg hj];exact h _ _ (by omega) (by omega)
variable(L:Lt n b)
include L
theorem HH{p:Array Nat}(P:PN n p){m:Nat}(h1:1<=m)(hm:m<=n)(h:Fa b p m):∃k q,dX b (kas_tail3 m n p)=(k,q)/\PN n q/\1<=k/\k<=n/\Ri b q k:=by
 unfold kas_tail3;rw[gk];obtain⟨a1,a2,a3,_⟩:=vo L (P.rev hm) (n - m) m h1 (by omega) (Fa.rev P hm h);exact⟨_,_,rfl,P.rev hm,by omega,by omega,a3⟩
theorem CS{p:Array Nat}(P:PN n p)(h2:2<=n):∃k q,dX b (kas_count n p)=(k,q)/\PN n q/\1<=k/\k<=n/\Ri b q k:=by
 unfold kas_count;rw[gk];obtain⟨a1,a2,a3,a4⟩:=vo L P (n - 1) 1 (XM _) (by omega) (λi j BO hj=>by omega);generalize dX b (kas_asc p (n - 1) 1)=m at a1 a2 a3 a4;by_cases he:m=n
 ·subst he;rw[aeg (by simp)];exact⟨m,p,rfl,P,by omega,XM _,a3⟩
 ·rw[aeh (by simpa using he)];by_cases hg:m>1
  ·rw[aeg hg];have hb:b (p.getD 0 0) (p.getD (m - 1) 0)=true:=a3 0 (m - 1) (by omega) (by omega);show∃k q,dX b (if b (p.getD 0 0) (p.getD (m - 1) 0)=true then KasT.ret (m,p) else kas_descPart m n (kas_rev p 0 m))=(k,q)/\_;rw[aeg hb];exact⟨m,p,rfl,P,by omega,by omega,a3⟩
  ·rw[aeh hg];have hm:m=1:=by omega
   subst hm;have hb:=a4 (by omega);unfold kas_descPart;rw[gk];obtain⟨m,e1,e2,e3,e4⟩:=x9 L P (n - (1+1)) (1+1) (by omega) (by omega) (λi j BO hj=>by
    have hi:i=0:=by omega
    have hj:j=1:=by omega
    subst hi hj;exact hb)
   rw[e1]
   dsimp only
   rw[aeh (by omega)];exact HH L P (by omega) (by omega) e4
theorem ot{p:Array Nat}(P:PN n p){k:Nat}(hk:k<n)(h:Ri b p k):∀(f l r:Nat),l<=r->r<=k->r - l<=f->(∀i,i<l->b (at' p i) (at' p k)=true)->(∀i,r<=i->i<k->b (at' p k) (at' p i)=true)->
 dX b (kas_place p k f l r)<=k/\(∀i,i<dX b (kas_place p k f l r)->b (at' p i) (at' p k)=true)/\∀i,dX b (kas_place p k f l r)<=i->i<k->b (at' p k) (at' p i)=true
 |0,l,r,h1,h2,h3,h4,h5=>by
  have:r=l:=by omega
  subst this;exact⟨h2,h4,h5⟩
 |f+1,l,r,h1,h2,h3,h4,h5=>by
  unfold kas_place;by_cases T_:l>=r
  ·rw[aeg T_];have:r=l:=by omega
   subst this;exact⟨h2,h4,h5⟩
  ·rw[aeh T_];have hm:(l+r) / 2<r:=by omega
   have HV:l<=(l+r) / 2:=by omega
   show dX b (if b (at' p k) (at' p ((l+r) / 2))=true then kas_place p k f l ((l+r) / 2) else kas_place p k f ((l+r) / 2+1) r)<=k/\(∀i,i<dX b (if b (at' p k) (at' p ((l+r) / 2))=true then kas_place p k f l ((l+r) / 2) else kas_place p k f ((l+r) / 2+1) r)->_)/\∀i,dX b (if b (at' p k) (at' p ((l+r) / 2))=true then kas_place p k f l ((l+r) / 2) else kas_place p k f ((l+r) / 2+1) r)<=i->_;by_cases hb:b (at' p k) (at' p ((l+r) / 2))=true
   ·rw[aeg hb];refine ot P hk h f l ((l+r) / 2) HV (by omega) (by omega) h4 λi hi VJ=>?_;by_cases e:i=(l+r) / 2
    ·rw[e];exact hb
    ·exact L.tr _ _ _ hb (h _ _ (by omega) VJ)
   ·rw[aeh hb];have hr:b (at' p ((l+r) / 2)) (at' p k)=true:=by
     rcases L.tot (at' p ((l+r) / 2)) (at' p k) (P.lt _ (by omega)) (P.lt _ hk) (λz=>by have:=P.inj _ _ (by omega) hk z;omega) with q | q
     ·exact q
     ·exact aej q hb
    refine ot P hk h f ((l+r) / 2+1) r (by omega) h2 (by omega) (λi hi=>?_) h5;by_cases e:i=(l+r) / 2
    ·rw[e];exact hr
    ·exact L.tr _ _ _ (h i ((l+r) / 2) (by omega) (by omega)) hr
theorem Bo:∀(f:Nat) {p:Array Nat}{k:Nat},PN n p->k+f<=n->Ri b p k->PN n (dX b (kas_bin f p k))/\Ri b (dX b (kas_bin f p k)) (k+f)
 |0,p,k,P,_,h=>⟨P,h⟩
 |f+1,p,k,P,hn,h=>by
  have hk:k<n:=by omega
  unfold kas_bin;rw[gk];obtain⟨a1,a2,a3⟩:=ot L P hk h k 0 k (Ys _) (XM _) (by omega) (λi hi=>by omega) (λi h1 h2=>by omega);generalize dX b (kas_place p k k 0 k)=l at a1 a2 a3;have ha:=EF (p:=p) (k:=k) (l:=l) (by rw[P.sz];exact hk) a1;have hR:Ri b (bubble p k (k - l)) (k+1):=λi j BO hj=>by
   rw[ha,ha];by_cases c1:i=l
   ·rw[aeg c1,aeh (by omega),aeg ⟨by omega,by omega⟩];exact a3 _ (by omega) (by omega)
   ·rw[aeh c1];by_cases c2:j=l
    ·rw[aeg c2,aeh (by omega)];exact a2 _ (by omega)
    ·rw[aeh c2];by_cases c3:l<i/\i<=k
     ·rw[aeg c3,aeg ⟨by omega,by omega⟩];exact h _ _ (by omega) (by omega)
     ·rw[aeh c3];by_cases c4:l<j/\j<=k
      ·rw[aeg c4];exact h _ _ (by omega) (by omega)
      ·rw[aeh c4];exact h _ _ BO (by omega)
  have:=Bo f (P.bub hk a1) (by omega) hR;rw[show k+(f+1)=k+1+f by omega];exact this
theorem Hu(h2:2<=n):PN n (dX b (kas_sort n))/\Ri b (dX b (kas_sort n)) n:=by
 have P0:PN n (Zn (Yg n)):=by
  have e:∀i,i<n->at' (Zn (Yg n)) i=i:=λi hi=>by rw[e9];simp[hi]
  exact⟨by simp,λi hi=>by rw[e i hi];exact hi,λi j hi hj z=>by rw[e i hi,e j hj] at z;exact z⟩
 unfold kas_sort;rw[gk];obtain⟨k,q,e,P,k1,kn,hR⟩:=CS L P0 h2;rw[e]
 dsimp only
 by_cases dG:k<n
 ·rw[aeg dG];have:=Bo L (n - max k 1) (k:=max k 1) P (by omega) (by rw[show max k 1=k by omega];exact hR);rw[show max k 1+(n - max k 1)=n by omega] at this;exact this
 ·rw[aeh dG];have:k=n:=by omega
  subst this;exact⟨P,hR⟩
end
def Asks{α:Type}(n:Nat)(P:α->Prop):KasT α->Prop
 | .ret a=>P a
 | .ask i j k=>i<n/\j<n/\∀c,Asks n P (k c)
theorem Asks.bind{α β:Type}{n:Nat}{P:α->Prop}{Q:β->Prop}{f:α->KasT β}:∀{t:KasT α},Asks n P t->(∀a,P a->Asks n Q (f a))->Asks n Q (t.bind f)
 | .ret a,h,hf=>hf a h
 | .ask i j k,h,hf=>⟨h.1,h.2.1,λc=>Asks.bind (h.2.2 c) hf⟩
theorem wp_run{α:Type}{n:Nat}{P:α->Prop}{b:Nat->Nat->Bool}{cmp:Nat->Nat->(Bool->XD->Prop)->XD->Prop}{Q:α->XD->Prop}{s:XD}(hc:∀i j C,i<n->j<n->C (b i j) s->cmp i j C s):∀{t:KasT α},Asks n P t->Q (dX b t) s->t.kasWp cmp Q s
 | .ret a,_,h=>h
 | .ask i j k,ha,h=>hc i j _ ha.1 ha.2.1 (wp_run hc (ha.2.2 _) h)
def Below(n:Nat)(p:Array Nat):Prop:=∀x∈p,x<n
section
variable{n:Nat}(hn:0<n)
include hn
theorem Below.at{p:Array Nat}(h:Below n p)(i:Nat):at' p i<n:=by
 rw[e9];cases e:p[i]? with
 |none=>exact hn
 |some x=>exact h x (Array.mem_of_getElem? e)
theorem Below.rev{p:Array Nat}(h:Below n p)(i j:Nat):Below n (kas_rev p i j):=λx hx=>h x ((mirror_perm p i j ((j - i) / 2)).mem_iff.mp hx)
theorem Below.bub{p:Array Nat}(h:Below n p)(k d:Nat):Below n (bubble p k d):=λx hx=>h x ((bubble_perm p k d).mem_iff.mp hx)
theorem qG{p:Array Nat}(h:Below n p):∀f k,Asks n (λ_=>True) (kas_asc p f k)
 |0,k=>trivial
 |f+1,k=>⟨Below.at hn h _,Below.at hn h _,λc=>by
  show Asks n _ (if c=true then KasT.ret k else kas_asc p f (k+1));cases c
  ·exact qG h f (k+1)
  ·exact trivial⟩
theorem kr:∀f {p:Array Nat} k q,Below n p->Asks n (λr=>Below n r.1) (kas_desc f p k q)
 |0,p,k,q,h=>h
 |f+1,p,k,q,h=>⟨Below.at hn h _,Below.at hn h _,λc=>by
  cases c
  ·refine⟨Below.at hn h _,Below.at hn h _,λd=>?_⟩;cases d
   ·exact kr f _ _ h
   ·exact h
  ·show Asks n _ (if q>0 then kas_desc f (kas_rev p (k - (q+1)) k) (k+1) 0 else kas_desc f p (k+1) 0);split
   ·exact kr f _ _ (Below.rev hn h _ _)
   ·exact kr f _ _ h⟩
theorem uk{p:Array Nat}(h:Below n p)(m r:Nat):Asks n (λx=>Below n x.2) (kas_tail3 m r p):=Asks.bind (qG hn (Below.rev hn h 0 m) _ _) λ_ _=>Below.rev hn h 0 m
theorem qH{p:Array Nat}(h:Below n p)(m r:Nat):Asks n (λx=>Below n x.2) (kas_descPart m r p):=Asks.bind (kr hn _ _ _ h) λx hx=>by
 split
 ·exact uk hn (Below.rev hn hx _ _) _ _
 ·exact uk hn hx _ _
theorem zQ{p:Array Nat}(h:Below n p)(r:Nat):Asks n (λx=>Below n x.2) (kas_count r p):=Asks.bind (qG hn h _ _) λm _=>by
 split
 ·exact h
 ·split
  ·refine⟨Below.at hn h _,Below.at hn h _,λc=>?_⟩;cases c
   ·exact qH hn (Below.rev hn h _ _) _ _
   ·exact h
  ·exact qH hn h _ _
theorem lz{p:Array Nat}(h:Below n p)(k:Nat):∀f l r,Asks n (λ_=>True) (kas_place p k f l r)
 |0,l,r=>trivial
 |f+1,l,r=>by
  unfold kas_place;split
  ·exact trivial
  ·refine⟨Below.at hn h _,Below.at hn h _,λc=>?_⟩;cases c
   ·exact lz h k f _ _
   ·exact lz h k f _ _
theorem xQ:∀f {p:Array Nat} k,Below n p->Asks n (λ_=>True) (kas_bin f p k)
 |0,p,k,h=>trivial
 |f+1,p,k,h=>Asks.bind (lz hn h k _ _ _) λl _=>xQ f _ (Below.bub hn h _ _)
theorem CG:Asks n (λ_=>True) (kas_sort n):=by
 have h0:Below n (Zn (Yg n)):=λx hx=>by simpa using hx
 refine Asks.bind (zQ hn h0 n) λx hx=>?_;split
 ·exact xQ hn _ _ hx
 ·exact trivial
end
def eV:List Int->List Int->Bool
 |[],[]=>false
 |[],_::_=>true
 |_::_,[]=>false
 |x::xs,y::ys=>if x=y then eV xs ys else decide (x<y)
theorem v7:∀a b c:List Int,eV a b=true->eV b c=true->eV a c=true
 |[],[],_,h,_=>by cases h
 |[],_::_,[],_,h=>by cases h
 |[],_::_,_::_,_,_=>rfl
 |_::_,[],_,h,_=>by cases h
 |_::_,_::_,[],_,h=>by cases h
 |x::a,y::b,z::c,h1,h2=>by
  unfold eV at h1 h2⊢;by_cases e1:x=y
  ·subst e1;rw[aeg rfl] at h1;by_cases e2:x=z
   ·subst e2;rw[aeg rfl] at h2⊢;exact v7 a b c h1 h2
   ·rw[aeh e2] at h2⊢;exact h2
  ·rw[aeh e1] at h1;have h1:=aek h1;by_cases e2:y=z
   ·subst e2;rw[aeh e1];exact aei h1
   ·rw[aeh e2] at h2;have h2:=aek h2;rw[aeh (by omega)];exact aei (by omega)
theorem mx:∀a b:List Int,eV a b=true->eV b a=false
 |[],[],h=>by cases h
 |[],_::_,_=>rfl
 |_::_,[],h=>by cases h
 |x::a,y::b,h=>by
  unfold eV at h⊢;by_cases e:x=y
  ·subst e;rw[aeg rfl] at h⊢;exact mx a b h
  ·rw[aeh e] at h;have h:=aek h;rw[aeh (λz=>e z.symm)];exact aem (by omega)
theorem rN:∀a b:List Int,a≠b->eV a b=true\/eV b a=true
 |[],[],h=>aej rfl h
 |[],_::_,_=> .inl rfl
 |_::_,[],_=> .inr rfl
 |x::a,y::b,h=>by
  unfold eV;by_cases e:x=y
  ·subst e;rw[aeg rfl,aeg rfl];exact rN a b λz=>h (by rw[z])
  ·rw[aeh e,aeh (λz=>e z.symm)];by_cases q:x<y
   ·exact .inl (aei q)
   ·exact .inr (aei (by omega))
section
variable{prog:Yd}{w:World}{A:Yy}{E:Value->XD->Prop}{s:XD}
theorem yy{Q:Bool->XD->Prop}:∀{us vs:List Value}{xs ys:List Int}(i:Nat) {fin:Bool},abr us xs->abr vs ys->fin=decide (xs.length<ys.length)->Q (eV xs ys) s->KatLex prog w A true fin Q (us.zip vs) i s
 |_,_,_,_,i,_, .nil, .nil,e,h=>by subst e;exact kat_nil h
 |_,_,_,_,i,_, .nil, .cons y t r,e,h=>by subst e;exact kat_nil h
 |_,_,_,_,i,_, .cons x t r, .nil,e,h=>by subst e;exact kat_nil h
 |_,_,_,_,i,_, .cons (vs:=us) (ns:=xs) x t r, .cons (vs:=vs) (ns:=ys) y u r',e,h=>by
  refine kat_cons (wpAny_eqBool_int ?_);by_cases q:x=y
  ·subst q;rw[show (x==x)=true by simp];refine kat_yes (yy (i+1) r r' (by rw[e];simp) ?_);unfold eV at h;rw[aeg rfl] at h;exact h
  ·rw[show (x==y)=false by simpa using q];unfold eV at h;rw[aeh q] at h;refine kat_no ?_;by_cases hi:(i==0)=true
   ·rw[hi];exact oneLt_int h
   ·rw[show (i==0)=false by simpa using hi];exact kat_one _ _ (PyProof.Rows.lt_int h)
def TupsAt(h:Heap):List Value->List (List Int)->Prop
 |[],[]=>True
 |v::vs,k::ks=>(∃a o us m,v= .ref a/\h.get? a=some o/\o.cls= .type "tuple"/\o.data= .seq (Zn us) m/\abr us k/\k≠[])/\TupsAt h vs ks
 |_,_=>False
theorem TupsAt.len{h:Heap}:∀{vs:List Value}{ks:List (List Int)},TupsAt h vs ks->vs.length=ks.length
 |[],[],_=>rfl
 |v::vs,k::ks,t=>by rw[XH,XH,TupsAt.len t.2]
 |[],_::_,t=>t.elim
 |_::_,[],t=>t.elim
theorem TupsAt.get{h:Heap}:∀{vs:List Value}{ks:List (List Int)}{i:Nat},TupsAt h vs ks->i<vs.length->∃a o us m,vs.getD i YO= .ref a/\h.get? a=some o/\o.cls= .type "tuple"/\o.data= .seq (Zn us) m/\abr us (ks.getD i [])/\ks.getD i []≠[]
 |v::vs,k::ks,0,t,_=>t.1
 |v::vs,k::ks,i+1,t,hi=>TupsAt.get (i:=i) t.2 (by simpa using hi)
 |[],_,_,_,hi=>by simp at hi
 |_::_,[],_,t,_=>t.elim
theorem TupsAt.keep{h h':Heap}{a:Addr}(k:∀b o,b≠a->h.get? b=some o->h'.get? b=some o)(ha:∀o,h.get? a=some o->o.cls≠ .type "tuple"):∀{vs:List Value}{ks:List (List Int)},TupsAt h vs ks->TupsAt h' vs ks
 |[],[],_=>trivial
 |v::vs,x::ks,⟨⟨b,o,us,m,e1,e2,e3,e4⟩,t⟩=>⟨⟨b,o,us,m,e1,k b o (λz=>ha o (by rw[<-z];exact e2) e3) e2,e3,e4⟩,TupsAt.keep k ha t⟩
 |[],_::_,t=>t.elim
 |_::_,[],t=>t.elim
theorem rD:∀{us:List Value}{xs:List Int},abr us xs->us.length=xs.length
 |_,_, .nil=>rfl
 |_,_, .cons x t r=>by rw[XH,XH,rD r]
theorem TupsAt.firsts{M:Model}{h:Heap}:∀{vs:List Value}{ks:List (List Int)},TupsAt h vs ks->∃fs,KatTups h vs fs/\fs.length=vs.length/\∀v∈fs,Looks M h (typeOf v) (.type "int")
 |[],[],_=>⟨[],KatTups.nil,rfl,λ_ z=>by cases z⟩
 |v::vs,k::ks,⟨⟨a,o,us,m,e1,e2,e3,e4,e5,e6⟩,t⟩=>by
  obtain⟨fs,q1,q2,q3⟩:=TupsAt.firsts (M:=M) t;subst e1;cases e5 with
  |nil=>exact aej rfl e6
  |cons x t r=>
   refine⟨.int x t::fs,KatTups.cons e2 e3 e4 (by simp) q1,by simp[q2],λv hv=>?_⟩;rcases XF.mp hv with rfl | hv
   ·exact show Looks M h (pure (ab6 "int")) (ab6 "int") from .now
   ·exact q3 v hv
 |[],_::_,t=>t.elim
 |_::_,[],t=>t.elim
theorem asked{vs:List Value}{ks:List (List Int)}(t:TupsAt s.heap vs ks)(i j:Nat)(C:Bool->XD->Prop)(hi:i<vs.length)(hj:j<vs.length)(h:C (eV (ks.getD i []) (ks.getD j [])) s):kas_ask prog w A (tuples' true) vs i j C s:=by
 obtain⟨a,o,us,m,e1,e2,_,e4,e5,_⟩:=t.get hi;obtain⟨a',o',Xx,m',Eg,NR,_,UX,Tq,_⟩:=t.get hj;unfold kas_ask;rw[e1,Eg];refine kat_lt e2 e4 NR UX (yy 0 e5 Tq ?_ h);rw[XW,XW,rD e5,rD Tq]
theorem Gj{α:Type}{l:List α}(h:l.Nodup){i j:Nat}(hi:i<l.length)(hj:j<l.length)(e:l[i]=l[j]):i=j:=by
 rcases Nat.lt_trichotomy i j with q | q | q
 ·exact aej e (YL.mp h i j hi hj q)
 ·exact q
 ·exact aej e.symm (YL.mp h j i hj hi q)
theorem ve{a:Addr}{c:Nat}{vs:List Value}{ks:List (List Int)}{P:PySem.Fin->XD->Prop}(ho:s.heap.get? a=some (aaf "list" vs.toArray c))(ht:TupsAt s.heap vs ks)(hd:ks.Nodup)(lI:vs.length<64)
 (h:∀(p:Array Nat) (h':Heap) (c':Nat),PN vs.length p->Ri (λi j=>eV (ks.getD i []) (ks.getD j [])) p vs.length->h'.get? a=some (aaf "list" (Zn (p.toList.map λi=>vs.getD i YO)) c')->
  (∀b o,b≠a->s.heap.get? b=some o->h'.get? b=some o)->P (.done (.ret .none)) {s with heap:=h'}):wpAny (model prog w) A (aaF.«list.sort» ⟨[.ref a],[]⟩) P E s:=by
 have El:X6=16777216:=Zx;have s1:=Yo s.heap a (ZY λ_=>(#[]:Array Value));obtain⟨e1,Ud⟩:∃e1,(s.heap.update a (ZY λ_=>(#[]:Array Value))).get? a=some (aaf "list" #[] e1):=⟨_,get?_update_seq ho λ_=> #[]⟩
 have k1:∀b o,b≠a->s.heap.get? b=some o->(((s.heap.update a (ZY λ_=>(#[]:Array Value))).push (aaf "tuple" vs.toArray 0)).push (aaf "list" #[] 0)).get? b=some o:=λb o hb e=>
  XJ _ (XJ _ ((s1.2 b hb).trans e))
 have RZ:=XJ (aaf "list" #[] 0) (XJ (aaf "tuple" vs.toArray 0) Ud);have t3:=ht.keep k1 (λo e z=>by rw[ho] at e;cases e;exact aej (Value.type.inj z) (by decide));have fin:∀(st:SortSt) (p:Array Nat),PN vs.length p->Ri (λi j=>eV (ks.getD i []) (ks.getD j [])) p vs.length->(arrOf st).map (·.2)=Zn (p.toList.map λi=>vs.getD i YO)->failedOf st=none->
  wpAny (model prog w) A (do
   let touched:=(<-seqEpoch a) !=e1
   Builtin.List.listUpdate (.ref a) λ_=>(arrOf st).map (·.2)
   if let some e:=failedOf st then rule "list.sort.comparison-raised";throw e
   if touched then rule "list.sort.modified";raiseError "ValueError" "list modified during sort"
   ret .none) P E {s with heap:=((s.heap.update a (ZY λ_=>(#[]:Array Value))).push (aaf "tuple" vs.toArray 0)).push (aaf "list" #[] 0)}:=λst p hp hr he hf=>by
  have hz:(Zn (p.toList.map λi=>vs.getD i YO)).size=vs.length:=by rw[XW,XB,XG,hp.sz]
  rw[he,hf];refine Xy (seqEpoch_at RZ rfl (Xy (listUpdate_at RZ rfl ?_ (Ys _) (by rw[hz,El];omega))));simp only[bne_self_eq_false,X4,if_false];have s2:=Yo (((s.heap.update a (ZY λ_=>(#[]:Array Value))).push (aaf "tuple" vs.toArray 0)).push (aaf "list" #[] 0)) a (ZY λ_=>Zn (p.toList.map λi=>vs.getD i YO));exact XE (h p _ _ hp hr (get?_update_seq RZ λ_=>Zn (p.toList.map λi=>vs.getD i YO)) λb o hb e=>(s2.2 b hb).trans (k1 b o hb e))
 rw[list_sort_plain];refine Xy (listItems_at ho rfl (Xy (listUpdate_at ho rfl (Xy (seqEpoch_at Ud rfl ?_)) (by rw[XW,El];omega) (Ys _))));refine Xy (wpAny_newTuple (Xy (adV (Zg ?_) (Ys _))) (by show vs.length<=_;rw[El];omega));show wpAny (model prog w) A _ P E {s with heap:=((s.heap.update a (ZY λ_=>(#[]:Array Value))).push (aaf "tuple" vs.toArray 0)).push (aaf "list" #[] 0)}
 dsimp only
 by_cases hs:vs.toArray.size<2
 ·rw[aeg hs,aeg hs];have KC:vs.length<2:=by simpa using hs
  refine Xy (XE (Xy (XE ?_)));refine fin (SortSt.mk' general' (vs.toArray.zip vs.toArray) #[] 7 none) (Zn (Yg vs.length)) ⟨by simp,λi hi=>?_,λi j hi hj _=>by omega⟩ (λi j BO hj=>by omega) ?_ rfl
  ·rw[e9];simp[hi]
  ·show (vs.toArray.zip vs.toArray).map (·.2)=_;apply Array.toList_inj.mp;refine acw (by simp) λi a1 a2=>?_;simp at a1;simp[a1]
 ·rw[aeh hs,aeh hs];have KC:2<=vs.length:=by
   have:¬vs.length<2:=by simpa using hs
   omega
  obtain⟨fs,q1,q2,q3⟩:=t3.firsts (M:=model prog w);refine Xy (kat_kind q1 (by omega) q3 rfl ?_);have hb:Lt vs.length (λi j=>eV (ks.getD i []) (ks.getD j [])):=⟨λi j k=>v7 _ _ _,λi j=>mx _ _,λi j hi hj BO=>rN _ _ λz=>BO (by
   rw[ht.len] at hi hj;rw[X9,X9,XC hi,XC hj] at z;exact Gj hd hi hj (by simpa using z))⟩
  obtain⟨r1,r2⟩:=Hu hb KC;have run:=kat_run (prog:=prog) (w:=w) (A:=A) (E:=E) (ks:=vs) (vs:=vs) (κ:=tuples' true) (Q:=λst s'=>s'={s with heap:=((s.heap.update a (ZY λ_=>(#[]:Array Value))).push (aaf "tuple" vs.toArray 0)).push (aaf "list" #[] 0)}/\∃p,PN vs.length p/\Ri (λi j=>eV (ks.getD i []) (ks.getD j [])) p vs.length/\(arrOf st).map (·.2)=Zn (p.toList.map λi=>vs.getD i YO)/\failedOf st=none)
   (G:=λp s'=>s'={s with heap:=((s.heap.update a (ZY λ_=>(#[]:Array Value))).push (aaf "tuple" vs.toArray 0)).push (aaf "list" #[] 0)}/\PN vs.length p/\Ri (λi j=>eV (ks.getD i []) (ks.getD j [])) p vs.length) rfl KC lI
   (λp sY s' a1 a2 a3 a4=>⟨a4.1,p,a4.2.1,a4.2.2,kat_snds rfl a2,a3⟩)
   (wp_run (s:={s with heap:=((s.heap.update a (ZY λ_=>(#[]:Array Value))).push (aaf "tuple" vs.toArray 0)).push (aaf "list" #[] 0)}) (λi j C hi hj hC=>asked t3 i j C hi hj hC) (CG (by omega)) ⟨rfl,r1,r2⟩)
  refine Xy (YV run ?_ λ_ _ e=>e);rintro⟨⟨⟩,sY⟩ s' ⟨rfl,p,a1,a2,a3,a4⟩;exact fin sY p a1 a2 a3 a4
end
section
variable{prog:Yd}{w:World}{A:Yy}{E:Value->XD->Prop}{s:XD}
theorem uP{d:Addr}{od:Obj}{es:Array ZW}{ep:Nat}{Q:Value->XD->Prop}(lo:(d==Zf)=false)(ho:s.heap.get? d=some od)(hx:od.ExactDict)(hd:od.data= .dict es ep)
 (hQ:Q (.ref s.heap.objs.size) {s with heap:=s.heap.push {cls:= .type "dict_keyiterator",data:= .fields #[.ref d, .int 0 0, .int es.size 0, .int ep 0]} }):wpAny (model prog w) A (adM (.ref d)) Q E s:=by
 have hT:s.TypeIs (.ref d) "dict":=⟨od,ho,hx.1⟩
 refine acL hT F.slot_dict_iter (Za F.slot_dict_iter hT F.entry_dict_iter ?_ (F.args_dict_iter_1 _));unfold aaF.«dict.__iter__» Builtin.Dict.dictSlotNone;refine Xy (Xy (wpAny_notOrdered_dict hT ?_));show wpAny _ _ (pure (Ye d)) _ _ s;refine XE ?_;show wpAny _ _ (aa5 d>>=_) _ _ s;unfold aa5;rw[aeh (by rw[lo];exact Yi)];refine Xy (XE (Xy (Zv ho hd (Xy (aa8 ho hd ?_)))));refine Xy (ZR (XE ⟨_,rfl,"dict_keyiterator",_,⟨_,X8 _ rfl,rfl⟩,F.slot_dict_keyiterator_next.lookup,?_⟩));simpa[aaA] using hQ
theorem yC{it d:Addr}{od:Obj}{es:Array ZW}{i ep:Nat}{e:ZW}{Q:Option Value->XD->Prop}(hit:s.heap.IsKeyIter it d i es.size ep)(Dd:s.heap.get? d=some od)(pY:od.data= .dict es ep)(hx:es[i]? =some e)
 (hQ:∀h',h'.IsKeyIter it d (i+1) es.size ep->Ze it s.heap h'->Q (some e.key) {s with heap:=h'}):wpAny (model prog w) A (abM (.ref it)) Q E s:=by
 obtain⟨o,ho,hc,hd⟩:=id hit;have dG:i<es.size:=(YC.mp hx).1;have Mh:abt "dict_keyiterator"=false:=by decide
 unfold abM;refine Xy (acx (aaE (name:=Zp "__next__") hit.typeIs Z6
  (Za Z6 hit.typeIs acV ?_ (acI _))))
 refine Xy (XE (Xy (Xy ?_)))
 first | refine Xy (Z1 hit.typeIs (XE ?_)) | refine Xy (aaz hit.typeIs (XE ?_))
 refine Xy (ab_ ho hd ?_);simp only[Mh,X4,if_false];show wpAny _ _ (if (Ye d==YO)=true then _ else _) _ _ s;rw[aeh (show¬((Ye d==YO)=true) from Yi)];refine Xy (XE (Xy (Zv Dd pY ?_)));rw[aeh (by simp)];refine Xy (XE (Xy (aa8 Dd pY ?_)));rw[aeh (by simp)];refine XE ?_;simp only[show¬((i:Int)<0) from by omega,if_false,abh,hx];refine Xy ?_
 first | refine Xy (Z1 hit.typeIs (XE ?_)) | refine Xy (aaz hit.typeIs (XE ?_))
 refine Xy (wpAny_isOneOf_keyiter hit.typeIs ?_);show wpAny _ _ (adW (.ref it) 1 (aaA ((i:Int)+1))>>=_) _ _ s;refine Xy (abl ho hd (by simp) ?_);have C7:(s.heap.update it (ab7 (·.setIfInBounds 1 (aaA ((i:Int)+1))))).IsKeyIter it d (i+1) es.size ep:=
  ⟨_,Y2 _ ho (abI (Z0 hd _)),(acn ..).trans hc,by rw[Z0 hd];simp[aaA]⟩
 refine Xy (Zg (Xy (wpAny_isOneOf_keyiter (s:={s with heap:=s.heap.update it (ab7 (·.setIfInBounds 1 (aaA ((i:Int)+1))))}) C7.typeIs ?_)));show wpAny _ _ (pure e.key) _ _ _;exact XE (XE ⟨_,rfl,XE (hQ _ C7 (Yo ..))⟩)
theorem uz{it d:Addr}{od:Obj}{es:Array ZW}{ep i:Nat}{Q:Option Value->XD->Prop}(hh:A.handled=none)(hit:s.heap.IsKeyIter it d i es.size ep)(hi:es.size<=i)(Dd:s.heap.get? d=some od)(pY:od.data= .dict es ep)
 (hQ:∀h',adS it s.heap h'->Q none {s with heap:=h'}):wpAny (model prog w) A (abM (.ref it)) Q E s:=by
 obtain⟨o,ho,hc,hd⟩:=id hit;have Mh:abt "dict_keyiterator"=false:=by decide
 unfold abM;refine Xy (acx (aaE (name:=Zp "__next__") hit.typeIs Z6
  (Za Z6 hit.typeIs acV ?_ (acI _))))
 refine Xy (XE (Xy (Xy ?_)))
 first | refine Xy (Z1 hit.typeIs (XE ?_)) | refine Xy (aaz hit.typeIs (XE ?_))
 refine Xy (ab_ ho hd ?_);simp only[Mh,X4,if_false];show wpAny _ _ (if (Ye d==YO)=true then _ else _) _ _ s;rw[aeh (show¬((Ye d==YO)=true) from Yi)];refine Xy (XE (Xy (Zv Dd pY ?_)));rw[aeh (by simp)];refine Xy (XE (Xy (aa8 Dd pY ?_)));rw[aeh (by simp)];refine XE ?_;simp only[show¬((i:Int)<0) from by omega,if_false,abh,aaB hi];refine Xy ?_
 first | refine Xy (Z1 hit.typeIs (XE ?_)) | refine Xy (aaz hit.typeIs (XE ?_))
 show wpAny _ _ (adW (.ref it) 0 .none>>=_) _ _ s;refine Xy (abl ho hd (by simp) ?_);show wpAny _ _ (newExc (.type "StopIteration") []>>=_) _ _ _;refine Xy ?_;simp only[newExc,newTuple];refine Xy (ZR ?_ (by size_fits));refine Xy (m:=acb _ _) (aci (a:=YO) (by first | rfl | (simp only[acb];rfl)) ?_);refine ZR ?_ (by size_fits);simp only[raiseNew];refine Xy (wpAny_handled ?_);rw[show A.in1.handled=none from hh];refine Xy (XE (wpAny_throw ?_));refine Xy (abL (T:="StopIteration") (b:=true) ⟨_,X8 _ rfl,rfl⟩ isSubtype_stop ?_);exact XE (hQ _ (((Yo ..).extBut.push _).push _))
theorem E8{it d:Addr}{od:Obj}{es:Array ZW}{ep:Nat}{Q:Option Value->XD->Prop}(hh:A.handled=none)(hit:s.heap.IsKeyIter it d es.size es.size ep)(Dd:s.heap.get? d=some od)(pY:od.data= .dict es ep)
 (hQ:∀h',adS it s.heap h'->Q none {s with heap:=h'}):wpAny (model prog w) A (abM (.ref it)) Q E s:=uz hh hit (XM _) Dd pY hQ
def Kc(es:Array ZW):Nat->Value->Prop:=λi v=>∃e,es[i]? =some e/\v=e.key
theorem A9(hh:A.handled=none)(I d:Addr)(fo:d≠I){od:Obj}{es:Array ZW}{ep:Nat}(pY:od.data= .dict es ep):
 Walks prog w A I [I,d] [I] es.size (Kc es) (λi h=>h.IsKeyIter I d i es.size ep/\h.get? d=some od) where
 sub:=λb hb=>by simp at hb;simp[hb]
 frame:=λ_ _ _ st hk=>⟨st.1.at λo e=>hk I (by simp) o e,hk d (by simp) _ st.2⟩
 item:=λi s Q E hi st hQ=>by
  have hx:es[i]? =some es[i]:=XU hi;exact yC st.1 st.2 pY hx λh' C7 yn=>hQ _ h' s.toks ⟨_,hx,rfl⟩ ⟨C7,(yn.2 d fo).trans st.2⟩ λb o hb e=>yn.extBut b o (λh=>hb (by simp[h])) e
 done:=λs Q E st hQ=>E8 hh st.1 st.2 pY λh' RF=>hQ h' s.toks λb o hb e=>RF b o (λh=>hb (by simp[h])) e
 self:=λ_ _ _ _ st hQ=>wpAny_pyIter_keyiter st.1 hQ
theorem Hv{d:Addr}{od:Obj}{es:Array ZW}{ep:Nat}(lo:(d==Zf)=false)(hx:od.ExactDict)(pY:od.data= .dict es ep):KdlSrc prog w "dict" d d es.size (Kc es) (λh=>h.get? d=some od) where
 type:=λ_ hm=>⟨od,hm,hx.1⟩
 there:=λ_ hm=>⟨XY hm,XY hm⟩
 keep:=λ_ _ hm hk=>hk d (.inl rfl) od hm
 notList:=by decide
 notTuple:=by decide
 hint:=λ_ _ s _ hm hq=>kdl_hint_dict ⟨od,hm,hx.1⟩ hq
 iter:=λ_ _ hh hm=>⟨_,_,(λ_ _ hq=>uP lo hm hx pY hq),A9 hh _ d (Yj (XY hm)) pY,⟨⟨_,X8 _ rfl,rfl,rfl⟩,XJ _ hm⟩⟩
end
end L3
namespace L3
open PySem
def insI(k:List Int):List (List Int)->List (List Int)
 |[]=>[k]
 |x::r=>if eV k x then k::x::r else x::insI k r
def sortI:List (List Int)->List (List Int)
 |[]=>[]
 |k::r=>insI k (sortI r)
def zO(l:List (List Int)):Prop:=l.Pairwise λa b=>eV a b=true
theorem rC{k x:List Int}:∀{l:List (List Int)},x∈insI k l↔x=k\/x∈l
 |[]=>by simp[insI]
 |y::r=>by
  unfold insI;split
  ·simp
  ·rw[XF,rC,XF];constructor
   ·rintro(h | h | h)<;>simp[h]
   ·rintro(h | h | h)<;>simp[h]
theorem uH{k:List Int}:∀{l:List (List Int)},zO l->k∉l->zO (insI k l)
 |[],_,_=>ac7 _ _
 |x::r,h,hk=>by
  have h:=Y7.mp h;unfold insI;split
  ·rename_i q;refine Y7.mpr ⟨λy hy=>?_,Y7.mpr h⟩;rcases XF.mp hy with rfl | hy
   ·exact q
   ·exact v7 _ _ _ q (h.1 y hy)
  ·rename_i q;have hx:eV x k=true:=by
    rcases rN k x (λz=>hk (by rw[z];exact XA ..)) with z | z
    ·exact aej z q
    ·exact z
   refine Y7.mpr ⟨λy hy=>?_,uH h.2 λz=>hk (Xz _ z)⟩;rcases rC.mp hy with rfl | hy
   ·exact hx
   ·exact h.1 y hy
theorem eB{x:List Int}:∀{l:List (List Int)},x∈sortI l↔x∈l
 |[]=>abK
 |k::r=>by unfold sortI;rw[rC,eB,XF]
theorem gP:∀{l:List (List Int)},l.Nodup->zO (sortI l)
 |[],_=>abz
 |k::r,h=>by
  have h:=Yz.mp h;exact uH (gP h.2) λz=>h.1 (eB.mp z)
theorem m6:∀{a b:List (List Int)},zO a->zO b->(∀x,x∈a↔x∈b)->a=b
 |[],[],_,_,_=>rfl
 |[],y::b,_,_,h=>by have:=(h y).mpr (XA ..);cases this
 |x::a,[],_,_,h=>by have:=(h x).mp (XA ..);cases this
 |x::a,y::b,ha,hb,h=>by
  have ha:=Y7.mp ha;have hb:=Y7.mp hb;have e:x=y:=by
   rcases XF.mp ((h x).mp (XA ..)) with q | q
   ·exact q
   ·rcases XF.mp ((h y).mpr (XA ..)) with p | p
    ·exact p.symm
    ·have z1:=hb.1 x q;have z2:=ha.1 y p;rw[mx _ _ z1] at z2;cases z2
  subst e;have Uq:∀k,eV k k≠true:=λk z=>by have:=mx _ _ z;rw[z] at this;cases this
  rw[m6 ha.2 hb.2 λz=>?_];constructor
  ·intro hz;rcases XF.mp ((h z).mp (Xz _ hz)) with q | q
   ·subst q;exact aej (ha.1 z hz) (Uq z)
   ·exact q
  ·intro hz;rcases XF.mp ((h z).mpr (Xz _ hz)) with q | q
   ·subst q;exact aej (hb.1 z hz) (Uq z)
   ·exact q
theorem AR:∀(n:Nat) (l:List Nat),l.Nodup->(∀x∈l,x<n)->l.length=n->∀k,k<n->k∈l
 |0,_,_,_,_,k,hk=>by omega
 |n+1,l,hd,hl,hn,k,hk=>by
  by_cases h:n∈l
  ·by_cases e:k=n
   ·subst e;exact h
   ·refine List.mem_of_mem_erase (AR n (l.erase n) (hd.erase n) (λx hx=>?_) (by rw[abc h,hn];rfl) k (by omega));have hx:=hd.mem_erase_iff.mp hx;have:=hl x hx.2;have:=hx.1;omega
  ·cases l with
   |nil=>simp at hn
   |cons x r=>
    have hd:=Yz.mp hd;have lt:∀y∈x::r,y<n:=λy hy=>by
     have:=hl y hy;have:y≠n:=λz=>h (by rw[<-z];exact hy);omega
    exact aej (AR n r hd.2 (λy hy=>lt y (Xz _ hy)) (by simpa using hn) x (lt x (XA ..))) hd.1
theorem vf{ks:List (List Int)}{p:Array Nat}(hd:ks.Nodup)(P:PN ks.length p)(R:Ri (λi j=>eV (ks.getD i []) (ks.getD j [])) p ks.length):(p.toList.map λi=>ks.getD i [])=sortI ks:=by
 have hsz:p.toList.length=ks.length:=by rw[XG];exact P.sz
 have HR:∀i (h:i<p.toList.length),p.toList[i]=at' p i:=λi h=>by
  have h':i<p.size:=by rw[XG] at h;exact h
  rw[e9,XU h'];simp
 refine m6 ?_ (gP hd) λx=>?_
 ·refine YL.mpr λi j hi hj BO=>?_;rw[XB] at hi hj;rw[aai,aai,HR i hi,HR j hj];exact R i j BO (by omega)
 ·rw[eB];constructor
  ·intro hx;obtain⟨i,hi,rfl⟩:=XS.mp hx;obtain⟨j,hj,rfl⟩:=YM.mp hi;have:=P.lt j (by omega);rw[HR j hj,X9,XC this];exact ZC this
  ·intro hx;obtain⟨k,hk,rfl⟩:=YM.mp hx;have BP:k∈p.toList:=by
    have hn:p.toList.Nodup:=YL.mpr λi j hi hj BO z=>by
     rw[HR i hi,HR j hj] at z;have:=P.inj i j (by omega) (by omega) z;omega
    exact AR ks.length p.toList hn (λx hx=>by
     obtain⟨j,hj,rfl⟩:=YM.mp hx;rw[HR j hj];exact P.lt j (by omega)) hsz k hk
   refine XS.mpr ⟨k,BP,?_⟩;rw[X9,XC hk];rfl
end L3
namespace L3
open PySem PySem.Spec L2 SeqAt HT
open PyProof.Rows hiding St
def tupI(k:List Int):D:= .tup (k.map D.int)
def KI:D->Option (List Int)
 | .tup ds=>nums ds
 |_=>none
def iU:List D->Option (List (List Int))
 |[]=>some []
 |d::ds=>match KI d,iU ds with
  |some k,some ks=>some (k::ks)
  |_,_=>none
def fe(ks:List (List Int)):Bool:=decide ks.Nodup&&decide (ks.length<64)&&ks.all λk=>!k.isEmpty
def cF(H:Hp):List V->List (List Int)->Prop:=acC λv k=>∃a,v= .ref a/\H a=some (.tup (k.map V.int))
theorem uJ{K:XO}{F H:Hp}(hs:Same F H):∀{ds:List D}{vs:List V}{ks:List (List Int)},iU ds=some ks->DenL K F ds vs->cF H vs ks/\cF F vs ks
 |[],_,_,e,h=>by cases e;cases (show _=_ from h);exact⟨.nil, .nil⟩
 |d::ds,_,_,e,⟨v,r,h1,h2,h3⟩=>by
  subst h1;unfold iU at e;split at e
  ·rename_i k ks e1 e2;cases e;obtain⟨WR,WS⟩:=uJ hs e2 h3;cases d with
   |tup es=>
    obtain⟨a,ws,rfl,k2,k3,_⟩:=h2;have:=mf e1 k3;subst this;exact⟨.cons ⟨a,rfl,hs _ _ k2⟩ WR, .cons ⟨a,rfl,k2⟩ WS⟩
   |_=>cases e1
  ·cases e
theorem sM{K:XO}{F:Hp}:∀{ws:List V}{ks:List (List Int)},cF F ws ks->(∀k∈ks,k.length<=lim)->DenL K F (ks.map tupI) ws
 |_,_, .nil,_=>rfl
 |_,_, .cons (b:=k) h t,hl=>by
  obtain⟨a,rfl,h⟩:=h;exact .cons ⟨a,_,rfl,h,DenL.ints k,by rw[XB];exact hl k (XA ..)⟩ (sM t λk hk=>hl k (Xz _ hk))
theorem oB{X:Cx}{f8:List (Addr×Obj)}{σ:St}{H:Hp}{s:XD}(I:Inv X f8 σ H s):∀{vs:List V}{aK:List Value}{ks:List (List Int)},cF H vs ks->Vals vs aK->(∀k∈ks,k≠[])->TupsAt s.heap aK ks
 |_,_,_, .nil,r,_=>by cases r;exact trivial
 |_,_,_, .cons (b:=k) h t,r,hn=>by
  obtain⟨a,rfl,h⟩:=h;cases r with
  |cons r1 r2=>
   cases (show _=_ from r1);obtain⟨us,ru,pt,_⟩:=I.tuple (SqT.of (K:=X.K) h);obtain⟨o,q1,q2,m,q3⟩:=pt;exact⟨⟨a,o,us,m,rfl,q1,q2,q3,intsAre_of ru,hn k (XA ..)⟩,oB I t r2 λk hk=>hn k (Xz _ hk)⟩
theorem mZ{H:Hp}:∀{vs:List V}{ks:List (List Int)}{i:Nat},cF H vs ks->i<vs.length->∃a,vs.getD i .non= .ref a/\H a=some (.tup ((ks.getD i []).map V.int))
 |_,_,i, .nil,hi=>by simp at hi
 |_,_,0, .cons h t,_=>h
 |_,_,i+1, .cons h t,hi=>mZ (i:=i) t (by simpa using hi)
theorem j3{H:Hp}:∀{vs:List V}{ks:List (List Int)},cF H vs ks->vs.length=ks.length
 |_,_, .nil=>rfl
 |_,_, .cons h t=>by rw[XH,XH,j3 t]
theorem iL{H:Hp}{vs:List V}{ks:List (List Int)}(h:cF H vs ks):∀{is:List Nat},(∀i∈is,i<vs.length)->cF H (is.map λi=>vs.getD i .non) (is.map λi=>ks.getD i [])
 |[],_=> .nil
 |i::is,hi=> .cons (mZ h (hi i (XA ..))) (iL h λj hj=>hi j (Xz _ hj))
theorem oO:∀{vs:List V}{us:List Value}(i:Nat),Vals vs us->i<vs.length->RelV (vs.getD i .non) (us.getD i YO)
 |_,_,i, .nil,hi=>by simp at hi
 |_,_,0, .cons h t,_=>h
 |_,_,i+1, .cons h t,hi=>oO i t (by simpa using hi)
theorem oP{vs:List V}{us:List Value}(h:Vals vs us):∀{is:List Nat},(∀i∈is,i<vs.length)->Vals (is.map λi=>vs.getD i .non) (is.map λi=>us.getD i YO)
 |[],_=> .nil
 |i::is,hi=> .cons (oO i h (hi i (XA ..))) (oP h λj hj=>hi j (Xz _ hj))
section
variable{e:Expr}
theorem uK{K:XO}{F:Hp}:∀{ds:List D}{vs:List V}{ks:List (List Int)},iU ds=some ks->DenL K F ds vs->∀k∈ks,k.length<=lim
 |[],_,_,e,_=>by cases e;exact λk hk=>by cases hk
 |d::ds,_,_,e,⟨v,r,h1,h2,h3⟩=>by
  unfold iU at e;split at e
  ·rename_i k ks e1 e2;cases e;intro k' pZ;rcases XF.mp pZ with rfl | pZ
   ·cases d with
    |tup es=>
     obtain⟨a,ws,rfl,k2,k3,k4⟩:=h2;have:=mf e1 k3;have hl:=k3.len;rw[this,XB] at hl;omega
    |_=>cases e1
   ·exact uK e2 h3 k' pZ
  ·cases e
theorem oI:∀l:List (List Int),(sortI l).length=l.length
 |[]=>rfl
 |k::r=>by
  have ins:∀(k:List Int) (l:List (List Int)),(insI k l).length=l.length+1:=by
   intro k l;induction l with
   |nil=>rfl
   |cons x l ih=>
    unfold insI;split
    ·rfl
    ·rw[XH,ih,XH]
  unfold sortI;rw[ins,oI r,XH]
end
def rJ(k:List Int):List Key:=k.map acj
def P9:List V->Hp->VK->Prop:=λxs H Q=>∃p aA ks,xs=[.ref p]/\Rd H p (.dT aA)/\aA.map (·.1)=ks.map rJ/\fe ks=true/\∀(q:Addr) (ws:List V),H q=none->cF H ws (sortI ks)->Q (.ref q) (upd H q (.lst ws))
theorem uS{H:Hp}:∀{aA:List (List Key×V)}{xs:List (List Key×Addr×Value)}{ks:List (List Int)},acC (λ(p:List Key×V) (q:List Key×Addr×Value)=>p.1=q.1/\H q.2.1=some (.tup (p.1.map kV))/\RelV p.2 q.2.2) aA xs->
 aA.map (·.1)=ks.map rJ->cF H (xs.map λx=>V.ref x.2.1) ks
 |_,_,[], .nil,_=> .nil
 |_,_,_::_, .nil,e=>by simp at e
 |_,_,[], .cons h t,e=>by simp at e
 |_,_,k::ks, .cons h t,e=>by
  rw[XN,XN] at e;injection e with e1 e2
  refine .cons ⟨_,rfl,?_⟩ (uS t e2);have hk:(rJ k).map kV=k.map V.int:=by unfold rJ;rw[Yv];rfl
  rw[h.2.1,e1,hk]
section
variable{X:Cx}{Xw:Nat->Hp->Prop}{e:Expr}{δs:DA}{pos p:Pos}
theorem CP(hc:X.calm=true):CallR X (.builtin "sorted") P9:=by
 intro f8 s σ H xs us Q I r h;obtain⟨a,aA,ks,rfl,hH,C9,hk,q⟩:=h;obtain⟨u,rfl,r1⟩:=r.one;cases (show u=_ from r1);obtain⟨z,lo,xs,rel,o,es,ep,g1,g2,g3,g4,g5⟩:=(show ObjOk X.prog X.w H s.heap a (.dT aA) from hH.ok I.hok)
 unfold fe at hk;rw[X5,X5] at hk;have hd:ks.Nodup:=aek hk.1.1;have lI:ks.length<64:=aek hk.1.2;have fo:∀k∈ks,k≠[]:=λk pZ z=>by have:=Yh.mp hk.2 k pZ;rw[z] at this;cases this
 have hr:=uS rel C9;have C_:=j3 hr;rw[XB] at C_;have IJ:es.size=xs.length:=by rw[<-XG,g4,XB]
 have El:X6=16777216:=Zx;refine acW kind_sorted plain_sorted entry_sorted (args_sorted1 _) ?_;unfold aaF.«sorted»;refine Xy (m:=checkCount "sorted" 1 1 _) (XE (Xy (adj (A:=X.A.in1) (Hv lo g2 g3) (I.ok.hd hc) g1 (by rw[IJ,El];omega) λh1 tk v4 FU tQ=>?_)));have LW:v4.toList.length=xs.length:=by rw[XG,<-IJ];exact tQ.1
 have I1:Inv X f8 σ H {s with heap:=h1,toks:=tk}:=I.kept (t':=tk) λb ob e=>FU b ob e;have rv:Vals (xs.map λx=>V.ref x.2.1) v4.toList:=by
  have ext:∀{vs:List V}{us:List Value},vs.length=us.length->(∀(i:Nat) (v:V) (u:Value),vs[i]? =some v->us[i]? =some u->RelV v u)->Vals vs us:=by
   intro vs;induction vs with
   |nil=>intro us h _;cases us with | nil=>exact .nil | cons _ _=>simp at h
   |cons v vs ih=>
    intro us h hh;cases us with
    |nil=>simp at h
    |cons u us=>exact .cons (hh 0 v u rfl rfl) (ih (by simpa using h) λi v u h1 h2=>hh (i+1) v u h1 h2)
  refine ext (by rw[XB,LW]) λi v u e1 e2=>?_;rw[YT] at e2;obtain⟨en,q1,q2⟩:=tQ.2 i u e2;rw[<-YT,g4,XX] at q1;rw[XX] at e1;cases w:xs[i]? with
  |none=>rw[w] at e1;cases e1
  |some x=>
   rw[w] at e1 q1;cases e1;cases q1;exact q2
 have ht:=oB I1 hr rv fo;refine Xy (adV ?_ (by rw[El];omega));have Md:(h1.push (aaf "list" v4.toList.toArray 0)).get? h1.objs.size=some (aaf "list" v4.toList.toArray 0):=X8 _ rfl;refine Xy (Zg (Za slot_list_sort ⟨_,Md,rfl⟩ entry_list_sort (ve (s:={s with heap:=h1.push (aaf "list" v4.toList.toArray 0),toks:=tk}) Md
  (ht.keep (a:=h1.objs.size) (λb o _ e=>XJ _ e) (λo e=>aej (XY e) (YH _))) hd (by omega) λP h' c' hP hR C5 Fy=>?_) (args_list_sort _)))
 have NS:∀i∈P.toList,i<(xs.map λx=>V.ref x.2.1).length:=λi hi=>by
  obtain⟨j,hj,rfl⟩:=YM.mp hi;have h':j<P.size:=by rw[XG] at hj;exact hj
  have:=hP.lt j (by rw[hP.sz] at h';exact h');rw[e9,XU h'] at this;have e:P.toList[j]=P[j]:=by simp
  rw[e,XB];have:P[j]<v4.toList.length:=this;omega
 have Rp:PN ks.length P:=by rw[<-C_,<-LW];exact hP
 have Rq:Ri (λi j=>eV (ks.getD i []) (ks.getD j [])) P ks.length:=by rw[<-C_,<-LW];exact hR
 have N1:=vf hd Rp Rq;have Pf:=iL hr NS;rw[N1] at Pf;refine⟨_,rfl,XE ⟨_,rfl,⟨.ref h1.objs.size,_,I1.laid (a:=h1.objs.size) (t':=tk) (o:= .lst (P.toList.map λi=>(xs.map λx=>V.ref x.2.1).getD i .non)) (λb ob e=>Fy b ob (Yj (XY e)) (XJ _ e)) (XM _) ?_,rfl,q _ _ (I1.hok.fresh (XM _)) Pf⟩⟩⟩;exact⟨by rw[XB,XG,hP.sz,El];omega,_,c',oP rv NS,C5⟩
theorem u9{F F':Hp}(e:Same F F'):∀{ws:List V}{ks:List (List Int)},cF F ws ks->cF F' ws ks
 |_,_, .nil=> .nil
 |_,_, .cons ⟨b,q1,q2⟩ t=> .cons ⟨b,q1,e _ _ q2⟩ (u9 e t)
theorem sN{F H:Hp}(hs:Same F H):∀{ws:List V}{ks:List (List Int)},cF H ws ks->∃F',Ext F H F' H/\cF F' ws ks
 |_,_, .nil=>⟨F,Ext.refl hs, .nil⟩
 |_,_, .cons h t=>by
  obtain⟨a,rfl,h⟩:=h;obtain⟨F1,e1,r1⟩:=sN hs t;have e2:=Ext.tup (F:=F1) e1.fh h;refine⟨_,e1.trans e2, .cons ⟨a,rfl,aG⟩ ?_⟩;exact u9 e2.ff r1
def uI:List Key->Option (List Int)
 |[]=>some []
 | .inl i::r=>(uI r).map (i:: ·)
 |_=>none
def gE:List (List Key)->Option (List (List Int))
 |[]=>some []
 |k::r=>match uI k,gE r with
  |some x,some xs=>some (x::xs)
  |_,_=>none
theorem yo:∀{k:List Key}{x:List Int},uI k=some x->k=rJ x
 |[],_,e=>by cases e;rfl
 | .inl i::r,_,e=>by
   unfold uI at e;cases q:uI r with
   |none=>rw[q] at e;cases e
   |some y=>rw[q] at e;cases e;rw[yo q];rfl
 | .inr _::r,_,e=>by cases e
theorem nR:∀{kk:List (List Key)}{ks:List (List Int)},gE kk=some ks->kk=ks.map rJ
 |[],_,e=>by cases e;rfl
 |k::r,_,e=>by
  unfold gE at e;split at e
  ·rename_i x xs e1 e2;cases e;rw[XN,<-yo e1,<-nR e2]
  ·cases e
def vg:List D->M D
 |[.dct kk ds]=>match gE kk with
  |some ks=>if fe ks&&ks.all (λk=>decide (k.length<=lim)) then ae (.lst ((sortI ks).map tupI)) else ag
  |none=>ag
 |_=>ag
theorem kR{α β:Type}:∀{a:List α}{b:List β},a.length=b.length->(a.zip b).map (·.1)=a
 |[],[],_=>rfl
 |x::a,y::b,h=>by rw[Y6,XN,kR (by simpa using h)]
 |[],_::_,h=>by simp at h
 |_::_,[],h=>by simp at h
theorem Cc(hc:X.calm=true)(hg:Gl X "sorted")(hm:X.mg "sorted"=none)(hb:YJ "sorted"=some (.builtin "sorted"))(ha:gQ X Xw [e] δs)(he:X2 [e] X.env=[(false,eval e X.env)]:=by rfl):PD X Xw (.Call (.Name "sorted" p) [e] [] pos) (dA vg δs):=
 fK (CP hc) (λXw F H vs ds Q s h w=>by
  unfold vg at w;split at w
  ·rename_i kk ds;obtain⟨v,rfl,h1⟩:=h.one;obtain⟨a,ob,ws,rfl,h2,h3,h4,h5⟩:=h1;split at w
   ·rename_i ks Ek;split at w
    ·rename_i hok;rw[X5] at hok;have hl:∀k∈ks,k.length<=lim:=λk hk=>aek (Yh.mp hok.2 k hk);have lI:ks.length<64:=by
      have:=hok.1;unfold fe at this;rw[X5,X5] at this;exact aek this.1.2
     refine⟨a,_,ks,rfl, .inr ⟨ob,s _ _ h2⟩,by rw[kR (by rw[h4];exact h3.len),nR Ek],hok.1,λq us hq hr=>?_⟩;obtain⟨F1,e1,r1⟩:=sN s hr;have e2:=Ext.lay (o:= .lst us) e1.fh hq;exact WP.fin w (e1.trans e2) ⟨q,_,rfl,aG,DenL.mono e2.ff (sM r1 λk hk=>hl k (eB.mp hk)),by rw[XB,oI];unfold lim;omega⟩
    ·exact w.elim
   ·exact w.elim
  ·exact w.elim) hg hm hb ha (by decide) (by decide) he rfl
end
end L3
namespace L3
open PySem PySem.Spec L2
open PyProof.Rows hiding St
def orM{α:Type}(a b:M α):M α:=match a with
 |none=>b
 |some r=>some r
def IT(a b:DA):DA:=λρ=>orM (a ρ) (b ρ)
section
variable{X:Cx}{Xw:Nat->Hp->Prop}{e tg:Expr}{δi δi':DA}
theorem Cd(h:zN X Xw tg e δi)(h':zN X Xw tg e δi'):zN X Xw tg e (IT δi δi'):=λf8 s σ H Q I ⟨F,ρ,S,w⟩=>by
 unfold IT orM at w;cases q:δi ρ with
 |none=>rw[q] at w;exact h' f8 s σ H Q I ⟨F,ρ,S,w⟩
 |some r=>rw[q] at w;exact h f8 s σ H Q I ⟨F,ρ,S,by rw[q];exact w⟩
end
def fgt:List Nat->aX->aX
 |[],ρ=>ρ
 |i::is,ρ=>fgt is (ρ.set i none)
def PL(f:aX->aX):Out->M Out
 | .nx ρ=>ae (.nx (f ρ))
 | .rt d=>ae (.rt d)
def ck(is:List Nat)(τ:DS):DS:=λρ=>τ ρ>>=PL (fgt is)
theorem StOk.fgt1{K:XO}{u8 aeq F H:Hp}{σ:St}{ρ:aX}(s:StOk K u8 aeq F H σ ρ)(i:Nat):StOk K u8 aeq F H σ (ρ.set i none):=by
 have get:∀(j:Nat) (sl:Sl),(ρ.set i none)[j]? =some (some sl)->ρ[j]? =some (some sl):=λj sl e=>by
  by_cases hj:j=i
  ·subst hj;by_cases hl:j<ρ.length
   ·rw[X1 hl] at e;cases e
   ·rw[Z4 (by simpa using hl)] at e;cases e
  ·rw[XQ (YG hj)] at e;exact e
 exact⟨s.ext,⟨s.st.fh,λj sl e=>s.st.den j sl (get j sl e)⟩,by simp[s.len],λj c a e e'=>s.own j c a (get j _ e) e',λj k c c' a e1 e2 e3 e4=>s.sep j k c c' a (get j _ e1) (get k _ e2) e3 e4⟩
theorem StOk.fgt{K:XO}{u8 aeq F H:Hp}{σ:St}:∀(is:List Nat) {ρ:aX},StOk K u8 aeq F H σ ρ->StOk K u8 aeq F H σ (L3.fgt is ρ)
 |[],_,s=>s
 |i::is,_,s=>StOk.fgt is (s.fgt1 i)
theorem WPS.fgt{K:XO}{Xw:Nat->Hp->Prop}{u8 aeq:Hp}{is:List Nat}{m:M Out}{Dn:Ends}(w:WPS K Xw u8 aeq (m>>=PL (L3.fgt is)) Dn):WPS K Xw u8 aeq m Dn:=by
 match m,w with
 |none,w=>exact w
 |some (.ok (.nx ρ)),w=>exact λσ F H s=>w σ F H (s.fgt is)
 |some (.ok (.rt d)),w=>exact w
 |some (.ex n),w=>exact w
section
variable{X:Cx}{Xw:Nat->Hp->Prop}{UI:List Stmt}{τ:DS}{is:List Nat}
theorem aW(h:PSDs X Xw UI τ):PSDs X Xw UI (ck is τ):=λu8 aeq=>PSs.weak (h u8 aeq) λD σ H ⟨F,ρ,s,w⟩=>⟨F,ρ,s,WPS.fgt w⟩
end
def Vb:Option Sl->Option Sl
 |some (.ow c)=>some (.fz c.d)
 |x=>x
def tN(ρ:aX):aX:=ρ.map Vb
def refA(h:Heap)(P:Addr->Prop)[DecidablePred P](H:Hp):Hp:=λb=>if P b then(H b).map (pX ((h.get? b).getD {cls:= .none,data:= .fields #[]})) else H b
theorem Aa(ob:Obj)(o:HO):pX ob o=o\/((∃k,o= .dT k)\/∃k,o= .dK k)/\pX ob o= .frz ob o:=by
 cases o<;>first | exact .inl rfl | exact .inr ⟨.inl ⟨_,rfl⟩,rfl⟩ | exact .inr ⟨.inr ⟨_,rfl⟩,rfl⟩
section
variable{X:Cx}{f8:List (Addr×Obj)}{σ:St}{H:Hp}{s:XD}{P:Addr->Prop}[DecidablePred P]
theorem iJ{h:Heap}{b:Addr}(e:H b=none):refA h P H b=none:=by
 unfold refA;split
 ·rw[e];rfl
 ·exact e
theorem u6{h:Heap}{b:Addr}{o:HO}(e:H b=some o):refA h P H b=some o\/((∃k,o= .dT k)\/∃k,o= .dK k)/\P b/\refA h P H b=some (.frz ((h.get? b).getD {cls:= .none,data:= .fields #[]}) o):=by
 unfold refA;split
 ·rename_i hp;rw[e];rcases Aa ((h.get? b).getD {cls:= .none,data:= .fields #[]}) o with q | ⟨q1,q2⟩
  ·exact .inl (by show some _=_;rw[q])
  ·exact .inr ⟨q1,hp,by show some _=_;rw[q2]⟩
 ·exact .inl e
theorem iI{h:Heap}{b:Addr}{o:HO}(e:H b=some o)(n1:∀k,o≠ .dT k)(n2:∀k,o≠ .dK k):refA h P H b=some o:=by
 rcases u6 (P:=P) (h:=h) e with q | ⟨⟨k,q⟩ | ⟨k,q⟩,_⟩
 ·exact q
 ·exact aej q (n1 k)
 ·exact aej q (n2 k)
theorem Inv.refA(I:Inv X f8 σ H s):Inv X f8 σ (L3.refA s.heap P H) s:=by
 have obj:∀b o,H b=some o->((∃k,o=HO.dT k)\/∃k,o= .dK k)->∃ob,s.heap.get? b=some ob:=λb o e hu=>by
  have hk:=I.hok b o e;rcases hu with⟨k,h1⟩ | ⟨k,h1⟩
  ·subst h1;obtain⟨_,_,_,_,ob,_,_,q,_⟩:=hk;exact⟨ob,q⟩
  ·subst h1;obtain⟨_,_,_,_,ob,_,_,q,_⟩:=hk;exact⟨ob,q⟩
 refine⟨I.ok,I.os,I.bare,⟨I.base.keep,I.base.slot,λb q h1 h2 h3=>iJ (I.base.free b q h1 h2 h3),I.base.there,λb xs q=>iI (I.base.tups b xs q) (λ_ z=>nomatch z) (λ_ z=>nomatch z),
  λb q1 v q=>iI (I.base.frzs b q1 v q) (λ_ z=>nomatch z) (λ_ z=>nomatch z),λb ps q=>?_⟩,I.loc,I.cell,iJ I.free,λx c q=>iJ (I.freeC x c q),λp hp=>?_,λb v q=>?_,I.len⟩
 ·obtain⟨m,this⟩:=I.base.tbls b ps q;exact⟨m,iI this (λ_ z=>nomatch z) (λ_ z=>nomatch z)⟩
 ·obtain⟨h1,h2,h3⟩:=I.pin p hp;exact⟨h1,iJ h2,h3⟩
 ·have st:∀{c:Addr}{v:HO},ObjOk X.prog X.w H s.heap c v->ObjOk X.prog X.w (L3.refA s.heap P H) s.heap c v:=λ{c v} k=>k.stay (λ_ _ _ q=>q)
   (λc' q=>iI q (λ_ z=>nomatch z) (λ_ z=>nomatch z)) λc' xs q=>iI q (λ_ z=>nomatch z) (λ_ z=>nomatch z)
  cases e:H b with
  |none=>rw[iJ e] at q;cases q
  |some o=>
   rcases u6 (P:=P) (h:=s.heap) e with z | ⟨hu,hp,z⟩
   ·rw[z] at q;cases q;exact st (I.hok b _ e)
   ·rw[z] at q;cases q;obtain⟨ob,Me⟩:=obj b o e hu;rw[Me];exact⟨Me,st (I.hok b o e)⟩
def unA(P:Addr->Prop)[DecidablePred P](H:Hp):Hp:=λb=>if P b then(match H b with | some (.frz _ u)=>some u | x=>x) else H b
theorem Inv.unA(I:Inv X f8 σ H s)(hP:∀b,P b->∀o u,X.aeq b≠some (.frz o u))(hQ:∀b,P b->∀o u,H b=some (.frz o u)->(∃k,u= .dT k)\/∃k,u= .dK k):Inv X f8 σ (L3.unA P H) s:=by
 have non:∀b,H b=none->L3.unA P H b=none:=λb e=>by unfold L3.unA;rw[e];split<;>rfl
 have keep:∀b o,H b=some o->(∀q u,o≠ .frz q u)->L3.unA P H b=some o:=λb o e n=>by
  unfold L3.unA;split
  ·rw[e];cases o<;>first | rfl | exact aej rfl (n _ _)
  ·exact e
 refine⟨I.ok,I.os,I.bare,⟨I.base.keep,I.base.slot,λb q h1 h2 h3=>non b (I.base.free b q h1 h2 h3),I.base.there,λb xs q=>keep b _ (I.base.tups b xs q) (λ_ _ z=>nomatch z),
  λb q1 v q=>?_,λb ps q=>?_⟩,I.loc,I.cell,non _ I.free,λx c q=>non _ (I.freeC x c q),λp hp=>?_,λb v q=>?_,I.len⟩
 ·have:=I.base.frzs b q1 v q;unfold L3.unA;rw[aeh (λhp=>hP b hp q1 v q)];exact this
 ·obtain⟨m,this⟩:=I.base.tbls b ps q;exact⟨m,keep b _ this (λ_ _ z=>nomatch z)⟩
 ·obtain⟨h1,h2,h3⟩:=I.pin p hp;exact⟨h1,non _ h2,h3⟩
 ·have st:∀{c:Addr}{v:HO},ObjOk X.prog X.w H s.heap c v->ObjOk X.prog X.w (L3.unA P H) s.heap c v:=λ{c v} k=>k.stay (λ_ _ _ q=>q)
   (λc' q=>keep c' _ q (λ_ _ z=>nomatch z)) λc' xs q=>keep c' _ q (λ_ _ z=>nomatch z)
  cases e:H b with
  |none=>rw[non b e] at q;cases q
  |some o=>
   have ko:=I.hok b o e;by_cases hf:∃ob u,o= .frz ob u
   ·obtain⟨ob,u,rfl⟩:=hf;unfold L3.unA at q;split at q
    ·rw[e] at q;cases q;obtain⟨_,k2⟩:=ko;exact st k2
    ·rw[e] at q;cases q;exact st ko
   ·rw[keep b o e (λq u z=>hf ⟨q,u,z⟩)] at q;cases q;exact st ko
end
mutual
def BH:D->Bool
 | .non=>true
 | .bl _=>true
 | .int _=>true
 | .str _=>true
 | .tup ds=>BI ds
 | .raw _=>false
 | .exc _=>false
 | .scr _=>false
 | .lst _=>false
 | .dct _ _=>false
 | .dci _ _=>false
def BI:List D->Bool
 |[]=>true
 |d::ds=>BH d&&BI ds
end
def q_(d:D):M D:=if BH d then ae d else ag
def OwnAt(σ:St)(ρ:aX)(b:Addr):Prop:=∃(i:Nat) (c:C),ρ[i]? =some (some (Sl.ow c))/\σ[i]? =some (some (V.ref b))
section
variable{K:XO}{F H F' H':Hp}{σ:St}{ρ:aX}{h:Heap}{b:Addr}
theorem OwnAt.obj(S:StE K F H σ ρ)(p:OwnAt σ ρ b):F b=none/\∃o,H b=some o/\((∃x,o= .lst x)\/(∃x,o= .dT x)\/∃x,o= .dK x):=by
 obtain⟨i,c,h1,h2⟩:=p;obtain⟨v,h3,a,o,rfl,h4,h5,h6⟩:=S.den i _ h1;rw[h3] at h2;cases h2;refine⟨h5,o,h4,?_⟩;cases c with
 |lst ds=>obtain⟨vs,rfl,_⟩:=h6;exact .inl ⟨_,rfl⟩
 |dct ks ds=>obtain⟨vs,rfl,_⟩:=h6;exact .inr (.inl ⟨_,rfl⟩)
 |dci ks ds=>obtain⟨vs,rfl,_⟩:=h6;exact .inr (.inr ⟨_,rfl⟩)
open Classical in
noncomputable def fA(σ:St)(ρ:aX)(H1 F:Hp):Hp:=λb=>if OwnAt σ ρ b then H1 b else F b
open Classical in
theorem BE(S:StE K F H σ ρ){H1:Hp}:Same F (fA σ ρ H1 F):=λb u e=>by
 unfold fA;rw[aeh (λp=>by rw[(OwnAt.obj S p).1] at e;cases e)];exact e
open Classical in
theorem z_(S:StE K F H σ ρ):StE K (fA σ ρ (refA h (OwnAt σ ρ) H) F) (refA h (OwnAt σ ρ) H) σ (tN ρ):=by
 refine⟨λb u e=>?_,λj sl e=>?_⟩
 ·unfold fA at e;split at e
  ·exact e
  ·rename_i hp;unfold refA;rw[aeh hp];exact S.fh b u e
 ·unfold tN at e;rw[XX] at e;cases q:ρ[j]? with
  |none=>rw[q] at e;cases e
  |some x=>
   rw[q] at e;cases x with
   |none=>cases e
   |some y=>
    cases y with
    |fz d=>
     cases e;obtain⟨v,h1,h2⟩:=S.den j _ q;exact⟨v,h1,Den.mono (BE S) h2⟩
    |ow c=>
     cases e;obtain⟨v,h1,a,o,rfl,h4,h5,h6⟩:=S.den j _ q;refine⟨_,h1,DenC.den (ob:=(h.get? a).getD {cls:= .none,data:= .fields #[]}) h6 (BE S) ?_⟩;have hp:OwnAt σ ρ a:=⟨j,c,q,h1⟩
     unfold fA refA;rw[aeg hp,aeg hp,h4];rfl
open Classical in
theorem rf(S:StE K F H σ ρ)(E:Ext (fA σ ρ (refA h (OwnAt σ ρ) H) F) (refA h (OwnAt σ ρ) H) F' H'):
 Ext F H (λb=>if OwnAt σ ρ b then none else F' b) (unA (OwnAt σ ρ) H')/\∀b,OwnAt σ ρ b->∀o u,H' b=some (.frz o u)->(∃k,u= .dT k)\/∃k,u= .dK k:=by
 have Tn:∀b,OwnAt σ ρ b->∃o,H b=some o/\H' b=some (pX ((h.get? b).getD {cls:= .none,data:= .fields #[]}) o)/\((∃x,o= .lst x)\/(∃x,o= .dT x)\/∃x,o= .dK x):=λb hp=>by
  obtain⟨_,o,h1,h2⟩:=OwnAt.obj S hp;refine⟨o,h1,E.hh b _ ?_,h2⟩;unfold refA;rw[aeg hp,h1];rfl
 refine⟨⟨λb o e=>?_,λb u e=>?_,λb u e=>?_,λb hb=>?_⟩,λb hp o u e=>?_⟩
 ·unfold unA;by_cases hp:OwnAt σ ρ b
  ·obtain⟨o',h1,h2,h3⟩:=Tn b hp;rw[e] at h1;cases h1;rw[aeg hp,h2];rcases h3 with⟨x,rfl⟩ | ⟨x,rfl⟩ | ⟨x,rfl⟩<;>rfl
  ·rw[aeh hp];refine E.hh b o ?_;unfold refA;rw[aeh hp];exact e
 ·have hp:¬OwnAt σ ρ b:=λp=>by rw[(OwnAt.obj S p).1] at e;cases e
  show (if OwnAt σ ρ b then none else F' b)=_;rw[aeh hp];refine E.ff b u ?_;unfold fA;rw[aeh hp];exact e
 ·have e:(if OwnAt σ ρ b then none else F' b)=some u:=e;split at e
  ·cases e
  ·rename_i hp;unfold unA;rw[aeh hp];exact E.fh b u e
 ·show (if OwnAt σ ρ b then none else F' b)=F b\/_;by_cases hp:OwnAt σ ρ b
  ·rw[aeg hp];exact .inl (OwnAt.obj S hp).1.symm
  ·rw[aeh hp];have e1:refA h (OwnAt σ ρ) H b=H b:=by unfold refA;rw[aeh hp]
   have e2:fA σ ρ (refA h (OwnAt σ ρ) H) F b=F b:=by unfold fA;rw[aeh hp]
   rcases E.new b (by rw[e1];exact hb) with q | q
   ·exact .inl (q.trans e2)
   ·rw[e1] at q;exact .inr q
 ·obtain⟨o',h1,h2,h3⟩:=Tn b hp;rw[e] at h2;rcases h3 with⟨x,rfl⟩ | ⟨x,rfl⟩ | ⟨x,rfl⟩
  ·cases h2
  ·cases h2;exact .inl ⟨_,rfl⟩
  ·cases h2;exact .inr ⟨_,rfl⟩
open Classical in
mutual
theorem yi(S:StE K F H σ ρ)(E:Ext (fA σ ρ (refA h (OwnAt σ ρ) H) F) (refA h (OwnAt σ ρ) H) F' H'):∀{d:D}{v:V},BH d=true->Den K F' d v->Den K (λb=>if OwnAt σ ρ b then none else F' b) d v
 | .non,_,_,q=>q
 | .bl _,_,_,q=>q
 | .int _,_,_,q=>q
 | .str _,_,_,q=>q
 | .tup ds,_,f,⟨a,vs,h1,h2,h3,h4⟩=>by
   refine⟨a,vs,h1,?_,uA S E ?_ h3,h4⟩
   ·show (if OwnAt σ ρ a then none else F' a)=_;rw[aeh,h2];intro hp;obtain⟨_,o,k1,k2⟩:=OwnAt.obj S hp;have k3:fA σ ρ (refA h (OwnAt σ ρ) H) F a=some (pX ((h.get? a).getD {cls:= .none,data:= .fields #[]}) o):=by
     unfold fA refA;rw[aeg hp,aeg hp,k1];rfl
    have k4:=E.ff a _ k3;rw[h2] at k4;rcases k2 with⟨x,rfl⟩ | ⟨x,rfl⟩ | ⟨x,rfl⟩<;>cases k4
   ·exact f
 | .raw _,_,f,_=>by cases f
 | .exc _,_,f,_=>by cases f
 | .scr _,_,f,_=>by cases f
 | .lst _,_,f,_=>by cases f
 | .dct _ _,_,f,_=>by cases f
 | .dci _ _,_,f,_=>by cases f
theorem uA(S:StE K F H σ ρ)(E:Ext (fA σ ρ (refA h (OwnAt σ ρ) H) F) (refA h (OwnAt σ ρ) H) F' H'):∀{ds:List D}{vs:List V},BI ds=true->DenL K F' ds vs->DenL K (λb=>if OwnAt σ ρ b then none else F' b) ds vs
 |[],_,_,q=>q
 |d::ds,_,f,⟨v,r,h1,h2,h3⟩=>by
  unfold BI at f;rw[X5] at f;exact⟨v,r,h1,yi S E f.1 h2,uA S E f.2 h3⟩
end
end
theorem qo{α:Type}{m:M α}{a:α}(h:noex m=ae a):m=ae a:=by
 match m,h with
 |some (.ok b),h=>exact h
section
variable{X:Cx}{Xw:Nat->Hp->Prop}{e:Expr}{δ:DE}{τ:DT}
theorem oa{f8:List (Addr×Obj)}{s:XD}{F H:Hp}{σ:St}{ρ:aX}(I:Inv X f8 σ H s)(S:StE X.K F H σ ρ)(b:Addr)(p:OwnAt σ ρ b)(o:Obj)(u:HO):X.aeq b≠some (.frz o u):=λz=>by
 obtain⟨_,o',k1,k2⟩:=OwnAt.obj S p;have:=I.base.frzs b o u z;rw[k1] at this;rcases k2 with⟨x,rfl⟩ | ⟨x,rfl⟩ | ⟨x,rfl⟩<;>cases this
theorem gJ{α:Type}(m:M α):noex m=ag\/∃a,m=ae a/\noex m=ae a:=by
 rcases m.cs with h | ⟨n,h⟩ | ⟨a,h⟩
 ·subst h;exact .inl rfl
 ·subst h;exact .inl rfl
 ·subst h;exact .inr ⟨a,rfl,rfl⟩
theorem AQ(h:qA X Xw e τ):qA X Xw e (λρ=>noex (τ (tN ρ))):=λf8 s σ H Q I ⟨F,ρ,S,w⟩=>by
 classical
 rcases gJ (τ (tN ρ)) with q | ⟨b,q,q2⟩
 ·have w:WPB Xw F H (noex (τ (tN ρ))) Q:=w;rw[q] at w;exact w.elim
 ·have w:WPB Xw F H (noex (τ (tN ρ))) Q:=w;rw[q2] at w;refine b_ (h f8 s σ _ (λb' H'=>Q b' (unA (OwnAt σ ρ) H')/\∀c,OwnAt σ ρ c->∀o u,H' c=some (.frz o u)->(∃k,u= .dT k)\/∃k,u= .dK k) (Inv.refA (P:=OwnAt σ ρ) I) ⟨_,_,z_ (h:=s.heap) S,?_⟩) λb' s' ⟨H',I',q1,q3⟩=>⟨_,Inv.unA I' (oa I S) q3,q1⟩
  rw[q];intro H' F' E;obtain⟨E1,q3⟩:=rf S E;exact⟨w _ _ E1,q3⟩
theorem GN(h:PD X Xw e δ):PD X Xw e (λρ=>noex (δ (tN ρ))>>=q_):=λf8 s σ H Q I ⟨F,ρ,S,w⟩=>by
 classical
 rcases gJ (δ (tN ρ)) with q | ⟨d,q,q2⟩
 ·have w:WP X.K Xw F H (noex (δ (tN ρ))>>=q_) Q:=w;rw[q] at w;exact w.elim
 ·have w:WP X.K Xw F H (noex (δ (tN ρ))>>=q_) Q:=w;rw[q2,ax] at w;unfold q_ at w;split at w
  ·rename_i hf;refine b_ (h f8 s σ _ (λv H'=>Q v (unA (OwnAt σ ρ) H')/\∀c,OwnAt σ ρ c->∀o u,H' c=some (.frz o u)->(∃k,u= .dT k)\/∃k,u= .dK k) (Inv.refA (P:=OwnAt σ ρ) I) ⟨_,_,z_ (h:=s.heap) S,?_⟩) λb' s' ⟨v,H',I',rv,q1,q3⟩=>⟨v,_,Inv.unA I' (oa I S) q3,rv,q1⟩
   rw[q];intro v H' F' E dn;obtain⟨E1,q3⟩:=rf S E;exact⟨w _ _ _ E1 (yi S E hf dn),q3⟩
  ·exact w.elim
end
abbrev DF:=aX->M C
def WPF(K:XO)(Xw:Nat->Hp->Prop)(F H:Hp)(m:M C)(Q:VK):Prop:=
 match m with
 |none=>False
 |some (.ok c)=>∀a o H' F',Ext F H F' H'->H' a=some o->F' a=none->H a=none->DenC K F' c o->Q (.ref a) H'
 |some (.ex n)=>∀F' H',Ext F H F' H'->Xw n H'
def W8(K:XO)(Xw:Nat->Hp->Prop)(δ:DF):TE:=λσ H Q=>∃F ρ,StE K F H σ ρ/\WPF K Xw F H (δ ρ) Q
def NQ(X:Cx)(Xw:Nat->Hp->Prop)(e:Expr)(δ:DF):Prop:=PE X e (W8 X.K Xw δ)
def zg(i:Nat)(δ:DF):DS:=λρ=>δ ρ>>=λc=>ae (.nx (ρ.set i (some (.ow c))))
theorem StOk.setFresh{K:XO}{u8 aeq F H F' H':Hp}{σ:St}{ρ:aX}(s:StOk K u8 aeq F H σ ρ){i:Nat}{a:Addr}{o:HO}{c₀:C}(E:Ext F H F' H')(ho:H' a=some o)(nF:F' a=none)(n:H a=none)(h:DenC K F' c₀ o):
 StOk K u8 aeq F' H' (σ.set i (some (.ref a))) (ρ.set i (some (.ow c₀))):=by
 have hle:=s.len;have get:∀(j:Nat) (sl:Sl),(ρ.set i (some (.ow c₀)))[j]? =some (some sl)->(j=i/\i<ρ.length/\sl= .ow c₀)\/(j≠i/\ρ[j]? =some (some sl)):=λj sl e=>by
  by_cases hj:j=i
  ·subst hj;have hi:j<ρ.length:=by
    have:=(XI.mp e).1;simpa using this
   rw[X1 hi] at e;cases e;exact .inl ⟨rfl,hi,rfl⟩
  ·rw[XQ (YG hj)] at e;exact .inr ⟨hj,e⟩
 have old:∀(j:Nat) (c:C) (b:Addr),ρ[j]? =some (some (.ow c))->σ[j]? =some (some (.ref b))->b≠a:=λj c b e e' z=>by
  obtain⟨u,h1,b',o,h2,h3,_⟩:=s.st.den j _ e;rw[h1] at e';cases e';cases h2;rw[z,n] at h3;cases h3
 refine⟨s.ext.trans E,⟨E.fh,λj sl e=>?_⟩,by simp[hle],λj c b e e'=>?_,λj k c c' b e1 e2 e3 e4=>?_⟩
 ·rcases get j sl e with⟨rfl,hi,rfl⟩ | ⟨hj,e⟩
  ·exact⟨.ref a,by rw[X1 (by omega)],a,_,rfl,ho,nF,h⟩
  ·obtain⟨u,h1,h2⟩:=s.st.den j sl e;exact⟨u,by rw[XQ (YG hj)];exact h1,h2.ext E⟩
 ·rcases get j _ e with⟨rfl,hi,_⟩ | ⟨hj,e⟩
  ·rw[X1 (by omega)] at e';cases e';exact Same.free s.ext.hh n
  ·rw[XQ (YG hj)] at e';exact s.own j c b e e'
 ·rcases get j _ e1 with⟨rfl,hi,_⟩ | ⟨hj,e1⟩
  ·rw[X1 (by omega)] at e3;cases e3;rcases get k _ e2 with⟨rfl,_,_⟩ | ⟨hk,e2⟩
   ·rfl
   ·rw[XQ (YG hk)] at e4;exact aej rfl (old k c' a e2 e4)
  ·rcases get k _ e2 with⟨RU,hi,_⟩ | ⟨hk,e2⟩
   ·rw[RU,X1 (by omega)] at e4;cases e4;rw[XQ (YG hj)] at e3;exact aej rfl (old j c a (by assumption) e3)
   ·rw[XQ (YG hj)] at e3;rw[XQ (YG hk)] at e4;exact s.sep j k c c' b e1 e2 e3 e4
theorem WPF.mono{K:XO}{Xw:Nat->Hp->Prop}{F H:Hp}{m:M C}{Q Q':VK}(h:WPF K Xw F H m Q)(k:∀v H',Q v H'->Q' v H'):WPF K Xw F H m Q':=by
 match m,h with
 |none,h=>exact h
 |some (.ok d),h=>exact λa o H' F' e h1 h2 h3 h4=>k _ _ (h a o H' F' e h1 h2 h3 h4)
 |some (.ex n),h=>exact h
theorem WPF.ext{K:XO}{Xw:Nat->Hp->Prop}{F H F1 H1:Hp}{m:M C}{Q:VK}(e:Ext F H F1 H1)(h:WPF K Xw F H m Q):WPF K Xw F1 H1 m Q:=by
 match m,h with
 |none,h=>exact h
 |some (.ok d),h=>exact λa o H' F' e' h1 h2 h3 h4=>h a o H' F' (e.trans e') h1 h2 (Same.free e.hh h3) h4
 |some (.ex n),h=>exact λF2 H2 e2=>h F2 H2 (e.trans e2)
theorem WPF.bind{K:XO}{Xw:Nat->Hp->Prop}{F H:Hp}{m:M D}{k:D->M C}{Q:VK}(h:WPF K Xw F H (m>>=k) Q):WP K Xw F H m λv H1=>∃F1 d,Ext F H F1 H1/\Den K F1 d v/\WPF K Xw F1 H1 (k d) Q:=by
 match m,h with
 |none,h=>exact h
 |some (.ok d),h=>exact λv H2 F2 e2 q=>⟨F2,d,e2,q,WPF.ext e2 (show WPF K Xw F H (k d) Q from h)⟩
 |some (.ex n),h=>exact h
def LL(a b:DF):DF:=λρ=>orM (a ρ) (b ρ)
section
variable{X:Cx}{Xw:Nat->Hp->Prop}{e k v a b:Expr}{es:List Expr}{δ δ':DF}{pos pos':Pos}{x:Str}{i:Nat}
theorem Jz(h:NQ X Xw e δ)(h':NQ X Xw e δ'):NQ X Xw e (LL δ δ'):=λf8 s σ H Q I ⟨F,ρ,S,w⟩=>by
 unfold LL orM at w;cases q:δ ρ with
 |none=>rw[q] at w;exact h' f8 s σ H Q I ⟨F,ρ,S,w⟩
 |some r=>rw[q] at w;exact h f8 s σ H Q I ⟨F,ρ,S,by rw[q];exact w⟩
theorem sH(hN:X.N.Nodup)(hi:X.N[i]? =some x)(hx:Loc X.env.scope x)(he:NQ X Xw e δ)(hf:X.fn x=true\/X.env.scope.names.lookup x=some .local:=by first | exact .inl rfl | exact .inr rfl)
 (hs:acy [.Name x pos'] e pos.line X.env=pure false:=by rfl):
 iO X Xw (.Assign [.Name x pos'] e pos) (zg i δ):=λu8 aeq=>PS.weak (ou he (aT hN hi hx hf) hs) λD σ H ⟨F,ρ,s,w⟩=>by
 refine⟨F,ρ,s.st,?_⟩;unfold zg at w
 match δ ρ,w with
 |none,w=>exact w
 |some (.ok c),w=>exact λa o H' F' E h1 h2 h3 h4=>w _ F' H' (s.setFresh E h1 h2 h3 h4)
 |some (.ex n),w=>exact λF' H' e'=>w F' H' (s.ext.trans e')
theorem Oq{f8:List (Addr×Obj)}{σ:St}{H H':Hp}{s:XD}{a:Addr}{y v:V}{u r:Value}{A:Yy}{E:Value->XD->Prop}{Q:Unit->XD->Prop}(hu:A.units+1<cLine)(I:Inv X f8 σ H s)(g:DPut H a y v H')(ry:RelV y u)(rv:RelV v r)(h:∀s',Inv X f8 σ H' s'->Q () s'):
 wpAny (model X.prog X.w) A (dictSet a u r) Q E s:=by
 rcases g with⟨aA,k,e,ey,l,eH⟩ | ⟨aA,k,b,e,ey,eb,l,eH⟩
 ·subst ey eH;obtain⟨z,hd,vs,rel,dd⟩:=E5 I.hok e;have hz:vs.length<=X6:=by rw[<-rel.length];exact z
  have hl:(putK aA k v).length<=X6:=by have:=et aA k v;omega
  refine wpAny_dictSet_pairs (hsz:=hz) (ml ry) dd λh' Bv hs=>h _ ?_;have he:∃q,h'.get? a=some q:=let ⟨q,_,_,hq,_⟩:=Bv;⟨q,hq⟩
  exact ky I (by rw[e];exact Y0) hs he (z5 hl hd (rel.put k rv) Bv)
 ·subst ey eH;cases (show u=Ye b from ry);obtain⟨z,hd,xs,rel,dd⟩:=E7 I.hok e;have hz:xs.length<=X6:=by rw[<-ZO rel];exact z
  have hl:(putK aA k v).length<=X6:=by have:=et aA k v;omega
  refine wpAny_dictSet_heap (knd:=ZT (bj X.prog X.w)) (hsz:=hz) (by exact(show A.units<cLine by omega)) (jI I.hok eb) dd λh' Bv hs=>h _ ?_;obtain⟨q,es,ep,hq,h2,h3,h4,_,h5⟩:=Bv;refine ky I (by rw[e];exact Y0) hs ⟨q,hq⟩ ⟨hl,hd,_,(rel.put k eb rv).keeps λc ys ec=>?_,q,es,ep,hq,h2,h3,h4,h5⟩;rw[az (Gd ec e (λz=>nomatch z))];exact ec
end
section
variable{X:Cx}{Xw:Nat->Hp->Prop}{e k v a b:Expr}{es:List Expr}{δk δv δa δb:DE}{pos p:Pos}{x:Str}{i:Nat}
theorem yc{o0:HO}{put:Hp->Addr->V->V->Hp->Prop}(hu:X.A.units+1<cLine)(h0:∀(H:Hp) (h:Heap),Zf<h.objs.size->ObjOk X.prog X.w H (h.push {cls:= .type "dict",data:= .dict #[]}) h.objs.size o0){tk tv:TE}(hk:PE X k tk)(hv:PE X v tv):
 PE X (.Dict [some k] [v] pos) (λσ H Q=>∀p,H p=none->tk σ (upd H p o0) λy H1=>tv σ H1 λz H2=>∃H3,DPut H2 p y z H3/\Q (.ref p) H3):=by
 intro f8 s σ H Q I q;have hn:=I.hok.fresh (XM s.heap.objs.size);have I1:=I.laid (a:=s.heap.objs.size) (o:=o0) (h':=s.heap.push {cls:= .type "dict",data:= .dict #[]}) (t':=s.toks) (λ_ _ q=>XJ _ q) (XM _) (h0 _ s.heap I.big);refine wpAny_Dict_any rfl rfl (by simp) (by simp) (b_ (GZ hk hv JJ f8 _ σ _ (λps H2=>∃y z H3,ps=[(y,z)]/\DPut H2 s.heap.objs.size y z H3/\Q (.ref s.heap.objs.size) H3) I1 ?_) λws s2 ⟨ps,H2,I2,rel,y,z,H3,ep,g,q2⟩=>?_)
 ·refine ?_;have:=q _ hn;show tk σ _ λy H1=>tv σ H1 λz H2=>∃y' z' H3,[(y,z)]=[(y',z')]/\DPut H2 s.heap.objs.size y' z' H3/\Q (.ref s.heap.objs.size) H3;have e:(λ(y:V) (H1:Hp)=>tv σ H1 λz H2=>∃y' z' H3,[(y,z)]=[(y',z')]/\DPut H2 s.heap.objs.size y' z' H3/\Q (.ref s.heap.objs.size) H3)=(λy H1=>tv σ H1 λz H2=>∃H3,DPut H2 s.heap.objs.size y z H3/\Q (.ref s.heap.objs.size) H3):=by
   funext y H1;congr 1;funext z H2;refine propext ⟨λ⟨y',z',H3,ee,r⟩=>?_,λ⟨H3,r⟩=>⟨y,z,H3,rfl,r⟩⟩;cases ee;exact⟨H3,r⟩
  rw[e];exact this
 ·subst ep;cases rel with
  | @cons a b as bs h t=>
    cases t;obtain⟨r1,r2⟩:=h;unfold storeAll;rw[acH];refine Xy (Xy (Oq hu I2 g r1 r2 λs3 I3=>?_));refine XE ?_;show wpAny _ _ (forIn ([]:List (Value×Value)) aaC _) _ _ _;rw[List.forIn_nil];exact XE ⟨V.ref s.heap.objs.size,_,I3,rfl,q2⟩
def k7(k v:D):M C:=match kY k with
 |some kk=>ae (.dct [kk] [v])
 |none=>ag
def oU(k v:D):M C:=match rL k with
 |some kk=>ae (.dci [kk] [v])
 |none=>ag
theorem oq(hu:X.A.units+64<cLine)(hk:PD X Xw k δk)(hv:PD X Xw v δv):NQ X Xw (.Dict [some k] [v] pos) (λρ=>δk ρ>>=λx=>δv ρ>>=λy=>k7 x y):=
 PE.weak (yc (o0:= .dT []) (put:=DPut) (by omega) (λH h hb=>ye h hb) hk hv) λσ H Q ⟨F,ρ,s,w⟩ q hq=>by
  have e0:=Ext.free (o:= .dT []) s.fh hq;refine⟨F,ρ,s.ext e0,?_⟩;have w:WPF X.K Xw F H (δk ρ>>=λx=>δv ρ>>=λy=>k7 x y) Q:=w
  match pZ:δk ρ,w with
  |none,w=>exact w
  |some (.ex n),w=>exact λF' H' e'=>w F' H' (e0.trans e')
  |some (.ok kd),w=>
   intro y H1 F1 e1 q1;refine⟨F1,ρ,(s.ext e0).ext e1,?_⟩;have w:WPF X.K Xw F H (δv ρ>>=λy=>k7 kd y) Q:=w
   match QS:δv ρ,w with
   |none,w=>exact w
   |some (.ex n),w=>exact λF' H' e'=>w F' H' (e0.trans (e1.trans e'))
   |some (.ok vd),w=>
    intro z H2 F2 e2 q2;have w3:WPF X.K Xw F H (k7 kd vd) Q:=w;clear w;unfold k7 at w3;cases C9:kY kd with
    |none=>rw[C9] at w3;exact w3.elim
    |some kk=>
     rw[C9] at w3;have E:=e1.trans e2;have O7:H2 q=some (.dT []):=E.hh _ _ aG;have OE:F2 q=none:=by
      have:=E.old (a:=q) (o:= .dT []) aG (λ_ z=>nomatch z);rw[this];exact Same.free s.fh hq
     unfold kY at C9;split at C9
     ·rename_i es;obtain⟨b,ws,rfl,k2,k3,_⟩:=Den.mono e2.ff q1;have e5:=mq C9 k3;subst e5;refine⟨_,DPut.t (k:=kk) O7 (e2.fh _ _ k2) (by rw[Zx];decide),?_⟩;refine w3 q (.dT (putK [] kk z)) _ F2 ⟨λc u hc=>?_,(e0.trans E).ff,λc u hc=>?_,(e0.trans E).new⟩ aG OE hq ⟨[z],rfl, .cons q2 .nil,rfl,show 1<=lim by decide⟩
      ·rw[az (λzz=>by rw[zz,hq] at hc;cases hc)];exact(e0.trans E).hh c u hc
      ·rw[az (λzz=>by rw[zz,OE] at hc;cases hc)];exact e2.fh c u hc
     ·cases C9
theorem DN(hu:X.A.units+64<cLine)(hk:PD X Xw k δk)(hv:PD X Xw v δv):NQ X Xw (.Dict [some k] [v] pos) (λρ=>δk ρ>>=λx=>δv ρ>>=λy=>oU x y):=
 PE.weak (yc (o0:= .dK []) (put:=DPut) (by omega) (λH h hb=>yd h hb) hk hv) λσ H Q ⟨F,ρ,s,w⟩ q hq=>by
  have e0:=Ext.free (o:= .dK []) s.fh hq;refine⟨F,ρ,s.ext e0,?_⟩;have w:WPF X.K Xw F H (δk ρ>>=λx=>δv ρ>>=λy=>oU x y) Q:=w
  match pZ:δk ρ,w with
  |none,w=>exact w
  |some (.ex n),w=>exact λF' H' e'=>w F' H' (e0.trans e')
  |some (.ok kd),w=>
   intro y H1 F1 e1 q1;refine⟨F1,ρ,(s.ext e0).ext e1,?_⟩;have w:WPF X.K Xw F H (δv ρ>>=λy=>oU kd y) Q:=w
   match QS:δv ρ,w with
   |none,w=>exact w
   |some (.ex n),w=>exact λF' H' e'=>w F' H' (e0.trans (e1.trans e'))
   |some (.ok vd),w=>
    intro z H2 F2 e2 q2;have w3:WPF X.K Xw F H (oU kd vd) Q:=w;clear w;unfold oU at w3;cases C9:rL kd with
    |none=>rw[C9] at w3;exact w3.elim
    |some kk=>
     rw[C9] at w3;have E:=e1.trans e2;have O7:H2 q=some (.dK []):=E.hh _ _ aG;have OE:F2 q=none:=by
      have:=E.old (a:=q) (o:= .dK []) aG (λ_ z=>nomatch z);rw[this];exact Same.free s.fh hq
     have e5:=iw C9 (Den.mono e2.ff q1);subst e5;refine⟨_,DPut.k (k:=kk) O7 (by rw[Zx];decide),?_⟩;refine w3 q (.dK (putK [] kk z)) _ F2 ⟨λc u hc=>?_,(e0.trans E).ff,λc u hc=>?_,(e0.trans E).new⟩ aG OE hq ⟨[z],rfl, .cons q2 .nil,rfl,show 1<=lim by decide⟩
     ·rw[az (λzz=>by rw[zz,hq] at hc;cases hc)];exact(e0.trans E).hh c u hc
     ·rw[az (λzz=>by rw[zz,OE] at hc;cases hc)];exact e2.fh c u hc
theorem vp{K:XO}{F H:Hp}{d k:D}{x y:V}{o:Option D}(s:Same F H)(hd:Den K F d x)(hk:Den K F k y)(e:CH d k=some o):
 ∃a ov,x= .ref a/\ly H a y ov/\ov.isSome=o.isSome/\∀d',o=some d'->∃v,ov=some v/\Den K F d' v:=by
 obtain⟨a,ov,h1,h2,h3,h4⟩:=Bi (σ:=[some x]) (ρ:=[some (.fz d)]) (i:=0) (H:=H) ⟨s,λi sl q=>by
  match i,q with
  |0,q=>cases q;exact⟨x,rfl,hd⟩
  |i+1,q=>simp at q⟩ rfl hk e
 cases h1;exact⟨a,ov,rfl,h2,h3,h4⟩
def fW(neg:Bool)(k d:D):M D:=match CH d k with
 |some o=>ae (.bl (if neg then !o.isSome else o.isSome))
 |none=>ag
def Nu(neg:Bool):R2:=λy x H Q=>∃a o,x= .ref a/\ly H a y o/\Q (.bl (if neg then !o.isSome else o.isSome)) H
theorem MO(hu:X.A.units+64<cLine):OpR X (YZ .In) (Nu false):=λf8 s σ H y x v u Q I ry rx ⟨a,o,ex,g,q⟩=>by
 subst ex;obtain rfl:u=Ye a:=rx;exact Oo (by omega) I g ry λs' I'=>⟨.bl o.isSome,_,I',rfl,q⟩
theorem DH(hu:X.A.units+64<cLine):OpR X (YZ .NotIn) (Nu true):=λf8 s σ H y x v u Q I ry rx ⟨a,o,ex,g,q⟩=>by
 subst ex;obtain rfl:u=Ye a:=rx;exact Im (by omega) I g ry λs' I'=>⟨.bl (!o.isSome),_,I',rfl,q⟩
theorem B8{K:XO}{neg:Bool}:zM K (Nu neg) (fW neg):=λXw F H y x dk dd Q s hk hd w=>by
 unfold fW at w;cases he:CH dd dk with
 |none=>rw[he] at w;exact w.elim
 |some o=>
  rw[he] at w;obtain⟨a,ov,h1,h2,h3,_⟩:=vp s hd hk he;refine⟨a,ov,h1,h2,?_⟩;rw[h3];exact WP.now w s rfl
theorem Nl(hu:X.A.units+64<cLine)(ha:PD X Xw a δa)(hb:PD X Xw b δb)(hm:YY .In b=false:=by rfl):qA X Xw (.Compare a [.In] [b] pos) (cf (d2 (fW false) δa δb)):=kM (MO hu) B8 ha hb hm
theorem iH(hu:X.A.units+64<cLine)(ha:PD X Xw a δa)(hb:PD X Xw b δb)(hm:YY .NotIn b=false:=by rfl):qA X Xw (.Compare a [.NotIn] [b] pos) (cf (d2 (fW true) δa δb)):=kM (DH hu) B8 ha hb hm
def eI(d k:D):M D:=match CH d k with
 |some (some v)=>ae v
 |_=>ag
theorem fR(hu:X.A.units+64<cLine)(ha:PD X Xw a δa)(hb:PD X Xw b δb)(hs:Le b:=by intro _ _;rfl):PD X Xw (.Subscript a b pos) (d2 eI δa δb):=
 PE.weak (JE (by omega) ha hb hs) λσ H Q ⟨F,ρ,s,w⟩=>by
  refine⟨F,ρ,s,WP.mono (WP.bind w) λx H1 ⟨F1,d,e1,q1,w1⟩=>?_⟩;refine⟨F1,ρ,s.ext e1,WP.mono (WP.bind w1) λy H2 ⟨F2,k,e2,q2,w2⟩=>?_⟩;unfold eI at w2;cases he:CH d k with
  |none=>rw[he] at w2;exact w2.elim
  |some o=>
   cases o with
   |none=>rw[he] at w2;exact w2.elim
   |some d'=>
    rw[he] at w2;obtain⟨a,ov,h1,h2,h3,h4⟩:=vp e2.fh (Den.mono e2.ff q1) q2 he;obtain⟨v,rfl,hd⟩:=h4 d' rfl;exact⟨a,v,h1,h2,WP.now w2 e2.fh hd⟩
end
section
variable{X:Cx}{f8:List (Addr×Obj)}{σ:St}{H:Hp}{s:XD}{h':Heap}
theorem Inv.turnedLaid{t':Nat}{ch:List Addr}{a:Addr}{o:HO}(I:Inv X f8 σ H s)(k:∀b q,b∉ch->s.heap.get? b=some q->h'.get? b=some q)(hf:∀b∈ch,tJ X f8 H b)(hp:s.heap.objs.size<=a)(new:ObjOk X.prog X.w (upd H a o) h' a o):
 Inv X f8 σ (upd H a o) {s with heap:=h',toks:=t'}:=by
 have hn:=I.hok.fresh hp;have KU:∀b u,H b=some u->b∉ch:=λb u e z=>by rw[(hf b z).1] at e;cases e
 refine I.step (g':=s.gens) (d':=s.drawn) (ch:=ch) (λb hb=>?_) (λb q _ _ hc e _=>k b q hc e) (λb q _ _ hc e _=>⟨q.slots,k b q hc e⟩) (λb q hc e n=>?_)
  (λb q hc e=>⟨q,k b q hc e⟩) (λb xs e=>?_) (λb q u e=>?_) (λb ps e=>⟨#[],?_⟩) (λm hm=>?_) (λb u e=>?_) I.bare
 ·obtain⟨f0,f1,f2,f3,f4,f5⟩:=hf b hb;exact⟨f3,f1,f4,f5⟩
 ·rw[az (λz=>by rw[z] at e;exact aej (XY e) (Nat.not_lt.mpr hp))];exact n
 ·rw[az (bp e hn)];exact e
 ·rw[az (bp e hn)];exact e
 ·rw[az (bp e hn),e];simp
 ·obtain⟨q,es,ep,ho,r⟩:=hm;exact⟨q,es,ep,k _ q (λz=>(hf _ z).2.1 rfl) ho,r⟩
 ·by_cases hb:b=a
  ·subst hb;rw[aG] at e;cases e;exact new
  ·rw[az hb] at e;refine(I.hok b u e).stay (λc v hc q=>k c v ?_ q) (λc q=>by rw[az (bp q hn)];exact q) λc xs q=>by rw[az (bp q hn)];exact q
   rcases hc with z | z
   ·rw[z];exact KU b u e
   ·exact KU c _ z
theorem Inv.turnedL{t':Nat}{ch:List Addr}(I:Inv X f8 σ H s)(k:∀b q,b∉ch->s.heap.get? b=some q->h'.get? b=some q)(hf:∀b∈ch,tJ X f8 H b):Inv X f8 σ H {s with heap:=h',toks:=t'}:=by
 have KU:∀b u,H b=some u->b∉ch:=λb u e z=>by rw[(hf b z).1] at e;cases e
 refine I.step (g':=s.gens) (d':=s.drawn) (ch:=ch) (λb hb=>?_) (λb q _ _ hc e _=>k b q hc e) (λb q _ _ hc e _=>⟨q.slots,k b q hc e⟩) (λb q hc e n=>n)
  (λb q hc e=>⟨q,k b q hc e⟩) (λb xs e=>e) (λb q u e=>e) (λb ps e=>⟨#[],by rw[e];simp⟩) (λm hm=>?_) (λb u e=>?_) I.bare
 ·obtain⟨f0,f1,f2,f3,f4,f5⟩:=hf b hb;exact⟨f3,f1,f4,f5⟩
 ·obtain⟨q,es,ep,ho,r⟩:=hm;exact⟨q,es,ep,k _ q (λz=>(hf _ z).2.1 rfl) ho,r⟩
 ·refine(I.hok b u e).stay (λc v hc q=>k c v ?_ q) (λc q=>q) λc xs q=>q;rcases hc with z | z
  ·rw[z];exact KU b u e
  ·exact KU c _ z
end
def Th(K:XO)(a:Addr):It:=
 ⟨λi H=>∃xs x,SqL K H a xs/\xs[i]? =some x,λi H x H'=>∃p,x= .ref p/\H p=none/\∃v,(∀xs,SqL K H a xs->xs[i]? =some v)/\H'=upd H p (.tup [.int (i:Int),v]),λi H=>∃xs,SqL K H a xs/\xs.length<=i⟩
theorem D8{P:Yd}{w:World}{K:XO}{es:List Expr}{x1}{tp:Pos}(l e it:Addr)(NV:e≠it):
 Turn P w K (.Tuple es x1 tp) (Th K l) [e,it] e (λi h=>∃old,IsEnum h e it (i:Int) old/\h.IsListIter it l i) where
 mem:=by simp
 obj:=λi h ⟨old,Hw,A2⟩ b hb=>by
  rcases XF.mp hb with z | z
  ·subst z;exact⟨_,Hw,λv z=>nomatch z⟩
  ·have z:b=it:=by simpa using z
   subst z;obtain⟨o,e1,c,d⟩:=A2;exact⟨o,e1,λv z=>by rw[d] at z;cases z⟩
 keep:=λi h h' ⟨old,Hw,A2⟩ k=>⟨old,k e (by simp) _ Hw,A2.at λo q=>k it (by simp) o q⟩
 item:=by
  intro X hP hw hK hc i f8 s σ H E I hf st hg;subst hP hw hK;obtain⟨old,Hw,A2⟩:=st;obtain⟨xs,x,hq,hx⟩:=hg;obtain⟨aK,rv,p,hz⟩:=I.list hq;obtain⟨u,hu,ru⟩:=rv.get hx;refine wpAny_pyNext_enum_item Hw A2 p.isList (x:=u) (by simpa using hu) NV λh1 k1 k2 k3 k4 k5=>?_;refine⟨_,rfl,wpAny_letOwnedTupleGo_enum k1 λh2 m1 m2=>?_⟩;have fo:s.heap.objs.size≠e:=aaZ (XY Hw);have Tb:h2.get? s.heap.objs.size=some {cls:= .type "tuple",data:= .seq #[.int i s.toks,u]}:=(m2.2 _ fo).trans k3;have keep:∀b q,b∉[e,it]->s.heap.get? b=some q->h2.get? b=some q:=λb q hb e1=>by
   have QG:b≠e:=λz=>hb (by simp[z]);have LX:b≠it:=λz=>hb (by simp[z]);exact(m2.2 b QG).trans (k5 b q QG LX e1)
  have I2:Inv X f8 σ (upd H s.heap.objs.size (.tup [.int (i:Int),x])) {s with heap:=h2,toks:=s.toks+1}:=by
   refine Inv.turnedLaid (s:=s) I keep hf (XM _) ⟨?_,[.int i s.toks,u], .cons ⟨_,rfl⟩ (.cons ru .nil),_,Tb,rfl,_,rfl⟩;rw[Zx];show 2<=_;decide
  refine⟨.ref s.heap.objs.size,_,I2,rfl,⟨_,rfl,I.hok.fresh (XM _),x,λys hy=>by rw[I.list_inj hy hq];exact hx,rfl⟩,⟨u,?_,?_⟩,λb hb=>?_⟩
  ·have:((i+1:Nat):Int)=(i:Int)+1:=by push_cast;rfl
   rw[this];exact m1
  ·exact k2.at λo q=>(m2.2 it (YG NV)).trans q
  ·rw[az (λz=>by
    rcases XF.mp hb with y | y
    ·exact aej (XY Hw) (by rw[<-y,z];exact YH _)
    ·have y:b=it:=by simpa using y
     obtain⟨o,q1,_⟩:=id A2;exact aej (XY q1) (by rw[<-y,z];exact YH _))]
   exact(hf b hb).1
 done:=by
  intro X hP hw hK hc i f8 s σ H E I hf st hg;subst hP hw hK;obtain⟨old,Hw,A2⟩:=st;obtain⟨xs,hq,hx⟩:=hg;obtain⟨aK,rv,p,hz⟩:=I.list hq;have hl:=rv.length;exact wpAny_pyNext_enum_end (I.ok.hd hc) Hw A2 p.isList (by simp;omega) λh' eb=>⟨rfl,Inv.turnedL (t':=s.toks) (ch:=[it]) I (λb q hb e1=>eb b q (λz=>hb (by simp[z])) e1) λb hb=>hf b (Xz _ hb)⟩
 self:=λA i s Q E st h=>by
  obtain⟨old,Hw,A2⟩:=st;exact wpAny_pyIter_enum Hw h
theorem FL{K:XO}{F:Hp}{a:Addr}{vs:List V}{ds:List D}(h:SqL K F a vs)(hd:DenL K F ds vs):ItD K F (Th K a) (ds.mapIdx λi d=> .tup [.int (i:Int),d]):=λF' H' i s1 s2=>by
 have hs:=Same.seq s2 (Same.seq s1 h);refine⟨λd e=>?_,λhl=>⟨vs,hs,by rw[List.length_mapIdx,hd.len] at hl;exact hl⟩⟩;rw[adH] at e;cases q:ds[i]? with
 |none=>rw[q] at e;cases e
 |some d0=>
  rw[q] at e;cases e;obtain⟨v,e1,q1⟩:=hd.get q;refine⟨⟨vs,v,hs,e1⟩,λx H'' ⟨p,y1,y2,u,y3,y4⟩=>?_⟩;subst y1 y4;have:=y3 vs hs;rw[e1] at this;cases this;have E:=Ext.lay (o:= .tup [.int (i:Int),v]) s2 y2;exact⟨_,E,p,_,rfl,aG, .cons rfl (.cons (Den.mono E.ff (Den.mono s1 q1)) .nil),by show 2<=lim;decide⟩
section
variable{X:Cx}{Xw:Nat->Hp->Prop}{e:Expr}{es:List Expr}{δs:DA}{pos p tp:Pos}{x1:Nat}
def BB:List D->M (List D)
 |[.lst ds]=>ae (ds.mapIdx λi d=> .tup [.int (i:Int),d])
 |_=>ag
theorem GO(hg:Gl X "enumerate")(hm:X.mg "enumerate"=none)(ha:gQ X Xw [e] δs)(hs:X2 [e] X.env=[(false,eval e X.env)]:=by rfl):zN X Xw (.Tuple es x1 tp) (.Call (.Name "enumerate" p) [e] [] pos) (λρ=>δs ρ>>=BB):=by
 intro f8 s σ H R I ⟨F,ρ,S,w⟩;refine Call_ (jL I hg hm (show YJ "enumerate"=some (.type "enumerate") from rfl) (Zi (b_ (ha pos f8 s σ H (λvs H1=>∃F1 ds,Ext F H F1 H1/\DenL X.K F1 ds vs/\WPI X.K Xw F1 H1 (BB ds) R) I ⟨F,ρ,S,WPI.bindL w⟩) λus s1 ⟨vs,H1,I1,r1,F1,ds,e1,q1,w1⟩=>?_) hs rfl));unfold BB at w1;split at w1
 ·rename_i ds;obtain⟨v,rfl,h1⟩:=q1.one;obtain⟨a,xs,rfl,h2,h3,h4⟩:=h1;obtain⟨u,rfl,r2⟩:=r1.one;cases (show u=_ from r2);obtain⟨aK,rv,pl,hz⟩:=I1.list (SqL.of (K:=X.K) (e1.fh _ _ h2));refine call_enumerate_list pl.isList λh' k1 k2 k3 k4=>?_;refine wpAny_pyIter_enum k1 ?_;refine⟨s1.heap.objs.size+1,[s1.heap.objs.size+1,s1.heap.objs.size],_,_,H1,rfl,I1.kept (t':=s1.toks) λb o e=>k4 b o e,D8 a _ _ (aaZ (abu _)),⟨.none,k1,k2⟩,λb hb=>?_,w1 _ _ _ (Ext.refl e1.fh) (FL (SqL.of h2) h3)⟩;have e:s1.heap.objs.size<=b:=by
   rcases XF.mp hb with z | z
   ·rw[z];exact Nat.le_succ _
   ·have z:b=s1.heap.objs.size:=by simpa using z
    rw[z];exact XM _
  exact I1.fpOk e (I1.hok.fresh e)
 ·exact w1.elim
end
def FV:Key->D
 | .inl i=> .int i
 | .inr x=> .str x
def Kb(H:Hp)(d:Addr)(od:Obj)(i:Nat)(x:V):Prop:=
 (∃aA k b,H d=some (.frz od (.dT aA))/\(aA.map (·.1))[i]? =some k/\x= .ref b/\H b=some (.tup (k.map kV)))\/
 ∃aA k,H d=some (.frz od (.dK aA))/\(aA.map (·.1))[i]? =some k/\x=kV k
def Tg(d:Addr)(od:Obj):It:=
 ⟨λi H=>(∃aA,H d=some (.frz od (.dT aA))/\i<aA.length)\/∃aA,H d=some (.frz od (.dK aA))/\i<aA.length,λi H x H'=>H'=H/\Kb H d od i x,
  λi H=>(∃aA,H d=some (.frz od (.dT aA))/\aA.length<=i)\/∃aA,H d=some (.frz od (.dK aA))/\aA.length<=i⟩
theorem pG{α β γ:Type}{R:α->β->Prop}{f:α->γ}{g:β->γ}(h:∀a b,R a b->f a=g b):∀{l:List α}{m:List β},acC R l m->l.map f=m.map g
 |_,_, .nil=>rfl
 |_,_, .cons r t=>by rw[XN,XN,h _ _ r,pG h t]
theorem lL{α β:Type}{R:α->β->Prop}:∀{l:List α}{m:List β}{i:Nat}{a:α},acC R l m->l[i]? =some a->∃b,m[i]? =some b/\R a b
 |_,_,i,_, .nil,e=>by simp at e
 |_,_,0,_, .cons r t,e=>by simp at e;subst e;exact⟨_,rfl,r⟩
 |_,_,i+1,_, .cons r t,e=>by
  obtain⟨b,e1,e2⟩:=lL (i:=i) t (by simpa using e);exact⟨b,by simpa using e1,e2⟩
theorem DK{prog:Yd}{w:World}{κ:Type}[DecidableEq κ]{knd:KeyKind prog w κ}:∀{es:List ZW}{aA:List (κ×Value)}{i:Nat}{kv:κ×Value},Pairs knd es aA->aA[i]? =some kv->∃e,es[i]? =some e/\knd.is kv.1 e.key=true:=by
 intro es aA i kv h e;induction h generalizing i with
 |nil=>simp at e
 | @cons en Xv Eh Pq h1 h2 h3 ih=>
   cases i with
   |zero=>simp at e;subst e;exact⟨en,rfl,h1⟩
   |succ i=>
    obtain⟨q,e1,e2⟩:=ih (i:=i) (by simpa using e);exact⟨q,by simpa using e1,e2⟩
theorem My{k:Key}{u:Value}(h:rK k u=true):RelV (kV k) u:=by
 rcases bX h with⟨i,t,rfl,rfl⟩ | ⟨x,t,rfl,rfl⟩
 ·exact⟨t,rfl⟩
 ·exact⟨t,rfl⟩
theorem qX{X:Cx}{f8:List (Addr×Obj)}{σ:St}{H:Hp}{s:XD}{d:Addr}{od:Obj}{n:Nat}(I:Inv X f8 σ H s)
 (h:(∃aA,H d=some (.frz od (.dT aA))/\n=aA.length)\/∃aA,H d=some (.frz od (.dK aA))/\n=aA.length):
 ∃es ep,(d==Zf)=false/\s.heap.get? d=some od/\od.ExactDict/\od.data= .dict es ep/\es.size=n/\∀i,i<n->∃e x,es[i]? =some e/\RelV x e.key/\Kb H d od i x:=by
 rcases h with⟨aA,e,rfl⟩ | ⟨aA,e,rfl⟩
 ·obtain⟨ho,z,lo,xs,rel,o,es,ep,h1,h2,h3,h4,h5⟩:=(show ObjOk X.prog X.w H s.heap d (.frz od (.dT aA)) from I.hok d _ e)
  rw[ho] at h1;cases h1;have hl:es.size=aA.length:=by
   rw[<-XG,h4,XB];exact(ZO rel).symm
  refine⟨es,ep,lo,ho,h2,h3,hl,λi hi=>?_⟩;obtain⟨q,e1,e2,e3,e4⟩:=lL rel (XC hi);refine⟨adN (ZT (bj X.prog X.w)) q, .ref q.2.1,?_,rfl, .inl ⟨aA,aA[i].1,q.2.1,e,?_,rfl,e3⟩⟩
  ·rw[<-YT,h4,XX,e1];rfl
  ·rw[XX,XC hi];rfl
 ·obtain⟨ho,z,lo,vs,rel,o,es,ep,h1,h2,h3,h4,h5,h6⟩:=(show ObjOk X.prog X.w H s.heap d (.frz od (.dK aA)) from I.hok d _ e)
  rw[ho] at h1;cases h1;have hl:es.size=aA.length:=by
   rw[<-XG,h5.length];exact(ZO rel).symm
  refine⟨es,ep,lo,ho,h2,h3,hl,λi hi=>?_⟩;obtain⟨q,e1,e2,e3⟩:=lL rel (XC hi);obtain⟨en,e4,e5⟩:=DK h5 e1;refine⟨en,kV aA[i].1,by rw[<-YT];exact e4,?_, .inr ⟨aA,aA[i].1,e,by rw[XX,XC hi];rfl,rfl⟩⟩;rw[e2];exact My e5
theorem D9{P:Yd}{w:World}{K:XO}{tg:Expr}(d it:Addr)(od:Obj)(es:Array ZW)(ep:Nat)(pY:od.data= .dict es ep):
 Turn P w K tg (Tg d od) [it] it (λi h=>h.IsKeyIter it d i es.size ep) where
 mem:=by simp
 obj:=λi h st b hb=>by
  have e:b=it:=by simpa using hb
  subst e;obtain⟨o,e,c,dd⟩:=st;exact⟨o,e,λv z=>by rw[dd] at z;cases z⟩
 keep:=λi h h' st k=>st.at λo e=>k it (by simp) o e
 item:=by
  intro X hP hw hK hc i f8 s σ H E I hf st hg;subst hP hw hK;obtain⟨n,hn,hi⟩:∃n,((∃aA,H d=some (.frz od (.dT aA))/\n=aA.length)\/∃aA,H d=some (.frz od (.dK aA))/\n=aA.length)/\i<n:=by
   rcases hg with⟨aA,e,hi⟩ | ⟨aA,e,hi⟩
   ·exact⟨_, .inl ⟨aA,e,rfl⟩,hi⟩
   ·exact⟨_, .inr ⟨aA,e,rfl⟩,hi⟩
  obtain⟨Eh,Iy,lo,ho,hx,qh,hsz,hk⟩:=qX I hn;rw[pY] at qh;cases qh;obtain⟨en,x,e1,rx,ka⟩:=hk i hi;obtain⟨f0,f1,f2,f3,f4,f5⟩:=hf it (by simp);refine yC st ho pY e1 λh' sY sb=>?_;have I1:Inv X f8 σ H {s with heap:=h'}:=I.turned (t':=s.toks) (λb o hb e=>(sb.2 b hb).trans e) f0 f1 f3 f4 f5;obtain⟨o,e2,c,dd⟩:=id sY;exact⟨_,rfl,uF (s:={s with heap:=h'}) e2 c dd (by decide) ⟨x,H,I1,rx,⟨rfl,ka⟩,sY,λb hb=>(hf b hb).1⟩⟩
 done:=by
  intro X hP hw hK hc i f8 s σ H E I hf st hg;subst hP hw hK;obtain⟨n,hn,hi⟩:∃n,((∃aA,H d=some (.frz od (.dT aA))/\n=aA.length)\/∃aA,H d=some (.frz od (.dK aA))/\n=aA.length)/\n<=i:=by
   rcases hg with⟨aA,e,hi⟩ | ⟨aA,e,hi⟩
   ·exact⟨_, .inl ⟨aA,e,rfl⟩,hi⟩
   ·exact⟨_, .inr ⟨aA,e,rfl⟩,hi⟩
  obtain⟨Eh,Iy,lo,ho,hx,qh,hsz,hk⟩:=qX I hn;rw[pY] at qh;cases qh;obtain⟨f0,f1,f2,f3,f4,f5⟩:=hf it (by simp);exact uz (I.ok.hd hc) st (by omega) ho pY λh' eb=>⟨rfl,I.turned (t':=s.toks) (λb o hb e=>eb b o hb e) f0 f1 f3 f4 f5⟩
 self:=λ_ _ _ _ _ st h=>wpAny_pyIter_keyiter st h
def tupK(k:List Key):D:= .tup (k.map FV)
def yL:Key->Bool
 | .inl _=>true
 | .inr x=>decide (x.length<=lim)
def jf:D->M (List D)
 | .dct ks _=>if ks.all (λk=>decide (k.length<=lim)&&k.all yL) then ae (ks.map tupK) else ag
 | .dci ks _=>if ks.all yL then ae (ks.map FV) else ag
 |_=>ag
theorem yr{K:XO}{F:Hp}{k:Key}(h:yL k=true):Den K F (FV k) (kV k):=by
 cases k with
 |inl i=>exact rfl
 |inr x=>exact⟨rfl,aek h⟩
theorem uQ{K:XO}{F:Hp}:∀{k:List Key},k.all yL=true->DenL K F (k.map FV) (k.map kV)
 |[],_=>rfl
 |x::k,h=>by
  rw[aaS,X5] at h;exact .cons (yr h.1) (uQ h.2)
theorem FN{K:XO}{F:Hp}{a:Addr}{ob:Obj}{d:D}{ds:List D}(hd:Den K F d (.ref a))(hF:∃u,F a=some (.frz ob u))(e:jf d=ae ds):ItD K F (Tg a ob) ds:=λF' H' i s1 s2=>by
 unfold jf at e;split at e
 ·rename_i ks es;split at e
  ·rename_i hok;obtain rfl:=fw e;obtain⟨a',WX,vs,z,h2,h3,h4,h5⟩:=hd;cases z;obtain⟨u,hu⟩:=hF;rw[h2] at hu;cases hu;have hh:=s2 _ _ (s1 _ _ h2);have hz:=kR (a:=ks) (b:=vs) (by rw[h4];exact h3.len);have hl:(ks.zip vs).length=ks.length:=by rw[<-XB (f:=(·.1)),hz]
   refine⟨λd e=>?_,λhle=> .inl ⟨_,hh,by rw[hl];simpa using hle⟩⟩;rw[XX] at e;cases q:ks[i]? with
   |none=>rw[q] at e;cases e
   |some k=>
    rw[q] at e;cases e;have hi:=(XI.mp q).1;refine⟨.inl ⟨_,hh,by rw[hl];exact hi⟩,λx H'' ⟨y1,y2⟩=>?_⟩;subst y1;have hk:=Yh.mp hok k (X7 q);rw[X5] at hk;rcases y2 with⟨aA,k',b,q1,q2,rfl,q3⟩ | ⟨aA,k',q1,q2,rfl⟩
    ·rw[hh] at q1;cases q1;rw[hz,q] at q2;cases q2;have E:=Ext.tup (F:=F') s2 q3;exact⟨_,E,b,_,rfl,aG,uQ hk.2,by rw[XB];exact aek hk.1⟩
    ·rw[hh] at q1;cases q1
  ·exact(eT e).elim
 ·rename_i ks es;split at e
  ·rename_i hok;obtain rfl:=fw e;obtain⟨a',WX,vs,z,h2,h3,h4,h5⟩:=hd;cases z;obtain⟨u,hu⟩:=hF;rw[h2] at hu;cases hu;have hh:=s2 _ _ (s1 _ _ h2);have hz:=kR (a:=ks) (b:=vs) (by rw[h4];exact h3.len);have hl:(ks.zip vs).length=ks.length:=by rw[<-XB (f:=(·.1)),hz]
   refine⟨λd e=>?_,λhle=> .inr ⟨_,hh,by rw[hl];simpa using hle⟩⟩;rw[XX] at e;cases q:ks[i]? with
   |none=>rw[q] at e;cases e
   |some k=>
    rw[q] at e;cases e;have hi:=(XI.mp q).1;refine⟨.inr ⟨_,hh,by rw[hl];exact hi⟩,λx H'' ⟨y1,y2⟩=>?_⟩;subst y1;have hk:=Yh.mp hok k (X7 q);rcases y2 with⟨aA,k',b,q1,q2,rfl,q3⟩ | ⟨aA,k',q1,q2,rfl⟩
    ·rw[hh] at q1;cases q1
    ·rw[hh] at q1;cases q1;rw[hz,q] at q2;cases q2;exact⟨F',Ext.refl s2,yr hk⟩
  ·exact(eT e).elim
 ·exact(eT e).elim
section
variable{X:Cx}{Xw:Nat->Hp->Prop}{tg l:Expr}{δ:DE}
theorem yU(h:PD X Xw l δ):zN X Xw tg l (λρ=>δ ρ>>=jf):=by
 intro f8 s σ H R I ⟨F,ρ,S,w⟩;refine b_ (h f8 s σ H (λv H1=>∃F1 d,Ext F H F1 H1/\Den X.K F1 d v/\WPI X.K Xw F1 H1 (jf d) R) I ⟨F,ρ,S,WPI.bind w⟩) λu s1 ⟨v,H1,I1,r1,F1,d,e1,q1,w1⟩=>?_;rcases(jf d).cs with z | ⟨n,z⟩ | ⟨ds,z⟩
 ·rw[z] at w1;exact w1.elim
 ·exfalso
  unfold jf at z;split at z
  ·split at z<;>cases z
  ·split at z<;>cases z
  ·cases z
 ·rw[z] at w1;obtain⟨a,ob,u',rfl,hF,hn⟩:∃a ob u',v= .ref a/\F1 a=some (.frz ob u')/\∃n,((∃aA,H1 a=some (.frz ob (.dT aA))/\n=aA.length)\/∃aA,H1 a=some (.frz ob (.dK aA))/\n=aA.length):=by
   unfold jf at z;split at z
   ·obtain⟨a,ob,vs,e,h2,_⟩:=q1;exact⟨a,ob,_,e,h2,_, .inl ⟨_,e1.fh _ _ h2,rfl⟩⟩
   ·obtain⟨a,ob,vs,e,h2,_⟩:=q1;exact⟨a,ob,_,e,h2,_, .inr ⟨_,e1.fh _ _ h2,rfl⟩⟩
   ·exact(eT z).elim
  obtain⟨n,hn⟩:=hn;cases (show u=_ from r1);obtain⟨es,ep,lo,ho,hx,hd,hsz,hk⟩:=qX I1 hn;refine uP lo ho hx hd ?_;refine⟨s1.heap.objs.size,[s1.heap.objs.size],_,_,H1,rfl,I1.kept (t':=s1.toks) λb o e=>XJ _ e,D9 a _ ob es ep hd,⟨_,X8 _ rfl,rfl,rfl⟩,λb hb=>?_,w1 _ _ _ (Ext.refl e1.fh) (FN q1 ⟨_,hF⟩ z)⟩;have e:b=s1.heap.objs.size:=by simpa using hb
  subst e;exact I1.fpOk (XM _) (I1.hok.fresh (XM _))
end
end L3
namespace L3
open PySem
section
variable{prog:Yd}{w:World}{K:Type}[DecidableEq K]{knd:HeapKind prog w K}{A:Yy}{E:Value->XD->Prop}{s:XD}
theorem sS{d a:Addr}{xs:List (K×Addr×Value)}{k:K}{v:Value}{Q:Unit->XD->Prop}(hu:knd.room A)(C8:knd.is s.heap k a)(hm:s.heap.DictOfH knd d xs)(hsz:xs.length<=X6)
 (hQ:∀h',h'.DictOfH knd d (abF xs k a v)->Ze d s.heap h'->Q () {s with heap:=h'}):wpAny (model prog w) A (acz d (.ref a) (knd.hash k) v) Q E s:=by
 obtain⟨o,es,ep,ho,hc,hd,he,RP,hn⟩:=hm;unfold acz;refine Zg (Xy (wpAny_dictFind_heap hu C8 ho hd he RP hn (λrp=>?_) λj p hj=>?_))
 ·have e0:=atKey_none_of_get rp;have hz:es.size<=X6:=by rw[adb he];exact hsz
  refine Xy (wpAny_rule (wpAny_updateDictKeys (hz:=hz) ho hd (hQ _ ?_ (Yo ..))));rw[storedH_new e0];refine⟨_,_,ep+1,Y2 _ ho (abU (aaQ hd _)),hc.mapDictKeys _,aaQ hd _,by simp[he,adN],λx hx=>?_,?_⟩
  ·rcases Yk.mp hx with hx | hx
   ·exact knd.keeps (RP x hx) ho hd (Yo ..)
   ·obtain rfl:x=(k,a,v):=by simpa using hx
    exact knd.keeps C8 ho hd (Yo ..)
  ·rw[Yl];refine YI.mpr ⟨hn,by simp,λx hx y hy z=>?_⟩;have hy:y=k:=by simpa using hy
   exact not_mem_keys_of_get rp (by rw[<-hy,<-z];exact hx)
 ·have e0:=atKey_of_get hn hj;refine Xy (wpAny_rule (Xy (wpAny_updateDict ho hd (wpAny_point (hQ _ ?_ (Yo ..))))));rw[storedH_old e0];refine⟨_,_,ep,Y2 _ ho (abU (Obj.data_mapDict hd _)),hc.mapDict _,Obj.data_mapDict hd _,?_,λx hx=>?_,by rw[keys_map_putAt];exact hn⟩
  ·have:=modify_map_putAt (adN knd) (λe:ZW=>{e with val:=v}) k v (λ_ _=>rfl) hn hj;rw[<-he] at this;obtain⟨l⟩:=es;simpa using this
  ·obtain⟨y,hy,rfl⟩:=XS.mp hx;unfold putAt;split<;>exact knd.keeps (RP y hy) ho hd (Yo ..)
def dj(xs ys:List (K×Addr×Value)):List (K×Addr×Value):=ys.foldl (λv4 y=>abF v4 y.1 y.2.1 y.2.2) xs
theorem zv(xs:List (K×Addr×Value))(k:K)(a:Addr)(v:Value):(abF xs k a v).length<=xs.length+1:=by
 unfold abF;split<;>simp
theorem oZ:∀(ys xs:List (K×Addr×Value)),(dj xs ys).length<=xs.length+ys.length
 |[],xs=>XM _
 |y::ys,xs=>by
  have h1:=oZ ys (abF xs y.1 y.2.1 y.2.2);have h2:=zv xs y.1 y.2.1 y.2.2;show (dj (abF xs y.1 y.2.1 y.2.2) ys).length<=_;rw[XH];omega
theorem v_{xs ys:List (K×Addr×Value)}{i:Nat}{y:K×Addr×Value}(h:ys[i]? =some y):dj xs (ys.take (i+1))=abF (dj xs (ys.take i)) y.1 y.2.1 y.2.2:=by
 rw[List.take_add_one,h];unfold dj;rw[List.foldl_append];rfl
theorem o3:∀(ys v4:List (K×Addr×Value)),((v4++ys).map (·.1)).Nodup->dj v4 ys=v4++ys
 |[],v4,_=>by simp[dj]
 |y::ys,v4,hn=>by
  show dj (abF v4 y.1 y.2.1 y.2.2) ys=_;have RY:y.1∉v4.map (·.1):=λh=>by
   rw[Yl] at hn;exact(YI.mp hn).2.2 _ h _ (by simp) rfl
  have e0:atKey v4 y.1=none:=atKey_none_of_get λj p hj=>RY (XS.mpr ⟨_,X7 hj,rfl⟩);rw[storedH_new e0,o3 ys (v4++[(y.1,y.2.1,y.2.2)]) (by simpa using hn)];simp
theorem vF{id:String}{o:Addr}{ob:Obj}{es:Array ZW}{ep:Nat}{Q:Array ZW->XD->Prop}(ho:s.heap.get? o=some ob)(hd:ob.data= .dict es ep)
 (hq:∀e∈es.toList,∃a,e.key= .ref a/\s.TypeIs (.ref a) "tuple")(hh:∀e∈es.toList,(es.filter (·.hash==e.hash)).size<=1)(h:Q es s):wpAny (model prog w) A (abO id o) Q E s:=by
 unfold abO;refine Xy (Zv ho hd ?_);rw[<-abX];refine Xy (aaU _ (λW1 _ s'=>s'=s/\∀e∈W1,e∈es.toList) _ ?_ ?_ _ _ ⟨rfl,λ_ h=>h⟩)
 ·rintro e W1 b s' ⟨rfl,hr⟩;obtain⟨a,ea,ta⟩:=hq e (hr e (XA ..));have hf:=hh e (hr e (XA ..));have dG:¬((es.filter (·.hash==e.hash)).size>1):=by omega
  rw[ea];unfold Builtin.Dict.quietEq;refine Xy (Xy (aa6 ta F.slot_tuple_eq.lookup (XE ?_)));simp only[dG,if_false];have:(some (aaM "tuple.__eq__")==some (aaM "object.__eq__"))=false:=by decide
  simp only[this,aaG,if_true];exact XE ⟨rfl,λx hx=>hr x (Xz _ hx)⟩
 ·rintro b s' ⟨rfl,_⟩;exact XE h
theorem rS{nm:String}{d o:Addr}{xs ys:List (K×Addr×Value)}{Q:Unit->XD->Prop}(hu:knd.room A)(T2:d≠o)(V9:(o==Zf)=false)(hd:s.heap.DictOfH knd d xs)(ho:s.heap.DictOfH knd o ys)
 (VR:∀{h:Heap}{k:K}{a:Addr},knd.is h k a->∃ob,h.get? a=some ob/\ob.cls= .type "tuple")(hh:xs=[]->(ys.map λy=>knd.hash y.1).Nodup)(hsz:xs.length+ys.length<=X6)
 (hQ:∀h',h'.DictOfH knd d (dj xs ys)->Ze d s.heap h'->Q () {s with heap:=h'}):wpAny (model prog w) A (acq nm d o) Q E s:=by
 obtain⟨od,U4,U1,Dd,rm,pY,Vt,RL,NY⟩:=id hd;obtain⟨oo,z7,U2,O4,TX,C4,Ei,RO,rp⟩:=id ho;have hlen:=adb Ei;unfold acq;rw[aeh (by simpa using T2)];unfold aa5;rw[aeh (by rw[V9];exact Yi)];refine Xy (XE (Xy (Zv O4 C4 ?_)));have loop:∀(body:Nat->PUnit->Sem (ForInStep PUnit)),body=(λi (_:PUnit)=>(do
       let l'<-dictEntries o
       match l'[i]? with
        |some e=>do
         holding [e.key,e.val] (acz d e.key e.hash e.val)
         let Iy<-dictEpoch o
         if (Iy !=U2)=true then do (unsupported (toString nm++toString ":source-changed-during-callback"):Sem PUnit);pure (YW aaC) else pure (YW aaC)
        |_=>do
         (unsupported "internal:dict-merge":Sem PUnit)
         pure (YW aaC):Sem (ForInStep PUnit)))->wpAny (model prog w) A (forIn [:z7.size] aaC body) (λ_ s'=>Q () s') E s:=by
  rintro _ rfl;rw[Std.Legacy.Range.forIn_eq_forIn_range'];simp only[Std.Legacy.Range.size,Nat.sub_zero,Nat.add_sub_cancel,Nat.div_one];refine aaU _ (λW1 _ s'=>∃h' i,s'={s with heap:=h'}/\W1=YU i (z7.size - i)/\i<=z7.size/\h'.DictOfH knd d (dj xs (ys.take i))/\h'.get? o=some oo/\Ze d s.heap h') _ ?_ ?_ _ _
   ⟨s.heap,0,rfl,by simp,Ys _,by simpa[dj] using hd,O4,acY _ _⟩
  ·rintro x W1 b s' ⟨h',i,rfl,hr,hi,qh,Mg,yn⟩;have dG:i<z7.size:=by
    by_cases h:i<z7.size
    ·exact h
    ·rw[show z7.size - i=0 by omega] at hr;simp at hr
   rw[show z7.size - i=(z7.size - (i+1))+1 by omega,abn] at hr;injection hr with h1 h2
   subst h1;refine Xy (Zv Mg C4 ?_);obtain⟨y,hy⟩:∃y,ys[x]? =some y:=⟨_,XC (by omega)⟩
   rw[entry_at Ei x,hy];have V3:(dj xs (ys.take x)).length<=X6:=by
    have e1:=oZ (ys.take x) xs;rw[abp] at e1;omega
   have VS:knd.is h' y.1 y.2.1:=knd.keeps (RO y (X7 hy)) Dd pY yn;refine Xy (Zg (sS hu VS qh V3 λTw RB Pb=>?_));have KG:Tw.get? o=some oo:=(Pb.2 o (YG T2)).trans Mg;refine Xy (aa8 KG C4 ?_);rw[aeh (by simp)];exact XE ⟨Tw,x+1,rfl,h2,dG,by rw[v_ hy];exact RB,KG,yn.trans Pb⟩
  ·rintro b s' ⟨h',i,rfl,hr,hi,qh,Mg,yn⟩;have jG:i=z7.size:=by
    by_cases h:i<z7.size
    ·rw[show z7.size - i=(z7.size - (i+1))+1 by omega,abn] at hr;exact nomatch hr
    ·omega
   refine hQ h' ?_ yn;rw[jG,hlen,List.take_length] at qh;exact qh
 have go:wpAny (model prog w) A (do
  let Ov<-dictEpoch o
  let l<-dictEntries o
  forIn [:l.size] aaC λi (_:PUnit)=>(do
   let l'<-dictEntries o
   match l'[i]? with
    |some e=>do
     holding [e.key,e.val] (acz d e.key e.hash e.val)
     let Iy<-dictEpoch o
     if (Iy !=Ov)=true then do (unsupported (toString nm++toString ":source-changed-during-callback"):Sem PUnit);pure (YW aaC) else pure (YW aaC)
    |_=>do
     (unsupported "internal:dict-merge":Sem PUnit)
     pure (YW aaC):Sem (ForInStep PUnit))
  pure ()) Q E s:=by
  refine Xy (aa8 O4 C4 (Xy (Zv O4 C4 (Xy ?_))));exact YV (loop _ rfl) (λ_ _ h=>XE h) λ_ _ h=>h
 dsimp only
 split
 ·refine Xy (Zv Dd pY ?_);split
  ·rename_i L5;have Pg:xs=[]:=by
    have h0:U4= #[]:=ad9.mp L5;have:=adb Vt;rw[h0] at this;exact aat.mp (by simpa using this.symm)
   subst Pg;have V5:=hh rfl;refine Xy (vF O4 C4 (λe he=>?_) (λe he=>?_) ?_)
   ·rw[Ei] at he;obtain⟨y,hy,rfl⟩:=XS.mp he;obtain⟨ob,h1,h2⟩:=VR (RO y hy);exact⟨y.2.1,rfl,ob,h1,h2⟩
   ·have:(z7.filter (·.hash==e.hash)).size=((ys.map λy=>knd.hash y.1).filter (· ==e.hash)).length:=by
     rw[<-XG,adJ,Ei,List.filter_map,List.filter_map,XB,XB];rfl
    rw[this];have hc:=List.nodup_iff_count.mp V5 e.hash;rw[List.count_eq_countP,List.countP_eq_length_filter] at hc;exact hc
   ·have hm:dj ([]:List (K×Addr×Value)) ys=ys:=by
     rw[o3 ys [] (by simpa using rp)];rfl
    rw[hm] at hQ;split
    ·have Wv:z7.size<=X6+1:=by simp at hsz;omega
     refine Xy (wpAny_updateDictKeysTo Dd pY (XE (hQ _ ⟨_,_,U1+1,Y2 _ Dd (abU (aaQ pY _)),rm.mapDictKeys _,aaQ pY _,Ei,λx hx=>?_,rp⟩ (Yo ..))) Wv);exact knd.keeps (RO x hx) Dd pY (Yo ..)
    ·rename_i fo;have h0:z7= #[]:=ad9.mp (by simpa using fo);have V0:ys=[]:=aat.mp (by rw[<-hlen,h0];rfl);subst V0;exact XE (hQ _ hd (acY _ _))
  ·exact go
 ·exact go
end
end L3
namespace L3
open PySem PySem.Spec L2
open PyProof.Rows hiding St
theorem J_{P:Yd}{w:World}{h:Heap}{k:List Key}{a:Addr}(h1:(ZT (bj P w)).is h k a):∃ob,h.get? a=some ob/\ob.cls= .type "tuple":=by
 obtain⟨ob,aK,n,q1,q2,_⟩:=h1;exact⟨ob,q1,q2⟩
def jN(aA more:List (List Key×V)):List (List Key×V):=more.foldl (λv4 kv=>putK v4 kv.1 kv.2) aA
theorem B0{H:Hp}:∀{more:List (List Key×V)}{ys:List (List Key×Addr×Value)},KT H more ys->∀{aA:List (List Key×V)}{xs:List (List Key×Addr×Value)},KT H aA xs->KT H (jN aA more) (dj xs ys)
 |_,_, .nil,_,_,q=>q
 |_,_, .cons h t,aA,xs,r=>by
  refine B0 t ?_;have:=KT.put r _ h.2.1 h.2.2;rw[h.1] at this;show KT H (putK aA _ _) (abF xs _ _ _);rw[h.1];exact this
theorem rM:∀(more aA:List (List Key×V)),(jN aA more).length<=aA.length+more.length
 |[],aA=>XM _
 |p::r,aA=>by
  have h1:=rM r (putK aA p.1 p.2);have h2:=et aA p.1 p.2;show (jN (putK aA p.1 p.2) r).length<=_;rw[XH];omega
def fI(k:List Int):Int:=reduceHash (abW (k.map hashInt))
theorem Fq{P:Yd}{w:World}(k:List Int):(ZT (bj P w)).hash (rJ k)=fI k:=by
 show reduceHash (abW ((rJ k).map (Pp w)))=_;unfold fI rJ;rw[Yv];rfl
section
variable{X:Cx}{f8:List (Addr×Obj)}{σ:St}{H:Hp}{s:XD}{a b:Addr}{A:Yy}{E:Value->XD->Prop}
theorem E3{aA more:List (List Key×V)}{ks:List (List Int)}{Q:Value->XD->Prop}(hu:A.units+2<cLine)(I:Inv X f8 σ H s)(ha:H a=some (.dT aA))(hb:Rd H b (.dT more))(IH:a≠b)(hk:more.map (·.1)=ks.map rJ)
 (hh:aA=[]->(ks.map fI).Nodup)(hz:aA.length+more.length<=X6)(h:∀s',Inv X f8 σ (upd H a (.dT (jN aA more))) s'->Q .none s'):
 wpAny (model X.prog X.w) A (call (.builtin "dict.update") [.ref a, .ref b]) Q E s:=by
 obtain⟨z1,lo1,xs,P_,Tp⟩:=E7 I.hok ha;obtain⟨z2,WT,ys,JT,Io⟩:=lY I.hok hb;have l1:=ZO P_;have l2:=ZO JT;have hT:=Tp.typeIs;refine Za acG hT PySem.F.entry_dict_update ?_ (PySem.F.args_dict_update_2 _ _);unfold aaF.«dict.update»;refine Xy ?_;unfold Builtin.Dict.selfAndRest;refine Xy (wpAny_notOrdered_dict hT ?_);show wpAny _ _ (pure (a,[Ye b])) _ _ s;refine XE ?_;show wpAny _ _ (acg "dict.update" a (.ref b) [] .none) _ _ s;unfold acg;refine Xy (wpAny_typeOf Io.typeIs ?_);rw[aeh (by decide)];refine Xy ?_;unfold Builtin.Dict.merge;refine Xy ?_;unfold Builtin.Dict.readDirectly;refine Xy (abL Io.typeIs isSubtype_dict_dict ?_);simp only[ZQ,X4,if_false];refine Xy (aa6 Io.typeIs PySem.F.slot_dict_iter.lookup (XE ?_));simp only[beq_self_eq_true,if_true];refine Xy (XE ?_);refine rS (knd:=ZT (bj X.prog X.w)) (show A.in1.units<cLine by show A.units+1<cLine;omega) IH WT Tp Io J_ (λe0=>?_) (by omega) λh' Bv yn=>?_
 ·have e1:aA=[]:=aat.mp (by rw[l1,e0];rfl);have:=hh e1;have e2:(ys.map λy=>(ZT (bj X.prog X.w)).hash y.1)=ks.map fI:=by
   have e3:more.map (·.1)=ys.map (·.1):=pG (λ_ _ r=>r.1) JT;rw[show (λy:List Key×Addr×Value=>(ZT (bj X.prog X.w)).hash y.1)=(ZT (bj X.prog X.w)).hash∘(·.1) from rfl,<-Yv,<-e3,hk,Yv];exact Zt λk _=>Fq k
  rw[e2];exact this
 ·show wpAny _ _ (Builtin.Dict.addKeywords a []>>=_) _ _ _;refine Xy (XE (XE ⟨.none,rfl,h _ ?_⟩));obtain⟨q,es,ep,hq,h2,h3,h4,_,h5⟩:=Bv;have hl:(jN aA more).length<=X6:=by have:=rM more aA;omega
  refine ky I (t':=s.toks) (by rw[ha];exact Y0) yn ⟨q,hq⟩ ⟨hl,lo1,_,(B0 JT P_).keeps λc ys ec=>?_,q,es,ep,hq,h2,h3,h4,h5⟩;rw[az (Gd ec ha (λz=>nomatch z))];exact ec
end
def cq(ks:List (List Key))(ds:List D):List (List Key)->List D->List (List Key)×List D
 |k::ks',d::ds'=>cq (dw ks ds k) (cz ks ds k d) ks' ds'
 |_,_=>(ks,ds)
def HJ(ks:List (List Key))(ds:List D):D->Option C
 | .dct ks' ds'=>match gE ks' with
   |some ns=>if ds.length+ds'.length<=lim/\(ks.isEmpty=true->(ns.map fI).Nodup) then some (.dct (cq ks ds ks' ds').1 (cq ks ds ks' ds').2) else none
   |none=>none
 |_=>none
theorem rQ{K:XO}{F:Hp}:∀{ks':List (List Key)}{ds':List D}{vs':List V}{ks:List (List Key)}{ds:List D}{vs:List V},DenL K F ds' vs'->ks'.length=ds'.length->DenL K F ds vs->ks.length=ds.length->
 ∃ws,jN (ks.zip vs) (ks'.zip vs')=(cq ks ds ks' ds').1.zip ws/\DenL K F (cq ks ds ks' ds').2 ws/\(cq ks ds ks' ds').1.length=(cq ks ds ks' ds').2.length
 |[],[],vs',ks,ds,vs,h',_,h,hl=>⟨vs,rfl,h,hl⟩
 |k::ks',d::ds',vs',ks,ds,vs,⟨v,r,e,h1,h2⟩,Ag,h,hl=>by
  subst e;obtain⟨ws,e1,e2,e3⟩:=wQ (K:=K) (F:=F) h1 k h hl;obtain⟨us,q1,q2,q3⟩:=rQ (ks':=ks') (ds':=ds') (vs':=r) h2 (by simpa using Ag) e2 e3;refine⟨us,?_,q2,q3⟩;show jN (putK (ks.zip vs) k v) (ks'.zip r)=_;rw[e1];exact q1
 |[],_::_,_,_,_,_,_,Ag,_,_=>by simp at Ag
 |_::_,[],_,_,_,_,_,Ag,_,_=>by simp at Ag
theorem G8{κ:Type}[DecidableEq κ]{ks:List κ}{ds:List D}{k:κ}{d:D}(hl:ks.length=ds.length):(cz ks ds k d).length<=ds.length+1:=by
 unfold cz;split
 ·rw[j4 ks ds k d hl];omega
 ·simp
theorem G9{κ:Type}[DecidableEq κ]{ks:List κ}{ds:List D}{k:κ}{d:D}(hl:ks.length=ds.length):(dw ks ds k).length=(cz ks ds k d).length:=by
 unfold cz dw;split
 ·rw[j4 ks ds k d hl];exact hl
 ·simp[hl]
theorem rR:∀{ks':List (List Key)}{ds':List D}{ks:List (List Key)}{ds:List D},ks.length=ds.length->(cq ks ds ks' ds').2.length<=ds.length+ds'.length
 |[],ds',ks,ds,_=>by show ds.length<=_;omega
 |_::_,[],ks,ds,_=>by show ds.length<=_;simp
 |k::ks',d::ds',ks,ds,hl=>by
  have h1:=rR (ks':=ks') (ds':=ds') (ks:=dw ks ds k) (ds:=cz ks ds k d) (G9 hl);have h2:=G8 (k:=k) (d:=d) hl;show (cq (dw ks ds k) (cz ks ds k d) ks' ds').2.length<=_;rw[XH];omega
section
variable{X:Cx}{Xw:Nat->Hp->Prop}{o e:Expr}{δ:DE}{pos p T0 aV:Pos}{x:Str}{i:Nat}
def Hk(i:Nat)(δ:DE):DS:=λρ=>match ud ρ i with
 |some (.dct ks ds)=>δ ρ>>=λd=>match HJ ks ds d with
  |some c'=>ae (.nx (ρ.set i (some (.ow c'))))
  |none=>ag
 |_=>ag
theorem Nc{td ty:TE}(hu:X.A.units+2<cLine)(ho:PE X o td)(he:PE X e ty)(m:M1 X o "update" T0 e aV):
 PE X (.Call (.Attribute o "update" T0) [e] [] aV) (λσ H Q=>td σ H λx H1=>∃a,x= .ref a/\NP H1 a/\ty σ H1 λy H2=>∃(b:Addr) (aA more:List (List Key×V)) (ks:List (List Int)),y= .ref b/\H2 a=some (.dT aA)/\Rd H2 b (.dT more)/\a≠b/\more.map (·.1)=ks.map rJ/\(aA=[]->(ks.map fI).Nodup)/\aA.length+more.length<=X6/\Q .non (upd H2 a (.dT (jN aA more)))):=by
 intro f8 s σ H Q I h;refine abw m.base m.few m.line aam acG (by rfl) (b_ (ho f8 s σ H _ I h) λu s1 ⟨x,H1,I1,rx,a,ex,d,q1⟩=>?_);subst ex;obtain rfl:u=Ye a:=rx;obtain⟨t1,t2,_⟩:=vS I1 d;refine⟨t1,t2,?_⟩;rw[m.trees];refine ZX rfl (ZH (Y4 (b_ (he f8 s1 σ H1 _ I1 q1) λiv s2 ⟨y,H2,I2,ry,b,aA,more,ks,ey,k1,k2,k3,k4,k5,k6,q2⟩=>ZJ ?_)));subst ey;obtain rfl:iv=Ye b:=ry;exact E3 hu I2 k1 k2 k3 k4 k5 k6 λs3 I3=>⟨.non,_,I3,rfl,q2⟩
theorem JN(hu:X.A.units+64<cLine)(hv:PE X (.Name x p) (lR i))(he:PD X Xw e δ)(m:M1 X (.Name x p) "update" T0 e aV)(hs:aa9 (.Call (.Attribute (.Name x p) "update" T0) [e] [] aV) none pos.line X.env=pure false:=by rfl):
 iO X Xw (.Expr (.Call (.Attribute (.Name x p) "update" T0) [e] [] aV) pos) (Hk i δ):=λu8 aeq=>PS.weak (qr (Nc (by omega) hv he m) hs) λD σ H ⟨F,ρ,s,w⟩=>by
 unfold Hk at w;split at w
 ·rename_i ks ds Mf;have hi:=n_ Mf;obtain⟨v,QS,a,oh,rfl,hH,hF,vs,rfl,hd,hl,hz⟩:=s.st.den i _ hi;refine⟨.ref a,QS,a,rfl, .inr ⟨_, .inl hH⟩,F,ρ,s.st,?_⟩;rcases(δ ρ).cs with q | ⟨n,q⟩ | ⟨d,q⟩
  ·rw[q] at w;exact w.elim
  ·rw[q] at w⊢;exact λF' H' e'=>w F' H' (s.ext.trans e')
  ·rw[q] at w⊢;intro u H1 F1 e1 hq;have w:WPS X.K Xw u8 aeq (match HJ ks ds d with | some c'=>ae (.nx (ρ.set i (some (.ow c')))) | none=>ag) D:=w;cases d with
   |dct ks' ds'=>
    obtain⟨b,ob,vs',rfl,k2,k3,k4,k5⟩:=hq;cases hc:HJ ks ds (.dct ks' ds') with
    |none=>rw[hc] at w;exact w.elim
    |some c'=>
     rw[hc] at w;have hc:(match gE ks' with | some ns=>if ds.length+ds'.length<=lim/\(ks.isEmpty=true->(ns.map fI).Nodup) then some (C.dct (cq ks ds ks' ds').1 (cq ks ds ks' ds').2) else none | none=>none)=some c':=hc;cases hn:gE ks' with
     |none=>rw[hn] at hc;cases hc
     |some ns=>
      rw[hn] at hc;have hc:(if ds.length+ds'.length<=lim/\(ks.isEmpty=true->(ns.map fI).Nodup) then some (C.dct (cq ks ds ks' ds').1 (cq ks ds ks' ds').2) else none)=some c':=hc;split at hc
      ·rename_i OM;cases hc;have TZ:=DenL.mono e1.ff hd;have l1:=TZ.len;have l2:=k3.len;have IH:a≠b:=λz=>by
        have:=e1.old hH (λ_ z=>nomatch z);rw[hF,z,k2] at this;cases this
       obtain⟨ws,m1,m2,m3⟩:=rQ k3 k4 TZ hl;refine⟨b,ks.zip vs,ks'.zip vs',ns,rfl,e1.hh _ _ hH, .inr ⟨ob,e1.fh _ _ k2⟩,IH,by rw[kR (by rw[k4];exact l2),nR hn],λz=>OM.2 ?_,?_,?_⟩
       ·have:=kR (a:=ks) (b:=vs) (by rw[hl];exact l1);rw[z] at this;rw[<-this];rfl
       ·rw[Z3,Z3];have:=dS;omega
       ·rw[m1];exact w σ F1 _ ((s.ext' e1).chg (c₀:= .dct (cq ks ds ks' ds').1 (cq ks ds ks' ds').2) hi QS ⟨ws,rfl,m2,m3,by have:=rR (ks':=ks') (ds':=ds') hl;omega⟩)
      ·cases hc
   |_=>exact w.elim
 ·exact w.elim
end
section
variable{X:Cx}{Xw:Nat->Hp->Prop}{o e f:Expr}{δo δe δf:DE}{T0 aV:Pos}{x:Str}
def uM:D->Bool
 | .dct _ _=>true
 | .dci _ _=>true
 |_=>false
theorem BS{K:XO}{F H:Hp}{d:D}{x:V}(s:Same F H)(hd:Den K F d x)(e:uM d=true):∃a,x= .ref a/\NP H a:=by
 cases d with
 |dct ks ds=>obtain⟨a,ob,vs,rfl,h2,_⟩:=hd;exact⟨a,rfl, .inr ⟨_, .inr ⟨ob,s _ _ h2⟩⟩⟩
 |dci ks ds=>obtain⟨a,ob,vs,rfl,h2,_⟩:=hd;exact⟨a,rfl, .inl ⟨_, .inr ⟨ob,s _ _ h2⟩⟩⟩
 |_=>cases e
def getM(d k v:D):M D:=match CH d k with
 |some (some x)=>ae x
 |some none=>ae v
 |none=>ag
def Bt(δo δe:DE):DE:=λρ=>δo ρ>>=λd=>if uM d then δe ρ>>=λk=>getM d k .non else ag
def EY(δo δe δf:DE):DE:=λρ=>δo ρ>>=λd=>if uM d then δe ρ>>=λk=>δf ρ>>=λv=>getM d k v else ag
theorem yl{F H:Hp}{d k v:D}{a:Addr}{y z:V}{Q:VK}(s:Same F H)(q1:Den X.K F d (.ref a))(q2:Den X.K F k y)(q3:Den X.K F v z)(w:WP X.K Xw F H (getM d k v) Q):∃ov,ly H a y ov/\Q (ov.getD z) H:=by
 unfold getM at w;cases HR:CH d k with
 |none=>rw[HR] at w;exact w.elim
 |some o'=>
  rw[HR] at w;obtain⟨a',ov,zz,h2,h3,h4⟩:=vp s q1 q2 HR;cases zz;refine⟨ov,h2,?_⟩;cases o' with
  |none=>
   cases ov with
   |none=>exact WP.now w s q3
   |some _=>cases h3
  |some d'=>
   obtain⟨v,rfl,hv⟩:=h4 d' rfl;exact WP.now w s hv
theorem B_(hu:X.A.units+64<cLine)(ho:PD X Xw o δo)(he:PD X Xw e δe)(m:M1 X o "get" T0 e aV):PD X Xw (.Call (.Attribute o "get" T0) [e] [] aV) (Bt δo δe):=
 PE.weak (GU (by omega) ho he m) λσ H Q ⟨F,ρ,s,w⟩=>by
  refine⟨F,ρ,s,WP.mono (WP.bind w) λx H1 ⟨F1,d,e1,q1,w1⟩=>?_⟩;split at w1
  ·rename_i hd;obtain⟨a,rfl,Ss⟩:=BS e1.fh q1 hd;refine⟨a,rfl,Ss,F1,ρ,s.ext e1,WP.mono (WP.bind w1) λy H2 ⟨F2,k,e2,q2,w2⟩=>?_⟩;exact yl (v:= .non) (z:= .non) e2.fh (Den.mono e2.ff q1) q2 (show V.non=V.non from rfl) w2
  ·exact w1.elim
theorem Jv(hu:X.A.units+64<cLine)(ho:PD X Xw o δo)(he:PD X Xw e δe)(hf:PD X Xw f δf)(m:M2 X o "get" T0 e f aV):PD X Xw (.Call (.Attribute o "get" T0) [e,f] [] aV) (EY δo δe δf):=
 PE.weak (GV (by omega) ho he hf m) λσ H Q ⟨F,ρ,s,w⟩=>by
  refine⟨F,ρ,s,WP.mono (WP.bind w) λx H1 ⟨F1,d,e1,q1,w1⟩=>?_⟩;split at w1
  ·rename_i hd;obtain⟨a,rfl,Ss⟩:=BS e1.fh q1 hd;refine⟨a,rfl,Ss,F1,ρ,s.ext e1,WP.mono (WP.bind w1) λy H2 ⟨F2,k,e2,q2,w2⟩=>?_⟩;refine⟨F2,ρ,(s.ext e1).ext e2,WP.mono (WP.bind w2) λz H3 ⟨F3,v,e3,q3,w3⟩=>?_⟩;exact yl e3.fh (Den.mono e3.ff (Den.mono e2.ff q1)) (Den.mono e3.ff q2) q3 w3
  ·exact w1.elim
end
section
variable{a:Expr}
end
def Ab:List Nat->Kd
 |[]=>OC
 |i::is=>Ks (k9 i) (Ab is)
def AX:List Nat->List D->aX->aX
 |i::is,d::ds,ρ=>AX is ds (ρ.set i (some (.fz d)))
 |_,_,ρ=>ρ
def Cm(is:List Nat):D->aX->Option aX
 | .tup ds,ρ=>if ds.length=is.length then some (AX is ds ρ) else none
 |_,_=>none
theorem vc{K:XO}{u8 aeq F H:Hp}{Q:St->Hp->Prop}:∀(is:List Nat) (ds:List D) (vs:List V) (σ:St) (ρ:aX),ds.length=is.length->StOk K u8 aeq F H σ ρ->DenL K F ds vs->(∀σ',StOk K u8 aeq F H σ' (AX is ds ρ)->Q σ' H)->Ab is vs σ H Q
 |[],[],vs,σ,ρ,_,s,h,k=>⟨h,k σ s⟩
 |i::is,d::ds,vs,σ,ρ,hl,s,⟨v,r,e,h1,h2⟩,k=>by
  subst e;exact⟨v,r,rfl,vc is ds r _ _ (by simpa using hl) (s.set h1) h2 k⟩
 |[],_::_,_,_,_,hl,_,_,_=>by simp at hl
 |_::_,[],_,_,_,hl,_,_,_=>by simp at hl
theorem JR{K:XO}{is:List Nat}:Eo K (OD K is.length (Ab is)) (Cm is):=λu8 aeq F H σ ρ ρ' d v Q s q e k=>by
 unfold Cm at e;split at e
 ·rename_i ds;split at e
  ·rename_i hl;cases e;obtain⟨a,vs,rfl,hs,hd,_⟩:=q;exact⟨a,vs,rfl,SqT.of (s.st.fh _ _ hs),by rw[<-hd.len];exact hl,vc is ds vs σ ρ hl s hd k⟩
  ·cases e
 ·cases e
mutual
def uy:D->Bool
 | .non=>true
 | .bl _=>true
 | .int _=>true
 | .str _=>true
 | .tup ds=>qW ds
 | .lst ds=>qW ds
 | .raw _=>false
 | .exc _=>false
 | .scr _=>false
 | .dct _ _=>false
 | .dci _ _=>false
def qW:List D->Bool
 |[]=>true
 |d::ds=>uy d&&qW ds
end
def E4(d:D):M D:=if uy d then ae d else ag
def mO(ρ:aX):Bool:=ρ.all λx=>match x with
 |some (.ow (.lst _))=>false
 |_=>true
theorem GG{ρ:aX}{i:Nat}{ds:List D}(h:mO ρ=true)(e:ρ[i]? =some (some (.ow (.lst ds)))):False:=by
 have:=Yh.mp h _ (X7 e);cases this
def Km(δ:DE):DE:=λρ=>if mO ρ then noex (δ (tN ρ))>>=E4 else ag
section
variable{K:XO}{F H F' H':Hp}{σ:St}{ρ:aX}{h:Heap}{b:Addr}
theorem OwnAt.dict(S:StE K F H σ ρ)(hd:mO ρ=true)(p:OwnAt σ ρ b):∃o,H b=some o/\((∃x,o= .dT x)\/∃x,o= .dK x):=by
 obtain⟨i,c,h1,h2⟩:=p;obtain⟨v,h3,a,o,rfl,h4,h5,h6⟩:=S.den i _ h1;rw[h3] at h2;cases h2;refine⟨o,h4,?_⟩;cases c with
 |lst ds=>exact(GG hd h1).elim
 |dct ks ds=>obtain⟨vs,rfl,_⟩:=h6;exact .inl ⟨_,rfl⟩
 |dci ks ds=>obtain⟨vs,rfl,_⟩:=h6;exact .inr ⟨_,rfl⟩
open Classical in
theorem B4(S:StE K F H σ ρ)(hd:mO ρ=true)(E:Ext (fA σ ρ (refA h (OwnAt σ ρ) H) F) (refA h (OwnAt σ ρ) H) F' H'){a:Addr}{o:HO}(e:F' a=some o)(fo:∀q u,o≠ .frz q u):(if OwnAt σ ρ a then none else F' a)=some o:=by
 rw[aeh,e];intro hp;obtain⟨o',k1,k2⟩:=OwnAt.dict S hd hp;have k3:fA σ ρ (refA h (OwnAt σ ρ) H) F a=some (pX ((h.get? a).getD {cls:= .none,data:= .fields #[]}) o'):=by
  unfold fA refA;rw[aeg hp,aeg hp,k1];rfl
 have k4:=E.ff a _ k3;rw[e] at k4;rcases k2 with⟨x,rfl⟩ | ⟨x,rfl⟩<;>cases k4<;>exact fo _ _ rfl
open Classical in
mutual
theorem xZ(S:StE K F H σ ρ)(hd:mO ρ=true)(E:Ext (fA σ ρ (refA h (OwnAt σ ρ) H) F) (refA h (OwnAt σ ρ) H) F' H'):∀{d:D}{v:V},uy d=true->Den K F' d v->Den K (λb=>if OwnAt σ ρ b then none else F' b) d v
 | .non,_,_,q=>q
 | .bl _,_,_,q=>q
 | .int _,_,_,q=>q
 | .str _,_,_,q=>q
 | .tup ds,_,f,⟨a,vs,h1,h2,h3,h4⟩=>⟨a,vs,h1,B4 S hd E h2 (λ_ _ z=>nomatch z),nN S hd E f h3,h4⟩
 | .lst ds,_,f,⟨a,vs,h1,h2,h3,h4⟩=>⟨a,vs,h1,B4 S hd E h2 (λ_ _ z=>nomatch z),nN S hd E f h3,h4⟩
 | .raw _,_,f,_=>by cases f
 | .exc _,_,f,_=>by cases f
 | .scr _,_,f,_=>by cases f
 | .dct _ _,_,f,_=>by cases f
 | .dci _ _,_,f,_=>by cases f
theorem nN(S:StE K F H σ ρ)(hd:mO ρ=true)(E:Ext (fA σ ρ (refA h (OwnAt σ ρ) H) F) (refA h (OwnAt σ ρ) H) F' H'):∀{ds:List D}{vs:List V},qW ds=true->DenL K F' ds vs->DenL K (λb=>if OwnAt σ ρ b then none else F' b) ds vs
 |[],_,_,q=>q
 |d::ds,_,f,⟨v,r,h1,h2,h3⟩=>by
  unfold qW at f;rw[X5] at f;exact⟨v,r,h1,xZ S hd E f.1 h2,nN S hd E f.2 h3⟩
end
end
section
variable{X:Cx}{Xw:Nat->Hp->Prop}{e:Expr}{δ:DE}
theorem K0(h:PD X Xw e δ):PD X Xw e (Km δ):=λf8 s σ H Q I ⟨F,ρ,S,w⟩=>by
 classical
 have w:WP X.K Xw F H (if mO ρ then noex (δ (tN ρ))>>=E4 else ag) Q:=w;by_cases hd:mO ρ=true
 ·rw[aeg hd] at w;rcases gJ (δ (tN ρ)) with q | ⟨d,q,q2⟩
  ·rw[q] at w;exact w.elim
  ·rw[q2,ax] at w;unfold E4 at w;split at w
   ·rename_i hf;refine b_ (h f8 s σ _ (λv H'=>Q v (unA (OwnAt σ ρ) H')/\∀c,OwnAt σ ρ c->∀o u,H' c=some (.frz o u)->(∃k,u= .dT k)\/∃k,u= .dK k) (Inv.refA (P:=OwnAt σ ρ) I) ⟨_,_,z_ (h:=s.heap) S,?_⟩) λu s' ⟨v,H',I',r,q1,q3⟩=>⟨v,_,Inv.unA I' (oa I S) q3,r,q1⟩
    rw[q];intro v H' F' E k;obtain⟨E1,q3⟩:=rf S E;exact⟨w _ _ _ E1 (xZ S hd E hf k),q3⟩
   ·exact w.elim
 ·rw[aeh hd] at w;exact w.elim
end
def Lu(δ:DE):DE:=λρ=>noex (δ (tN ρ))>>=q_
def Lc(τ:DT):DT:=λρ=>noex (τ (tN ρ))
def JW(is:List Nat)(τ:DS):DS:=λρ=>τ (fgt is ρ)
section
variable{X:Cx}{Xw:Nat->Hp->Prop}{st:Stmt}{τ:DS}{is:List Nat}
theorem JL(h:iO X Xw st τ):iO X Xw st (JW is τ):=λu8 aeq=>PS.weak (h u8 aeq) λD σ H ⟨F,ρ,s,w⟩=>⟨F,_,s.fgt is,w⟩
end
section
variable{X:Cx}{Xw:Nat->Hp->Prop}{a b e v:Expr}{δs:DA}{pos p:Pos}
def IY:List D->M D
 |[.bl b]=>ae (.int (if b then 1 else 0))
 |_=>ag
theorem uv:CallR X (.type "int") (λxs H Q=>∃b:Bool,xs=[.bl b]/\Q (.int (if b then 1 else 0)) H):=by
 intro f8 s σ H xs us Q I r h;obtain⟨b,rfl,q⟩:=h;obtain⟨u,rfl,r1⟩:=r.one;cases (show u=_ from r1);exact call_int_bool ⟨.int _,H,I.tok _,⟨_,rfl⟩,q⟩
theorem Jw(hg:Gl X "int")(hm:X.mg "int"=none)(hb:YJ "int"=some (.type "int"))(ha:gQ X Xw [e] δs)(he:X2 [e] X.env=[(false,eval e X.env)]:=by rfl):PD X Xw (.Call (.Name "int" p) [e] [] pos) (dA IY δs):=
 DM uv (λXw F H vs ds Q s h w=>by
  unfold IY at w;split at w
  ·obtain⟨v,rfl,h1⟩:=h.one;exact⟨_,by rw[show v=_ from h1],WP.now w s rfl⟩
  ·exact w.elim) hg hm hb ha (by decide) (by decide) he rfl
end
theorem tj:∀{xs:List V}{us:List Value},xs.length=us.length->(∀(i:Nat) x u,xs[i]? =some x->us[i]? =some u->RelV x u)->Vals xs us
 |[],[],_,_=> .nil
 |x::xs,u::us,hl,h=> .cons (h 0 x u rfl rfl) (tj (by simpa using hl) λi y v e1 e2=>h (i+1) y v (by simpa using e1) (by simpa using e2))
end L3
namespace L3
open PySem PySem.SetTable
theorem uX{α:Type}[DecidableEq α]:∀{l U:List α},l.Nodup->(∀x∈l,x∈U)->l.length<=U.length
 |[],_,_,_=>Ys _
 |a::l,U,hn,h=>by
  have ha:=h a (XA ..);have IP:=Yz.mp hn;have:=uX (l:=l) (U:=U.erase a) IP.2 λx hx=>(adG (λe:x=a=>IP.1 (e▸hx))).mpr (h x (Xz _ hx));rw[abc ha] at this;have:0<U.length:=adn ha;rw[XH];omega
def iK(m b:Nat):Nat->Nat×Nat
 |0=>(b % (m+1),b)
 |k+1=>leap m (iK m b k).1 (iK m b k).2
def N8(m i:Nat):Nat:=(i*5+1) % (m+1)
def it(m:Nat):Nat->Nat->Nat
 |0,x=>x
 |n+1,x=>N8 m (it m n x)
theorem rG(m:Nat):∀a b x,it m (a+b) x=it m a (it m b x)
 |0,b,x=>by rw[Z8];rfl
 |a+1,b,x=>by rw[aa1];show N8 m _=N8 m _;rw[rG m a b x]
theorem Pk(m b:Nat):∀k,(iK m b k).2=b / 32 ^ k
 |0=>by simp[iK]
 |k+1=>by
  show (iK m b k).2 / 32=_;rw[Pk m b k,adw,Nat.pow_succ]
theorem BQ{m b:Nat}(hb:b<2 ^ 64):∀k,(iK m b (k+13)).1=it m k (iK m b 13).1
 |0=>by rw[Z8];rfl
 |k+1=>by
  rw[aa1];have hq:(iK m b (k+13)).2 / 32=0:=by
   rw[Pk];refine Nat.div_eq_of_lt ?_;refine ab8 (m:=b / 32 ^ 13) ?_ ?_
   ·rw[Nat.pow_add,adD,<-adw];exact Nat.div_le_self ..
   ·have:b / 32 ^ 13<1:=Nat.div_lt_of_lt_mul (by omega);omega
  show ((iK m b (k+13)).1*5+1+(iK m b (k+13)).2 / 32) % (m+1)=N8 m _;rw[hq,BQ hb k];rfl
def HN(m:Nat):Prop:=m=7\/m=31\/m=127
def SH(m:Nat):Nat->Nat->List Nat
 |0,_=>[]
 |n+1,x=>x::SH m n (N8 m x)
theorem AE(m:Nat):∀(n x j:Nat),j∈SH m n x->∃a,a<n/\it m a x=j
 |0,x,j,h=>by cases h
 |n+1,x,j,h=>by
  rcases XF.mp h with rfl | h
  ·exact⟨0,by omega,rfl⟩
  ·obtain⟨a,ha,e⟩:=AE m n (N8 m x) j h;exact⟨a+1,by omega,by rw[rG m a 1 x];exact e⟩
theorem Js{m:Nat}(hm:HN m):(∀j,j<m+1->j∈SH m (m+1) 0)/\it m (m+1) 0=0:=by
 rcases hm with rfl | rfl | rfl
 ·exact⟨by decide+kernel,by decide+kernel⟩
 ·exact⟨by decide+kernel,by decide+kernel⟩
 ·exact⟨by decide+kernel,by decide+kernel⟩
theorem UU{m:Nat}(hm:HN m){i j:Nat}(hi:i<m+1)(hj:j<m+1):∃n,n<=m/\it m n i=j:=by
 obtain⟨h1,h2⟩:=Js hm;obtain⟨a,ha,rfl⟩:=AE m _ 0 i (h1 i hi);obtain⟨b,hb,rfl⟩:=AE m _ 0 j (h1 j hj);by_cases h:a<=b
 ·exact⟨b - a,by omega,by rw[<-rG,Nat.sub_add_cancel h]⟩
 ·refine⟨m+1 - a+b,by omega,?_⟩;rw[<-rG,show m+1 - a+b+a=b+(m+1) by omega,rG,h2]
theorem KH(m b k:Nat):(iK m b k).1<m+1:=by
 cases k with
 |zero=>exact aco _ (by omega)
 |succ k=>exact aco _ (by omega)
theorem reach{m b:Nat}(hm:HN m)(hb:b<2 ^ 64){j:Nat}(hj:j<m+1):∃k,k<=m+13/\(iK m b k).1=j:=by
 obtain⟨n,hn,e⟩:=UU hm (KH m b 13) hj;exact⟨n+13,by omega,by rw[BQ hb,e]⟩
theorem Bp(h:Int):bits h<2 ^ 64:=by
 unfold bits;have h1:=abJ h (show (2 ^ 64:Int)≠0 by decide);have h2:=aa3 h (show (0:Int)<2 ^ 64 by decide);omega
def nB(t:YS):Nat->Probe->Probe
 |0,p=>p
 |n+1,p=>nB t n (t.advance p)
theorem uj(t:YS)(p:Probe):(t.advance p).dummy=p.dummy:=by
 unfold advance;split<;>rfl
theorem lU(t:YS):∀a b p,nB t (a+b) p=nB t b (nB t a p)
 |0,b,p=>by rw[Z8];rfl
 |a+1,b,p=>by rw[aa1];exact lU t a b _
def sK(m:Nat)(h:Int)(k:Nat):Probe:={j:=(iK m (bits h) k).1,more:=runEnd m (iK m (bits h) k).1 - (iK m (bits h) k).1,i:=(iK m (bits h) k).1,perturb:=(iK m (bits h) k).2,dummy:=none}
theorem Hh(m i:Nat):runEnd m i - i<=9:=by
 unfold runEnd;split<;>omega
theorem zP(t:YS):∀(n:Nat) (p:Probe),n<=p.more->nB t n p={p with j:=p.j+n,more:=p.more - n}
 |0,p,_=>rfl
 |n+1,p,h=>by
  show nB t n (t.advance p)=_;have e:t.advance p={p with j:=p.j+1,more:=p.more - 1}:=by unfold advance;rw[aeg (by omega)]
  rw[e,zP t n _ (by show n<=p.more - 1;omega)];show ({j:=p.j+1+n,more:=p.more - 1 - n,i:=p.i,perturb:=p.perturb,dummy:=p.dummy}:Probe)=_;rw[Nat.add_assoc,acr 1 n,Nat.sub_sub,acr 1 n]
theorem xP{t:YS}{h:Int}{k:Nat}:nB t ((sK t.mask h k).more+1) (sK t.mask h k)=sK t.mask h (k+1):=by
 rw[lU,zP t _ _ (XM _)];show t.advance _=_;unfold advance;rw[aeh (show¬(sK t.mask h k).more - (sK t.mask h k).more>0 by rw[Nat.sub_self];exact YH 0)];rfl
theorem Ex{t:YS}{h:Int}:∀k,∃n,n<=10*k/\nB t n (t.probeStart h)=sK t.mask h k
 |0=>⟨0,Ys _,rfl⟩
 |k+1=>by
  obtain⟨n,hn,e⟩:=Ex (t:=t) (h:=h) k;have:=Hh t.mask (iK t.mask (bits h) k).1;refine⟨n+((sK t.mask h k).more+1),?_,by rw[lU,e,xP]⟩;show n+(runEnd t.mask (iK t.mask (bits h) k).1 - (iK t.mask (bits h) k).1+1)<=_;omega
theorem IF{t:YS}{hashAt:Nat->Int}{h:Int}(hd:∀j,t.slot j≠ .dummy)(hh:∀j i,t.slot j= .live i->(hashAt i==h)=false):
 ∀(n fuel:Nat) (p:Probe),n<fuel->p.dummy=none->t.slot (nB t n p).j= .empty->∃j,probe.go t hashAt h fuel p=some (.empty j none)/\t.slot j= .empty
 |n,0,p,hn,_,_=>aej hn (by omega)
 |n,fuel+1,p,hn,hp,he=>by
  unfold probe.go;cases hs:t.slot p.j with
  |empty=>exact⟨p.j,by rw[hp],hs⟩
  |dummy=>exact aej hs (hd _)
  |live i=>
   dsimp only
   rw[hh p.j i hs];cases n with
   |zero=>rw[show (nB t 0 p).j=p.j from rfl,hs] at he;cases he
   |succ n=>
    have:=IF hd hh n fuel (t.advance p) (by omega) (by rw[uj];exact hp) he;simpa using this
theorem kP{t:YS}{j i:Nat}(h:t.slot j= .live i):t.place[i]? =some j:=by
 unfold slot at h
 dsimp only at h
 split at h
 ·rename_i e;cases h;exact ade e
 ·split at h<;>cases h
theorem gh{t:YS}(hd:t.dummies= #[])(j:Nat):t.slot j≠ .dummy:=by
 unfold slot
 dsimp only
 split
 ·exact λz=>by cases z
 ·split
  ·rename_i e;rw[hd] at e;unfold has at e;simp at e
  ·exact λz=>by cases z
theorem A0{t:YS}(hd:t.dummies= #[])(hp:t.place.size<=t.mask):∃j,j<t.mask+1/\t.slot j= .empty:=by
 apply YK;intro rp;have:∀j∈Yg (t.mask+1),j∈t.place.toList:=λj hj=>by
  cases hs:t.slot j with
  |empty=>exact aej ⟨j,Y3.mp hj,hs⟩ rp
  |dummy=>exact aej hs (gh hd j)
  |live i=>exact X7 ((YT ..).trans (kP hs))
 have:=uX List.nodup_range this;rw[Zq,XG] at this;omega
def vals(o:Array (Option Nat))(n:Nat):List Nat:=(Yg n).filterMap λj=>o.getD j none
theorem Fe{α β:Type}[DecidableEq α]{f g:α->Option β}{a:α}{b:β}(h0:f a=none)(h1:g a=some b):∀{l:List α},l.Nodup->a∈l->(∀x∈l,x≠a->g x=f x)->(l.filterMap g).Perm (b::l.filterMap f)
 |[],_,h,_=>by cases h
 |x::l,hn,h,hg=>by
  have IP:=Yz.mp hn;by_cases e:x=a
  ·subst e;rw[Zh h1,aao h0];have:l.filterMap g=l.filterMap f:=ra λy hy=>hg y (Xz _ hy) λz=>IP.1 (z▸hy);rw[this]
  ·have ih:=Fe h0 h1 IP.2 ((XF.mp h).resolve_left λz=>e z.symm) λy hy=>hg y (Xz _ hy);have hx:=hg x (XA ..) e;cases hf:f x with
   |none=>rw[aao (hx.trans hf),aao hf];exact ih
   |some y=>rw[Zh (hx.trans hf),Zh hf];exact(ih.cons y).trans (List.Perm.swap ..)
theorem uD{m:Nat}{o:Array (Option Nat)}{b:Nat}:∀(n fuel k:Nat),n<fuel->(o.getD (iK m b (k+n)).1 (some 0)).isNone=true->∃j,layClean.free m o fuel (iK m b k).1 (iK m b k).2=some j/\(o.getD j (some 0)).isNone=true
 |n,0,k,h,_=>aej h (by omega)
 |n,fuel+1,k,h,he=>by
  unfold layClean.free;cases hf:(Yg (runEnd m (iK m b k).1+1 - (iK m b k).1)).find? λq=>(o.getD ((iK m b k).1+q) (some 0)).isNone with
  |some q=>exact⟨_,rfl,List.find?_some (p:=λq=>(o.getD ((iK m b k).1+q) (some 0)).isNone) hf⟩
  |none=>
   cases n with
   |zero=>
    have:=ab4.mp hf 0 (Y3.mpr (by unfold runEnd;split<;>omega));rw[Nat.add_zero] at this he;exact aej he this
   |succ n=>
    exact uD n fuel (k+1) (by omega) (by rw[aa1];exact he)
theorem rF{o:Array (Option Nat)}{j:Nat}(h:(o.getD j (some 0)).isNone=true):j<o.size/\o[j]? =some none:=by
 rw[XZ] at h;cases e:o[j]? with
 |none=>rw[e] at h;cases h
 |some v=>
  rw[e] at h;cases v with
  |none=>exact⟨(YC.mp e).1,rfl⟩
  |some v=>cases h
theorem F7{m:Nat}(hm:HN m){o:Array (Option Nat)}{h:Int}{k:Nat}(hs:o.size=m+1)(hp:(vals o (m+1)).Perm (Yg k))(hk:k<=m):
 ∃j,layClean.free m o (turns m) (bits h % (m+1)) (bits h)=some j/\(o.setIfInBounds j (some k)).size=m+1/\(vals (o.setIfInBounds j (some k)) (m+1)).Perm (Yg (k+1)):=by
 obtain⟨j0,RQ,QJ⟩:∃j,j<m+1/\o.getD j none=none:=by
  apply YK;intro rp;have all:∀l:List Nat,(∀j∈l,j<m+1)->(l.filterMap λj=>o.getD j none).length=l.length:=by
   intro l;induction l with
   |nil=>exact λ_=>rfl
   |cons a l ih=>
    intro h;cases e:o.getD a none with
    |none=>exact aej ⟨a,h a (XA ..),e⟩ rp
    |some v=>rw[Zh (f:=λj=>o.getD j none) e,XH,XH,ih λj hj=>h j (Xz _ hj)]
  have h1:=hp.length_eq;rw[vals,all _ λj hj=>Y3.mp hj,Zq,Zq] at h1;omega
 have OR:(o.getD j0 (some 0)).isNone=true:=by
  rw[XZ] at QJ⊢;rw[XU (by omega)] at QJ⊢;rw[abg] at QJ⊢;rw[QJ];rfl
 obtain⟨q,hq,e⟩:=reach hm (Bp h) RQ;obtain⟨j,ej,hj⟩:=uD (m:=m) (o:=o) (b:=bits h) q (turns m) 0 (by unfold turns;omega) (by rw[Z8,e];exact OR);obtain⟨dG,C5⟩:=rF hj;refine⟨j,ej,by rw[ac0];exact hs,?_⟩;have hP:=Fe (f:=λi=>o.getD i none) (g:=λi=>(o.setIfInBounds j (some k)).getD i none) (a:=j) (b:=k) (by
  show o.getD j none=none;rw[XZ,C5];rfl) (by
  show (o.setIfInBounds j (some k)).getD j none=some k;rw[XZ,abB dG];rfl) (l:=Yg (m+1)) List.nodup_range (Y3.mpr (by omega)) λx _ hx=>by
  show (o.setIfInBounds j (some k)).getD x none=o.getD x none;rw[XZ,XZ,ab9 (λz=>hx z.symm)]
 refine hP.trans ((hp.cons k).trans ?_);rw[List.range_succ (n:=k)];exact List.perm_append_comm (l₁:=[k])
theorem BW{m:Nat}(hm:HN m):∀(hs:List Int) (o:Array (Option Nat)) (k:Nat),o.size=m+1->(vals o (m+1)).Perm (Yg k)->k+hs.length<=m->
 ∃o',(hs.foldl (init:=some (o,k)) λv4 h=>do
  let (owner,k)<-v4
  let j<-layClean.free m owner (turns m) (bits h % (m+1)) (bits h)
  pure (owner.setIfInBounds j (some k),k+1))=some (o',k+hs.length)/\(vals o' (m+1)).Perm (Yg (k+hs.length))
 |[],o,k,h1,h2,h3=>⟨o,rfl,h2⟩
 |h::hs,o,k,h1,h2,h3=>by
  rw[XH] at h3;obtain⟨j,ej,e1,e2⟩:=F7 hm (h:=h) h1 h2 (by omega);obtain⟨o',e3,e4⟩:=BW hm hs _ (k+1) e1 e2 (by omega);rw[XH,show k+(hs.length+1)=k+1+hs.length by omega];refine⟨o',?_,e4⟩;rw[ZL,<-e3];congr 1;show (layClean.free m o (turns m) (bits h % (m+1)) (bits h)>>=_)=_;rw[ej];rfl
theorem A8(m:Nat):vals (acF (m+1) none) (m+1)=[]:=by
 unfold vals;refine List.filterMap_eq_nil_iff.mpr λj hj=>?_;rw[XZ,ac1];split<;>rfl
theorem Jc{m f mv:Nat}{led pl:Bool}(hm:HN m){hs:Array Int}(hl:hs.size<=m):
 ∃t order,laid m f mv led pl hs=some (t,order)/\t.mask=m/\t.dummies= #[]/\t.place.size=hs.size/\order.toList.Perm (Yg hs.size)/\t.plain=pl/\t.led=led/\t.place.toList.Pairwise (· < ·):=by
 obtain⟨o,e1,e2⟩:=BW hm hs.toList (acF (m+1) none) 0 (by simp) (by rw[A8];exact .refl _) (by rw[Z8,XG];exact hl);rw[Z8,XG] at e1 e2;have e3:layClean m hs=some o:=by
  unfold layClean;rw[<-adU,e1];rfl
 have e4:((Yg (m+1)).filterMap λj=>(o.getD j none).map (j,·)).map (·.2)=vals o (m+1):=by
  unfold vals;rw[List.map_filterMap];refine ra λj _=>?_;cases o.getD j none<;>rfl
 refine⟨_,_,by unfold laid;rw[e3];rfl,rfl,rfl,?_,?_,rfl,rfl,?_⟩
 ·show ((((Yg (m+1)).filterMap λj=>(o.getD j none).map (j,·)).map (·.1)).toArray).size=_;rw[XW,XB,<-XB (f:=(·.2)),e4,e2.length_eq,Zq]
 ·show ((((Yg (m+1)).filterMap λj=>(o.getD j none).map (j,·)).map (·.2)).toArray).toList.Perm _;rw[e4];exact e2
 ·show ((((Yg (m+1)).filterMap λj=>(o.getD j none).map (j,·)).map (·.1)).toArray).toList.Pairwise (· < ·);have:∀l:List Nat,((l.filterMap λj=>(o.getD j none).map (j,·)).map (·.1)).Sublist l:=by
   intro l;induction l with
   |nil=>exact .slnil
   |cons a l ih=>
    cases e:o.getD a none with
    |none=>rw[aao (f:=λj=>(o.getD j none).map (j,·)) (by show (o.getD a none).map (a,·)=none;rw[e];rfl)];exact ih.cons a
    |some v=>rw[Zh (f:=λj=>(o.getD j none).map (j,·)) (b:=(a,v)) (by show (o.getD a none).map (a,·)=some (a,v);rw[e];rfl)];exact ih.cons₂ a
  exact List.Pairwise.sublist (this _) List.pairwise_lt_range
theorem qI{xs:Array Nat}(hs:xs.toList.Pairwise (· < ·)){j:Nat}:∀(fuel lo hi:Nat),lo<=hi->hi<=xs.size->hi - lo<=fuel->(∀i (h:i<xs.size),i<lo->xs[i]<j)->(∀i (h:i<xs.size),hi<=i->j<=xs[i])->
 below.go xs j fuel lo hi<=xs.size/\(∀i (h:i<xs.size),i<below.go xs j fuel lo hi->xs[i]<j)/\∀i (h:i<xs.size),below.go xs j fuel lo hi<=i->j<=xs[i]
 |0,lo,hi,h1,h2,h3,h4,h5=>by
  have:lo=hi:=by omega
  subst this;exact⟨h2,h4,h5⟩
 |fuel+1,lo,hi,h1,h2,h3,h4,h5=>by
  have mono:∀i k (hk:k<xs.size) (h:i<k),xs[i]'(by omega)<xs[k]:=λi k hk h=>by
   have:=YL.mp hs i k (by simpa using (by omega:i<xs.size)) (by simpa using hk) h;simpa using this
  unfold below.go;by_cases dG:lo<hi
  ·rw[aeg dG]
   dsimp only
   have hm:(lo+hi) / 2<xs.size:=by omega
   have hg:xs.getD ((lo+hi) / 2) j=xs[(lo+hi) / 2]:=by rw[XZ,XU hm];rfl
   rw[hg];by_cases hc:xs[(lo+hi) / 2]<j
   ·rw[aeg hc];refine qI hs fuel _ hi (by omega) h2 (by omega) (λi h uG=>?_) h5;by_cases e:i=(lo+hi) / 2
    ·subst e;exact hc
    ·exact Z9 (mono i _ hm (by omega)) hc
   ·rw[aeh hc];refine qI hs fuel lo _ (by omega) (by omega) (by omega) h4 λi h uG=>?_;by_cases e:i=(lo+hi) / 2
    ·subst e;omega
    ·have:=mono _ i h (by omega:(lo+hi) / 2<i);omega
  ·rw[aeh dG];have:lo=hi:=by omega
   subst this;exact⟨h2,h4,h5⟩
theorem lX{xs:Array Nat}(hs:xs.toList.Pairwise (· < ·))(j:Nat):below xs j<=xs.size/\(∀i (h:i<xs.size),i<below xs j->xs[i]<j)/\∀i (h:i<xs.size),below xs j<=i->j<=xs[i]:=
 qI hs xs.size 0 xs.size (Ys _) (XM _) (by omega) (λi h hi=>aej hi (by omega)) λi h hi=>aej h (by omega)
theorem Hd{t:YS}{j:Nat}(hs:t.place.toList.Pairwise (· < ·))(h:t.slot j= .empty):(insertAt t.place (below t.place j) j).toList.Pairwise (· < ·):=by
 obtain⟨h1,h2,h3⟩:=lX hs j;have fo:t.place[below t.place j]? ≠some j:=λz=>by
  unfold slot at h
  dsimp only at h
  rw[z,beq_self_eq_true] at h;cases h
 rw[toList_insertAt];have yn:=hs;rw[<-aaI (below t.place j) t.place.toList,aaO] at yn;obtain⟨q1,q2,q3⟩:=yn;have lo:∀a∈t.place.toList.take (below t.place j),a<j:=λa ha=>by
  obtain⟨i,hi,e⟩:=List.mem_take_iff_getElem.mp ha;have uG:i<t.place.size:=by simp at hi;omega
  have:=h2 i uG (by omega);rw[<-e];simpa using this
 have hi:∀a∈t.place.toList.drop (below t.place j),j<a:=λa ha=>by
  obtain⟨i,hi,e⟩:=List.mem_drop_iff_getElem.mp ha;have uG:below t.place j+i<t.place.size:=by
   have:i+below t.place j<t.place.size:=by simpa using hi
   omega
  have:=h3 _ uG (by omega);have e':t.place[below t.place j+i]=a:=by simpa using e
  rw[e'] at this;refine Nat.lt_of_le_of_ne this λz=>?_;subst z;by_cases i0:i=0
  ·subst i0;refine fo ?_;rw[XU (by simpa using uG)];exact aeo some (by simpa using e')
  ·have h0:below t.place j<t.place.size:=by omega
   have m1:=h3 _ h0 (XM _);have m2:=YL.mp hs (below t.place j) (below t.place j+i) (by simpa using h0) (by simpa using uG) (by omega);have m2:t.place[below t.place j]<t.place[below t.place j+i]:=by simpa using m2
   omega
 refine aaO.mpr ⟨q1,Y7.mpr ⟨hi,q2⟩,λa ha b hb=>?_⟩;rcases XF.mp hb with rfl | hb
 ·exact lo a ha
 ·exact q3 a ha b hb
def slotAt(xs:Array Nat):Nat->Nat
 |0=>0
 |k+1=>xs.getD k 0+1
theorem below_at{xs:Array Nat}(hs:xs.toList.Pairwise (· < ·)):∀{k:Nat},k<=xs.size->below xs (slotAt xs k)=k
 |0,_=>by
  obtain⟨h1,h2,_⟩:=lX hs 0;show below xs 0=0;cases e:below xs 0 with
  |zero=>rfl
  |succ p=>
   rw[e] at h1 h2;exact aej (h2 0 (by omega) (by omega)) (by omega)
 |k+1,hk=>by
  have hg:xs.getD k 0=xs[k]:=by rw[XZ,XU (by omega)];rfl
  show below xs (xs.getD k 0+1)=k+1;rw[hg];obtain⟨h1,h2,h3⟩:=lX hs (xs[k]+1);have a1:¬below xs (xs[k]+1)<=k:=λz=>by have:=h3 k (by omega) z;omega
  have a2:¬k+1<below xs (xs[k]+1):=λz=>by
   have dG:k+1<xs.size:=by omega
   have m1:=h2 (k+1) dG z;have m2:=YL.mp hs k (k+1) (by simpa using (by omega:k<xs.size)) (by simpa using dG) (by omega);have m2:xs[k]<xs[k+1]:=by simpa using m2
   omega
  omega
structure TabOk (t:YS) (n:Nat) (ld:Bool):Prop where
 msk:HN t.mask
 size:t.place.size=n
 dum:t.dummies= #[]
 room:5*n<3*t.mask
 plain:t.plain=true
 led:t.led=ld
 rise:t.place.toList.Pairwise (· < ·)
theorem TabOk.fits{t:YS}{n:Nat}{ld:Bool}(h:TabOk t n ld):t.fits n=true:=by
 unfold aeb fill;rw[h.dum,h.size];have:=h.room;simp;omega
def Ep(ld:Bool)(h:Heap)(a:Addr)(xs:List (Int×Value)):Prop:=∃o es ep t,h.get? a=some o/\o.ExactSet/\o.data= .set es ep t/\es.toList.Perm xs/\TabOk t es.size ld
theorem lu{α:Type}(xs:Array α)(p:Nat)(x:α):(insertAt xs p x).size=xs.size+1:=by
 have:=(insertAt_perm xs p x).length_eq;simpa using this
section
variable{prog:Yd}{w:World}{A:Yy}{E:Value->XD->Prop}{s:XD}
theorem ma{ks:List Int}{b:Addr}{Q:Bool->XD->Prop}(hk:ZV (Zy prog w) s.heap ks b)(h:Q true s):wpAny (model prog w) A (hashByValue 8 (.ref b)) Q E s:=by
 have hT:=hk.typeIs;obtain⟨o,items,n,ho,_,hd,hi⟩:=hk;unfold hashByValue;refine Xy (aa6 hT F.slot_tuple_hash.lookup ?_)
 dsimp only
 refine Xy (wpAny_seqItems ho hd ?_);refine Xy ?_;show wpAny _ _ (forIn items _ _) _ _ s;rw[<-abX];refine aaU _ (λW1 r s'=>r.1=none/\s'=s/\∃ks',ItemsAre (Zy prog w) ks' W1) _ ?_ ?_ _ _ ⟨rfl,rfl,ks,hi⟩
 ·rintro v W1 r s' ⟨hr,rfl,ks',hl⟩;cases hl with
  | @cons k v Sx vs h1 h2=>
    have hv:hashByValue 7 v=pure true:=by
     cases v<;>first | rfl | (exact aej h1 (by simp[Zy,acA]))
    rw[hv];refine Xy (XE ?_);simp only[ZQ,X4,if_false];exact XE ⟨rfl,rfl,_,h2⟩
 ·rintro⟨r1,r2⟩ s' ⟨hr,rfl,_⟩;simp only at hr;subst hr;exact XE h
theorem H0:sizeAbove (grown 5)=32:=by decide
theorem Es:sizeAbove (grown 19)=128:=by decide
end
theorem oM{prog:Yd}{w:World}{h h':Heap}{ks:List Int}{b:Addr}(x:ZV (Zy prog w) h ks b)(e:∀o,h.get? b=some o->h'.get? b=some o):ZV (Zy prog w) h' ks b:=
 let ⟨o,items,n,ho,r⟩:=x
 ⟨o,items,n,e o ho,r⟩
section
variable{prog:Yd}{w:World}
def N2(prog:Yd)(w:World)(ks:Nat->List Int)(ad:Nat->Addr)(i:Nat):List (Int×Value):=(Yg i).map λj=>(abi (Zy prog w) (ks j), .ref (ad j))
end
def mw(w:World):Bool:=!w.params.followText "set-order"
section
variable{prog:Yd}{w:World}{A:Yy}{E:Value->XD->Prop}{s:XD}
theorem zo(a:Value){Q₁:Value->XD->Prop}(h:Q₁ (.ref s.heap.objs.size) {s with heap:=s.heap.push {cls:= .type "set",dict:=none,data:= .set #[] 0 (.fresh 0 0 (mw w))} }):
 abm (model prog w) A (.call (.builtin "set.__new__") ⟨[.type "set",a],[]⟩) (wants Q₁ E) s:=by
 refine codeAny_of_tree (show wpAny _ A.in1 (do ac3 "set.__new__" ⟨[.type "set",a],[]⟩;again (.builtin "set.__new__" ⟨[.type "set",a],[]⟩)) _ _ s from ?_);refine Xy (aci (F.newCall_set_1 a) (XE ⟨adY F.plain_set_new _,aa_ F.entry_set_new ?_⟩));rw[abE F.plain_set_new _];unfold aaF.«set.__new__» Builtin.Frozenset.newClass;have FH:=sub_set_self;obtain⟨hp,g,d,tk,os⟩:=s
 dsimp only
 wp_walk
 refine aaV (XE ?_);simp only[newObj];exact Xy (wpAny_alloc (XE (XE h)))
end
end L3
namespace L3
open PySem PySem.Spec L2 HT
open PyProof.Rows hiding St
theorem items_int{P:Yd}{w:World}:∀{us:List Value}{ns:List Int},abr us ns->ItemsAre (Zy P w) ns us
 |_,_, .nil=> .nil
 |_,_, .cons n t h=> .cons (intKind_is _ _ _ _) (items_int h)
def CC:V->Addr
 | .ref a=>a
 |_=>0
theorem y9{X:Cx}{f8:List (Addr×Obj)}{σ:St}{H:Hp}{s:XD}(I:Inv X f8 σ H s){vs:List V}{aK:List Value}{ks:List (List Int)}(hr:cF H vs ks)(rv:Vals vs aK){i:Nat}(hi:i<aK.toArray.size):
 aK.toArray[i]? =some (.ref (CC (vs.getD i .non)))/\ZV (Zy X.prog X.w) s.heap (ks.getD i []) (CC (vs.getD i .non)):=by
 have hl:=rv.length;have uG:i<aK.length:=by simpa using hi
 obtain⟨a,e1,e2⟩:=mZ hr (i:=i) (by omega);have r:=oO i rv (by omega);rw[e1] at r⊢;have r:aK.getD i YO= .ref a:=r;refine⟨?_,?_⟩
 ·rw[X9,XC uG,abg] at r;rw[ady,XC uG,r];rfl
 ·obtain⟨us,ru,pt,_⟩:=I.tuple (SqT.of (K:=X.K) e2);obtain⟨o,q1,q2,m,q3⟩:=pt;exact⟨o,us.toArray,m,q1,q2,q3,by simpa using items_int (intsAre_of ru)⟩
end L3
namespace L3
open PySem PySem.SetTable PySem.W PyProof.Rows
theorem dQ:Slot "set_iterator" "__next__" "set_iterator.__next__":=
 .of (owner:="set_iterator") (n:="__next__") (by rw[typeLookup_type,builtinLookup_eq_fast];kernel_rfl) (by decide+kernel) (by decide+kernel) (by decide+kernel) (by first | exact .inl (by decide+kernel) | exact .inr (by decide+kernel)) (by rw[adz];kernel_rfl)
theorem m_:Slot "set_iterator" "__iter__" "set_iterator.__iter__":=
 .of (owner:="set_iterator") (n:="__iter__") (by rw[typeLookup_type,builtinLookup_eq_fast];kernel_rfl) (by decide+kernel) (by decide+kernel) (by decide+kernel) (by first | exact .inl (by decide+kernel) | exact .inr (by decide+kernel)) (by rw[adz];kernel_rfl)
theorem yR:Manifest.owners.lookup (String.ofList ['r', 'o', 't', 'a', 'r', 'e', 't', 'i', '_', 't', 'e', 's'].reverse)=some Manifest.sig_set_iterator:=by kernel_rfl
theorem lV(a:Value):argsOk "set_iterator.__next__" ⟨[a],[]⟩:=by
 unfold argsOk;rw[signature?_of (id:="set_iterator.__next__") (n:=['_', '_', 't', 'x', 'e', 'n', '_', '_']) (o:=['r', 'o', 't', 'a', 'r', 'e', 't', 'i', '_', 't', 'e', 's']) (by kernel_rfl) yR]
 kernel_rfl
theorem vn(a:Value):argsOk "set_iterator.__iter__" ⟨[a],[]⟩:=by
 unfold argsOk;rw[signature?_of (id:="set_iterator.__iter__") (n:=['_', '_', 'r', 'e', 't', 'i', '_', '_']) (o:=['r', 'o', 't', 'a', 'r', 'e', 't', 'i', '_', 't', 'e', 's']) (by kernel_rfl) yR]
 kernel_rfl
theorem k8:entryFor table "set_iterator.__next__"=some aaF.«set_iterator.__next__» :=entryFor_of_tree (by kernel_rfl)
theorem qZ:entryFor table "set.__iter__"=some aaF.«frozenset.__iter__» :=entryFor_alias (id':="frozenset.__iter__") (by kernel_rfl) rfl (by decide+kernel) (by kernel_rfl)
theorem tL:entryFor table "set_iterator.__iter__"=some aaF.«dict_keyiterator.__iter__» :=entryFor_alias (id':="dict_keyiterator.__iter__") (by kernel_rfl) rfl (by decide+kernel) (by kernel_rfl)
def IsSI(h:Heap)(it a:Addr)(sl k n ep:Nat):Prop:=∃o,h.get? it=some o/\o.cls= .type "set_iterator"/\o.data= .fields #[aaA sl,aaA k, .ref a,aaA n,aaA ep]
theorem IsSI.typeIs{s:XD}{it a:Addr}{sl k n ep:Nat}(x:IsSI s.heap it a sl k n ep):s.TypeIs (.ref it) "set_iterator":=let ⟨o,ho,hc,_⟩:=x;⟨o,ho,hc⟩
theorem IsSI.at{h h':Heap}{it a:Addr}{sl k n ep:Nat}(x:IsSI h it a sl k n ep)(e:∀o,h.get? it=some o->h'.get? it=some o):IsSI h' it a sl k n ep:=let ⟨o,ho,r⟩:=x;⟨o,e o ho,r⟩
def mM(w:World)(a:Addr)(ep:Nat)(es:Array (Int×Value)):Array (Int×Value):=if w.params.followText "set-order" then pickOrder (w.params.setOrder a ep) es else es
def iN(w:World)(t:YS)(k:Nat):Nat:=if w.params.followText "set-order" then 0 else slotAt t.place k
section
variable{prog:Yd}{w:World}{A:Yy}{E:Value->XD->Prop}{s:XD}{a:Addr}{o:Obj}{es:Array (Int×Value)}{ep:Nat}{t:YS}
theorem FQ{Q:Value->XD->Prop}(ho:s.heap.get? a=some o)(hex:o.ExactSet)(hd:o.data= .set es ep t)(ht:TabOk t es.size (mw w))
 (hQ:Q (.ref s.heap.objs.size) {s with heap:=s.heap.push {cls:= .type "set_iterator",data:= .fields #[aaA 0,aaA 0, .ref a,aaA es.size,aaA ep]} }):wpAny (model prog w) A (adM (.ref a)) Q E s:=by
 have hT:s.TypeIs (.ref a) "set":=⟨o,ho,hex.1⟩
 have hf:=ht.fits;refine acL hT F.slot_set_iter (Za F.slot_set_iter hT qZ ?_ (F.args_set_iter_1 _));unfold aaF.«frozenset.__iter__» Builtin.Frozenset.slot0 slotArgs;simp only[acu,ZQ,X4,↓reduceIte,bind_assoc,YE,bne_self_eq_false];unfold Builtin.Frozenset.addrOf Builtin.Frozenset.sizeOf;refine Xy (XE ?_)
 try dsimp only
 refine Xy (XE ?_);refine Xy (Xy (ach ho hd hf (XE ?_)));unfold setDrawn setsByText;refine Xy (Xy (YX ho hd hf (Xy (Xy (aaV (XE (XE ?_)))))));refine ZS (λIH=>?_) λ_=>?_
 ·have OG:(!w.params.followText "set-order" &&(!t.plain&&decide (es.size>1)))=true:=IH;rw[ht.plain] at OG;simp at OG
 ·refine Xy (XE (Xy (wpAny_setEpoch_of ho hd hf ?_)));unfold newFields;exact Xy (ZR (XE ⟨_,rfl,"set_iterator",_,⟨_,X8 _ rfl,rfl⟩,dQ.lookup,hQ⟩))
theorem Hl{it:Addr}{sl k n:Nat}{Q:Value->XD->Prop}(hit:IsSI s.heap it a sl k n ep)(h:Q (.ref it) s):wpAny (model prog w) A (adM (.ref it)) Q E s:=by
 refine acL hit.typeIs m_ (Za m_ hit.typeIs tL ?_ (vn _));show wpAny _ _ (ret (.ref it)) _ _ s;exact XE ⟨_,rfl,"set_iterator",_,hit.typeIs,dQ.lookup,h⟩
theorem sT{k:Nat}{Q:Option (Value×Nat)->XD->Prop}(ho:s.heap.get? a=some o)(hd:o.data= .set es ep t)(ht:TabOk t es.size (mw w))(hk:k<=es.size)
 (h:Q ((mM w a ep es)[k]?.map λe=>(e.2,iN w t (k+1))) s):wpAny (model prog w) A (setNext a (iN w t k) k ep) Q E s:=by
 have hf:=ht.fits;unfold setNext setsByText;refine Xy (YX ho hd hf (Xy (Xy (aaV (XE ?_)))));have hl:=ht.led;unfold mM iN at h;unfold iN;unfold mw at hl;refine ZS (λhb=>?_) λhb=>?_
 ·have hb:w.params.followText "set-order"=true:=hb;rw[aeg hb,aeg hb] at h
  dsimp only
  rw[bne_self_eq_false,aeh (by decide),aeg hb];unfold setWalk setsByText;refine Xy (Xy (YX ho hd hf (Xy (Xy (aaV (XE ?_))))));refine ZS (λ_=>?_) λrp=>aej hb rp;exact Xy (aaV (XE (XE h)))
 ·have hb:¬w.params.followText "set-order"=true:=hb;have Af:w.params.followText "set-order"=false:=by simpa using hb
  rw[aeh hb,aeh hb] at h;rw[Af] at hl
  dsimp only
  refine ZS (λVr=>?_) λ_=>?_
  ·have OQ:(!t.plain&&decide (es.size>1))=true:=Vr;rw[ht.plain] at OQ;simp at OQ
  ·refine Xy (aci (a:=()) ?_ ?_)
   ·show (if (!t.led&& !es.isEmpty)=true then(unsupported "set:maker-not-led":Sem Unit) else pure ())=_;rw[hl];rfl
   ·rw[aeh hb,below_at ht.rise (by rw[ht.size];exact hk)];refine XE ?_;by_cases dG:k<es.size
    ·have h1:es[k]? =some es[k]:=XU dG;have h2:t.place[k]? =some (t.place[k]'(by rw[ht.size];exact dG)):=XU (by rw[ht.size];exact dG);have h3:slotAt t.place (k+1)=t.place[k]'(by rw[ht.size];exact dG)+1:=by
      show t.place.getD k 0+1=_;rw[XZ,h2];rfl
     rw[h1,h2];rw[h1,h3] at h;exact h
    ·have h1:es[k]? =none:=aaB (by omega);rw[h1];rw[h1] at h;exact h
theorem u0{α:Type}(next:Nat->Nat):∀(fuel k:Nat) (left:List α) (out:Array α),left.length=fuel->(aea next fuel k left out).toList.Perm (out.toList++left)
 |0,k,left,out,h=>by
  rw[aat.mp h,YF];exact .refl _
 |fuel+1,k,left,out,h=>by
  unfold aea;have hi:next k % left.length<left.length:=aco _ (by omega);rw[XC hi]
  dsimp only
  refine(u0 next fuel (k+1) _ _ (by rw[List.length_eraseIdx_of_lt hi];omega)).trans ?_;rw[ad8,Zb];refine List.Perm.append_left _ ?_;rw[List.eraseIdx_eq_take_drop_succ];have hp:=(acs (a:=left[next k % left.length]) (l₁:=left.take (next k % left.length)) (l₂:=left.drop (next k % left.length+1))).symm;rw[<-aah hi,aaI] at hp;exact hp
theorem jT(w:World)(a:Addr)(ep:Nat)(es:Array (Int×Value)):(mM w a ep es).toList.Perm es.toList:=by
 unfold mM;split
 ·exact(u0 _ es.size 0 es.toList #[] (XG ..)).trans (by simp)
 ·exact .refl _
theorem Gg{it:Addr}{k:Nat}{e:Int×Value}{Q:Option Value->XD->Prop}(hit:IsSI s.heap it a (iN w t k) k es.size ep)(fo:a≠it)(ho:s.heap.get? a=some o)(hd:o.data= .set es ep t)(ht:TabOk t es.size (mw w))(hx:(mM w a ep es)[k]? =some e)
 (hQ:∀h',IsSI h' it a (iN w t (k+1)) (k+1) es.size ep->Ze it s.heap h'->Q (some e.2) {s with heap:=h'}):wpAny (model prog w) A (abM (.ref it)) Q E s:=by
 have hsz:(mM w a ep es).size=es.size:=by rw[<-XG,(jT w a ep es).length_eq,XG]
 have dG:k<es.size:=by rw[<-hsz];exact(YC.mp hx).1
 obtain⟨oi,NZ,TV,L4⟩:=id hit;unfold abM;refine Xy (acx (aaE (name:=Zp "__next__") hit.typeIs dQ (Za dQ hit.typeIs k8 ?_ (lV _))));unfold aaF.«set_iterator.__next__» slotArgs;simp only[acu,ZQ,X4,↓reduceIte,bind_assoc,YE,bne_self_eq_false];refine Xy (XE (Xy (ab_ NZ L4 ?_)));simp only[aaA];refine Xy (ach ho hd ht.fits ?_);rw[aeh (by simp)];simp only[abh];refine Xy (sT ho hd ht (Y9 dG) ?_);rw[hx];show wpAny _ _ (adW (.ref it) 0 (aaA ((iN w t (k+1):Nat):Int))>>=_) _ _ s;refine Xy (abl NZ L4 (by simp) ?_);have h1:(s.heap.update it (ab7 (·.setIfInBounds 0 (aaA ((iN w t (k+1):Nat):Int))))).get? it=some (ab7 (·.setIfInBounds 0 (aaA ((iN w t (k+1):Nat):Int))) oi):=Y2 _ NZ (abI (Z0 L4 _));have d1:=Z0 L4 (·.setIfInBounds 0 (aaA ((iN w t (k+1):Nat):Int)));show wpAny _ _ (adW (.ref it) 1 (aaA ((k:Int)+1))>>=_) _ _ _;refine Xy (abl h1 d1 (by simp) ?_);refine XE ⟨_,rfl,XE (hQ _ ⟨_,Y2 _ h1 (abI (Z0 d1 _)),(acn ..).trans ((acn ..).trans TV),?_⟩ ((Yo ..).trans (Yo ..)))⟩;rw[Z0 d1];simp[aaA]
theorem Iw{it:Addr}{Q:Option Value->XD->Prop}(hh:A.handled=none)(hit:IsSI s.heap it a (iN w t es.size) es.size es.size ep)(ho:s.heap.get? a=some o)(hd:o.data= .set es ep t)(ht:TabOk t es.size (mw w))
 (hQ:∀h',adS it s.heap h'->Q none {s with heap:=h'}):wpAny (model prog w) A (abM (.ref it)) Q E s:=by
 have hsz:(mM w a ep es).size=es.size:=by rw[<-XG,(jT w a ep es).length_eq,XG]
 obtain⟨oi,NZ,TV,L4⟩:=id hit;unfold abM;refine Xy (acx (aaE (name:=Zp "__next__") hit.typeIs dQ (Za dQ hit.typeIs k8 ?_ (lV _))));unfold aaF.«set_iterator.__next__» slotArgs;simp only[acu,ZQ,X4,↓reduceIte,bind_assoc,YE,bne_self_eq_false];refine Xy (XE (Xy (ab_ NZ L4 ?_)));simp only[aaA];refine Xy (ach ho hd ht.fits ?_);rw[aeh (by simp)];simp only[abh];refine Xy (sT ho hd ht (XM _) ?_);rw[aaB (Nat.le_of_eq hsz)];show wpAny _ _ (adW (.ref it) 2 .none>>=_) _ _ s;refine Xy (abl NZ L4 (by simp) ?_);refine Xy ?_;simp only[newExc,newTuple];refine Xy (ZR ?_ (by size_fits));refine Xy (m:=acb _ _) (aci (a:=YO) (by first | rfl | (simp only[acb];rfl)) ?_);refine ZR ?_ (by size_fits);simp only[raiseNew];refine Xy (wpAny_handled ?_);rw[show A.in1.handled=none from hh];refine Xy (XE (wpAny_throw ?_));refine Xy (abL (T:="StopIteration") (b:=true) ⟨_,X8 _ rfl,rfl⟩ isSubtype_stop ?_);exact XE (hQ _ (((Yo ..).extBut.push _).push _))
def Of(w:World)(a:Addr)(ep:Nat)(es:Array (Int×Value)):Nat->Value->Prop:=λi v=>∃e,(mM w a ep es)[i]? =some e/\v=e.2
theorem Ee(hh:A.handled=none)(I a:Addr)(fo:a≠I)(hd:o.data= .set es ep t)(ht:TabOk t es.size (mw w)):
 Walks prog w A I [I,a] [I] es.size (Of w a ep es) (λi h=>IsSI h I a (iN w t i) i es.size ep/\h.get? a=some o) where
 sub:=λb hb=>by simp at hb;simp[hb]
 frame:=λ_ _ _ st hk=>⟨st.1.at λo e=>hk I (by simp) o e,hk a (by simp) _ st.2⟩
 item:=λi s Q E hi st hQ=>by
  have hsz:(mM w a ep es).size=es.size:=by rw[<-XG,(jT w a ep es).length_eq,XG]
  have hx:(mM w a ep es)[i]? =some ((mM w a ep es)[i]'(by omega)):=XU (by omega);exact Gg st.1 fo st.2 hd ht hx λh' C7 yn=>hQ _ h' s.toks ⟨_,hx,rfl⟩ ⟨C7,(yn.2 a fo).trans st.2⟩ λb o hb e=>yn.extBut b o (λh=>hb (by simp[h])) e
 done:=λs Q E st hQ=>Iw hh st.1 st.2 hd ht λh' RF=>hQ h' s.toks λb o hb e=>RF b o (λh=>hb (by simp[h])) e
 self:=λ_ _ _ _ st hQ=>Hl st.1 hQ
theorem Fx{Q:Bool->XD->Prop}(hT:s.TypeIs (.ref a) "set")(h:Q false s):wpAny (model prog w) A (abQ (.ref a)) Q E s:=by
 unfold abQ;refine Xy (aa6 hT F.slot_set_len.lookup ?_);generalize RL:("set.__len__":String)=WO
 wp_delta
 rw[show splitId WO=some ("set","__len__") from by subst RL;decide+kernel];subst RL;refine Xy (abL (T:="set") (b:=true) hT (by rw[adz];kernel_rfl) ?_);refine ZS (λIH=>aej IH (by decide)) λ_=>ZS (λ_=>Xy (wpAny_typeOf hT (XE h))) λIH=>aej (by decide+kernel) IH
theorem J2{a:Addr}(hex:o.ExactSet)(hd:o.data= .set es ep t)(ht:TabOk t es.size (mw w)):KdlSrc prog w "set" a a es.size (Of w a ep es) (λh=>h.get? a=some o) where
 type:=λ_ hm=>⟨o,hm,hex.1⟩
 there:=λ_ hm=>⟨XY hm,XY hm⟩
 keep:=λ_ _ hm hk=>hk a (.inl rfl) o hm
 notList:=by decide
 notTuple:=by decide
 hint:=λ_ _ s _ hm hq=>Fx ⟨o,hm,hex.1⟩ hq
 iter:=λ_ _ hh hm=>⟨_,_,(λ_ _ hq=>FQ hm hex hd ht hq),Ee hh _ a (Yj (XY hm)) hd ht,⟨⟨_,X8 _ rfl,rfl,by unfold iN;split<;>rfl⟩,XJ _ hm⟩⟩
end
end L3
namespace L3
open PySem PySem.Spec L2 SeqAt HT
open PyProof.Rows hiding St
section
variable{X:Cx}{e:Expr}
theorem A1{f8:List (Addr×Obj)}{σ:St}{H:Hp}{s:XD}{Q:VK}(I:Inv X f8 σ H s)(hc:X.calm=true){S:Addr}{ws:List V}{ks:List (List Int)}(hr:cF H ws ks)(hk:fe ks=true)
 (hS:Ep (mw X.w) s.heap S (N2 X.prog X.w (λi=>ks.getD i []) (λi=>CC (ws.getD i .non)) ks.length))
 (q:∀(q:Addr) (us:List V),H q=none->cF H us (sortI ks)->Q (.ref q) (upd H q (.lst us))):wpAny (model X.prog X.w) X.A (call (.builtin "sorted") [.ref S]) (EP X f8 σ Q) X.xe s:=by
 obtain⟨o,es,ep,t,ho,hex,RC,hp,ht⟩:=hS;unfold fe at hk;rw[X5,X5] at hk;have hd:ks.Nodup:=aek hk.1.1;have lI:ks.length<64:=aek hk.1.2;have fo:∀k∈ks,k≠[]:=λk pZ z=>by have:=Yh.mp hk.2 k pZ;rw[z] at this;cases this
 have IJ:es.size=ks.length:=by rw[<-XG,hp.length_eq];unfold N2;rw[XB,Zq]
 have El:X6=16777216:=Zx;have C_:=j3 hr;refine acW kind_sorted plain_sorted entry_sorted (args_sorted1 _) ?_;unfold aaF.«sorted»;refine Xy (m:=checkCount "sorted" 1 1 _) (XE (Xy (adj (A:=X.A.in1) (J2 hex RC ht) (I.ok.hd hc) ho (by rw[IJ,El];omega) λh1 tk v4 FU tQ=>?_)));have I1:Inv X f8 σ H {s with heap:=h1,toks:=tk}:=I.kept (t':=tk) λb ob e=>FU b ob e;obtain⟨js,RT,UY⟩:∃js:List Nat,js.Perm (Yg ks.length)/\v4.toList=js.map λj=>Ye (CC (ws.getD j .non)):=by
  have e1:v4.toList=(mM X.w S ep es).toList.map (·.2):=by
   have hsz:(mM X.w S ep es).size=es.size:=by rw[<-XG,(jT X.w S ep es).length_eq,XG]
   refine acf λi=>?_;rw[XX];by_cases hi:i<es.size
   ·have ha:v4[i]? =some (v4[i]'(by rw[tQ.1];exact hi)):=XU (by rw[tQ.1];exact hi);obtain⟨e,q1,q2⟩:=tQ.2 i _ ha;rw[YT,YT,q1,ha,q2];rfl
   ·rw[Z4 (by rw[XG,tQ.1];omega),Z4 (by rw[XG];omega)];rfl
  have e2:((mM X.w S ep es).toList.map (·.2)).Perm ((Yg ks.length).map λj=>Ye (CC (ws.getD j .non))):=by
   have:=(((jT X.w S ep es).trans hp).map (·.2))
   unfold N2 at this;rw[Yv] at this;exact this
  rw[<-e1] at e2;have lift:∀(l:List Value) (r:List Nat),l.Perm (r.map λj=>Ye (CC (ws.getD j .non)))->∃js:List Nat,js.Perm r/\l=js.map λj=>Ye (CC (ws.getD j .non)):=by
   intro l;induction l with
   |nil=>
    intro r h;have:=List.Perm.eq_nil h.symm;exact⟨[],by rw[List.map_eq_nil_iff.mp this],rfl⟩
   |cons v l ih=>
    intro r h;obtain⟨j,hj,ej⟩:=XS.mp (h.mem_iff.mp (XA ..));obtain⟨r1,r2,rfl⟩:=List.append_of_mem hj;have h':l.Perm ((r1++r2).map λj=>Ye (CC (ws.getD j .non))):=by
     have h1:=h;rw[Yl,XN,<-ej] at h1;rw[Yl];exact List.Perm.cons_inv (h1.trans (by rw[ej];exact acs))
    obtain⟨js,k1,k2⟩:=ih _ h';exact⟨j::js,(k1.cons j).trans acs.symm,by rw[XN,<-k2,ej]⟩
  exact lift _ _ e2
 have Xm:js.length=ks.length:=by rw[RT.length_eq,Zq]
 have jG:∀j∈js,j<ks.length:=λj hj=>Y3.mp (RT.mem_iff.mp hj);have Mj:cF H (js.map λi=>ws.getD i .non) (js.map λi=>ks.getD i []):=iL hr λi hi=>by rw[C_];exact jG i hi
 have rv:Vals (js.map λi=>ws.getD i .non) v4.toList:=by
  rw[UY];refine tj (by simp) λi v u e1 e2=>?_;rw[XX] at e1 e2;cases hj:js[i]? with
  |none=>rw[hj] at e1;cases e1
  |some j=>
   rw[hj] at e1 e2;cases e1;cases e2;obtain⟨a,e3,_⟩:=mZ hr (i:=j) (by rw[C_];exact jG j (X7 hj));show RelV (ws.getD j .non) (.ref (CC (ws.getD j .non)));rw[e3];rfl
 have FC:(js.map λi=>ks.getD i []).Perm ks:=by
  have h1:=RT.map λi=>ks.getD i [];have h2:(Yg ks.length).map (λi=>ks.getD i [])=ks:=by
   refine acw (by simp) λi h1 h2=>?_;rw[aai,ad4,X9,XC h2];rfl
  rwa [h2] at h1
 generalize Uk:(js.map λi=>ws.getD i .non)=vs' at Mj rv;generalize C9:(js.map λi=>ks.getD i [])=ks' at Mj FC;have qh:ks'.Nodup:=FC.nodup_iff.mpr hd;have Pd:sortI ks'=sortI ks:=m6 (gP qh) (gP hd) λx=>by rw[eB,eB];exact FC.mem_iff
 have KC:=j3 Mj;have Xn:=rv.length;have Xo:=FC.length_eq;have Ws:=oB I1 Mj rv λk pZ=>fo k (FC.mem_iff.mp pZ);refine Xy (adV ?_ (by rw[El];omega));have Md:(h1.push (aaf "list" v4.toList.toArray 0)).get? h1.objs.size=some (aaf "list" v4.toList.toArray 0):=X8 _ rfl;refine Xy (Zg (Za slot_list_sort ⟨_,Md,rfl⟩ entry_list_sort (ve (s:={s with heap:=h1.push (aaf "list" v4.toList.toArray 0),toks:=tk}) Md
  (Ws.keep (a:=h1.objs.size) (λb o _ e=>XJ _ e) (λo e=>aej (XY e) (YH _))) qh (by omega) λP h' c' hP hR C5 Fy=>?_) (args_list_sort _)))
 have NS:∀i∈P.toList,i<vs'.length:=λi hi=>by
  obtain⟨j,hj,rfl⟩:=YM.mp hi;have h':j<P.size:=by rw[XG] at hj;exact hj
  have:=hP.lt j (by rw[hP.sz] at h';exact h');rw[e9,XU h'] at this;have e:P.toList[j]=P[j]:=by simp
  rw[e];have:P[j]<v4.toList.length:=this;omega
 have OH:v4.toList.length=ks'.length:=by omega
 have Rp:PN ks'.length P:=by rw[<-OH];exact hP
 have Rq:Ri (λi j=>eV (ks'.getD i []) (ks'.getD j [])) P ks'.length:=by rw[<-OH];exact hR
 have N1:=vf qh Rp Rq;have Pf:=iL Mj NS;rw[N1,Pd] at Pf;refine⟨_,rfl,XE ⟨_,rfl,⟨.ref h1.objs.size,_,I1.laid (a:=h1.objs.size) (t':=tk) (o:= .lst (P.toList.map λi=>vs'.getD i .non)) (λb ob e=>Fy b ob (Yj (XY e)) (XJ _ e)) (XM _) ?_,rfl,q _ _ (I1.hok.fresh (XM _)) Pf⟩⟩⟩;exact⟨by rw[XB,XG,hP.sz,El];omega,_,c',oP rv NS,C5⟩
end
end L3
namespace L3
open PySem PySem.Spec L2 HT
open PyProof.Rows hiding St
end L3
namespace L3
open PySem PySem.Spec L2
open PyProof.Rows hiding St
end L3
namespace L3
open PySem PySem.Spec L2 SeqAt HT
open PyProof.Rows hiding St
def Uo:D->List D->M D
 | .lst ds,[.int n]=>match nums ds with
   |some ns=>if ns.contains n then ae (.int (ns.idxOf n)) else ag
   |none=>ag
 |_,_=>ag
section
variable{X:Cx}{Xw:Nat->Hp->Prop}{a b e:Expr}{p:Pos}
def anyF(x:D):List D->Option Bool
 |[]=>some false
 |y::ys=>match kz 6 y x,anyF x ys with
  |some p,some q=>some (p||q)
  |_,_=>none
def l8(neg:Bool):D->D->M D
 |x, .lst ys=>match anyF x ys with
  |some r=>ae (.bl (if neg then !r else r))
  |none=>ag
 |_,_=>ag
theorem Bg{f8:List (Addr×Obj)}{σ:St}{F H:Hp}{s:XD}{A:Yy}{x:D}{v:V}{u:Value}(I:Inv X f8 σ H s)(hs:Same F H)(hu:A.units+6<cLine)(hx:Den X.K F x v)(rx:RelV v u):
 ∀{ys:List D}{vs:List V}{aK:List Value}{r:Bool},anyF x ys=some r->DenL X.K F ys vs->Vals vs aK->∃f:List Bool,f.length=aK.length/\f.any id=r/\∀i (h:i<aK.length),EqAt A s aK[i] u (f.getD i false)
 |[],_,_,_,e,h,r=>by
  cases e;cases (show _=_ from h);cases r;exact⟨[],rfl,rfl,λi h=>aej h (Nat.not_lt_zero _)⟩
 |y::ys,_,_,_,e,⟨w,ws,h1,h2,h3⟩,r=>by
  subst h1;unfold anyF at e;split at e
  ·rename_i p q e1 e2;cases e;cases r with
   | @cons _ t _ ts r1 r2=>
     obtain⟨f,l1,l2,l3⟩:=Bg I hs hu hx rx e2 h3 r2;refine⟨p::f,by simp[l1],by simp[<-l2],λi hi=>?_⟩;cases i with
     |zero=>exact(vH I hs 6 A y x w v t u _ hu h2 hx r1 rx e1).eq
     |succ i=>exact l3 i (by simpa using hi)
  ·cases e
open Classical in
theorem Ib{f8:List (Addr×Obj)}{σ:St}{F H:Hp}{s:XD}{A:Yy}{x:D}{v:V}{u:Value}(I:Inv X f8 σ H s)(hs:Same F H)(hu:A.units+6<cLine)(hx:Den X.K F x v)(rx:RelV v u){ys:List D}{vs:List V}{aK:List Value}{r:Bool}(e:anyF x ys=some r)(hd:DenL X.K F ys vs)(rv:Vals vs aK):
 ∃g:Value->Bool,aK.toArray.any g=r/\∀t∈aK.toArray,EqAt A s t u (g t):=by
 obtain⟨f,l1,l2,l3⟩:=Bg I hs hu hx rx e hd rv;have key:∀w,decide (∃i,aK[i]? =some w/\f.getD i false=true)=true↔∃i,aK[i]? =some w/\f.getD i false=true:=λw=>decide_eq_true_iff;refine⟨λw=>decide (∃i,aK[i]? =some w/\f.getD i false=true),?_,λt ht=>?_⟩
 ·rw[<-l2,acK];simp only[List.any_toArray,ZD,key];constructor
  ·rintro⟨w,_,i,e1,e2⟩;have hi:i<f.length:=by rw[l1];exact(XI.mp e1).1
   rw[X9,XC hi] at e2;exact⟨_,ZC hi,e2⟩
  ·rintro⟨b,hb,e1⟩;obtain⟨i,hi,rfl⟩:=aaT hb;refine⟨aK[i]'(by omega),ZC _,i,XC _,?_⟩;rw[X9,XC hi];exact e1
 ·have ht:t∈aK:=by simpa using ht
  by_cases h:∃i,aK[i]? =some t/\f.getD i false=true
  ·obtain⟨i,e1,e2⟩:=id h;obtain⟨hi,e3⟩:=XI.mp e1;have:=l3 i hi;rw[e2,e3] at this;show EqAt A s t u (decide (∃i,aK[i]? =some t/\f.getD i false=true));rw[aei h];exact this
  ·obtain⟨i,hi,rfl⟩:=aaT ht;have:=l3 i hi;have e2:f.getD i false=false:=by
    cases q:f.getD i false with
    |false=>rfl
    |true=>exact aej ⟨i,XC hi,q⟩ h
   rw[e2] at this;show EqAt A s aK[i] u (decide (∃j,aK[j]? =some aK[i]/\f.getD j false=true));rw[aem h];exact this
def P2(K:XO)(neg:Bool):R2:=λx y H Q=>∃F dx ys vs p r,Same F H/\Den K F dx x/\anyF dx ys=some r/\DenL K F ys vs/\y= .ref p/\SqL K H p vs/\Q (.bl (if neg then !r else r)) H
theorem Mm{neg:Bool}{K:XO}:zM K (P2 K neg) (l8 neg):=λXw F H x y dx dy Q s hx hy w=>by
 unfold l8 at w;split at w
 ·rename_i ys;split at w
  ·rename_i r e1;obtain⟨p,vs,h1,h2,h3,_⟩:=hy;exact⟨F,dx,ys,vs,p,r,s,hx,e1,h3,h1,SqL.of (s _ _ h2),WP.now w s rfl⟩
  ·exact w.elim
 ·exact w.elim
end
end L3
namespace L3
open PySem PySem.Spec L2 HT
open PyProof.Rows hiding St
section
variable{X:Cx}{Xw:Nat->Hp->Prop}{δa:DE}{δs:DA}{es Eh:List Expr}{k:Nat}{p:Pos}
theorem kx{a:Expr}(ha:Box (PD X Xw a δa))(hr:Box (gQ X Xw es δs))(hs:X2 (a::es) X.env=(false,eval a X.env)::X2 es X.env):Box (gQ X Xw (a::es) (aC δa δs)):=⟨aa ha.1 hr.1 hs⟩
theorem qK(ha:Box (PD X Xw (.Tuple Eh k p) δa))(hr:Box (gQ X Xw es δs)):Box (gQ X Xw (.Tuple Eh k p::es) (aC δa δs)):=kx ha hr (by rfl)
theorem gq:Box (gQ X Xw [] aN):=⟨ah⟩
theorem vu(h:Box (gQ X Xw es δs)):Box (PD X Xw (.Tuple es k p) (dA aO δs)):=⟨bL h.1⟩
theorem fE{x:Str}{j:Nat}{q:Pos}(hr:Box (gQ X Xw es δs))(h:x.length<=lim:=by decide):Box (gQ X Xw (.Constant (.str x) j q::es) (aC (dC (.str x)) δs)):=kx ⟨cw h⟩ hr (by rfl)
end
end L3
namespace L3
open PySem PySem.Spec L2 SeqAt HT
open PyProof.Rows hiding St
section
variable{X:Cx}{f8:List (Addr×Obj)}{σ:St}{H:Hp}{s:XD}{a:Addr}{aA:List (Key×V)}{k:Key}{z:V}{u r:Value}{A:Yy}{E:Value->XD->Prop}
theorem E2{Q:Value->XD->Prop}(I:Inv X f8 σ H s)(e:H a=some (.dK aA))(ry:RelV (kV k) u)(rz:RelV z r)(hl:aA.length<X6)
 (h1:∀v w' s',fO aA k=some v->Inv X f8 σ H s'->RelV v w'->Q w' s')
 (h2:∀s',fO aA k=none->Inv X f8 σ (upd H a (.dK (putK aA k z))) s'->Q r s'):
 wpAny (model X.prog X.w) A (call (.builtin "dict.setdefault") [.ref a,u,r]) Q E s:=by
 obtain⟨zz,hd,vs,rel,dd⟩:=E5 I.hok e;have hz:vs.length<=X6:=by rw[<-rel.length];exact zz
 have Ag:(putK aA k z).length<=X6:=by have:=et aA k z;omega
 have rv:=rel.val k;refine abS acd dd.typeIs PySem.F.entry_dict_setdefault (PySem.F.args_dict_setdefault_3 _ _ _) (kt_meets_setdefault (bj X.prog X.w) a (ml ry) hd r) ⟨vs,dd,hz,λv hv=>?_,λhn h' Bv hs=>?_⟩
 ·cases q:fO aA k with
  |none=>rw[q] at rv;rw[RelO.none_of rv] at hv;cases hv
  |some v0=>
   rw[q] at rv;obtain⟨w',hw,xK⟩:=RelO.some_of rv;rw[hw] at hv;cases hv;exact h1 v0 _ _ q (I.tok _) xK
 ·cases q:fO aA k with
  |some v0=>rw[q] at rv;obtain⟨w',hw,_⟩:=RelO.some_of rv;rw[hw] at hn;cases hn
  |none=>
   have he:∃q,h'.get? a=some q:=let ⟨q,_,_,hq,_⟩:=Bv;⟨q,hq⟩
   exact h2 _ q (ky I (by rw[e];exact Y0) hs he (z5 Ag hd (rel.put k rz) Bv))
end
section
variable{X:Cx}{o e f:Expr}{T0 aV:Pos}{td ty tx:TE}
def K_(td ty tx:TE):TE:=λσ H Q=>td σ H λx H1=>∃a,x= .ref a/\NP H1 a/\ty σ H1 λy H2=>tx σ H2 λz H3=>∃aA k,H3 a=some (.dK aA)/\y=kV k/\aA.length<X6/\
 (∀v,fO aA k=some v->Q v H3)/\(fO aA k=none->Q z (upd H3 a (.dK (putK aA k z))))
theorem JF(ho:PE X o td)(he:PE X e ty)(hf:PE X f tx)(m:M2 X o "setdefault" T0 e f aV):PE X (.Call (.Attribute o "setdefault" T0) [e,f] [] aV) (K_ td ty tx):=by
 intro f8 s σ H Q I h;refine abw m.base m.few m.line aam acd PySem.F.type_dict_setdefault (b_ (ho f8 s σ H _ I h) λu s1 ⟨x,H1,I1,rx,a,ex,d,q1⟩=>?_);subst ex;obtain rfl:u=Ye a:=rx;obtain⟨t1,t2,_⟩:=vS I1 d;refine⟨t1,t2,?_⟩;rw[m.trees];refine ZX rfl (ZH (Y4 (b_ (he f8 s1 σ H1 _ I1 q1) λiv s2 ⟨y,H2,I2,ry,q2⟩=>
  Y4 (b_ (hf f8 s2 σ H2 _ I2 q2) λfv s3 ⟨z,H3,I3,rz,aA,k,e1,ey,hl,g1,g2⟩=>ZJ ?_))))
 subst ey;exact E2 I3 e1 ry rz hl (λv w' s' q I4 r4=>⟨v,H3,I4,r4,g1 v q⟩) λs' q I4=>⟨z,_,I4,rz,g2 q⟩
end
abbrev qB:=List (Key×List Key)
def tR(ks:List Key)(k:Key):Bool:=ks.any λx=>decide (x=k)
theorem l_{ks:List Key}{k:Key}:tR ks k=true↔k∈ks:=by
 unfold tR;rw[ZD];exact⟨λ⟨x,h1,h2⟩=>(aek h2)▸h1,λh=>⟨k,h,aei rfl⟩⟩
def xg(ps:qB)(k:Key):qB:=if tR (ps.map (·.1)) k then ps else ps++[(k,[])]
def qC(ps:qB)(k j:Key):qB:=ps.map λp=>if p.1=k then(p.1,if tR p.2 j then p.2 else p.2++[j]) else p
def xJ(ps:qB):Bool:=decide (ps.length<lim)&&ps.all λp=>decide (p.2.length<lim)
def inD(ks:List Key):D:= .dci ks (ks.map λ_=> .bl true)
def Cg(ps:qB):D:= .dci (ps.map (·.1)) (ps.map λp=>inD p.2)
def lK(oi:Nat)(tc:DT)(δk:DE)(k:Key)(ρ:aX):List D->qB->M qB
 |[],ps=>ae ps
 |d::ds,ps=>noex (tc (ρ.set oi (some (.fz d))))>>=λb=>if b then noex (δk (ρ.set oi (some (.fz d))))>>=λkd=>match rL kd with
   |some j=>if xJ ps then lK oi tc δk k ρ ds (qC ps k j) else ag
   |none=>ag
  else lK oi tc δk k ρ ds ps
def gK(ci oi:Nat)(δk:DE)(δj:DA)(tc:DT)(δk2:DE)(ρ:aX):List D->qB->M qB
 |[],ps=>ae ps
 |d::ds,ps=>noex (δk (ρ.set ci (some (.fz d))))>>=λkd=>match rL kd with
   |some k=>if xJ ps then noex (δj (ρ.set ci (some (.fz d))))>>=λes=>lK oi tc δk2 k (ρ.set ci (some (.fz d))) es (xg ps k)>>=λjl=>gK ci oi δk δj tc δk2 ρ ds jl else ag
   |none=>ag
def qD(ρ:aX):Bool:=ρ.all λx=>match x with | some (.ow _)=>false | _=>true
def ze(ni ci mi oi:Nat)(δi:DA)(δk:DE)(δj:DA)(tc:DT)(δk2:DE):DS:=λρ=>match ud ρ ni with
 |some (.dci [] [])=>if qD (fgt [ni,ci,mi,oi] ρ) then noex (δi (fgt [ni,ci,mi,oi] ρ))>>=λds=>noex (gK ci oi δk δj tc δk2 (fgt [ni,ci,mi,oi] ρ) ds [])>>=λps=>
   if xJ ps then ae (.nx ((fgt [ni,ci,mi,oi] ρ).set ni (some (.fz (Cg ps))))) else ag else ag
 |_=>ag
theorem Ext.of_chg{u8 aeq F H:Hp}{b:Addr}{o:HO}(e:Ext u8 aeq F H)(h1:F b=none)(h2:aeq b=none):Ext u8 aeq F (upd H b o):=
 ⟨λc u q=>by rw[az (λz=>by rw[z,h2] at q;cases q)];exact e.hh c u q,e.ff,λc u q=>by rw[az (λz=>by rw[z,h1] at q;cases q)];exact e.fh c u q,e.new⟩
theorem StE.fzH{K:XO}{F H H':Hp}{σ:St}{ρ:aX}(s:StE K F H σ ρ)(h:qD ρ=true)(e:Same F H'):StE K F H' σ ρ:=
 ⟨e,λi sl q=>by
  obtain⟨v,h1,h2⟩:=s.den i sl q;refine⟨v,h1,?_⟩;cases sl with
  |fz d=>exact h2
  |ow c=>have:=Yh.mp h _ (X7 q);cases this⟩
theorem get_set{α:Type}{l:List (Option α)}{i j:Nat}{x:Option α}{y:α}(h:(l.set i x)[j]? =some (some y)):(j=i/\x=some y)\/(j≠i/\l[j]? =some (some y)):=by
 by_cases hj:j=i
 ·subst hj;have hi:j<l.length:=by have:=(XI.mp h).1;simpa using this
  rw[X1 hi] at h;exact .inl ⟨rfl,Yn h⟩
 ·rw[XQ (YG hj)] at h;exact .inr ⟨hj,h⟩
theorem nE{ρ:aX}(h:qD ρ=true)(i:Nat){x:Option Sl}(hx:∀c,x≠some (.ow c)):qD (ρ.set i x)=true:=Yh.mpr λy hy=>by
 rcases List.mem_or_eq_of_mem_set hy with q | q
 ·exact Yh.mp h y q
 ·subst q
  match y,hx with
  |none,_=>rfl
  |some (.fz d),_=>rfl
  |some (.ow c),hx=>exact aej rfl (hx c)
structure Nr (K:XO) (u8 aeq G F H:Hp) (σ:St) (ρ:aX) (ni:Nat) (a:Addr) (bs:List Addr) (ps:qB):Prop where
 ext:Ext u8 aeq F H
 gf:Same G F
 st:StE K F H σ ρ
 len:ρ.length=σ.length
 near:σ[ni]? =some (some (.ref a))
 ha:H a=some (.dK ((ps.map (·.1)).zip (bs.map V.ref)))
 hb:∀(i:Nat) (b:Addr) (p:Key×List Key),bs[i]? =some b->ps[i]? =some p->H b=some (.dK (p.2.map λk=>(k,V.bl true)))
 sz:bs.length=ps.length
 nd:(a::bs).Nodup
 fr:∀b∈a::bs,F b=none/\aeq b=none
 fz:qD ρ=true
section
variable{K:XO}{u8 aeq G G' F H F' H':Hp}{σ:St}{ρ:aX}{ni:Nat}{a:Addr}{bs:List Addr}{ps:qB}
theorem Nr.at(n:Nr K u8 aeq G F H σ ρ ni a bs ps){b:Addr}(hb:b∈a::bs):∃aA,H b=some (.dK aA):=by
 rcases XF.mp hb with rfl | hb
 ·exact⟨_,n.ha⟩
 ·obtain⟨i,hi,rfl⟩:=aaT hb;exact⟨_,n.hb i _ (ps[i]'(by rw[<-n.sz];exact hi)) (XC hi) (XC _)⟩
theorem Nr.ext'(n:Nr K u8 aeq G F H σ ρ ni a bs ps)(e:Ext F H F' H'):Nr K u8 aeq G F' H' σ ρ ni a bs ps:=
 ⟨n.ext.trans e,n.gf.trans e.ff,n.st.ext e,n.len,n.near,e.hh _ _ n.ha,λi b p h1 h2=>e.hh _ _ (n.hb i b p h1 h2),n.sz,n.nd,λb hb=>by
  obtain⟨aA,hk⟩:=n.at hb;exact⟨by rw[e.old hk λts z=>nomatch z];exact(n.fr b hb).1,(n.fr b hb).2⟩,n.fz⟩
theorem Nr.rg(n:Nr K u8 aeq G F H σ ρ ni a bs ps)(e:Same G' F):Nr K u8 aeq G' F H σ ρ ni a bs ps:=⟨n.ext,e,n.st,n.len,n.near,n.ha,n.hb,n.sz,n.nd,n.fr,n.fz⟩
theorem Nr.put(n:Nr K u8 aeq G F H σ ρ ni a bs ps){j:Nat}(hj:j≠ni){d:D}{v:V}(h:Den K F d v):Nr K u8 aeq G F H (σ.set j (some v)) (ρ.set j (some (.fz d))) ni a bs ps:=
 ⟨n.ext,n.gf,⟨n.st.fh,λi sl q=>by
  rcases get_set q with⟨rfl,e⟩ | ⟨fo,q⟩
  ·cases e;have hi:i<ρ.length:=by have:=(XI.mp q).1;simpa using this
   exact⟨v,by rw[X1 (by rw[<-n.len];exact hi)],h⟩
  ·obtain⟨u,h1,h2⟩:=n.st.den i sl q;exact⟨u,by rw[XQ (YG fo)];exact h1,h2⟩⟩,by simp[n.len],by rw[XQ hj];exact n.near,n.ha,n.hb,n.sz,n.nd,n.fr,nE n.fz _ (λc z=>nomatch z)⟩
theorem Nr.put0(n:Nr K u8 aeq G F H σ ρ ni a bs ps){j:Nat}(hj:j≠ni)(v:V):Nr K u8 aeq G F H (σ.set j (some v)) (ρ.set j none) ni a bs ps:=
 ⟨n.ext,n.gf,⟨n.st.fh,λi sl q=>by
  rcases get_set q with⟨rfl,e⟩ | ⟨fo,q⟩
  ·cases e
  ·obtain⟨u,h1,h2⟩:=n.st.den i sl q;exact⟨u,by rw[XQ (YG fo)];exact h1,h2⟩⟩,by simp[n.len],by rw[XQ hj];exact n.near,n.ha,n.hb,n.sz,n.nd,n.fr,nE n.fz _ (λc z=>nomatch z)⟩
theorem Nr.fgt0(n:Nr K u8 aeq G F H σ ρ ni a bs ps)(j:Nat):Nr K u8 aeq G F H σ (ρ.set j none) ni a bs ps:=
 ⟨n.ext,n.gf,⟨n.st.fh,λi sl q=>by
  rcases get_set q with⟨rfl,e⟩ | ⟨fo,q⟩
  ·cases e
  ·exact n.st.den i sl q⟩,by simp[n.len],n.near,n.ha,n.hb,n.sz,n.nd,n.fr,nE n.fz _ (λc z=>nomatch z)⟩
theorem v8{α β:Type}{l:List α}{i:Nat}{f:α->β}{y:β}(h:(l.map f)[i]? =some y):∃x,l[i]? =some x/\f x=y:=by
 rw[XX] at h;exact aaw.mp h
theorem DX(ks:List Key)(j:Key):putK (ks.map λk=>(k,V.bl true)) j (V.bl true)=(if tR ks j then ks else ks++[j]).map λk=>(k,V.bl true):=by
 unfold putK;have e:((ks.map λk=>(k,V.bl true)).any λkv=>decide (kv.1=j))=tR ks j:=by
  rw[acK,ZD,l_];constructor
  ·rintro⟨kv,h1,h2⟩;obtain⟨k,hk,rfl⟩:=XS.mp h1;exact(aek h2:k=j)▸hk
  ·exact λh=>⟨(j,V.bl true),XS.mpr ⟨j,h,rfl⟩,by simp⟩
 rw[e];by_cases hj:tR ks j=true
 ·rw[aeg hj,aeg hj,Yv];refine Zt λk _=>?_;show (if k=j then(k,V.bl true) else(k,V.bl true))=_;split<;>rfl
 ·rw[aeh hj,aeh hj,Yl];rfl
theorem xO(ps:qB)(k j:Key):(qC ps k j).map (·.1)=ps.map (·.1):=by
 unfold qC;rw[Yv];refine Zt λp _=>?_;show (if p.1=k then(p.1,_) else p).1=p.1;split<;>rfl
theorem Nr.add(n:Nr K u8 aeq G F H σ ρ ni a bs ps)(kn:(ps.map (·.1)).Nodup){i:Nat}{b:Addr}{p:Key×List Key}(hi:bs[i]? =some b)(hp:ps[i]? =some p)(j:Key):
 Nr K u8 aeq G F (upd H b (.dK (putK (p.2.map λk=>(k,V.bl true)) j (V.bl true)))) σ ρ ni a bs (qC ps p.1 j):=by
 have hm:b∈a::bs:=Xz _ (X7 hi);have fo:a≠b:=λz=>(Yz.mp n.nd).1 (z▸X7 hi);have e:=n.ext.of_chg (o:= .dK (putK (p.2.map λk=>(k,V.bl true)) j (V.bl true))) (n.fr b hm).1 (n.fr b hm).2;refine⟨e,n.gf,n.st.fzH n.fz e.fh,n.len,n.near,?_,λi' b' p' h1 h2=>?_,by rw[n.sz];simp[qC],n.nd,n.fr,n.fz⟩
 ·rw[az fo,xO];exact n.ha
 ·obtain⟨q,hq,rfl⟩:=v8 (show (ps.map _)[i']? =_ from h2);by_cases RM:i'=i
  ·subst RM;rw[hi] at h1;cases h1;rw[hp] at hq;cases hq;rw[aG,aeg rfl,DX]
  ·have Rv:b'≠b:=λz=>by
    subst z;exact RM ((ace (XI.mp h1).1 (Yz.mp n.nd).2).mp (h1.trans hi.symm))
   have Wg:q.1≠p.1:=λz=>by
    exact RM ((ace (by simpa using (XI.mp hq).1) kn).mp (by rw[XX,XX,hq,hp];exact aeo some z))
   rw[az Rv,aeh Wg];exact n.hb i' b' q h1 hq
theorem th{κ:Type}[DecidableEq κ]:∀{ks:List κ}{vs:List V}(k:κ),ks.length=vs.length->
 (match fO (ks.zip vs) k with | some v=>∃i:Nat,ks[i]? =some k/\vs[i]? =some v | none=>k∉ks)
 |[],[],k,_=>by simp[fO]
 |k'::ks,v::vs,k,hl=>by
  rw[Y6];by_cases e:k'=k
  ·rw[km (p:=(k',v)) e];exact⟨0,by simp[e],rfl⟩
  ·rw[kl (p:=(k',v)) e];have:=th (ks:=ks) (vs:=vs) k (by simpa using hl);cases q:fO (ks.zip vs) k with
   |none=>rw[q] at this;exact λz=>(XF.mp z).elim (λz=>e z.symm) this
   |some u=>rw[q] at this;obtain⟨i,h1,h2⟩:=this;exact⟨i+1,by simpa using h1,by simpa using h2⟩
 |[],_::_,_,hl=>by simp at hl
 |_::_,[],_,hl=>by simp at hl
theorem y6{κ:Type}[DecidableEq κ]{aA:List (κ×V)}{k:κ}{v:V}(h:fO aA k=none):putK aA k v=aA++[(k,v)]:=by
 unfold putK;rw[kj,h];rfl
theorem Nr.new(n:Nr K u8 aeq G F H σ ρ ni a bs ps){p:Addr}(hp:H p=none){k:Key}(hk:fO ((ps.map (·.1)).zip (bs.map V.ref)) k=none):
 Nr K u8 aeq G F (upd (upd H p (.dK [])) a (.dK (putK ((ps.map (·.1)).zip (bs.map V.ref)) k (.ref p)))) σ ρ ni a (bs++[p]) (ps++[(k,[])]):=by
 have fo:∀b∈a::bs,b≠p:=λb hb z=>by
  obtain⟨aA,h⟩:=n.at hb;rw[z,hp] at h;cases h
 have ha:=fo a XA;have e0:=n.ext.trans (Ext.free (o:= .dK []) n.st.fh hp);have hF:F p=none:=Same.free n.st.fh hp;have hH:aeq p=none:=Same.free n.ext.hh hp;have e:=e0.of_chg (o:= .dK (putK ((ps.map (·.1)).zip (bs.map V.ref)) k (.ref p))) (n.fr a XA).1 (n.fr a XA).2;have nd:=Yz.mp n.nd;refine⟨e,n.gf,n.st.fzH n.fz e.fh,n.len,n.near,?_,λi b q h1 h2=>?_,by simp[n.sz],?_,λb hb=>?_,n.fz⟩
 ·rw[aG,y6 hk,Yl,Yl,aar (by simp[n.sz])];rfl
 ·by_cases hi:i<bs.length
  ·rw[Ym hi] at h1;rw[Ym (by rw[<-n.sz];exact hi)] at h2;have hm:=X7 h1;rw[az (λz:b=a=>nd.1 (z▸hm)),az (fo b (Xz _ hm))];exact n.hb i b q h1 h2
  ·have uG:i=bs.length:=by
    have:=(XI.mp h1).1;simp at this;omega
   subst uG;rw[Z5] at h1;cases h1;rw[n.sz,Z5] at h2;cases h2;rw[az (YG ha),aG];rfl
 ·rw[Yz,Yk];refine⟨λz=>z.elim nd.1 λz=>ha (X0.mp z),?_⟩;rw[YI];exact⟨nd.2,by simp,λx hx y hy z=>fo x (Xz _ hx) (by rw[z];exact X0.mp hy)⟩
 ·rcases XF.mp hb with rfl | hb
  ·exact n.fr _ XA
  ·rcases Yk.mp hb with hb | hb
   ·exact n.fr b (Xz _ hb)
   ·cases X0.mp hb;exact⟨hF,hH⟩
theorem Nr.gar(n:Nr K u8 aeq G F H σ ρ ni a bs ps){p:Addr}(hp:H p=none):Nr K u8 aeq G F (upd H p (.dK [])) σ ρ ni a bs ps:=n.ext' (Ext.free n.st.fh hp)
end
theorem u7{X:Cx}{f8:List (Addr×Obj)}{σ:St}{s:XD}:∀{bs:List Addr}{H:Hp},Inv X f8 σ H s->bs.Nodup->(∀b∈bs,∃aA,H b=some (.dK aA))->
 ∃H',Inv X f8 σ H' s/\(∀b∈bs,∀aA,H b=some (.dK aA)->∃ob,H' b=some (.frz ob (.dK aA)))/\∀c,c∉bs->H' c=H c
 |[],H,I,_,_=>⟨H,I,λb hb=>(nomatch hb),λ_ _=>rfl⟩
 |b::bs,H,I,nd,h=>by
  obtain⟨aA,e⟩:=h b XA;have nd:=Yz.mp nd;obtain⟨H',I',h1,h2⟩:=u7 (bs:=bs) (L3.Inv.refrz I e (o':= .frz _ (.dK aA)) (.inr ⟨_,rfl, .inr ⟨_,rfl,rfl⟩⟩)) nd.2 λc hc=>by
   rw[az (λz:c=b=>nd.1 (z▸hc))];exact h c (Xz _ hc)
  refine⟨H',I',λc hc Pq e'=>?_,λc hc=>?_⟩
  ·rcases XF.mp hc with rfl | hc
   ·rw[e] at e';cases e';exact⟨_,by rw[h2 _ nd.1,aG]⟩
   ·exact h1 c hc Pq (by rw[az (λz:c=b=>nd.1 (z▸hc))];exact e')
  ·rw[h2 c λz=>hc (Xz _ z),az λz:c=b=>hc (z▸XA)]
theorem HM(ks:List Key):ks.map (λk=>(k,V.bl true))=ks.zip (ks.map λ_=>V.bl true):=by
 induction ks with
 |nil=>rfl
 |cons k ks ih=>rw[XN,XN,Y6,ih]
theorem DenL.trues{K:XO}{F:Hp}:∀(ks:List Key),DenL K F (ks.map λ_=>D.bl true) (ks.map λ_=>V.bl true)
 |[]=>rfl
 |_::ks=> .cons rfl (DenL.trues ks)
theorem DenL.ins{K:XO}{F:Hp}:∀{ps:qB}{bs:List Addr},bs.length=ps.length->(∀(i:Nat) (b:Addr) (p:Key×List Key),bs[i]? =some b->ps[i]? =some p->Den K F (inD p.2) (.ref b))->DenL K F (ps.map λp=>inD p.2) (bs.map V.ref)
 |[],[],_,_=>rfl
 |p::ps,b::bs,hl,h=> .cons (h 0 b p rfl rfl) (DenL.ins (by simpa using hl) λi b' p' h1 h2=>h (i+1) b' p' (by simpa using h1) (by simpa using h2))
 |[],_::_,hl,_=>by simp at hl
 |_::_,[],hl,_=>by simp at hl
theorem Nr.fin{X:Cx}{f8:List (Addr×Obj)}{s:XD}{u8 aeq G F H:Hp}{σ:St}{ρ:aX}{ni:Nat}{a:Addr}{bs:List Addr}{ps:qB}(n:Nr X.K u8 aeq G F H σ ρ ni a bs ps)(I:Inv X f8 σ H s)(ok:xJ ps=true):
 ∃F' H',Inv X f8 σ H' s/\StOk X.K u8 aeq F' H' σ (ρ.set ni (some (.fz (Cg ps)))):=by
 obtain⟨UB,W0⟩:=ZK.mp ok;have UB:=aek UB;obtain⟨H',I',h1,h2⟩:=u7 I n.nd λb hb=>n.at hb
 let F':Hp:=λc=>if c∈a::bs then H' c else F c
 have f1:∀c,c∈a::bs->F' c=H' c:=λc hc=>aeg hc;have f2:∀c,c∉a::bs->F' c=F c:=λc hc=>aeh hc;have ff:Same F F':=λc u q=>by rw[f2 c λz=>by rw[(n.fr c z).1] at q;cases q];exact q
 have fh:Same F' H':=λc u q=>by
  by_cases z:c∈a::bs
  ·rw[f1 c z] at q;exact q
  ·rw[f2 c z] at q;rw[h2 c z];exact n.st.fh c u q
 have e:Ext u8 aeq F' H':=⟨λc u q=>by rw[h2 c λz=>by rw[(n.fr c z).2] at q;cases q];exact n.ext.hh c u q,n.ext.ff.trans ff,fh,λc hc=>by
  have z:c∉a::bs:=λz=>hc (n.fr c z).2;rw[f2 c z];exact n.ext.new c hc⟩
 have hd:Den X.K F' (Cg ps) (.ref a):=by
  obtain⟨ob,Me⟩:=h1 a XA _ n.ha;refine⟨a,ob,bs.map V.ref,rfl,by rw[f1 a XA];exact Me,DenL.ins n.sz λi b p q1 q2=>?_,by simp,by simp;omega⟩;have hm:b∈a::bs:=Xz _ (X7 q1);obtain⟨WY,R0⟩:=h1 b hm _ (n.hb i b p q1 q2);have:=aek (Yh.mp W0 p (X7 q2));exact⟨b,WY,p.2.map λ_=>V.bl true,rfl,by rw[f1 b hm,R0,HM],DenL.trues _,by simp,by simp;omega⟩
 have PB:∀(i:Nat) (c:C),(ρ.set ni (some (.fz (Cg ps))))[i]? ≠some (some (.ow c)):=λi c q=>by
  rcases get_set q with⟨_,z⟩ | ⟨_,q⟩
  ·cases z
  ·have:=Yh.mp n.fz _ (X7 q);cases this
 refine⟨F',H',I',e,⟨fh,λi sl q=>?_⟩,by simp[n.len],λi c b q=>aej q (PB i c),λi j c c' b q=>aej q (PB i c)⟩;rcases get_set q with⟨rfl,z⟩ | ⟨_,q⟩
 ·cases z;exact⟨.ref a,n.near,hd⟩
 ·obtain⟨v,q1,q2⟩:=n.st.den i sl q;refine⟨v,q1,?_⟩;cases sl with
  |fz d=>exact Den.mono ff q2
  |ow c=>have:=Yh.mp n.fz _ (X7 q);cases this
theorem AY{ps:qB}{k:Key}(h:k∈ps.map (·.1)):xg ps k=ps:=by
 unfold xg;rw[aeg (l_.mpr h)]
theorem Hq{ps:qB}{k:Key}(h:k∉ps.map (·.1)):xg ps k=ps++[(k,[])]:=by
 unfold xg;rw[aeh (λz=>h (l_.mp z))]
theorem Hn{ρ:aX}{j:Nat}(h:∀sl,ρ[j]? ≠some (some sl)):ρ.set j none=ρ:=by
 refine acf λi=>?_;by_cases hi:i=j
 ·subst hi;by_cases hl:i<ρ.length
  ·rw[X1 hl];cases q:ρ[i]? with
   |none=>rw[aa2] at q;omega
   |some x=>
    cases x with
    |none=>rfl
    |some sl=>exact aej q (h sl)
  ·rw[aa2.mpr (by simp;omega),aa2.mpr (by omega)]
 ·rw[XQ (YG hi)]
theorem Bz{α:Type}{l:List α}{i:Nat}{d:α}(hd:l[i]? =some d):l.drop i=d::l.drop (i+1):=by
 obtain⟨hi,e⟩:=XI.mp hd;rw[aah hi,e]
theorem ML{ps:qB}{i:Nat}{p:Key×List Key}(ok:xJ ps=true)(h:ps[i]? =some p):p.2.length<lim:=aek (Yh.mp (ZK.mp ok).2 p (X7 h))
theorem Jl{ps:qB}(ok:xJ ps=true):ps.length<lim:=aek (ZK.mp ok).1
section
variable{X:Cx}{Xw:Nat->Hp->Prop}{D':Ends}{tc:DT}{δk δk2:DE}{δj:DA}{u8 aeq G:Hp}{ρ:aX}{ni ci mi oi:Nat}{a b:Addr}{bs:List Addr}{Ci ps:qB}{J:It}{es ds:List D}{σ:St}{F H:Hp}
abbrev Qo(X:Cx)(Xw:Nat->Hp->Prop)(tc:DT)(mi:Nat)(δk:DE):TS:=Qm (Q0 X.K Xw tc) (K7 (lR mi) (tD X.K Xw δk) (tC (.bl true))) La
theorem B3{i:Nat}{k:Key}(eW:oi≠ni)(QQ:oi≠mi)(WM:ρ.set oi none=ρ)(hi:bs[i]? =some b)(it:ItD X.K G J es)
 (fin:∀σ F H,Nr X.K u8 aeq G F H σ ρ ni a bs Ci->(Ci.map (·.1)).Nodup->D'.nx σ H)
 (n:Nr X.K u8 aeq G F H σ ρ ni a bs ps)(kn:(ps.map (·.1)).Nodup)(hm:σ[mi]? =some (some (.ref b)))(hk:∃p,ps[i]? =some p/\p.1=k)(w:lK oi tc δk k ρ es ps=ae Ci):
 ∃W:Nat->Nat->St->Hp->Prop,(∃m,W 0 m σ H)/\∀i m σ H,W i m σ H->(J.stop i H/\D'.nx σ H)\/(J.go i H/\∃N:St->Hp->Prop,(∀σ' H',N σ' H'->∃m',m'<m/\W (i+1) m' σ' H')/\∀x H',J.yld i H x H'->k9 oi x σ H' λσ2 H2=>Qo X Xw tc mi δk {D' with nx:=N,ct:=N,bk:=D'.nx} σ2 H2):=by
 refine⟨λt m σ H=>m=es.length - t/\t<=es.length/\∃F ps,Nr X.K u8 aeq G F H σ ρ ni a bs ps/\(ps.map (·.1)).Nodup/\σ[mi]? =some (some (.ref b))/\(∃p,ps[i]? =some p/\p.1=k)/\lK oi tc δk k ρ (es.drop t) ps=ae Ci,⟨es.length,by simp,Ys _,F,ps,n,kn,hm,hk,by simpa using w⟩,?_⟩;rintro t m σ2 H2 ⟨rfl,Wu,F2,En,n2,ME,HV,QL,w2⟩;by_cases dG:t<es.length
 ·obtain⟨d,hd⟩:∃d,es[t]? =some d:=⟨_,XC dG⟩
  obtain⟨L6,Aj⟩:=(it F2 H2 t n2.gf n2.st.fh).1 d hd;rw[Bz hd] at w2;unfold lK at w2;obtain⟨bv,hb,w3⟩:=d4 w2;have hb:=qo hb;refine .inr ⟨L6,λσ' H'=>∃F' jl,Nr X.K u8 aeq G F' H' σ' ρ ni a bs jl/\(jl.map (·.1)).Nodup/\σ'[mi]? =some (some (.ref b))/\(∃p,jl[i]? =some p/\p.1=k)/\lK oi tc δk k ρ (es.drop (t+1)) jl=ae Ci,
   λσ' H' ⟨F',jl,h⟩=>⟨es.length - (t+1),by omega,rfl,dG,F',jl,h⟩,λx H3 y3=>?_⟩
  obtain⟨F3,BD,q3⟩:=Aj x H3 y3;have n4:=(n2.ext' BD).put eW q3;have RV:(σ2.set oi (some x))[mi]? =some (some (.ref b)):=by rw[XQ QQ];exact HV
  have back:∀{σ':St}{F' H':Hp}{jl:qB},Nr X.K u8 aeq G F' H' σ' (ρ.set oi (some (.fz d))) ni a bs jl->Nr X.K u8 aeq G F' H' σ' ρ ni a bs jl:=λ{σ' F' H' jl} n=>by
   have:=n.fgt0 oi;rw[List.set_set,WM] at this;exact this
  refine⟨F3,ρ.set oi (some (.fz d)),n4.st,?_⟩;rw[hb];intro H5 F5 e5;have n5:=n4.ext' e5;cases bv with
  |false=>exact⟨F5,En,back n5,ME,RV,QL,w3⟩
  |true=>
   obtain⟨kd,IL,w4⟩:=d4 (show (noex (δk (ρ.set oi (some (.fz d))))>>=_)=ae Ci from w3);have IL:=qo IL;refine⟨.ref b,RV,F5,ρ.set oi (some (.fz d)),n5.st,?_⟩;rw[IL];intro v H6 F6 e6 q6;cases hj:rL kd with
   |none=>rw[hj] at w4;exact(eT w4).elim
   |some j=>
    rw[hj] at w4;have w4:(if xJ En then lK oi tc δk k ρ (es.drop (t+1)) (qC En k j) else ag)=ae Ci:=w4;split at w4
    ·rename_i ok;obtain⟨p,hp,rfl⟩:=QL;have n6:=n5.ext' e6;have e1:=iw hj q6;subst e1;have hl:=ML ok hp;have:=dS;refine⟨b,_,rfl,DPut.k (n6.hb i b p hi hp) (by rw[XB];omega),F6,qC En p.1 j,back (n6.add ME hi hp j),by rw[xO];exact ME,RV,?_,w4⟩;refine⟨(if p.1=p.1 then(p.1,if tR p.2 j then p.2 else p.2++[j]) else p),?_,by rw[aeg rfl]⟩;unfold qC;rw[XX,hp];rfl
    ·exact(eT w4).elim
 ·have ht:t=es.length:=by omega
  subst ht;rw[abq] at w2;have:=fw (show ae En=ae Ci from w2);subst this;exact .inl ⟨(it F2 H2 es.length n2.gf n2.st.fh).2 (XM _),fin σ2 F2 H2 n2 ME⟩
abbrev S6(X:Cx)(Xw:Nat->Hp->Prop)(tc:DT)(ni mi oi:Nat)(δk:DE)(δj:DA)(δk2:DE):TS:=Qq (Qi (K_ (lR ni) (tD X.K Xw δk) HD) (k9 mi)) (Ql (UL X.K Xw δj) (k9 oi) (Qo X Xw tc mi δk2))
theorem Ge(Vq:ci≠ni)(QN:mi≠ni)(eW:oi≠ni)(Rz:ci≠mi)(TX:ci≠oi)(QQ:oi≠mi)(ρc:ρ.set ci none=ρ)(ρm:ρ.set mi none=ρ)(ρo:ρ.set oi none=ρ)(QM:mi<ρ.length)(it:ItD X.K G J ds)
 (fin:∀σ F H bs,Nr X.K u8 aeq G F H σ ρ ni a bs Ci->D'.nx σ H)
 (n:Nr X.K u8 aeq G F H σ ρ ni a bs ps)(kn:(ps.map (·.1)).Nodup)(w:gK ci oi δk δj tc δk2 ρ ds ps=ae Ci):
 ∃W:Nat->Nat->St->Hp->Prop,(∃m,W 0 m σ H)/\∀i m σ H,W i m σ H->(J.stop i H/\D'.nx σ H)\/(J.go i H/\∃N:St->Hp->Prop,(∀σ' H',N σ' H'->∃m',m'<m/\W (i+1) m' σ' H')/\∀x H',J.yld i H x H'->k9 ci x σ H' λσ2 H2=>S6 X Xw tc ni mi oi δk δj δk2 {D' with nx:=N,ct:=N,bk:=D'.nx} σ2 H2):=by
 refine⟨λt m σ H=>m=ds.length - t/\t<=ds.length/\∃F ps bs,Nr X.K u8 aeq G F H σ ρ ni a bs ps/\(ps.map (·.1)).Nodup/\gK ci oi δk δj tc δk2 ρ (ds.drop t) ps=ae Ci,⟨ds.length,by simp,Ys _,F,ps,bs,n,kn,by simpa using w⟩,?_⟩;rintro t m σ2 H2 ⟨rfl,Wu,F2,En,Oi,n2,ME,w2⟩;by_cases dG:t<ds.length
 ·obtain⟨d,hd⟩:∃d,ds[t]? =some d:=⟨_,XC dG⟩
  obtain⟨L6,Aj⟩:=(it F2 H2 t n2.gf n2.st.fh).1 d hd;rw[Bz hd] at w2;unfold gK at w2;obtain⟨kd,IL,w3⟩:=d4 w2;have IL:=qo IL;cases hj:rL kd with
  |none=>rw[hj] at w3;exact(eT w3).elim
  |some k=>
  rw[hj] at w3;have w3:(if xJ En then noex (δj (ρ.set ci (some (.fz d))))>>=λes=>lK oi tc δk2 k (ρ.set ci (some (.fz d))) es (xg En k)>>=λjl=>gK ci oi δk δj tc δk2 ρ (ds.drop (t+1)) jl else ag)=ae Ci:=w3;by_cases ok:xJ En=true
  ·rw[aeg ok] at w3;obtain⟨es,IJ,w4⟩:=d4 w3;have IJ:=qo IJ;obtain⟨UC,h3,w5⟩:=d4 w4;refine .inr ⟨L6,λσ' H'=>∃F' jl Lm,Nr X.K u8 aeq G F' H' σ' ρ ni a Lm jl/\(jl.map (·.1)).Nodup/\gK ci oi δk δj tc δk2 ρ (ds.drop (t+1)) jl=ae Ci,
    λσ' H' ⟨F',jl,Lm,h⟩=>⟨ds.length - (t+1),by omega,rfl,dG,F',jl,Lm,h⟩,λx H3 y3=>?_⟩
   obtain⟨F3,BD,q3⟩:=Aj x H3 y3;have n4:=(n2.ext' BD).put Vq q3;generalize Pj:ρ.set ci (some (.fz d))=ρ1 at*;have ρ1m:ρ1.set mi none=ρ1:=by rw[<-Pj,List.set_comm _ _ Rz,ρm]
   have ρ1o:ρ1.set oi none=ρ1:=by rw[<-Pj,List.set_comm _ _ TX,ρo]
   have back:∀{σ':St}{G' F' H':Hp}{Lm:List Addr}{jl:qB},Nr X.K u8 aeq G' F' H' σ' ρ1 ni a Lm jl->Nr X.K u8 aeq G' F' H' σ' ρ ni a Lm jl:=λ{σ' G' F' H' Lm jl} n=>by
    have:=n.fgt0 ci;rw[<-Pj,List.set_set,ρc] at this;exact this
   refine⟨.ref a,n4.near,a,rfl, .inl ⟨_, .inl n4.ha⟩,F3,ρ1,n4.st,?_⟩;rw[IL];intro v H5 F5 e5 q5;have e1:=iw hj q5;subst e1;have n5:=n4.ext' e5;intro p hp;have hsz:=Jl ok;have L9:=dS;refine⟨_,k,(n5.gar hp).ha,rfl,by rw[Z3,XB,XB,n5.sz,adE];omega,λv hv=>?_,λhn=>?_⟩
   ·have hz:=th (ks:=En.map (·.1)) (vs:=Oi.map V.ref) k (by simp[n5.sz]);rw[hv] at hz;obtain⟨i,z1,z2⟩:=hz;obtain⟨pr,We,Wc⟩:=v8 z1;obtain⟨b,hb,rfl⟩:=v8 z2;rw[AY (X7 z1)] at h3;have n7:=(n5.gar hp).put0 QN (.ref b);rw[ρ1m] at n7;refine⟨F5,ρ1,n7.st,?_⟩;rw[IJ];intro J' H8 F8 e8 Su;have n8:=(n7.ext' e8).rg (Same.refl _);have hG:Same G F8:=(n7.ext' e8).gf;exact B3 eW QQ ρ1o hb Su (λσ' F' H' n' Sw=>⟨F',UC,Oi,back (n'.rg (hG.trans n'.gf)),Sw,w5⟩) n8 ME (X1 (by rw[<-n4.len,<-Pj];simpa using QM)) ⟨pr,We,Wc⟩ h3
   ·have hz:=th (ks:=En.map (·.1)) (vs:=Oi.map V.ref) k (by simp[n5.sz]);rw[hn] at hz;rw[Hq hz] at h3;have n7:=(n5.new hp hn).put0 QN (.ref p);rw[ρ1m] at n7;refine⟨F5,ρ1,n7.st,?_⟩;rw[IJ];intro J' H8 F8 e8 Su;have n8:=(n7.ext' e8).rg (Same.refl _);have hG:Same G F8:=(n7.ext' e8).gf;refine B3 (i:=Oi.length) eW QQ ρ1o Z5 Su (λσ' F' H' n' Sw=>⟨F',UC,_,back (n'.rg (hG.trans n'.gf)),Sw,w5⟩) n8 ?_ (X1 (by rw[<-n4.len,<-Pj];simpa using QM)) ⟨(k,[]),by rw[n5.sz];exact Z5,rfl⟩ h3;rw[Yl,YI];exact⟨ME,by simp,λx hx y hy z=>hz (by rw[z] at hx;cases X0.mp hy;exact hx)⟩
  ·rw[aeh ok] at w3;exact(eT w3).elim
 ·have ht:t=ds.length:=by omega
  subst ht;rw[abq] at w2;have:=fw (show ae En=ae Ci from w2);subst this;exact .inl ⟨(it F2 H2 ds.length n2.gf n2.st.fh).2 (XM _),fin σ2 F2 H2 Oi n2⟩
theorem G1{δi:DA}{S_ Ta iter FP k1 k2 test:Expr}{x y:Str}{p q q2 T0 E6 aV p1 p2 p3 p4 p5 p6 p7:Pos}{j0:Nat}(hp:adl (model X.prog X.w) X.A X.env X.xe)(hc:X.calm=true)(hu:X.A.units+64<cLine)
 (hi:zN X Xw S_ iter δi)(Vz:PG X S_ (k9 ci))(hv:PE X (.Name x p) (lR ni))(hk:PD X Xw k1 δk)(m:M2 X (.Name x p) "setdefault" T0 k1 (.Dict [] [] E6) aV)(VD:PG X (.Name y q) (k9 mi))
 (hj:zN X Xw Ta FP δj)(RJ:PG X Ta (k9 oi))(ht:qA X Xw test tc)(WE:PE X (.Name y q2) (lR mi))(QL:PD X Xw k2 δk2)
 (QM:X.N[mi]? =some y:=by rfl)
 (fo:[ni,ci,mi,oi].Nodup:=by decide)
 (hs:∀x,ZU iter X.env x=pure x:=by intro _;rfl)(N0:∀x,ZU FP X.env x=pure x:=by intro _;rfl)
 (WG:acy [.Name y q] (.Call (.Attribute (.Name x p) "setdefault" T0) [k1, .Dict [] [] E6] [] aV) p1.line X.env=pure false:=by rfl)
 (WH:swappedStores [.Name y q] (.Call (.Attribute (.Name x p) "setdefault" T0) [k1, .Dict [] [] E6] [] aV) X.env=pure none:=by rfl)
 (WI:(abx [.Name y q] X.env).map (·.2)=[assign (.Name y q) X.env]:=by rfl)
 (WJ:aa9 (.Constant (.bool true) j0 p3) (some (.Subscript (.Name y q2) k2 p2)) p4.line X.env=pure false:=by rfl):
 iO X Xw (.For S_ iter [.Assign [.Name y q] (.Call (.Attribute (.Name x p) "setdefault" T0) [k1, .Dict [] [] E6] [] aV) p1,
  .For Ta FP [.If test [.Assign [.Subscript (.Name y q2) k2 p2] (.Constant (.bool true) j0 p3) p4] [] p5] [] p6] [] p7) (ze ni ci mi oi δi δk δj tc δk2):=λu8 aeq f8 sh σ H D I ⟨F,ρ,s,w⟩=>by
 have Wf:=AU (pos:=p7) hp hc hi Vz (y0 (ou (pos:=p1) (JF hv hk (yV (pos:=E6)) m) VD WG WH WI) (qt (AU (pos:=p6) hp hc hj RJ (qt (K3 (pos:=p5) ht (qt (Cj (by omega) WE QL (K2 (b:=true) (j:=j0) (pos:=p3)) WJ)) Ck)) N0))) hs;have O3:=fo;simp only[Yz,XF,Yt,or_false,not_or] at O3;obtain⟨⟨n1,n2,n3⟩,⟨n4,n5⟩,n6,_⟩:=O3;unfold ze at w;split at w
 ·rename_i ho;have Mf:=n_ ho;obtain⟨u,TQ,a,o,rfl,Vl,Vm,vs,rfl,Uk,_,_⟩:=s.st.den ni _ Mf;cases (show vs=[] from Uk);have h0:=s.own ni _ a Mf TQ;have s0:=s.fgt [ni,ci,mi,oi];have hlen:(fgt [ni,ci,mi,oi] ρ).length=ρ.length:=by simp[fgt]
  have gn:∀j∈[ni,ci,mi,oi],(fgt [ni,ci,mi,oi] ρ).set j none=fgt [ni,ci,mi,oi] ρ:=λj hj=>Hn λsl q=>by
   have hj:j=ni\/j=ci\/j=mi\/j=oi:=by simpa using hj
   rcases get_set q with⟨_,z⟩ | ⟨h4,q⟩
   ·cases z
   rcases get_set q with⟨_,z⟩ | ⟨h3,q⟩
   ·cases z
   rcases get_set q with⟨_,z⟩ | ⟨h2,q⟩
   ·cases z
   rcases get_set q with⟨_,z⟩ | ⟨h1,q⟩
   ·cases z
   rcases hj with z | z | z | z
   ·exact h1 z
   ·exact h2 z
   ·exact h3 z
   ·exact h4 z
  generalize fgt [ni,ci,mi,oi] ρ=ρ0 at*;split at w
  ·rename_i Vy;rcases gJ (δi ρ0) with q | ⟨ds,q,q'⟩
   ·rw[q] at w;exact w.elim
   rw[q'] at w;have w:WPS X.K Xw u8 aeq (noex (gK ci oi δk δj tc δk2 ρ0 ds [])>>=λps=>if xJ ps then ae (.nx (ρ0.set ni (some (.fz (Cg ps))))) else ag) D:=w;rcases gJ (gK ci oi δk δj tc δk2 ρ0 ds []) with q2 | ⟨ps,q2,W2⟩
   ·rw[q2] at w;exact w.elim
   rw[W2] at w;have w:WPS X.K Xw u8 aeq (if xJ ps then ae (.nx (ρ0.set ni (some (.fz (Cg ps))))) else ag) D:=w;by_cases ok:xJ ps=true
   ·rw[aeg ok] at w;have WW:Nr X.K u8 aeq F F H σ ρ0 ni a [] []:=⟨s0.ext,Same.refl _,s0.st,s0.len,TQ,Vl,λi b p z=>by simp at z,rfl,by simp,λb hb=>by
     cases X0.mp hb;exact⟨Vm,h0⟩,Vy⟩
    have hD:=Wf f8 sh σ H {D with nx:=λσ H=>∃F bs G,Nr X.K u8 aeq G F H σ ρ0 ni a bs ps} I ⟨F,ρ0,s0.st,by
     rw[q];intro J H1 F1 e1 it;have WU:=(WW.ext' e1).rg (Same.refl _);exact Ge (YG n1) (YG n2) (YG n3) n4 n5 (YG n6) (gn ci (by simp)) (gn mi (by simp)) (gn oi (by simp)) (by rw[hlen,s.len,I.len];exact(XI.mp QM).1) it (λσ F H bs n=>⟨F,bs,F1,n⟩) WU (by simp) q2⟩
    refine b_ hD λf s' hq=>?_;cases f with
    |next=>
     obtain⟨σ',H',I',F',bs,G,n⟩:=hq;obtain⟨F2,H2,I2,so⟩:=n.fin I' ok;exact⟨σ',H2,I2,w σ' F2 H2 so⟩
    |brk=>exact hq
    |cont=>exact hq
    |ret u=>exact hq
   ·rw[aeh ok] at w;exact w.elim
  ·exact w.elim
 ·exact w.elim
end
section
variable{X:Cx}{Xw:Nat->Hp->Prop}{a b:Expr}{δa δb:DE}{pos:Pos}
theorem MP(hu:X.A.units+64<cLine):OpR X (YZ .In) (P2 X.K false):=by
 intro f8 s σ H x y v u Q I rx ry h;obtain⟨F,dx,ys,vs,p,r,hs,hx,ex,hd,rfl,hq,q⟩:=h;cases (show u=_ from ry);have Wy:X.A.in1.units+6<cLine:=by show X.A.units+1+6<cLine;omega
 obtain⟨aK,rv,pl,hz⟩:=I.list hq;obtain⟨g,e1,e2⟩:=Ib (A:=X.A.in1) I hs Wy hx rx ex hd rv;refine SeqAt.in_listAt g pl.isList e2 ⟨.bl _,H,I,rfl,?_⟩;rw[e1];exact q
theorem AV(hu:X.A.units+64<cLine)(ha:PD X Xw a δa)(hb:PD X Xw b δb)(hm:YY .In b=false:=by rfl):qA X Xw (.Compare a [.In] [b] pos) (cf (d2 (l8 false) δa δb)):=kM (MP hu) Mm ha hb hm
end
end L3
namespace L3
open PySem PySem.SetTable
def tM(m:Nat):YS:={mask:=m,place:= #[],dummies:= #[],finger:=0,led:=false,moves:=0,plain:=true}
theorem Kf(t:YS):∀(n:Nat) (p:Probe),nB t n p=nB (tM t.mask) n p
 |0,_=>rfl
 |n+1,p=>Kf t n _
def pos(m:Nat)(h:Int)(n:Nat):Nat:=(nB (tM m) n ((tM m).probeStart h)).j
theorem Cf(t:YS)(h:Int)(n:Nat):(nB t n (t.probeStart h)).j=pos t.mask h n:=by rw[Kf];rfl
def RchZ(m:Nat)(Z:List (Nat×Int)):Prop:=∀x∈Z,∃n,n<10*turns m/\pos m x.2 n=x.1/\∀n',n'<n->∃h',(pos m x.2 n',h')∈Z
def t5(t:YS)(es:Array (Int×Value)):List (Nat×Int):=t.place.toList.zip (es.toList.map (·.1))
theorem slot_of{t:YS}(hs:t.place.toList.Pairwise (· < ·)){i j:Nat}(h:t.place[i]? =some j):t.slot j= .live i:=by
 obtain⟨hi,e⟩:=YC.mp h;obtain⟨h1,h2,h3⟩:=lX hs j;have a1:below t.place j<=i:=by
  apply YK;intro z;have:=h2 i hi (by omega);omega
 have a2:below t.place j=i:=by
  apply YK;intro z;have hb:below t.place j<t.place.size:=by omega
  have m1:=h3 _ hb (XM _);have m2:=YL.mp hs (below t.place j) i (by simpa using hb) (by simpa using hi) (by omega);have m2:t.place[below t.place j]<t.place[i]:=by simpa using m2
  omega
 unfold slot
 dsimp only
 rw[a2,h,beq_self_eq_true,aeg rfl]
theorem yJ{t:YS}{es:Array (Int×Value)}(hs:t.place.toList.Pairwise (· < ·)){j:Nat}{h:Int}(hx:(j,h)∈t5 t es):∃i e,t.slot j= .live i/\es[i]? =some e/\e.1=h:=by
 obtain⟨i,hi,e⟩:=YM.mp hx;unfold t5 at hi e;rw[Z3,XB,XG,XG] at hi;rw[acv,aan] at e;have h1:i<t.place.size:=by omega
 have h2:i<es.size:=by omega
 refine⟨i,es[i],slot_of hs ?_,XU h2,?_⟩
 ·rw[XU h1];exact aeo some (by simpa using e.1)
 ·simpa using e.2
theorem Ht{t:YS}{es:Array (Int×Value)}(hd:t.dummies= #[])(hz:t.place.size=es.size){j:Nat}(h:t.slot j≠ .empty):∃x,(j,x)∈t5 t es:=by
 cases hs:t.slot j with
 |empty=>exact aej hs h
 |dummy=>exact aej hs (gh hd j)
 |live i=>
  obtain⟨hi,e⟩:=YC.mp (kP hs);have h2:i<es.size:=by omega
  refine⟨es[i].1,YM.mpr ⟨i,by unfold t5;rw[Z3,XB,XG,XG];omega,?_⟩⟩;unfold t5;rw[acv,aan];exact⟨by simpa using e,by simp⟩
theorem Fo{t:YS}{hashAt:Nat->Int}{h:Int}(hd:∀j,t.slot j≠ .dummy)(hh:∀j i,t.slot j= .live i->(hashAt i==h)=false):
 ∀(n fuel:Nat) (p:Probe),n<fuel->p.dummy=none->t.slot (nB t n p).j= .empty->∃n0,n0<=n/\probe.go t hashAt h fuel p=some (.empty (nB t n0 p).j none)/\t.slot (nB t n0 p).j= .empty/\∀n',n'<n0->t.slot (nB t n' p).j≠ .empty
 |n,0,p,hn,_,_=>aej hn (by omega)
 |n,fuel+1,p,hn,hp,he=>by
  unfold probe.go;cases hs:t.slot p.j with
  |empty=>exact⟨0,Ys _,by rw[hp];rfl,hs,λn' h'=>aej h' (by omega)⟩
  |dummy=>exact aej hs (hd _)
  |live i=>
   dsimp only
   rw[hh p.j i hs];cases n with
   |zero=>rw[show (nB t 0 p).j=p.j from rfl,hs] at he;cases he
   |succ n=>
    obtain⟨n0,a1,a2,a3,a4⟩:=Fo hd hh n fuel (t.advance p) (by omega) (by rw[uj];exact hp) he;refine⟨n0+1,by omega,by simp only[X4,if_false];exact a2,a3,λn' h'=>?_⟩;cases n' with
    |zero=>intro z;rw[show (nB t 0 p).j=p.j from rfl,hs] at z;cases z
    |succ n'=>exact a4 n' (by omega)
theorem Fp{t:YS}{hashAt:Nat->Int}{h:Int}(hd:∀j,t.slot j≠ .dummy):
 ∀(n fuel:Nat) (p:Probe),n<fuel->(∀n',n'<n->t.slot (nB t n' p).j≠ .empty)->(∃i,t.slot (nB t n p).j= .live i/\hashAt i=h)->∃j i nx,probe.go t hashAt h fuel p=some (.candidate j i nx)/\t.slot j= .live i/\hashAt i=h
 |n,0,p,hn,_,_=>aej hn (by omega)
 |n,fuel+1,p,hn,hp,he=>by
  unfold probe.go;cases hs:t.slot p.j with
  |empty=>
   cases n with
   |zero=>obtain⟨i,e,_⟩:=he;rw[show (nB t 0 p).j=p.j from rfl,hs] at e;cases e
   |succ n=>exact aej hs (hp 0 (by omega))
  |dummy=>exact aej hs (hd _)
  |live i=>
   dsimp only
   by_cases hi:hashAt i=h
   ·exact⟨p.j,i,_,by rw[aeg (by rw[hi];exact beq_self_eq_true _)],hs,hi⟩
   ·rw[aeh (by simpa using hi)];cases n with
    |zero=>
     obtain⟨i',e,e'⟩:=he;rw[show (nB t 0 p).j=p.j from rfl,hs] at e;cases e;exact aej e' hi
    |succ n=>exact Fp hd n fuel (t.advance p) (by omega) (λn' h'=>hp (n'+1) (by omega)) he
theorem DR{t:YS}{es:Array (Int×Value)}{hashAt:Nat->Int}{h:Int}(hm:HN t.mask)(hd:t.dummies= #[])(hz:t.place.size=es.size)(hp:t.place.size<=t.mask)(hh:∀i,i<t.place.size->(hashAt i==h)=false):
 ∃j,t.probe hashAt h (t.probeStart h)=some (.empty j none)/\t.slot j= .empty/\∃n,n<10*turns t.mask/\pos t.mask h n=j/\∀n',n'<n->∃x,(pos t.mask h n',x)∈t5 t es:=by
 obtain⟨j,hj,he⟩:=A0 hd hp;obtain⟨k,hk,e⟩:=reach hm (Bp h) hj;obtain⟨n,hn,ea⟩:=Ex (t:=t) (h:=h) k;obtain⟨n0,a1,a2,a3,a4⟩:=Fo (t:=t) (hashAt:=hashAt) (h:=h) (gh hd) (λj i hs=>hh i (YC.mp (kP hs)).1) n (10*turns t.mask) (t.probeStart h) (by unfold turns;omega) rfl (by rw[ea];show t.slot (iK t.mask (bits h) k).1=_;rw[e];exact he);refine⟨_,a2,a3,n0,by unfold turns;omega,(Cf t h n0).symm,λn' h'=>Ht hd hz ?_⟩;rw[<-Cf];exact a4 n' h'
theorem DU{t:YS}{es:Array (Int×Value)}{h:Int}(hd:t.dummies= #[])(hz:t.place.size=es.size)(hs:t.place.toList.Pairwise (· < ·))(hr:RchZ t.mask (t5 t es)){j0:Nat}(hx:(j0,h)∈t5 t es):
 ∃j i nx,t.probe (λi=>(es[i]?.map (·.1)).getD 0) h (t.probeStart h)=some (.candidate j i nx)/\∃e,es[i]? =some e/\e.1=h:=by
 obtain⟨n,a1,a2,a3⟩:=hr _ hx;obtain⟨i0,e0,b1,b2,b3⟩:=yJ hs hx;have ne:∀n',n'<n->t.slot (nB t n' (t.probeStart h)).j≠ .empty:=λn' h'=>by
  obtain⟨x,Df⟩:=a3 n' h';obtain⟨i,e,c1,_⟩:=yJ hs Df;rw[Cf,c1];exact λz=>by cases z
 obtain⟨j,i,nx,c1,c2,c3⟩:=Fp (t:=t) (hashAt:=λi=>(es[i]?.map (·.1)).getD 0) (h:=h) (gh hd) n (10*turns t.mask) (t.probeStart h) a1 ne ⟨i0,by rw[Cf];exact(show pos t.mask h n=j0 from a2)▸b1,by show (es[i0]?.map (·.1)).getD 0=h;rw[b2];exact b3⟩;have hi:i<es.size:=hz▸(YC.mp (kP c2)).1;refine⟨j,i,nx,c1,es[i],XU hi,?_⟩;have c3:(es[i]?.map (·.1)).getD 0=h:=c3;rw[XU hi] at c3;exact c3
theorem RchZ.put{m:Nat}{Z Z':List (Nat×Int)}{j:Nat}{h:Int}(r:RchZ m Z)(hz:∀x,x∈Z'↔x=(j,h)\/x∈Z)(hn:∃n,n<10*turns m/\pos m h n=j/\∀n',n'<n->∃x,(pos m h n',x)∈Z):RchZ m Z':=λx hx=>by
 rcases(hz x).mp hx with rfl | hx
 ·obtain⟨n,a1,a2,a3⟩:=hn;exact⟨n,a1,a2,λn' h'=>let ⟨y,hy⟩:=a3 n' h';⟨y,(hz _).mpr (.inr hy)⟩⟩
 ·obtain⟨n,a1,a2,a3⟩:=r x hx;exact⟨n,a1,a2,λn' h'=>let ⟨y,hy⟩:=a3 n' h';⟨y,(hz _).mpr (.inr hy)⟩⟩
theorem Jj{t t':YS}{es:Array (Int×Value)}{p j:Nat}{e:Int×Value}(hz:t.place.size=es.size)(h:t'.place=insertAt t.place p j)(x:Nat×Int):x∈t5 t' (insertAt es p e)↔x=(j,e.1)\/x∈t5 t es:=by
 unfold t5;rw[h,toList_insertAt,toList_insertAt,Yl,XN,List.map_take,List.map_drop];have hl:t.place.toList.length=(es.toList.map (·.1)).length:=by rw[XB,XG,XG,hz]
 generalize t.place.toList=a at hl;generalize es.toList.map (·.1)=b at hl;have Ag:(a.take p).length=(b.take p).length:=by rw[abp,abp,hl]
 have e2:a.zip b=(a.take p).zip (b.take p)++(a.drop p).zip (b.drop p):=by
  rw[<-aar Ag,aaI,aaI]
 rw[aar Ag,Y6,e2];simp only[Yk,XF];constructor
 ·rintro(h | h | h)
  ·exact .inr (.inl h)
  ·exact .inl h
  ·exact .inr (.inr h)
 ·rintro(h | h | h)
  ·exact .inr (.inl h)
  ·exact .inl h
  ·exact .inr (.inr h)
def Lf(m:Nat)(o:Array (Option Nat))(x:Nat):Prop:=∃k,o.getD x none=some k
theorem Gv{m:Nat}{o:Array (Option Nat)}{x:Nat}(hs:o.size=m+1)(hx:x<m+1)(h:¬(o.getD x (some 0)).isNone=true):Lf m o x:=by
 rw[XZ,XU (by omega),abg] at h;unfold Lf;rw[XZ,XU (by omega),abg];cases e:o[x] with
 |none=>rw[e] at h;exact aej rfl h
 |some k=>exact⟨k,rfl⟩
theorem D1{m i:Nat}(h:i<m+1):runEnd m i<m+1:=by
 unfold runEnd;split<;>omega
theorem AS{m:Nat}{h:Int}{n0 k q:Nat}(e:nB (tM m) n0 ((tM m).probeStart h)=sK m h k)(hq:q<=runEnd m (iK m (bits h) k).1 - (iK m (bits h) k).1):pos m h (n0+q)=(iK m (bits h) k).1+q:=by
 unfold pos;rw[lU,e,zP (tM m) q (sK m h k) hq];rfl
theorem uE{m:Nat}{o:Array (Option Nat)}(hs:o.size=m+1){h:Int}{j:Nat}:∀(fuel k n0:Nat),layClean.free m o fuel (iK m (bits h) k).1 (iK m (bits h) k).2=some j->n0<=10*k->nB (tM m) n0 ((tM m).probeStart h)=sK m h k->(∀n',n'<n0->Lf m o (pos m h n'))->
 (o.getD j (some 0)).isNone=true/\∃n1,n1<10*(k+fuel)/\pos m h n1=j/\∀n',n'<n1->Lf m o (pos m h n')
 |0,k,n0,e,_,_,_=>by unfold layClean.free at e;cases e
 |fuel+1,k,n0,e,h0,ha,ho=>by
  have dG:=KH m (bits h) k;have Xu:=D1 dG;have h9:=Hh m (iK m (bits h) k).1;unfold layClean.free at e;cases hf:(Yg (runEnd m (iK m (bits h) k).1+1 - (iK m (bits h) k).1)).find? λq=>(o.getD ((iK m (bits h) k).1+q) (some 0)).isNone with
  |some q=>
   rw[hf] at e;have e:(iK m (bits h) k).1+q=j:=Yn e;obtain⟨b1,b2,b3⟩:=List.find?_range_eq_some.mp hf;have b2:=Y3.mp b2;refine⟨e▸b1,n0+q,by omega,by rw[AS ha (by omega)];exact e,λn' h'=>?_⟩;by_cases hn:n'<n0
   ·exact ho n' hn
   ·obtain⟨q',rfl⟩:∃q',n'=n0+q':=⟨n' - n0,by omega⟩
    rw[AS ha (by omega)];refine Gv hs (by omega) ?_;have:=b3 q' (by omega);intro z;rw[z] at this;cases this
  |none=>
   rw[hf] at e;have jk:=ab4.mp hf;have:=uE hs fuel (k+1) (n0+((sK m h k).more+1)) e (by show n0+(runEnd m (iK m (bits h) k).1 - (iK m (bits h) k).1+1)<=_;omega) (by rw[lU,ha];exact xP (t:=tM m)) λn' h'=>by
    by_cases hn:n'<n0
    ·exact ho n' hn
    ·obtain⟨q',rfl⟩:∃q',n'=n0+q':=⟨n' - n0,by omega⟩
     have h':n0+q'<n0+(runEnd m (iK m (bits h) k).1 - (iK m (bits h) k).1+1):=h';rw[AS ha (by omega)];have VC:(iK m (bits h) k).1<=runEnd m (iK m (bits h) k).1:=by unfold runEnd;split<;>omega
     exact Gv hs (by omega) (jk q' (Y3.mpr (by omega)))
   obtain⟨c0,n1,c1,c2⟩:=this;exact⟨c0,n1,by omega,c2⟩
def qz(m:Nat)(hs:List Int)(o:Array (Option Nat)):Prop:=∀j k,o.getD j none=some k->∃h,hs[k]? =some h/\∃n,n<10*turns m/\pos m h n=j/\∀n',n'<n->Lf m o (pos m h n')
theorem Jd{m:Nat}{o:Array (Option Nat)}{hs:List Int}{h:Int}{j:Nat}(hz:o.size=m+1)(L:qz m hs o)(e:layClean.free m o (turns m) (bits h % (m+1)) (bits h)=some j):qz m (hs++[h]) (o.setIfInBounds j (some hs.length)):=by
 obtain⟨h0,n1,a1,a2,a3⟩:=uE hz (turns m) 0 0 e (XM _) rfl λn' h'=>aej h' (by omega);obtain⟨dG,C5⟩:=rF h0;have self:(o.setIfInBounds j (some hs.length)).getD j none=some hs.length:=by rw[XZ,abB dG];rfl
 have HY:∀x,x≠j->(o.setIfInBounds j (some hs.length)).getD x none=o.getD x none:=λx hx=>by
  rw[XZ,XZ,ab9 (λz=>hx z.symm)]
 have mono:∀x,Lf m o x->Lf m (o.setIfInBounds j (some hs.length)) x:=λx ⟨k,hk⟩=>by
  by_cases hx:x=j
  ·subst hx;exact⟨_,self⟩
  ·exact⟨k,(HY x hx).trans hk⟩
 intro x k hk;by_cases hx:x=j
 ·subst hx;rw[self] at hk;cases hk;exact⟨h,by simp,n1,by omega,a2,λn' h'=>mono _ (a3 n' h')⟩
 ·rw[HY x hx] at hk;obtain⟨h',b1,n,b2,b3,b4⟩:=L x k hk;exact⟨h',by rw[Ym (XI.mp b1).1];exact b1,n,b2,b3,λn' h'=>mono _ (b4 n' h')⟩
theorem uC{α β:Type}(f:Option α->β->Option α)(hf:∀b,f none b=none):∀l:List β,l.foldl f none=none
 |[]=>rfl
 |b::l=>by rw[ZL,hf];exact uC f hf l
theorem BX{m:Nat}:∀(W1 pre:List Int) (o:Array (Option Nat)) (r:Array (Option Nat)×Nat),(W1.foldl (init:=some (o,pre.length)) λv4 h=>do
 let (owner,k)<-v4
 let j<-layClean.free m owner (turns m) (bits h % (m+1)) (bits h)
 pure (owner.setIfInBounds j (some k),k+1))=some r->o.size=m+1->qz m pre o->qz m (pre++W1) r.1/\r.1.size=m+1
 |[],pre,o,r,e,hz,L=>by
  cases e;rw[YF];exact⟨L,hz⟩
 |h::W1,pre,o,r,e,hz,L=>by
  rw[ZL] at e;cases ej:layClean.free m o (turns m) (bits h % (m+1)) (bits h) with
  |none=>
   have e':(some (o,pre.length)>>=λx:Array (Option Nat)×Nat=>layClean.free m x.1 (turns m) (bits h % (m+1)) (bits h)>>=λj=>pure (x.1.setIfInBounds j (some x.2),x.2+1))=none:=by
    show (layClean.free m o (turns m) (bits h % (m+1)) (bits h)>>=_)=none;rw[ej];rfl
   erw [e',uC _ (λ_=>rfl)] at e
   cases e
  |some j=>
   have e':(some (o,pre.length)>>=λx:Array (Option Nat)×Nat=>layClean.free m x.1 (turns m) (bits h % (m+1)) (bits h)>>=λj=>pure (x.1.setIfInBounds j (some x.2),x.2+1))=some (o.setIfInBounds j (some pre.length),(pre++[h]).length):=by
    show (layClean.free m o (turns m) (bits h % (m+1)) (bits h)>>=_)=_;rw[ej,XR];rfl
   erw [e'] at e
   have:=BX W1 (pre++[h]) _ r e (by rw[ac0];exact hz) (Jd hz L ej);rw[Zb] at this;exact this
theorem F0{m f mv:Nat}{led pl:Bool}{hs:Array Int}{t:YS}{order:Array Nat}(e:laid m f mv led pl hs=some (t,order)):
 ∃live:List (Nat×Nat),t.place.toList=live.map (·.1)/\order.toList=live.map (·.2)/\∀x∈live,∃h,hs[x.2]? =some h/\∃n,n<10*turns m/\pos m h n=x.1/\∀n',n'<n->∃k',(pos m h n',k')∈live:=by
 unfold laid at e;cases eo:layClean m hs with
 |none=>rw[eo] at e;cases e
 |some o=>
  rw[eo] at e;have e:=Yn e;rw[aan] at e;obtain⟨e1,e2⟩:=e;have L:qz m hs.toList o/\o.size=m+1:=by
   unfold layClean at eo;rw[<-adU] at eo;obtain⟨r,hr,er⟩:=aaw.mp eo;have:=BX hs.toList [] (acF (m+1) none) r hr (by simp) λj k hk=>by
    rw[XZ,ac1] at hk;split at hk<;>cases hk
   rw[Yq,er] at this;exact this
  refine⟨_,by rw[<-e1],by rw[<-e2],λx hx=>?_⟩;obtain⟨j,hj,ej⟩:=aas.mp hx;obtain⟨k,hk,ek⟩:=aaw.mp ej;subst ek;obtain⟨h,a1,n,a2,a3,a4⟩:=L.1 j k hk;refine⟨h,by rw[<-YT];exact a1,n,a2,a3,λn' h'=>?_⟩;obtain⟨k',pZ⟩:=a4 n' h';refine⟨k',aas.mpr ⟨pos m h n',Y3.mpr ?_,by rw[pZ];rfl⟩⟩;have:pos m h n'<o.size:=by
   apply YK;intro z;rw[XZ,aaB (by omega)] at pZ;cases pZ
  omega
def SetR(ld:Bool)(h:Heap)(a:Addr)(xs:List (Int×Value)):Prop:=∃o es ep t,h.get? a=some o/\o.ExactSet/\o.data= .set es ep t/\es.toList.Perm xs/\TabOk t es.size ld/\RchZ t.mask (t5 t es)
theorem SetR.set{ld:Bool}{h:Heap}{a:Addr}{xs:List (Int×Value)}:SetR ld h a xs->Ep ld h a xs:=λ⟨o,es,ep,t,a1,a2,a3,a4,a5,_⟩=>⟨o,es,ep,t,a1,a2,a3,a4,a5⟩
theorem SetR.at{ld:Bool}{h h':Heap}{a:Addr}{xs:List (Int×Value)}(x:SetR ld h a xs)(e:∀o,h.get? a=some o->h'.get? a=some o):SetR ld h' a xs:=
 let ⟨o,es,ep,t,ho,r⟩:=x
 ⟨o,es,ep,t,e o ho,r⟩
theorem FZ{m f mv:Nat}{led pl:Bool}{es:Array (Int×Value)}{t:YS}{order:Array Nat}(e:laid m f mv led pl (es.map (·.1))=some (t,order)):RchZ m (t5 t (order.filterMap (es[·]?))):=by
 obtain⟨live,h1,h2,h3⟩:=F0 e;have key:∀l:List (Nat×Nat),(∀x∈l,x.2<es.size)->(l.map (·.1)).zip (((l.map (·.2)).filterMap (es[·]?)).map (·.1))=l.map λx=>(x.1,(es.getD x.2 (0, .none)).1):=by
  intro l;induction l with
  |nil=>exact λ_=>rfl
  |cons x l ih=>
   intro h;have hx:=h x (XA ..);have eg:es[x.2]? =some es[x.2]:=XU hx;rw[XN,XN,Zh (f:=λi=>es[i]?) eg,XN,Y6,ih λy hy=>h y (Xz _ hy),XN,XZ,eg];rfl
 have jG:∀x∈live,x.2<es.size:=λx hx=>by
  obtain⟨h,a,_⟩:=h3 x hx;simpa using (YC.mp a).1
 have eo:t5 t (order.filterMap (es[·]?))=live.map λx=>(x.1,(es.getD x.2 (0, .none)).1):=by
  unfold t5;rw[ac_,h1,h2];exact key live jG
 rw[eo];intro y hy;obtain⟨x,hx,rfl⟩:=XS.mp hy;obtain⟨h,a,n,b1,b2,b3⟩:=h3 x hx;have eh:(es.getD x.2 (0, .none)).1=h:=by
  rw[Array.getElem?_map,XU (jG x hx)] at a;rw[XZ,XU (jG x hx)];exact Yn a
 rw[eh];exact⟨n,b1,b2,λn' h'=>let ⟨k',pZ⟩:=b3 n' h';⟨_,XS.mpr ⟨_,pZ,rfl⟩⟩⟩
section
variable{prog:Yd}{w:World}{A:Yy}{E:Value->XD->Prop}{s:XD}
theorem pJ{ks:List Int}{b:Addr}{Q:Bool->XD->Prop}(hk:ZV (Zy prog w) s.heap ks b)(h:Q false s):wpAny (model prog w) A (acP 8 (.ref b)) Q E s:=by
 have hT:=hk.typeIs;obtain⟨o,items,n,ho,_,hd,hi⟩:=hk;unfold acP;refine Xy (wpAny_typeOf hT ?_)
 dsimp only
 rw[aeg (by decide)];refine Xy (XE ?_);simp only[ZQ,X4,if_false];refine Xy (wpAny_seqItems ho hd ?_)
 dsimp only
 refine Xy ?_;show wpAny _ _ (forIn items _ _) _ _ s;rw[<-abX];refine aaU _ (λW1 r s'=>r.1=none/\s'=s/\∃ks',ItemsAre (Zy prog w) ks' W1) _ ?_ ?_ _ _ ⟨rfl,rfl,ks,hi⟩
 ·rintro v W1 r s' ⟨hr,rfl,ks',hl⟩;cases hl with
  | @cons k v Sx vs h1 h2=>
    have hv:acP 7 v=pure false:=by
     cases v<;>first | rfl | (exact aej h1 (by simp[Zy,acA]))
    rw[hv];refine Xy (XE ?_);simp only[X4,if_false];exact XE ⟨rfl,rfl,_,h2⟩
 ·rintro⟨r1,r2⟩ s' ⟨hr,rfl,_⟩;simp only at hr;subst hr;exact XE h
theorem wR{ks:List Int}{b c:Addr}{l:List Value}{Q:Bool->XD->Prop}(hb:ZV (Zy prog w) s.heap ks b)(hc:ZV (Zy prog w) s.heap ks c)(hl:∀v∈l,v= .ref c)(h:Q false s):wpAny (model prog w) A (searchCouldBeSeen (.ref b) l) Q E s:=by
 unfold searchCouldBeSeen;refine Xy ?_;refine aaU _ (λW1 r s'=>r.1=none/\s'=s/\∀v∈W1,v= .ref c) _ ?_ ?_ _ _ ⟨rfl,rfl,hl⟩
 ·rintro v W1 r s' ⟨hr,rfl,jk⟩;obtain rfl:=jk v XA;have Kw:∀v∈W1,v= .ref c:=λu hu=>jk u (Xz _ hu)
  dsimp only
  refine ZS (λ_=>XE ⟨rfl,rfl,Kw⟩) λ_=>?_;refine Xy (wpAny_eqIsQuiet_tuple hb ?_);simp only[ZQ,X4,if_false];refine Xy (wpAny_eqIsQuiet_tuple hc ?_);simp only[ZQ,X4,if_false];refine Xy (pJ hb ?_);simp only[X4,if_false];refine Xy (pJ hc ?_);simp only[X4,if_false];exact XE ⟨rfl,rfl,Kw⟩
 ·rintro⟨r1,r2⟩ s' ⟨hr,rfl,_⟩;simp only at hr;subst hr;exact XE h
theorem oH{a b c:Addr}{ks:List Int}{hk:Int}{ld:Bool}{xs:List (Int×Value)}{Q:Bool->XD->Prop}(hu:A.units<cLine)(hb:ZV (Zy prog w) s.heap ks b)(hc:ZV (Zy prog w) s.heap ks c)(hS:SetR ld s.heap a xs)(jG:(hk, .ref c)∈xs)(R_:∀e∈xs,e.1=hk->e=(hk, .ref c))
 (h:Q false s):wpAny (model prog w) A (acX a (.ref b) hk) Q E s:=by
 obtain⟨o,es,ep,t,ho,hex,hd,hp,ht,hr⟩:=hS;have hf:=ht.fits;have KD:∀e∈es.toList,e.1=hk->e=(hk, .ref c):=λe he=>R_ e (hp.mem_iff.mp he);obtain⟨i0,T5,e0⟩:=YM.mp (hp.mem_iff.mpr jG);have R1:∃j0,(j0,hk)∈t5 t es:=by
  rw[XG] at T5;have h1:i0<t.place.size:=by rw[ht.size];exact T5
  refine⟨t.place[i0],YM.mpr ⟨i0,by unfold t5;rw[Z3,XB,XG,XG];omega,?_⟩⟩;unfold t5;rw[acv,aan];refine⟨by simp,?_⟩;rw[aai,e0]
 obtain⟨j0,RQ⟩:=R1;obtain⟨j,i,nx,ej,e,NV,OR⟩:=DU ht.dum ht.size ht.rise hr RQ;have RW:e∈es.toList:=by
  rw[<-YT] at NV;exact X7 NV
 have Vu:=KD e RW OR;subst Vu;have RK:t.gaveWay=false:=by
  unfold adA;rcases ht.msk with e | e | e<;>rw[e]<;>rfl
 unfold acX setAddHashedIn;refine Zg (Xy (YX ho hd hf ?_))
 dsimp only
 have Rw:byScan (.ref b) es=false:=rfl;rw[Rw];simp only[X4,↓reduceIte];unfold setSearch setSearchFrom;refine Xy (Xy (YX ho hd hf ?_))
 dsimp only
 rw[RK];simp only[X4,↓reduceIte];refine Xy (XE ?_);split
 ·rename_i met heq;have e:met= .candidate j i nx:=Yn (heq.symm.trans ej);subst e
  dsimp only
  rw[NV]
  dsimp only
  have OO:decide (ks=ks)=true:=aei rfl;refine ZS (λ_=>?_) λ_=>?_
  ·refine Xy (wR hb hc (λv hv=>?_) ?_)
   ·obtain⟨e,he,rfl⟩:=XS.mp hv;rw[adJ] at he;obtain⟨OR,QK⟩:=YA.mp he;rw[KD e OR (ade QK)]
   ·rw[aeh (by decide)];refine Xy (Zg (wpAny_eqBool_tuple hu hc hb ?_));rw[OO];refine Xy (YX ho hd hf ?_);exact XE (XE h)
  ·refine Xy (Zg (wpAny_eqBool_tuple hu hc hb ?_));rw[OO];refine Xy (YX ho hd hf ?_);exact XE (XE h)
 ·rename_i rp;exact aej ej (rp _)
theorem sU{a b:Addr}{hk:Int}{o:Obj}{es:Array (Int×Value)}{ep:Nat}{t:YS}{Q:SetFound->XD->Prop}(ho:s.heap.get? a=some o)(hd:o.data= .set es ep t){ld:Bool}(ht:TabOk t es.size ld)(vM:∀e∈es.toList,e.1≠hk)
 (h:∀j,t.slot j= .empty->(∃n,n<10*turns t.mask/\pos t.mask hk n=j/\∀n',n'<n->∃x,(pos t.mask hk n',x)∈t5 t es)->Q (.free j false) s):wpAny (model prog w) A (setSearch a (.ref b) hk true) Q E s:=by
 have hf:=ht.fits;obtain⟨hm,kX,RE,h5,_,_,_⟩:=ht;have RK:t.gaveWay=false:=by
  unfold adA;rcases hm with e | e | e<;>rw[e]<;>rfl
 obtain⟨j,ej,hj,FF⟩:=DR (t:=t) (es:=es) (hashAt:=λi=>(es[i]?.map (·.1)).getD 0) (h:=hk) hm RE kX (by omega) λi hi=>by
  rw[XU (by omega)];refine aen.mpr λz=>vM (es[i]'(by omega)) (by rw[<-Array.getElem_toList];exact ZC _) z
 unfold setSearch setSearchFrom;refine Xy (YX ho hd hf ?_)
 dsimp only
 rw[RK];simp only[X4,↓reduceIte];refine Xy (XE ?_);split
 ·rename_i met heq;have e:met= .empty j none:=Yn (heq.symm.trans ej);subst e;exact XE (h j hj FF)
 ·rename_i rp;exact aej ej (rp _)
theorem xf{a:Addr}{o:Obj}{es:Array (Int×Value)}{ep n:Nat}{t:YS}{Q:Unit->XD->Prop}(ho:s.heap.get? a=some o)(hex:o.ExactSet)(hd:o.data= .set es ep t)(hf:t.fits es.size=true)(Sb:t.plain=true)(hm:HN (sizeAbove n - 1))(h5:5*es.size<3*(sizeAbove n - 1))
 (h:∀h',Ze a s.heap h'->SetR t.led h' a es.toList->Q () {s with heap:=h'}):wpAny (model prog w) A (setRelay a n) Q E s:=by
 obtain⟨t',order,e1,e2,e3,e4,e5,e6,e7,e8⟩:=Jc (m:=sizeAbove n - 1) (f:=t.finger) (mv:=t.movedTo (sizeAbove n - 1)) (led:=t.led) (pl:=t.plain) hm (hs:=es.map (·.1)) (by rw[Array.size_map];omega);rw[Array.size_map] at e4 e5;have BP:(order.filterMap (es[·]?)).toList.Perm es.toList:=by
  rw[ac_];have:=e5.filterMap (λi=>es[i]?)
  rwa [filterMap_getElem?_range] at this
 have hsz:(order.filterMap (es[·]?)).size=es.size:=by rw[<-XG,BP.length_eq,XG]
 have Sd:RchZ t'.mask (t5 t' (order.filterMap (es[·]?))):=by rw[e2];exact FZ e1
 have Vo:sizeAbove n<=128:=by rcases hm with e | e | e<;>omega
 unfold setRelay;refine Xy (YX ho hd hf ?_)
 dsimp only
 rw[aeh (by rw[Zx];omega)];have hr:t.relaid (es.map (·.1)) n=some (t',order):=e1;rw[hr];refine Xy (aci (a:=(order.filterMap (es[·]?),t')) ?_ ?_)
 ·show (if ((order.filterMap (es[·]?)).size !=es.size)=true then(do (unsupported "internal:set-table-lost-an-element":Sem PUnit);pure (order.filterMap (es[·]?),t')) else pure (order.filterMap (es[·]?),t'))=_;rw[hsz,bne_self_eq_false];rfl
 ·dsimp only
  refine wpAny_storeSet_of ho hd (h _ (Yo ..) ?_) (by rw[hsz,Zx];rcases hm with e | e | e<;>omega);have hg:(s.heap.update a (acm (order.filterMap (es[·]?)) t')).get? a=some {o with data:= .set (order.filterMap (es[·]?)) (ep+1) t'}:=by
   have:=Y2 (acm (order.filterMap (es[·]?)) t') ho (by rw[putSet_of _ t' hd];rfl);rw[putSet_of _ t' hd] at this;exact this
  exact⟨_,_,ep+1,t',hg,hex,rfl,BP,⟨by rw[e2];exact hm,by rw[hsz];exact e4,e3,by rw[hsz,e2];exact h5,e6.trans Sb,e7,e8⟩,Sd⟩
theorem m9{a b:Addr}{ks:List Int}{hk:Int}{ld:Bool}{xs:List (Int×Value)}{Q:Bool->XD->Prop}(C8:ZV (Zy prog w) s.heap ks b)(hS:SetR ld s.heap a xs)(vM:hk∉xs.map (·.1))(hl:xs.length<64)
 (h:∀h',Ze a s.heap h'->SetR ld h' a (xs++[(hk, .ref b)])->Q true {s with heap:=h'}):wpAny (model prog w) A (acX a (.ref b) hk) Q E s:=by
 obtain⟨o,es,ep,t,ho,hex,hd,hp,ht,Wh⟩:=hS;have hf:=ht.fits;have hsz:es.size=xs.length:=by rw[<-XG,hp.length_eq]
 unfold acX setAddHashedIn;refine Zg (Xy (YX ho hd hf ?_))
 dsimp only
 have Rw:byScan (.ref b) es=false:=rfl;rw[Rw];simp only[X4,↓reduceIte];refine Xy (sU ho hd ht (λe he z=>vM (XS.mpr ⟨e,hp.mem_iff.mp he,z⟩)) λj L5 FF=>?_);obtain⟨hm,kX,RE,h5,Sb,L8,Wl⟩:=ht
 dsimp only
 refine Xy (YX ho hd hf ?_)
 dsimp only
 have Mi:(t.put j).1.mask=t.mask/\(t.put j).1.place.size=es.size+1/\(t.put j).1.dummies= #[]/\(t.put j).1.plain=true/\(t.put j).1.led=ld/\(t.put j).1.place.toList.Pairwise (· < ·)/\RchZ t.mask (t5 (t.put j).1 (insertAt es (t.put j).2 (hk, .ref b))):=by
  refine⟨rfl,?_,?_,Sb,L8,Hd Wl L5,Wh.put (λx=>Jj kX rfl x) FF⟩
  ·show (insertAt t.place (below t.place j) j).size=_;rw[lu,kX]
  ·show (if has t.dummies j then eraseAt t.dummies (below t.dummies j) else t.dummies)= #[];rw[RE];rfl
 have fin:wpAny (model prog w) A (do
  storeSet a (insertAt es (t.put j).2 (hk, .ref b)) (t.put j).1
  if (!false&&(t.put j).1.tooFull)=true then do
      setRelay a (grown (es.size+1))
      pure true
   else pure true) Q E s:=by
  obtain⟨q1,q2,q3,q4,q5,q6,q7⟩:=Mi;generalize (t.put j).1=t1 at q1 q2 q3 q4 q5 q6 q7;have Pc:=lu es (t.put j).2 (hk,Ye b);have Sa:(insertAt es (t.put j).2 (hk,Ye b)).toList.Perm (xs++[(hk, .ref b)]):=by
   refine(insertAt_perm es _ _).trans ?_;rw[ad8];exact hp.append_right _
  generalize insertAt es (t.put j).2 (hk,Ye b)=Kq at Pc Sa q7;have hg:(s.heap.update a (acm Kq t1)).get? a=some {o with data:= .set Kq (ep+1) t1}:=by
   have:=Y2 (acm Kq t1) ho (by rw[putSet_of _ t1 hd];rfl);rw[putSet_of _ t1 hd] at this;exact this
  have vN:=Yo s.heap a (acm Kq t1);have Xr:t.mask<=127:=by rcases hm with e | e | e<;>omega
  refine Xy (wpAny_storeSet_of ho hd ?_ (by rw[Zx];omega));have Fv:t1.fill=es.size+1:=by unfold fill;rw[q2,q3];rfl
  by_cases je:t1.tooFull=true
  ·rw[je];simp only[aaG,Bool.and_self,↓reduceIte];unfold tooFull at je;rw[Fv,q1] at je;have je:t.mask*3<=(es.size+1)*5:=aek je;have Vv:t1.fits Kq.size=true:=by
    unfold aeb;rw[Fv,q2,q1,Pc];simp;omega
   have hr:HN (sizeAbove (grown (es.size+1)) - 1)/\5*Kq.size<3*(sizeAbove (grown (es.size+1)) - 1):=by
    rw[Pc];rcases hm with e | e | e
    ·have:es.size=4:=by omega
     rw[this,H0];exact⟨.inr (.inl rfl),by decide⟩
    ·have:es.size=18:=by omega
     rw[this,Es];exact⟨.inr (.inr rfl),by decide⟩
    ·omega
   refine Xy (xf (o:={o with data:= .set Kq (ep+1) t1}) hg hex rfl Vv q4 hr.1 hr.2 λh' yn IG=>XE (h h' (vN.trans yn) ?_));obtain⟨o2,U3,U0,t2,k1,k2,k3,k4,k5,k6⟩:=IG;exact⟨o2,U3,U0,t2,k1,k2,k3,k4.trans Sa,q5▸k5,k6⟩
  ·have je:t1.tooFull=false:=by simpa using je
   rw[je];simp only[aaG,abP,X4,↓reduceIte];unfold tooFull at je;rw[Fv,q1] at je;have je:¬t.mask*3<=(es.size+1)*5:=of_decide_eq_false je;exact XE (h _ vN ⟨_,Kq,ep+1,t1,hg,hex,rfl,Sa,⟨by rw[q1];exact hm,by rw[q2,Pc],q3,by rw[Pc,q1];omega,q4,q5,q6⟩,by rw[q1];exact q7⟩)
 split
 ·refine Xy (ma C8 ?_);exact fin
 ·refine Xy (XE ?_);exact fin
end
def FY(prog:Yd)(w:World)(ks:Nat->List Int)(ad:Nat->Addr)(is:List Nat):List (Int×Value):=is.map λj=>(abi (Zy prog w) (ks j), .ref (ad j))
def kU(ks:Nat->List Int):Nat->List Nat
 |0=>[]
 |i+1=>if (kU ks i).any (λj=>decide (ks j=ks i))=true then kU ks i else kU ks i++[i]
theorem nO{ks:Nat->List Int}:∀{i j:Nat},j∈kU ks i->j<i
 |0,j,h=>by cases h
 |i+1,j,h=>by
  unfold kU at h;split at h
  ·have:=nO h;omega
  ·rcases Yk.mp h with h | h
   ·have:=nO h;omega
   ·rw[X0.mp h];omega
theorem vJ{ks:Nat->List Int}:∀{i j j':Nat},j∈kU ks i->j'∈kU ks i->ks j=ks j'->j=j'
 |0,j,j',h,_,_=>by cases h
 |i+1,j,j',h,h',e=>by
  unfold kU at h h';split at h
  ·rename_i hc;rw[aeg hc] at h';exact vJ h h' e
  ·rename_i hc;rw[aeh hc] at h';have no:∀x,x∈kU ks i->ks x≠ks i:=λx hx z=>hc (ZD.mpr ⟨x,hx,aei z⟩);rcases Yk.mp h with h | h<;>rcases Yk.mp h' with h' | h'
   ·exact vJ h h' e
   ·rw[X0.mp h'] at e;exact aej e (no j h)
   ·rw[X0.mp h] at e;exact aej e.symm (no j' h')
   ·rw[X0.mp h,X0.mp h']
theorem Fd{ks:Nat->List Int}(i:Nat):(kU ks i).length<=(kU ks (i+1)).length:=by
 show _<=(if _ then _ else _:List Nat).length;split
 ·exact XM _
 ·rw[XR];omega
theorem yg{ks:Nat->List Int}{i:Nat}:∀{n:Nat},i<=n->(kU ks i).length<=(kU ks n).length
 |0,h=>by
  obtain rfl:i=0:=by omega
  exact XM _
 |n+1,h=>by
  by_cases e:i=n+1
  ·rw[e];exact XM _
  ·exact Yc (yg (n:=n) (by omega)) (Fd n)
section
variable{prog:Yd}{w:World}{A:Yy}{R:Result->XD->Prop}{I:Addr}{fp wr:List Addr}{G:Array ad5->Array ad5->Prop}{n:Nat}{P:Nat->Value->Prop}{St:Nat->XD->Prop}{ld:Bool}
theorem D4(W:WalksS prog w A.in1 I fp wr G n P St)(S:Addr)(QF:S∉fp)(ks:Nat->List Int)(ad:Nat->Addr)(Sj:∀i v,P i v->v= .ref (ad i))(fo:∀i,i<n->ad i≠S/\ad i∉wr)(hu:A.in1.units<cLine)(hn:(kU ks n).length<=64)
 (IK:∀i j,i<n->j<n->abi (Zy prog w) (ks i)=abi (Zy prog w) (ks j)->ks i=ks j):∀(k i:Nat) (s:XD),n - i=k->i<=n->St i s->(∀j,j<n->ZV (Zy prog w) s.heap (ks j) (ad j))->SetR ld s.heap S (FY prog w ks ad (kU ks i))->
  (∀s',Moved (S::wr) G s s'->SetR ld s'.heap S (FY prog w ks ad (kU ks n))->R (.ok (.ret .none)) s')->abm (model prog w) A (.builtin "set.update.loop" ⟨[.ref S, .ref I],[]⟩) R s:=by
 have TM:S∉wr:=λh=>QF (W.sub _ h);have FH:∀b∈wr,b∈S::wr:=λb hb=>Xz _ hb;intro k;induction k with
 |zero=>
  intro i s hk hi vO hT hS hR;obtain rfl:i=n:=by omega
  refine aa_ abb ?_;rw[abE Zd _];show wpAny _ A.in1 (abM (.ref I)>>=_) _ _ s;refine Xy (W.done s _ _ vO λs' hm=>?_);show wpAny _ A.in1 (ret YO) _ _ s';exact XE (hR s' (hm.mono FH) (hS.at λo e=>hm.heap S o TM e))
 |succ k ih=>
  intro i s hk hi vO hT hS hR;have dG:i<n:=by omega
  refine aa_ abb ?_;rw[abE Zd _];show wpAny _ A.in1 (abM (.ref I)>>=_) _ _ s;refine Xy (W.item i s _ _ dG vO λv s' hP Pe hm=>?_);have ev:=Sj i v hP;subst ev;have IG:SetR ld s'.heap S (FY prog w ks ad (kU ks i)):=hS.at λo e=>hm.heap S o TM e;have NU:∀j,j<n->ZV (Zy prog w) s'.heap (ks j) (ad j):=λj hj=>oM (hT j hj) λo e=>hm.heap _ o (fo j hj).2 e;show wpAny _ A.in1 (holding [Ye (ad i)] (setAdd S (.ref (ad i)))>>=_) _ _ s';refine Xy (Zg ?_);unfold setAdd;refine Zg (Xy (wpAny_pyHash_tuple hu (NU i dG) ?_));by_cases hold:(kU ks i).any (λj=>decide (ks j=ks i))=true
  ·obtain⟨j,hj,ej⟩:=ZD.mp hold;have ej:ks j=ks i:=aek ej;have VN:=nO hj;refine oH (c:=ad j) (s:={s' with toks:=s'.toks+((ks i).length+1)}) hu (NU i dG) (ej▸NU j (by omega)) IG (XS.mpr ⟨j,hj,by rw[ej]⟩) (λe he z=>?_) ?_
   ·obtain⟨j',T7,rfl⟩:=XS.mp he;have VO:=nO T7;have:=IK j' i (by omega) dG z;obtain rfl:=vJ T7 hj (this.trans ej.symm);rw[ej]
   ·have Rt:SetR ld s'.heap S (FY prog w ks ad (kU ks (i+1))):=by
     rw[show kU ks (i+1)=kU ks i from aeg hold];exact IG
    refine XE ⟨adY Zd _,ih (i+1) _ (by omega) dG (W.frame _ s' _ _ Pe (abv ..) λb hb o e=>e) NU Rt λNz L_ LU=>?_⟩;exact hR Nz (Moved.trans W.gtrans ((hm.mono FH).then_heap (abv ..) λb o hb e=>e) L_) LU
  ·have Uc:kU ks (i+1)=kU ks i++[i]:=aeh hold;have hlen:(kU ks (i+1)).length<=64:=Yc (yg dG) hn;refine m9 (s:={s' with toks:=s'.toks+((ks i).length+1)}) (NU i dG) IG (λjG=>?_) (by unfold FY;rw[XB];rw[Uc,XR,adx] at hlen;omega) λh' vN TL=>?_
   ·obtain⟨e,he,z⟩:=XS.mp jG;obtain⟨j,hj,rfl⟩:=XS.mp he;have VN:=nO hj;exact hold (ZD.mpr ⟨j,hj,aei (IK j i (by omega) dG z)⟩)
   have Rt:SetR ld h' S (FY prog w ks ad (kU ks (i+1))):=by
    rw[Uc];unfold FY at TL⊢;rw[Yl];exact TL
   have HY:∀b o,b≠S->s'.heap.get? b=some o->h'.get? b=some o:=λb o hb e=>(vN.2 b hb).trans e;refine XE ⟨adY Zd _,ih (i+1) _ (by omega) dG (W.frame _ s' _ _ Pe (abv ..) λb hb o e=>HY b o (λz=>QF (z▸hb)) e) (λj hj=>oM (NU j hj) λo e=>HY _ o (fo j hj).1 e) Rt λNz L_ LU=>?_⟩;exact hR Nz (Moved.trans W.gtrans ((hm.mono FH).then_heap (abv ..) λb o hb e=>HY b o (λz=>hb (z▸XA ..)) e) L_) LU
end
section
variable{prog:Yd}{w:World}{A:Yy}{E:Value->XD->Prop}{s:XD}
theorem qO{l:Addr}{items:Array Value}{ks:Nat->List Int}{ad:Nat->Addr}{Q:Value->XD->Prop}(hh:A.handled=none)(hu:A.units+8<cLine)(hl:s.heap.IsList l items)(hi:∀i,i<items.size->items[i]? =some (.ref (ad i)))
 (hT:∀j,j<items.size->ZV (Zy prog w) s.heap (ks j) (ad j))(hn:(kU ks items.size).length<=64)(IK:∀i j,i<items.size->j<items.size->abi (Zy prog w) (ks i)=abi (Zy prog w) (ks j)->ks i=ks j)
 (h:∀(h':Heap) (tk:Nat),Ep (mw w) h' s.heap.objs.size (FY prog w ks ad (kU ks items.size))->(∀b o,b<s.heap.objs.size->s.heap.get? b=some o->h'.get? b=some o)->Q (.ref s.heap.objs.size) {s with heap:=h',toks:=tk}):
 wpAny (model prog w) A (call (.type "set") [.ref l]) Q E s:=by
 obtain⟨c,tl,V1⟩:=F.called_set.mro;have Ua:=F.called_set.made;have FH:=F.called_set.sub;refine wpAny_call (codeAny_of_tree ?_);show wpAny _ _ (callAny (.type "set") _) _ _ _;refine XE ⟨ad7 _ (by decide+kernel),aa_ F.entry_type_call ?_⟩;rw[Around.under_plain (weight_type_call_type "set" [.ref l] []) rfl];have h1:=F.called_set.notType;have h2:=F.called_set.canCreate;have Xl:=F.typeCall_set_1 (.ref l)
 repeat (any_goals (first | assumption | wp_step))
 refine abj (zo (.ref l) (E:=E) (Q₁:=λobj P3=>∃led:Bool,led=mw w/\obj= .ref s.heap.objs.size/\P3={s with heap:=s.heap.push {cls:= .type "set",dict:=none,data:= .set #[] 0 (.fresh 0 0 led)} }) ⟨_,rfl,rfl,rfl⟩) λr P3 hr=>?_;cases r with
 |error e=>exact hr
 |ok fl=>
  cases fl with
  |ret obj=>
   obtain⟨led,L8,rfl,rfl⟩:=hr;have hS:(s.heap.push {cls:= .type "set",dict:=none,data:= .set #[] 0 (.fresh 0 0 led)}).get? s.heap.objs.size=some {cls:= .type "set",dict:=none,data:= .set #[] 0 (.fresh 0 0 led)}:=X8 _ rfl;have Vk:Shared.TypeIs {s with heap:=s.heap.push {cls:= .type "set",dict:=none,data:= .set #[] 0 (.fresh 0 0 led)} } (.ref s.heap.objs.size) "set":=⟨_,hS,rfl⟩
   have Xp:=F.called_set.init.lookup;have QH:=F.called_set.init.bind (.ref s.heap.objs.size)
   repeat (any_goals (first | assumption | wp_step))
   refine abj (ab5 (R:=wants (λr v6=>r= .none/\∃h' tk,v6={s with heap:=h',toks:=tk}/\Ep (mw w) h' s.heap.objs.size (FY prog w ks ad (kU ks items.size))/\(∀b o,b<s.heap.objs.size->s.heap.get? b=some o->h'.get? b=some o)) E) F.called_set.init.plain F.entry_set_init (check_set_init_1 Vk ?_)) λr₂ v6 Sg=>?_
   ·obtain⟨ol,Ue,OK,nl,T1⟩:=hl;obtain⟨WZ,PH,Uz,MU⟩:=ol;simp only at OK T1;subst OK;subst T1;have R7:(s.heap.push {cls:= .type "set",dict:=none,data:= .set #[] 0 (.fresh 0 0 led)}).get? l=some {cls:= .type "list",dict:=PH,data:= .seq items nl,slots:=MU}:=XJ _ Ue;have Wo:=F.sub_list_set;have Wn:=F.sub_list_frozenset;have fo:(ab6 "list"==ab6 "dict")=false:=by decide
    have C_:(s.heap.push {cls:= .type "set",dict:=none,data:= .set #[] 0 (.fresh 0 0 led)}).IsList l items:=⟨_,R7,rfl,nl,rfl⟩
    unfold aaF.«set.__init__» noKeywords Builtin.Frozenset.updateFrom;generalize Vh:adM=PI
    wp_walk
    subst Vh;refine acM C_ (Xy (wpAny_runValue ?_));have T8:l<s.heap.objs.size:=XY Ue;have VI:A.in1.in1.in1.handled=none:=by simp[hh]
    have RX:l≠(s.heap.push {cls:= .type "set",dict:=none,data:= .set #[] 0 (.fresh 0 0 led)}).objs.size:=by
     rw[aa4];exact Yj (acp T8)
    have QF:s.heap.objs.size∉[(s.heap.push {cls:= .type "set",dict:=none,data:= .set #[] 0 (.fresh 0 0 led)}).objs.size,l]:=by
     rw[aa4];simp only[XF,X0,Yt,or_false,not_or];exact⟨Yj (abu _),aaZ T8⟩
    have Ru:∀i,i<items.size->ad i<s.heap.objs.size:=λi uG=>let ⟨o,_,_,ho,_⟩:=hT i uG;XY ho
    refine D4 (ld:=mw w) ((Walks.list VI _ l RX items).toS) s.heap.objs.size QF ks ad (λi v hv=>?_) (λi uG=>?_) ?_ hn IK (items.size - 0) 0 _ (by omega) (Ys _) ⟨⟨_,X8 _ rfl,rfl,rfl⟩,(C_.push _)⟩ (λj hj=>oM (hT j hj) λo e=>XJ _ (XJ _ e)) ?hS0 ?hR
    case hS0=>exact⟨_,#[],0,_,XJ _ hS,⟨rfl,rfl,rfl⟩,rfl, .refl _,⟨.inl rfl,rfl,rfl,by show 5*0<3*7;decide,rfl,L8,abz⟩,λx hx=>by cases hx⟩
    case hR=>
     intro s' hm IG;obtain⟨h',g',d',Xc,SI⟩:=s';obtain rfl:g'=s.gens:=hm.gens;obtain rfl:d'=s.drawn:=hm.drawn;obtain rfl:SI=s.os:=hm.os;show wpAny _ _ _ _ _ _;refine XE ?_;show wpAny _ _ (ret YO) _ _ _;refine XE ⟨rfl,h',Xc,rfl,IG.set,λb o hb e=>?_⟩;have QG:b≠s.heap.objs.size:=Yj hb;have LX:b≠(s.heap.push {cls:= .type "set",dict:=none,data:= .set #[] 0 (.fresh 0 0 led)}).objs.size:=by
      rw[aa4];exact Yj (acp hb)
     exact hm.heap b o (by simp only[XF,X0,Yt,or_false,not_or];exact⟨QG,LX⟩) (XJ _ (XJ _ e))
    ·have dG:i<items.size:=(YC.mp hv).1;exact Yn ((show items[i]? =some v from hv).symm.trans (hi i dG))
    ·have:=Ru i uG;refine⟨Yj this,?_⟩;rw[aa4];simp only[XF,X0,Yt,or_false];exact Yj (acp this)
    ·show A.units+1+1+1<cLine;omega
   ·cases r₂ with
    |error e=>exact Sg
    |ok U_=>
     cases U_ with
     |ret r=>
      obtain⟨rfl,h',tk,rfl,IG,pZ⟩:=Sg
      repeat (any_goals (first | assumption | wp_step))
      exact h _ _ IG pZ
     |_=>exact Sg.elim
  |_=>exact hr.elim
end
end L3
namespace L3
open PySem PySem.Spec L2 SeqAt HT
open PyProof.Rows hiding St
def HX(ks:List (List Int)):List Nat:=kU (λi=>ks.getD i []) ks.length
def tH(ks:List (List Int)):List (List Int):=(HX ks).map λi=>ks.getD i []
theorem z9{ks:Nat->List Int}:∀i,((kU ks i).map ks).Nodup
 |0=>ZG
 |i+1=>by
  unfold kU;split
  ·exact z9 i
  ·rename_i hc;rw[Yl];refine YI.mpr ⟨z9 i,by simp,λa ha b hb e=>?_⟩;obtain⟨j,hj,rfl⟩:=XS.mp ha;rw[List.map_singleton,X0] at hb;subst hb;exact hc (ZD.mpr ⟨j,hj,aei e⟩)
theorem BG{ks:Nat->List Int}:∀{i j:Nat},j<i->∃j'∈kU ks i,ks j'=ks j
 |0,j,h=>aej h (by omega)
 |i+1,j,h=>by
  unfold kU;by_cases e:j=i
  ·subst e;split
   ·rename_i hc;obtain⟨j',h1,h2⟩:=ZD.mp hc;exact⟨j',h1,aek h2⟩
   ·exact⟨j,YB _ (X0.mpr rfl),rfl⟩
  ·obtain⟨j',h1,h2⟩:=BG (ks:=ks) (i:=i) (j:=j) (by omega);split
   ·exact⟨j',h1,h2⟩
   ·exact⟨j',Zm _ h1,h2⟩
theorem FR{ks:List (List Int)}{i:Nat}(h:i∈HX ks):i<ks.length:=nO h
theorem Lx(ks:List (List Int)):(tH ks).Nodup:=z9 ks.length
theorem vK{ks:List (List Int)}{i:Nat}(h:i<ks.length):ks.getD i []=ks[i]:=by rw[X9,XC h];rfl
theorem qk{ks:List (List Int)}{k:List Int}:k∈tH ks↔k∈ks:=by
 constructor
 ·intro h;obtain⟨i,hi,rfl⟩:=XS.mp h;rw[vK (FR hi)];exact ZC _
 ·intro h;obtain⟨j,hj,rfl⟩:=YM.mp h;obtain⟨j',h1,h2⟩:=BG (ks:=λi=>ks.getD i []) hj;exact XS.mpr ⟨j',h1,by rw[<-vK hj];exact h2⟩
theorem map_inj{α β:Type}{f:α->β}:∀{l:List α},(l.map f).Nodup->∀{a b:α},a∈l->b∈l->f a=f b->a=b
 |x::l,hn,a,b,ha,hb,e=>by
  rw[XN] at hn;have hn:=Yz.mp hn;rcases XF.mp ha with ea | TN<;>rcases XF.mp hb with eb | Af
  ·exact ea.trans eb.symm
  ·exact aej (XS.mpr ⟨b,Af,by rw[<-e,ea]⟩) hn.1
  ·exact aej (XS.mpr ⟨a,TN,by rw[e,eb]⟩) hn.1
  ·exact map_inj hn.2 TN Af e
def eS:D->M D
 | .lst ds=>match iU ds with
   |some ks=>if fe (tH ks)=true/\((tH ks).map fI).Nodup then ae (.lst ((sortI (tH ks)).map tupI)) else ag
   |none=>ag
 |_=>ag
section
variable{X:Cx}{Xw:Nat->Hp->Prop}{e:Expr}{δ:DE}{pos yY p p2:Pos}
theorem D5{f8:List (Addr×Obj)}{σ:St}{H:Hp}{s:XD}{Q:Value->XD->Prop}{E:Value->XD->Prop}(I:Inv X f8 σ H s)(hc:X.calm=true)(hu:X.A.units+64<cLine){a:Addr}{ws:List V}{ks:List (List Int)}(hl:SqL X.K H a ws)(hr:cF H ws ks)(hn:(tH ks).length<=64)(NY:((tH ks).map fI).Nodup)
 (h:∀h' tk us,cF H us (tH ks)->Ep (mw X.w) h' s.heap.objs.size (N2 X.prog X.w (λi=>(tH ks).getD i []) (λi=>CC (us.getD i .non)) (tH ks).length)->(∀b o,s.heap.get? b=some o->h'.get? b=some o)->Q (.ref s.heap.objs.size) {s with heap:=h',toks:=tk}):
 wpAny (model X.prog X.w) X.A (call (.type "set") [.ref a]) Q E s:=by
 obtain⟨aK,rv,pl,hz⟩:=I.list hl;have h1:=j3 hr;have h2:=rv.length;have hsz:aK.toArray.size=ks.length:=by rw[XW];omega
 have VL:(HX ks).length=(tH ks).length:=by unfold tH;rw[XB]
 refine qO (items:=aK.toArray) (ks:=λi=>ks.getD i []) (ad:=λi=>CC (ws.getD i .non)) (I.ok.hd hc) (by omega) pl.isList (λi hi=>(y9 I hr rv hi).1) (λi hi=>(y9 I hr rv hi).2) (by rw[hsz];show (HX ks).length<=64;omega) (λi j hi hj z=>?_) λh' tk hS hk=>?_
 ·rw[hsz] at hi hj;have m:∀i,i<ks.length->ks.getD i []∈tH ks:=λi hi=>qk.mpr (by rw[vK hi];exact ZC _);exact map_inj NY (m i hi) (m j hj) z
 ·rw[hsz] at hS;refine h h' tk _ (iL hr λi hi=>by have:=FR hi;omega) ?_ λb o q=>hk b o (XY q) q;have e:FY X.prog X.w (λi=>ks.getD i []) (λi=>CC (ws.getD i .non)) (HX ks)=N2 X.prog X.w (λi=>(tH ks).getD i []) (λi=>CC (((HX ks).map λi=>ws.getD i .non).getD i .non)) (tH ks).length:=by
   unfold FY N2;refine acw (by simp[VL]) λi a1 a2=>?_;have hi:i<(HX ks).length:=by simpa using a1
   have e1:(tH ks).getD i []=ks.getD (HX ks)[i] []:=by
    unfold tH;rw[X9,XX,XC hi];rfl
   have e2:((HX ks).map λi=>ws.getD i V.non).getD i .non=ws.getD (HX ks)[i] .non:=by
    rw[X9,XX,XC hi];rfl
   rw[aai,aai,ad4]
   dsimp only
   rw[e1,e2]
  rw[<-e];exact hS
theorem AO(hc:X.calm=true)(hu:X.A.units+64<cLine)(hg:Gl X "sorted")(hm:X.mg "sorted"=none)(RJ:Gl X "set")(HV:X.mg "set"=none)(hb:YJ "sorted"=some (.builtin "sorted"))(LX:YJ "set"=some (.type "set"))(ha:PD X Xw e δ)
 (QK:X2 [e] X.env=[(false,eval e X.env)]:=by rfl)(he:X2 [.Call (.Name "set" p2) [e] [] yY] X.env=[(false,eval (.Call (.Name "set" p2) [e] [] yY) X.env)]:=by rfl):
 PD X Xw (.Call (.Name "sorted" p) [.Call (.Name "set" p2) [e] [] yY] [] pos) (d1 eS δ):=λf8 s σ H Q I ⟨F,ρ,S,w⟩=>by
 have w:WP X.K Xw F H (δ ρ>>=eS) Q:=w;refine aaa (jL I hg hm hb ?_ (by decide) (by decide));refine abH ?_ he rfl;rw[he];refine Y4 (aaa (jL I RJ HV LX ?_ (by decide) (by decide)));refine Zi ?_ QK rfl;rw[QK];refine Y4 (b_ (ha f8 s σ H _ I ⟨F,ρ,S,WP.bind w⟩) λu s1 ⟨v,H1,I1,r,F1,d,e1,q1,w1⟩=>ZJ ?_);unfold eS at w1;split at w1
 ·rename_i ds;split at w1
  ·rename_i ks Ek;split at w1
   ·rename_i hok;obtain⟨a,ws,rfl,h2,h3,h4⟩:=q1;cases (show u=_ from r);have hr:=(uJ e1.fh Ek h3).1;have hl:=uK Ek h3;have lI:(tH ks).length<64:=by
     have:=hok.1;unfold fe at this;rw[X5,X5] at this;exact aek this.1.2
    refine D5 I1 hc hu (SqL.of (e1.fh _ _ h2)) hr (by omega) hok.2 λh' tk vs Mj hS hk=>ZJ ?_;refine A1 (s:={s1 with heap:=h',toks:=tk}) (I1.kept hk) hc Mj hok.1 hS λq us hq WA=>?_;obtain⟨F2,e2,r2⟩:=sN e1.fh WA;have e3:=Ext.lay (o:= .lst us) e2.fh hq;exact WP.fin w1 (e2.trans e3) ⟨q,_,rfl,aG,DenL.mono e3.ff (sM r2 λk hk=>hl k (qk.mp (eB.mp hk))),by rw[XB,oI];unfold lim;omega⟩
   ·exact w1.elim
  ·exact w1.elim
 ·exact w1.elim
end
end L3
namespace L3
open PySem PySem.Spec L2
open PyProof.Rows hiding St
section
variable{X:Cx}{Xw:Nat->Hp->Prop}{δa:DE}{δs:DA}{es Eh:List Expr}{p q:Pos}
theorem lB(h:Box (gQ X Xw es δs)):Box (PD X Xw (.List es p) (dA a_ δs)):=⟨di h.1⟩
theorem il(ha:Box (PD X Xw (.List Eh p) δa))(hr:Box (gQ X Xw es δs)):Box (gQ X Xw (.List Eh p::es) (aC δa δs)):=kx ha hr (by rfl)
theorem gp{x:Int}{j:Nat}(hr:Box (gQ X Xw es δs)):Box (gQ X Xw (.Constant (.int x) j q::es) (aC (dC (.int x)) δs)):=kx ⟨aq⟩ hr (by rfl)
theorem ED{x:Bool}{j:Nat}(hr:Box (gQ X Xw es δs)):Box (gQ X Xw (.Constant (.bool x) j q::es) (aC (dC (.bl x)) δs)):=kx ⟨eX⟩ hr (by rfl)
theorem EE{j:Nat}(hr:Box (gQ X Xw es δs)):Box (gQ X Xw (.Constant .none j q::es) (aC (dC .non) δs)):=kx ⟨cW⟩ hr (by rfl)
end
end L3
namespace L3
def QY(n:Nat)(δs:DA):DS:=λρ=>δs ρ>>=λds=>if ds.length<=lim then a7 n else ag
end L3
namespace K1
open PySem PySem.Spec L2 L3
open PyProof.Rows hiding St
def N5:Nat->Nat
 |1=>1
 |2=>2
 |3=>3
 |_=>0
def cB(cA:Nat->Addr)(n:Nat):Addr:=cA (N5 n)
def zU(cA:Nat->Addr):List Addr:=[cA 0,cA 1,cA 2,cA 3]
def Wa:Nat->Int
 |0=>0
 |1=>1
 |2=>3
 |_=>2
def LZ(k:Nat):M D:=ae (.tup [.str "refused", .int (Wa (N5 k))])
def Ba:DS:=(bc (eE (dA iV (aC (dV 0) (aC (dC (.raw (.ty "int"))) aN))) (Kk (dA iV (aC (dV 0) (aC (dC (.raw (.ty "bool"))) aN))))))
def bK:List D->M D:=bM 1 (Ba)
def zE:DS:=(bc (eE (dA iV (aC (dV 0) (aC (dC (.raw (.ty "str"))) aN))) (eE (d2 ny (dA bF (aC (dV 0) aN)) (dC (.int 1))) (d2 (Fh false) (dV 0) (dC (.str "abcdef"))))))
def cg:List D->M D:=bM 1 (zE)
def tu:DS:=(bc (bA 0 (λρ=>(aC (dA bF (aC (d2 bb (dV 0) (dC (.int 0))) aN)) aN) ρ>>=g8) dB (dA aO (aC (dV 2) (aC (dV 0) aN)))))
def cH:List D->M D:=bM 2 (tu)
def zJ:DS:=(bc (d2 rh (d2 bb (dV 0) (d2 bb (dV 1) (dC (.int 0)))) (d2 bb (dV 1) (dC (.int 1)))))
def bG:List D->M D:=bM 2 (zJ)
def A_:DS:=(aB (bu 3 (dA Et (aC (d2 Ac (d2 bb (dV 0) (dC (.int 0))) (d2 bb (dV 1) (dC (.int 0)))) aN))) (aB (bu 4 (dA Et (aC (d2 Ac (d2 bb (dV 0) (dC (.int 1))) (d2 bb (dV 1) (dC (.int 1)))) aN))) (aB (fP (cf (d2 ny (dV 2) (dC (.int 4)))) (bc (d2 ny (d2 dN (dV 3) (dV 4)) (dC (.int 1)))) b9) (bc (d2 ny (dA Ar (aC (dV 3) (aC (dV 4) aN))) (dC (.int 1)))))))
def d6:List D->M D:=bM 5 (A_)
def Ka:DS:=(aB (vb 1) (aB (λρ=>noex ((cY (putN 2) (IT (cR (dV 0)) (λρ=>(dV 0) ρ>>=jf)) (ck [2] (fT 1 (dV 2) (dC (.bl true))))) ρ)) (zd 1 (bc (dV 1)))))
def kB:List D->M D:=bM 3 (Ka)
def tB:DS:=(aB (fP (cf (d2 ny (dV 0) (dA a_ aN))) (bc (d2 gS (dC (.int 7)) (dV 1))) b9) (bc (d2 dN (d2 Fi (dV 0) (d2 l9 (dV 1) (dA bF (aC (dV 0) aN)))) (d2 gS (dC (.int 6553)) (d2 tO (dV 1) (dA bF (aC (dV 0) aN)))))))
def gB:List D->M D:=bM 2 (tB)
def zF:DS:=(aB (fP (lS (cG (bT (dA iV (aC (dV 0) (aC (dC (.raw (.ty "str"))) aN))))) (cG (cf (vC (λi j=>decide (i<=j)) (λi j=>decide (i<=j)) (dC (.int 1)) (dA bF (aC (dV 0) aN)) (dC (.int 8)))))) (bc (dC (.bl false))) b9) (bc (dA allM (aC (bA 0 (λρ=>(dV 0) ρ>>=NC) dB (aw 1 cg (aC (dV 0) aN))) aN))))
def gA:List D->M D:=bM 1 (zF)
def vk:DS:=(aB (fP (lS (cG (bT (dA iV (aC (dV 1) (aC (dC (.raw (.ty "tuple"))) aN))))) (cf (d2 ib (dA bF (aC (dV 1) aN)) (dC (.int 2))))) (bc (dC (.bl false))) b9) (aB (fP (lS (cG (bT (aw 1 bK (aC (d2 bb (dV 1) (dC (.int 0))) aN)))) (cG (bT (aw 1 bK (aC (d2 bb (dV 1) (dC (.int 1))) aN))))) (bc (dC (.bl false))) b9) (bc (eE (vC (λi j=>decide (i<=j)) (λi j=>decide (i<j)) (dC (.int 0)) (d2 bb (dV 1) (dC (.int 0))) (dA bF (aC (dV 0) aN))) (vC (λi j=>decide (i<=j)) (λi j=>decide (i<j)) (dC (.int 0)) (d2 bb (dV 1) (dC (.int 1))) (dA bF (aC (d2 bb (dV 0) (dC (.int 0))) aN)))))))
def kA:List D->M D:=bM 2 (vk)
def zL:DS:=(fP (lS (cG (bT (aw 1 bK (aC (dV 0) aN)))) (cf (d2 (IC true) (dV 0) (dA aO (aC (dC (.int 4)) (aC (dC (.int 8)) aN)))))) (QY 1 (aC (dC (.str "ways are 4 or 8")) aN)) b9)
def cP:List D->M D:=bM 1 (zL)
def zC:DS:=(aB (zf 1) (aB (λρ=>noex ((cY (putN 2) (λρ=>(aC (dA bF (aC (dV 0) aN)) aN) ρ>>=g8) (ck [2] (Hi 1 (aw 2 cH (aC (dV 0) (aC (dV 2) aN)))))) ρ)) (zd 1 (bc (dV 1)))))
def cO:List D->M D:=bM 3 (zC)
def xE:DS:=(aB (zf 3) (aB (λρ=>noex ((cY (putN 4) (λρ=>(aC (dA Ar (aC (d2 Ac (d2 bb (dV 1) (dC (.int 0))) (dC (.int 1))) (aC (dC (.int 0)) aN))) (aC (dA tV (aC (d2 dN (d2 bb (dV 1) (dC (.int 0))) (dC (.int 2))) (aC (dA bF (aC (dV 0) aN)) aN))) aN)) ρ>>=va) (ck [4,5] (cY (putN 5) (λρ=>(aC (dA Ar (aC (d2 Ac (d2 bb (dV 1) (dC (.int 1))) (dC (.int 1))) (aC (dC (.int 0)) aN))) (aC (dA tV (aC (d2 dN (d2 bb (dV 1) (dC (.int 1))) (dC (.int 2))) (aC (dA bF (aC (d2 bb (dV 0) (dC (.int 0))) aN)) aN))) aN)) ρ>>=va) (ck [5] (fP (bT (aw 3 d6 (aC (dV 1) (aC (dA aO (aC (dV 4) (aC (dV 5) aN))) (aC (dV 2) aN))))) (sP 3 (dA aO (aC (dV 4) (aC (dV 5) aN)))) b9))))) ρ)) (zd 3 (bc (dV 3)))))
def bB:List D->M D:=bM 6 (xE)
def pL:DS:=(aB (bu 3 (d2 l9 (d2 dN (d2 gS (d2 l9 (aw 2 gB (aC (dV 0) (aC (dV 1) aN))) (dC (.int 2147483563))) (dC (.int 69069))) (d2 gS (dC (.int 104723)) (d2 dN (dV 1) (dC (.int 1))))) (dC (.int 2147483563)))) (aB (bu 3 (d2 l9 (d2 dN (d2 gS (dV 3) (dV 3)) (d2 tO (dV 3) (dC (.int 3)))) (dC (.int 2147483399)))) (bc (d2 l9 (d2 tO (d2 l9 (d2 dN (d2 gS (dV 3) (dV 3)) (d2 tO (dV 3) (dC (.int 7)))) (dC (.int 2147483647))) (dC (.int 11))) (dV 2)))))
def aH:List D->M D:=bM 4 (pL)
def tw:DS:=(aB (fP (lS (cG (bT (dA iV (aC (dV 0) (aC (dC (.raw (.ty "tuple"))) aN))))) (cG (cf (vC (λi j=>decide (i<=j)) (λi j=>decide (i<=j)) (dC (.int 1)) (dA bF (aC (dV 0) aN)) (dC (.int 8)))))) (bc (dC (.bl false))) b9) (aB (fP (cG (bT (dA allM (aC (bA 0 (lG (dV 0)) dB (aw 1 gA (aC (dV 0) aN))) aN)))) (bc (dC (.bl false))) b9) (bc (dA allM (aC (bA 0 (lG (dV 0)) dB (d2 ny (dA bF (aC (dV 0) aN)) (dA bF (aC (d2 bb (dV 1) (dC (.int 0))) aN)))) aN)))))
def iT:List D->M D:=bM 1 (tw)
def zK:DS:=(fP (cG (bT (aw 2 kA (aC (dV 0) (aC (dV 1) aN))))) (QY 2 (aC (dC (.str "a tuple (row, column) on the board is asked for")) aN)) b9)
def cj:List D->M D:=bM 2 (zK)
def xB:DS:=(aB (bu 3 (aw 2 bG (aC (dV 0) (aC (dV 1) aN)))) (bc (bA 0 (cR (aw 3 bB (aC (dV 0) (aC (dV 1) (aC (dV 2) aN))))) (cf (d2 ny (aw 2 bG (aC (dV 1) (aC (dV 0) aN))) (dV 4))) (dV 0))))
def cT:List D->M D:=bM 4 (xB)
def Te:DE:=bA 0 (λρ=>(aC (dV 4) aN) ρ>>=g8) dB (d2 rh (dV 6) (aw 3 aH (aC (dV 1) (aC (d2 dN (d2 dN (d2 dN (dV 2) (dC (.int 3))) (d2 gS (dC (.int 7)) (dV 8))) (dV 0)) (aC (dA bF (aC (dV 6) aN)) aN)))))
def Tf:DS:=bu 6 (d2 BK (dV 6) (dA aO (aC (dM QV joinM (dC (.str "")) (aC (dV 8) aN)) aN)))
def zG:DS:=(aB (bu 3 (d2 dN (dC (.int 1)) (aw 3 aH (aC (dV 0) (aC (dV 1) (aC (dV 2) aN)))))) (aB (bu 4 (d2 dN (dC (.int 1)) (aw 3 aH (aC (dV 0) (aC (d2 dN (dV 1) (dC (.int 1))) (aC (dV 2) aN)))))) (aB (bu 5 (d2 tP (dA a_ (aC (dC (.str "ab")) (aC (dC (.str "abc")) (aC (dC (.str "aab")) (aC (dC (.str "fa")) aN))))) (aw 3 aH (aC (dV 0) (aC (d2 dN (dV 1) (dC (.int 2))) (aC (dC (.int 4)) aN)))))) (aB (bu 6 (dA aO aN)) (aB (λρ=>noex ((cY (putN 7) (λρ=>(aC (dV 3) aN) ρ>>=g8) (ck [7,8] (aB (bu 8 (Te)) (Tf)))) ρ)) (bc (dV 6)))))))
def dD:List D->M D:=bM 9 (zG)
def xD:DS:=(fP (cG (bT (aw 1 iT (aC (dV 0) aN)))) (QY 0 (aC (dC (.str "a tuple of 1 to 8 texts of 1 to 8 letters, all as long, is asked for")) aN)) b9)
def bU:List D->M D:=bM 1 (xD)
def JX:DS:=ck [7] (fP (Lc (cf (d2 (fW true) (dV 7) (dV 3)))) (aB (fT 3 (dV 7) (dV 6)) (sP 5 (dV 7))) b9)
def xG:DS:=(aB (zg 3 (λρ=>(dV 1) ρ>>=λx=>(dC .non) ρ>>=λy=>k7 x y)) (aB (bu 4 (dA a_ (aC (dV 1) aN))) (aB (λρ=>noex ((wZ (bT (dV 4)) (ck [5,6,7] (aB (zf 5) (aB (cY (putN 6) (cR (dV 4)) (ck [6,7] (cY (putN 7) (cR (aw 3 cT (aC (dV 0) (aC (dV 6) (aC (dV 2) aN))))) (JX)))) (zd 5 (bu 4 (dV 5))))))) ρ)) (zd 3 (bc (dV 3))))))
def dJ:List D->M D:=bM 8 (xG)
def oS:DS:=(aB (jq (aw 1 bU (aC (dV 0) aN))) (aB (jq (aw 1 cP (aC (dV 1) aN))) (aB (jq (aw 2 cj (aC (dV 0) (aC (dV 2) aN)))) (jq (aw 2 cj (aC (dV 0) (aC (dV 3) aN)))))))
def dI:List D->M D:=bM 4 (oS)
def xF:DS:=(aB (vb 1) (aB (λρ=>noex ((cY (Cm [2,3]) (λρ=>(aC (dV 0) aN) ρ>>=BB) (ck [2,3,4] (cY (putN 4) (cR (dV 3)) (ck [4] (fT 1 (dV 4) (dV 2)))))) ρ)) (zd 1 (bc (dV 1)))))
def cU:List D->M D:=bM 5 (xF)
def LA:DS:=(ck [6] (fP (Lc (cf (d2 (fW true) (dV 6) (dV 2)))) (aB (fT 2 (dV 6) (Lu (d2 dN (d2 eI (dV 2) (dV 5)) (dC (.int 1))))) (sP 4 (dV 6))) b9))
def Lz:DS:=(ck [5,6] (cY (putN 6) (IT (cR (d2 eI (dV 0) (dV 5))) (λρ=>(d2 eI (dV 0) (dV 5)) ρ>>=jf)) LA))
def Ly:DS:=(ck [4,5,6] (aB (zf 4) (aB (cY (putN 5) (cR (dV 3)) Lz) (zd 4 (bu 3 (dV 4))))))
def zD:DS:=(aB (zg 2 (LL (λρ=>(dV 1) ρ>>=λx=>(dC (.int 0)) ρ>>=λy=>k7 x y) (λρ=>(dV 1) ρ>>=λx=>(dC (.int 0)) ρ>>=λy=>oU x y))) (aB (bu 3 (dA a_ (aC (dV 1) aN))) (aB (λρ=>noex ((wZ (bT (dV 3)) Ly) ρ)) (zd 2 (bc (dV 2))))))
def bW:List D->M D:=bM 7 (zD)
def zH:DS:=(aB (bu 1 (dA a_ aN)) (aB (λρ=>noex ((cY (putN 2) (λρ=>(aC (dA bF (aC (dV 0) aN)) aN) ρ>>=g8) (ck [2] (bu 1 (d2 jF (dV 1) (bA 0 (λρ=>(aC (dA bF (aC (d2 bb (dV 0) (dC (.int 0))) aN)) aN) ρ>>=g8) dB (dA aO (aC (dV 3) (aC (dV 0) aN)))))))) ρ)) (bc (dV 1))))
def el:List D->M D:=bM 3 (zH)
def EG:DS:=(ck [5,6,7,8] (aB (bu 6 (d2 dN (d2 bb (dV 1) (dC (.int 0))) (dV 4))) (aB (bu 7 (d2 dN (d2 bb (dV 1) (dC (.int 1))) (dV 5))) (aB (bu 8 (eE (vC (λi j=>decide (i<=j)) (λi j=>decide (i<j)) (dC (.int 0)) (dV 6) (dA bF (aC (dV 0) aN))) (vC (λi j=>decide (i<=j)) (λi j=>decide (i<j)) (dC (.int 0)) (dV 7) (dA bF (aC (d2 bb (dV 0) (dC (.int 0))) aN))))) (fP (vE (bT (dV 8)) (vE (cf (d2 ib (dA aO (aC (dV 4) (aC (dV 5) aN))) (dA aO (aC (dC (.int 0)) (aC (dC (.int 0)) aN))))) (lS (cf (d2 ny (dV 2) (dC (.int 8)))) (cf (d2 ny (d2 gS (dV 4) (dV 5)) (dC (.int 0))))))) (sP 3 (dA aO (aC (dV 6) (aC (dV 7) aN)))) b9)))))
def xA:DS:=(aB (zf 3) (aB (λρ=>noex ((cY (putN 4) (lG (dA aO (aC (d1 Gf (dC (.int 1))) (aC (dC (.int 0)) (aC (dC (.int 1)) aN))))) (ck [4,5,6,7,8] (cY (putN 5) (lG (dA aO (aC (d1 Gf (dC (.int 1))) (aC (dC (.int 0)) (aC (dC (.int 1)) aN))))) EG))) ρ)) (zd 3 (bc (dV 3)))))
def cS:List D->M D:=bM 9 (xA)
def Bb:DS:=(bc (d2 rh (d2 bb (dV 0) (d2 bb (dV 1) (dC (.int 0)))) (d2 bb (dV 1) (dC (.int 1)))))
def bQ:List D->M D:=bM 2 (Bb)
def tG:DS:=(fP (lS (cG (bT (dA iV (aC (dV 0) (aC (dC (.raw (.ty "list"))) aN))))) (cG (bT (dA allM (aC (bA 0 (cR (dV 0)) dB (aw 1 cg (aC (dV 0) aN))) aN))))) (QY 3 (aC (dC (.str "a list of letters from a to f is asked for")) aN)) b9)
def bN:List D->M D:=bM 1 (tG)
def tF:DS:=(aB (bu 3 (aw 1 cU (aC (dV 2) aN))) (aB (K8 4) (aB (λρ=>noex ((ze 4 5 6 7 (cR (aw 1 cO (aC (dV 0) aN))) (d2 eI (dV 3) (dV 5)) (cR (aw 3 bB (aC (dV 0) (aC (dV 5) (aC (dV 1) aN))))) (cf (d2 ib (d2 eI (dV 3) (dV 7)) (d2 eI (dV 3) (dV 5)))) (d2 eI (dV 3) (dV 7))) ρ)) (zd 4 (bc (dV 4))))))
def eG:List D->M D:=bM 8 (tF)
def Uy:DS:=(ck [5] (fT 4 (dV 5) (bA 0 (cR (aw 3 bB (aC (dV 0) (aC (dV 5) (aC (dV 2) aN))))) (cf (d2 (fW false) (dV 0) (dV 4))) (dV 0))))
def xC:DS:=(aB (bu 3 (aw 1 kB (aC (dV 1) aN))) (aB (vb 4) (aB (λρ=>noex ((cY (putN 5) (cR (dV 1)) Uy) ρ)) (zd 4 (bc (dV 4))))))
def fV:List D->M D:=bM 6 (xC)
def ug:DS:=(bc (dA aO (aC (aw 3 aH (aC (dV 0) (aC (dV 1) (aC (dA bF (aC (dV 2) aN)) aN)))) (aC (aw 3 aH (aC (dV 0) (aC (d2 dN (dV 1) (dC (.int 1))) (aC (dA bF (aC (d2 bb (dV 2) (dC (.int 0))) aN)) aN)))) aN))))
def dU:List D->M D:=bM 3 (ug)
def Rf:DS:=(ck [4,5] (fP (Lc (cf (d2 (fW true) (dV 4) (dV 3)))) (aB (bu 5 (dA vg (aC (aw 3 dJ (aC (dV 0) (aC (dV 4) (aC (dV 1) aN)))) aN))) (aB (sP 2 (dV 5)) (Hk 3 (aw 1 kB (aC (dV 5) aN))))) b9))
def uf:DS:=(aB (zf 2) (aB (vb 3) (aB (λρ=>noex ((cY (putN 4) (cR (aw 1 cO (aC (dV 0) aN))) Rf) ρ)) (zd 2 (bc (dV 2))))))
def fm:List D->M D:=bM 6 (uf)
def xH:DS:=(aB (jq (aw 1 bU (aC (dV 0) aN))) (aB (jq (aw 1 cP (aC (dV 1) aN))) (aB (jq (aw 1 bN (aC (dV 2) aN))) (aB (jq (aw 2 cj (aC (dV 0) (aC (dV 3) aN)))) (aB (jq (aw 2 cj (aC (dV 0) (aC (dV 4) aN)))) (aB (bu 5 (aw 3 fV (aC (dV 0) (aC (bA 0 (cR (aw 1 cO (aC (dV 0) aN))) (cf (d2 (l8 false) (aw 2 bG (aC (dV 1) (aC (dV 0) aN))) (dV 3))) (dV 0)) (aC (dV 1) aN))))) (aB (fP (cf (d2 (fW true) (dV 3) (dV 5))) (bc (dC .non)) b9) (bc (Bt (aw 2 bW (aC (dV 5) (aC (dV 3) aN))) (dV 4))))))))))
def aQ:List D->M D:=bM 6 (xH)
def oQ:DS:=(aB (jq (aw 4 dI (aC (dV 0) (aC (dV 1) (aC (dV 2) (aC (dV 3) aN)))))) (aB (bu 4 (aw 2 fm (aC (dV 0) (aC (dV 1) aN)))) (aB (bu 5 (aw 1 cU (aC (dV 4) aN))) (bc (d2 eI (aw 2 bW (aC (aw 3 eG (aC (dV 0) (aC (dV 1) (aC (dV 4) aN)))) (aC (d2 eI (dV 5) (dV 2)) aN))) (d2 eI (dV 5) (dV 3)))))))
def aR:List D->M D:=bM 6 (oQ)
def cK(K:XO)(cA:Nat->Addr):DS:=(aB (bu 1 (dA a_ (aC (dA (vU K (zU cA)) (aC (dV 0) (aC (dC (.raw (.ref (cA 0)))) aN))) (aC (dA (vU K (zU cA)) (aC (dV 0) (aC (dC (.raw (.ref (cA 1)))) aN))) (aC (dA (vU K (zU cA)) (aC (dV 0) (aC (dC (.raw (.ref (cA 3)))) aN))) aN))))) (aB (bu 1 (d2 jF (dV 1) (dA a_ (aC (dA (vU K (zU cA)) (aC (dV 0) (aC (dC (.raw (.ref (cA 2)))) aN))) aN)))) (aB (fP (lS (cf (d2 ib (dM mh z0 (dV 1) (aC (dC (.bl true)) aN)) (dC (.int 1)))) (cG (bT (dA (vU K (zU cA)) (aC (dV 0) (aC (dC (.raw (.ty "ValueError"))) aN)))))) (bc (dA aO (aC (dC (.str "refused")) (aC (d1 Gf (dC (.int 1))) aN)))) b9) (bc (dA aO (aC (dC (.str "refused")) (aC (dM mh Ml (dV 1) (aC (dC (.bl true)) aN)) aN)))))))
def a9(K:XO)(cA:Nat->Addr):List D->M D:=bM 2 (cK K cA)
def Rg:DS:=(ck [6,7] (aB (bu 7 (Lu (d2 dN (d2 eI (dV 3) (dV 5)) (dA IY (aC (d2 ib (aw 2 bQ (aC (dV 0) (aC (dV 6) aN))) (aw 2 bQ (aC (dV 0) (aC (dV 5) aN)))) aN))))) (fT 3 (dV 6) (Lu (dA tV (aC (EY (dV 3) (dV 6) (dC (.int 99))) (aC (dV 7) aN)))))))
def To:DS:=(ck [5,6,7] (cY (putN 6) (cR (aw 3 cS (aC (dV 0) (aC (dV 5) (aC (dV 1) aN))))) Rg))
def Rh:DS:=(ck [4,5,6,7] (cY (putN 5) (cR (Km (dA vg (aC (dV 3) aN)))) To))
def uh:DS:=(aB (zg 3 (λρ=>(dV 2) ρ>>=λx=>(dC (.int 0)) ρ>>=λy=>k7 x y)) (aB (λρ=>noex ((cY (putN 4) (λρ=>(aC (d2 gS (dA bF (aC (dV 0) aN)) (dA bF (aC (d2 bb (dV 0) (dC (.int 0))) aN))) aN) ρ>>=g8) Rh) ρ)) (zd 3 (bc (dV 3)))))
def dW:List D->M D:=bM 8 (uh)
def stC:DS:=(ck [7,9] (aB (bu 9 (aw 3 cS (aC (dV 0) (aC (dV 7) (aC (dV 1) aN))))) (bu 8 (d2 jF (dV 8) (bA 0 (cR (dV 9)) (cf (d2 (l8 false) (aw 2 bQ (aC (dV 1) (aC (dV 0) aN))) (dV 3))) (dV 0))))))
def zI:DS:=(aB (vb 4) (aB (bu 5 (Qz (cf (d2 (l8 false) (aw 2 bQ (aC (dV 0) (aC (dV 3) aN))) (dV 2))) (dA a_ (aC (dV 3) aN)) (dA a_ aN))) (aB (bu 6 (dC (.int 0))) (aB (λρ=>noex ((wZ (cf (d2 ib (dV 5) (dA a_ aN))) (ck [7,8,9] (aB (cY (putN 7) (cR (dV 5)) (ck [7] (fT 4 (dV 7) (dV 6)))) (aB (bu 8 (dA a_ aN)) (aB (JW [7] (cY (putN 7) (cR (dV 5)) stC)) (aB (bu 5 (Km (d1 eS (bA 0 (cR (dV 8)) (cf (d2 (fW true) (dV 0) (dV 5))) (dV 0))))) (bu 6 (d2 dN (dV 6) (dC (.int 1)))))))))) ρ)) (zd 4 (bc (dV 4)))))))
def dE:List D->M D:=bM 10 (zI)
def tE:DS:=(Hj (aB (fP (cf (d2 ny (dV 0) (dC (.int 0)))) (bc (aw 4 aR (aC (dV 1) (aC (dV 2) (aC (dV 4) (aC (dV 5) aN)))))) b9) (bc (aw 5 aQ (aC (dV 1) (aC (dV 2) (aC (dV 3) (aC (dV 4) (aC (dV 5) aN)))))))) λk=>noex (LZ k))
def av:List D->M D:=bM 7 (tE)
def pM:DS:=(bu 1 (aw 3 dD (aC (dV 0) (aC (dC (.int 0)) (aC (dC (.int 5)) aN)))))
def pN:DS:=(bu 2 (d2 tP (dA a_ (aC (dC (.int 4)) (aC (dC (.int 8)) aN))) (aw 3 aH (aC (dV 0) (aC (dC (.int 60)) (aC (dC (.int 2)) aN))))))
def pO:DS:=(bu 3 (aw 3 dU (aC (dV 0) (aC (dC (.int 61)) (aC (dV 1) aN)))))
def pP:DS:=(bu 4 (aw 3 dW (aC (dV 1) (aC (dV 2) (aC (dV 3) aN)))))
def pQ:DS:=(bu 5 (d2 tP (dA a_ (aC (dA a_ (aC (dC (.str "a")) aN)) (aC (dA a_ (aC (dC (.str "b")) (aC (dC (.str "a")) aN))) (aC (dA a_ (aC (dC (.str "c")) aN)) (aC (dA a_ aN) (aC (dA a_ (aC (dC (.str "a")) (aC (dC (.str "b")) (aC (dC (.str "c")) (aC (dC (.str "f")) aN))))) aN)))))) (aw 3 aH (aC (dV 0) (aC (dC (.int 63)) (aC (dC (.int 5)) aN))))))
def pR:DS:=(bu 6 (aw 4 dE (aC (dV 1) (aC (dV 2) (aC (dV 5) (aC (dV 3) aN))))))
def Sz:DS:=(ck [7] (aB (fP (cf (d2 ib (aw 6 av (aC (dC (.int 0)) (aC (dV 1) (aC (dV 2) (aC (dC .non) (aC (dV 3) (aC (dV 7) aN))))))) (d2 eI (dV 4) (dV 7)))) (bc (dC (.bl false))) b9) (fP (cf (d2 ib (aw 6 av (aC (dC (.int 1)) (aC (dV 1) (aC (dV 2) (aC (dV 5) (aC (dV 3) (aC (dV 7) aN))))))) (Bt (dV 6) (dV 7)))) (bc (dC (.bl false))) b9)))
def pS:DS:=(λρ=>noex ((cY (putN 7) (cR (aw 1 el (aC (dV 1) aN))) Sz) ρ))
def SA:DS:=(ck [8] (aB (fP (cf (d2 ib (aw 6 av (aC (dC (.int 0)) (aC (dV 1) (aC (dV 2) (aC (dC .non) (aC (dV 8) (aC (dC .non) aN))))))) (dA aO (aC (dC (.str "refused")) (aC (dC (.int 3)) aN))))) (bc (dC (.bl false))) b9) (aB (fP (cf (d2 ib (aw 6 av (aC (dC (.int 0)) (aC (dV 1) (aC (dV 2) (aC (dC .non) (aC (dV 3) (aC (dV 8) aN))))))) (dA aO (aC (dC (.str "refused")) (aC (dC (.int 3)) aN))))) (bc (dC (.bl false))) b9) (aB (fP (cf (d2 ib (aw 6 av (aC (dC (.int 1)) (aC (dV 1) (aC (dV 2) (aC (dA a_ aN) (aC (dV 8) (aC (dC .non) aN))))))) (dA aO (aC (dC (.str "refused")) (aC (dC (.int 3)) aN))))) (bc (dC (.bl false))) b9) (aB (fP (cf (d2 ib (aw 6 av (aC (dC (.int 1)) (aC (dV 1) (aC (dV 2) (aC (dA a_ aN) (aC (dV 3) (aC (dV 8) aN))))))) (dA aO (aC (dC (.str "refused")) (aC (dC (.int 3)) aN))))) (bc (dC (.bl false))) b9) (aB (fP (cf (d2 ib (aw 6 av (aC (dC (.int 1)) (aC (dV 1) (aC (dV 2) (aC (dV 8) (aC (dC .non) (aC (dC .non) aN))))))) (dA aO (aC (dC (.str "refused")) (aC (dC (.int 2)) aN))))) (bc (dC (.bl false))) b9) (aB (fP (cf (d2 ib (aw 6 av (aC (dC (.int 1)) (aC (dV 1) (aC (dV 2) (aC (dA a_ (aC (dV 8) aN)) (aC (dC .non) (aC (dC .non) aN))))))) (dA aO (aC (dC (.str "refused")) (aC (dC (.int 2)) aN))))) (bc (dC (.bl false))) b9) (fP (cf (d2 ib (bA 0 (lG (dA aO (aC (dC (.int 0)) (aC (dC (.int 1)) aN)))) dB (aw 6 av (aC (dV 0) (aC (dV 2) (aC (dV 9) (aC (dC .non) (aC (dC .non) (aC (dC .non) aN)))))))) (d2 Fl (dA a_ (aC (dA aO (aC (dC (.str "refused")) (aC (dC (.int 1)) aN))) aN)) (dC (.int 2))))) (bc (dC (.bl false))) b9))))))))
def pT:DS:=(λρ=>noex ((cY (putN 8) (lG (dA aO (aC (dC .non) (aC (dA aO (aC (dC (.int 9)) (aC (dC (.int 0)) aN))) (aC (dA aO (aC (dC (.int 0)) aN)) (aC (dA a_ (aC (dC (.int 0)) (aC (dC (.int 0)) aN))) (aC (dA aO (aC (dC (.bl true)) (aC (dC (.int 0)) aN))) (aC (dC (.int 5)) aN)))))))) SA) ρ))
def pU:DS:=(bc (d2 ny (bA 0 (lG (dA aO (aC (dC (.int 0)) (aC (dC (.int 1)) aN)))) dB (aw 6 av (aC (dV 0) (aC (dA aO (aC (dC (.str "A")) aN)) (aC (dC .non) (aC (dC .non) (aC (dC .non) (aC (dC .non) aN)))))))) (d2 Fl (dA a_ (aC (dA aO (aC (dC (.str "refused")) (aC (dC (.int 0)) aN))) aN)) (dC (.int 2)))))
def oR:DS:=(aB pM (aB pN (aB pO (aB pP (aB pQ (aB pR (aB pS (aB pT pU))))))))
def kC:List D->M D:=bM 9 oR
structure Bl (K:XO) (mg:Str->Option Value) (base:Heap) (cv:Nat->Value) (cA:Nat->Addr) (Cp:Addr):Prop where
 len:mg "len"=none
 isinstance:mg "isinstance"=none
 all:mg "all"=none
 abs:mg "abs"=none
 max:mg "max"=none
 min:mg "min"=none
 range:mg "range"=none
 str:mg "str"=none
 int:mg "int"=none
 bool:mg "bool"=none
 tuple:mg "tuple"=none
 list:mg "list"=none
 set:mg "set"=none
 sorted:mg "sorted"=none
 enumerate:mg "enumerate"=none
 ValueError:mg "ValueError"=none
 LETTERS:∃t,mg "LETTERS"=some (.str "abcdef" t)
 MOST_ROWS:∃t,mg "MOST_ROWS"=some (.int 8 t)
 MOST_COLUMNS:∃t,mg "MOST_COLUMNS"=some (.int 8 t)
 cls0:mg "NoBoard"=some (.ref (cA 0))
 cls1:mg "NoWays"=some (.ref (cA 1))
 cls2:mg "NoCell"=some (.ref (cA 2))
 cls3:mg "NoLetter"=some (.ref (cA 3))
 own0:OwnCls "NoBoard" (cA 0) [.type "ValueError", .type "Exception", .type "BaseException", .type "object"] "ValueError.__new__" mg base
 own1:OwnCls "NoWays" (cA 1) [.type "ValueError", .type "Exception", .type "BaseException", .type "object"] "ValueError.__new__" mg base
 own2:OwnCls "NoCell" (cA 2) [.type "ValueError", .type "Exception", .type "BaseException", .type "object"] "ValueError.__new__" mg base
 own3:OwnCls "NoLetter" (cA 3) [.type "ValueError", .type "Exception", .type "BaseException", .type "object"] "ValueError.__new__" mg base
 cvE:∀n,cv n= .ref (cB cA n)
 top:mg "PatchError"=some (.ref Cp)
 exm:∀n,aaW K (cv n) (.ref Cp)=some true
 exs:∀C∈zU cA,ExcC K C
 kit:∀n m,n∈[0,1,2,3]->m∈[0,1,2,3]->X3 K (.ref (cA n)) (.ref (cA m))=some (decide (n=m))
 kitV:∀n,n∈[0,1,2,3]->X3 K (.ref (cA n)) (.type "ValueError")=some true
section
variable{P:Yd}{w:World}{K:XO}{mg:Str->Option Value}{base:Heap}{cv:Nat->Value}{cA:Nat->Addr}{Cp:Addr}{f:Addr}
abbrev lO:Stmt:=top 10
def rW:List Str:=["thing"]
def sv:List Str:=["thing"]
theorem mR{j k:Nat}{A:Yy}(r:Room k A)(h:j<=k:=by decide):Room j A:=r.mono h
theorem dh{N Q:List Str}{sc:Scope}(k:sc.kind= .function:=by rfl)(c:sc.isCoroutine=false:=by rfl)(g:sc.isGenerator=false:=by rfl)(p:N.take Q.length=Q:=by rfl)(h:N.Nodup/\(∀x∈Q,sc.names.lookup x=some .local\/sc.names.lookup x=some .cell)/\∀y∈sc.names,y.2≠ .free:=by decide+kernel):FnScope N Q sc:=⟨k,c,g,h.1,p,h.2.1,h.2.2⟩
theorem zk:FnScope rW sv (ai lO):=dh
theorem yO(B:Bl K mg base cv cA Cp)(T:bx K mg "is_whole" lO f):au P w K mg base cv 1 "is_whole" 1 (bK):=
 aF (N:=rW) (ps:=sv) T zk (λ_ _ _ _ _ _ us hl=>match us,hl with | [_],_=>rfl) λ_ _ _ _ _ _ hr=>
  (ar (aD (sC (lM rfl B.isinstance rfl (aa (af (pv 0)) (aa (pI rfl B.int rfl) ah))) (wN (M0 (lM rfl B.isinstance rfl (aa (af (pv 0)) (aa (pI rfl B.bool rfl) ah))))))))
abbrev j8:Stmt:=top 11
def o6:List Str:=["thing"]
def pw:List Str:=["thing"]
theorem w9:FnScope o6 pw (ai j8):=dh
theorem wt(B:Bl K mg base cv cA Cp)(T:bx K mg "is_letter" j8 f):au P w K mg base cv 1 "is_letter" 1 (cg):=
 aF (N:=o6) (ps:=pw) T w9 (λ_ _ _ _ _ _ us hl=>match us,hl with | [_],_=>rfl) λ_ _ _ _ _ _ hr=>
  (ar (aD (sC (lM rfl B.isinstance rfl (aa (af (pv 0)) (aa (pI rfl B.str rfl) ah))) (sC (yT hr.units (b7 rfl B.len (aa (af (pv 0)) ah)) aq) (wN (MY (af (pv 0)) (Jy rfl B.LETTERS (by decide))))))))
abbrev eO:Stmt:=top 19
def eK:List Str:=["board","row"]
def jU:List Str:=["board","row"]
theorem qc:FnScope eK jU (ai eO):=dh
theorem p8(B:Bl K mg base cv cA Cp)(T:bx K mg "cells_of_row" eO f):au P w K mg base cv 1 "cells_of_row" 2 (cH):=
 aF (N:=eK) (ps:=jU) T qc (λ_ _ _ _ _ _ us hl=>match us,hl with | [_,_],_=>rfl) λ_ _ _ _ _ _ hr=>
  (ar (aD (dO (tn:=["column"]) (n:=0) (bP (N:=eK) (osc:=(ai eO)) rfl rfl (by decide+kernel)) rfl rfl (d7 rfl B.range (aa (b7 rfl B.len (aa (bH (af (pv 0)) aq) ah)) ah)) (λ_ _ _ _ _ _ _=>dz (show Zc (((["column"]:List Str))++dF ["column"] eK) by decide+kernel) rfl rfl) (λ_ _ _ _ _ _=>eU) (λ_ _ _ _ _ _=>(bL (aa (af (pv 2)) (aa (af (pv 0)) ah)))))))
abbrev j_:Stmt:=top 21
def o8:List Str:=["board","cell"]
def pD:List Str:=["board","cell"]
theorem w_:FnScope o8 pD (ai j_):=dh
theorem wA(B:Bl K mg base cv cA Cp)(T:bx K mg "letter_of" j_ f):au P w K mg base cv 1 "letter_of" 2 (bG):=
 aF (N:=o8) (ps:=pD) T w_ (λ_ _ _ _ _ _ us hl=>match us,hl with | [_,_],_=>rfl) λ_ _ _ _ _ _ hr=>
  (ar (aD (AK (bH (af (pv 0)) (bH (af (pv 1)) aq)) (bH (af (pv 1)) aq))))
abbrev lN:Stmt:=top 22
def rV:List Str:=["one","other","ways","down","along"]
def sr:List Str:=["one","other","ways"]
theorem kf:FnScope rV sr (ai lN):=dh
theorem yM(B:Bl K mg base cv cA Cp)(T:bx K mg "are_next" lN f):au P w K mg base cv 1 "are_next" 3 (d6):=
 aF (N:=rV) (ps:=sr) T kf (λ_ _ _ _ _ _ us hl=>match us,hl with | [_,_,_],_=>rfl) λ_ _ _ _ _ _ hr=>
  (ak (aI kf.nd rfl (.inl rfl) (GI rfl B.abs (aa (wO (bH (af (pv 0)) aq) (bH (af (pv 1)) aq)) ah) rfl)) (ak (aI kf.nd rfl (.inl rfl) (GI rfl B.abs (aa (wO (bH (af (pv 0)) aq) (bH (af (pv 1)) aq)) ah) rfl)) (ak (bI (u4 hr.units (af (pv 2)) aq) (ar (aD (yT hr.units (cu (af (pv 3)) (af (pv 4))) aq))) bh) (ar (aD (yT hr.units (AL rfl rfl B.max rfl (aa (af (pv 3)) (aa (af (pv 4)) ah))) aq))))))
abbrev w6:Stmt:=top 24
def B1:List Str:=["things","found","thing"]
def B9:List Str:=["things"]
theorem sQ:FnScope B1 B9 (ai w6):=dh
theorem Gx(B:Bl K mg base cv cA Cp)(T:bx K mg "keyed" w6 f):au P w K mg base cv 1 "keyed" 1 (kB):=
 aF (N:=B1) (ps:=B9) T sQ (λ_ _ _ _ _ _ us hl=>match us,hl with | [_],_=>rfl) λ_ _ _ _ _ _ hr=>
  (ak (jZ sQ.nd rfl (.inl rfl)) (ak (cE (bD X_ rfl (Cd (bq (af (pv 0))) (yU (af (pv 0)))) (aT sQ.nd rfl (.inl rfl)) bo (aW (ar (gL hr.units (pv 1) (af (pv 2)) eX))))) (ar (du (i:=1) (aD (af (pv 1)))))))
abbrev i8:Stmt:=top 30
def mD:List Str:=["found","numbers","number","patch","cell"]
def mV:List Str:=["found"]
theorem dZ:FnScope mD mV (ai i8):=dh
theorem ua(B:Bl K mg base cv cA Cp)(T:bx K mg "numbers_of" i8 f):au P w K mg base cv 1 "numbers_of" 1 (cU):=
 aF (N:=mD) (ps:=mV) T dZ (λ_ _ _ _ _ _ us hl=>match us,hl with | [_],_=>rfl) λ_ _ _ _ _ _ hr=>
  (ak (jZ dZ.nd rfl (.inl rfl)) (ak (cE (bD X_ rfl (GO rfl B.enumerate (aa (af (pv 0)) ah)) (Nf rfl (yW (aT dZ.nd rfl (.inl rfl)) (yW (aT dZ.nd rfl (.inl rfl)) JH))) (JR (is:=[2,3])) (aW (ar (bD X_ rfl (bq (af (pv 3))) (aT dZ.nd rfl (.inl rfl)) bo (aW (ar (gL hr.units (pv 1) (af (pv 4)) (af (pv 2)))))))))) (ar (du (i:=1) (aD (af (pv 1)))))))
abbrev j7:Stmt:=top 33
def o5:List Str:=["near","start","far","ring","further","thing","other"]
def pq:List Str:=["near","start"]
theorem cZ:FnScope o5 pq (ai j7):=dh
theorem wo(B:Bl K mg base cv cA Cp)(T:bx K mg "distances" j7 f):au P w K mg base cv 1 "distances" 2 (bW):=
 aF (N:=o5) (ps:=pq) T cZ (λ_ _ _ _ _ _ us hl=>match us,hl with | [_,_],_=>rfl) λ_ _ _ _ _ _ hr=>
  (ak (sH cZ.nd rfl (.inl rfl) (Jz (oq hr.units (af (pv 1)) aq) (DN hr.units (af (pv 1)) aq))) (ak (aI cZ.nd rfl (.inl rfl) (di (aa (af (pv 1)) ah))) (ak (cE (oy X_ (cC (af (pv 3))) (aW (ak (kK cZ.nd rfl (.inl rfl)) (ak (bD X_ rfl (bq (af (pv 3))) (aT cZ.nd rfl (.inl rfl)) bo (aW (ar (bD X_ rfl (Cd (bq (fR hr.units (af (pv 0)) (af (pv 5)))) (yU (fR hr.units (af (pv 0)) (af (pv 5))))) (aT cZ.nd rfl (.inl rfl)) bo (aW (ar (bI (AQ (iH hr.units (af (pv 6)) (af (pv 2)))) (ak (gL hr.units (pv 2) (af (pv 6)) (GN (cu (fR hr.units (af (pv 2)) (af (pv 5))) aq))) (ar (mY (pv 4) (af (pv 6))))) bh))))))) (ar (du (i:=4) (aI cZ.nd rfl (.inl rfl) (af (pv 4)))))))))) (ar (du (i:=2) (aD (af (pv 2))))))))
abbrev lP:Stmt:=top 38
def rX:List Str:=["_law_script","_law_k"]
def sx:List Str:=["_law_script","_law_k"]
theorem zl:FnScope rX sx (ai lP):=dh
theorem yP(B:Bl K mg base cv cA Cp)(T:bx K mg "_law_cell" lP f):au P w K mg base cv 1 "_law_cell" 2 (gB):=
 aF (N:=rX) (ps:=sx) T zl (λ_ _ _ _ _ _ us hl=>match us,hl with | [_,_],_=>rfl) λ_ _ _ _ _ _ hr=>
  (ak (bI (u4 hr.units (af (pv 0)) (di ah)) (ar (aD (i3 aq (af (pv 1))))) bh) (ar (aD (cu (MZ (af (pv 0)) (oj (af (pv 1)) (b7 rfl B.len (aa (af (pv 0)) ah)))) (i3 aq (wL (af (pv 1)) (b7 rfl B.len (aa (af (pv 0)) ah))))))))
abbrev g_:Stmt:=top 41
def gZ:List Str:=["_law_board_here","_law_found","_law_row"]
def pA:List Str:=["_law_board_here"]
theorem gg:FnScope gZ pA (ai g_):=dh
theorem wx(B:Bl K mg base cv cA Cp)(T:bx K mg "_law_cells" g_ f):au P w K mg base cv 1 "_law_cells" 1 (el):=
 aF (N:=gZ) (ps:=pA) T gg (λ_ _ _ _ _ _ us hl=>match us,hl with | [_],_=>rfl) λ_ _ _ _ _ _ hr=>
  (ak (aI gg.nd rfl (.inl rfl) (di ah)) (ak (cE (bD X_ rfl (d7 rfl B.range (aa (b7 rfl B.len (aa (af (pv 0)) ah)) ah)) (aT gg.nd rfl (.inr rfl)) bo (aW (ar (aI gg.nd rfl (.inl rfl) (wJ (af (pv 1)) (dO (tn:=["_law_column"]) (n:=0) (bP (N:=gZ) (osc:=(ai g_)) rfl rfl (by decide+kernel)) rfl rfl (d7 rfl B.range (aa (b7 rfl B.len (aa (bH (af (pv 0)) aq) ah)) ah)) (λ_ _ _ _ _ _ _=>dz (show Zc (((["_law_column"]:List Str))++dF ["_law_column"] gZ) by decide+kernel) rfl rfl) (λ_ _ _ _ _ _=>eU) (λ_ _ _ _ _ _=>(bL (aa (af (pv 3)) (aa (af (pv 0)) ah))))))))))) (ar (aD (af (pv 1))))))
abbrev i5:Stmt:=top 42
def mz:List Str:=["_law_board_here","_law_cell_here","_law_ways","_law_found","_law_down","_law_right","_law_row","_law_column","_law_inside"]
def mP:List Str:=["_law_board_here","_law_cell_here","_law_ways"]
theorem cx:FnScope mz mP (ai i5):=dh
theorem t6(B:Bl K mg base cv cA Cp)(T:bx K mg "_law_beside" i5 f):au P w K mg base cv 1 "_law_beside" 3 (cS):=
 aF (N:=mz) (ps:=mP) T cx (λ_ _ _ _ _ _ us hl=>match us,hl with | [_,_,_],_=>rfl) λ_ _ _ _ _ _ hr=>
  (ak (kK cx.nd rfl (.inl rfl)) (ak (cE (bD X_ rfl (i4 (bL (aa (AN aq) (aa aq (aa aq ah))))) (aT cx.nd rfl (.inl rfl)) bo (aW (ar (bD X_ rfl (i4 (bL (aa (AN aq) (aa aq (aa aq ah))))) (aT cx.nd rfl (.inl rfl)) bo (aW (ak (aI cx.nd rfl (.inl rfl) (cu (bH (af (pv 1)) aq) (af (pv 4)))) (ak (aI cx.nd rfl (.inl rfl) (cu (bH (af (pv 1)) aq) (af (pv 5)))) (ak (aI cx.nd rfl (.inl rfl) (sC (wK pj B7 aq (af (pv 6)) (b7 rfl B.len (aa (af (pv 0)) ah))) (wN (wK pj B7 aq (af (pv 7)) (b7 rfl B.len (aa (bH (af (pv 0)) aq) ah)))))) (ar (bI (PDW.t (Ce (cC (af (pv 8))) (Ce (g7 hr.units (bL (aa (af (pv 4)) (aa (af (pv 5)) ah))) (bL (aa aq (aa aq ah)))) (GP (PDW.t (jY (u4 hr.units (af (pv 2)) aq) (g6 (u4 hr.units (i3 (af (pv 4)) (af (pv 5))) aq)))))))) (ar (mY (pv 3) (bL (aa (af (pv 6)) (aa (af (pv 7)) ah))))) bh))))))))))) (ar (du (i:=3) (aD (af (pv 3)))))))
abbrev lQ:Stmt:=top 43
def rY:List Str:=["_law_board_here","_law_cell_here"]
def sy:List Str:=["_law_board_here","_law_cell_here"]
theorem zm:FnScope rY sy (ai lQ):=dh
theorem yQ(B:Bl K mg base cv cA Cp)(T:bx K mg "_law_sign" lQ f):au P w K mg base cv 1 "_law_sign" 2 (bQ):=
 aF (N:=rY) (ps:=sy) T zm (λ_ _ _ _ _ _ us hl=>match us,hl with | [_,_],_=>rfl) λ_ _ _ _ _ _ hr=>
  (ar (aD (AK (bH (af (pv 0)) (bH (af (pv 1)) aq)) (bH (af (pv 1)) aq))))
abbrev fi:Stmt:=top 45
def iB:List Str:=["_law_e","_law_flags"]
def iE:List Str:=["_law_e"]
theorem eR:FnScope iB iE (ai fi):=dh
theorem mK(B:Bl K mg base cv cA Cp)(T:bx K mg "_law_refused" fi f):qe P w K mg base cv 1 "_law_refused" 1 (a9 K cA):=
 zY (N:=iB) (ps:=iE) T eR (λ_ _ _ _ _ _ us hl=>match us,hl with | [_],_=>rfl) λbY A outer s H hr=>
  (ak (aI eR.nd rfl (.inl rfl) (di (aa (sD B.exs rfl B.isinstance rfl (aa (af (pv 0)) (aa (qp rfl B.cls0) ah))) (aa (sD B.exs rfl B.isinstance rfl (aa (af (pv 0)) (aa (qp rfl B.cls1) ah))) (aa (sD B.exs rfl B.isinstance rfl (aa (af (pv 0)) (aa (qp rfl B.cls3) ah))) ah))))) (ak (aI eR.nd rfl (.inl rfl) (wJ (af (pv 1)) (di (aa (sD B.exs rfl B.isinstance rfl (aa (af (pv 0)) (aa (qp rfl B.cls2) ah))) ah)))) (ak (bI (PDW.t (jY (g7 hr.units (MW (af (pv 1)) (aa eX ah)) aq) (g6 (dq (cC (sD B.exs rfl B.isinstance rfl (aa (af (pv 0)) (aa (pI rfl B.ValueError rfl) ah)))))))) (ar (aD (bL (aa cw (aa (AN aq) ah))))) bh) (ar (aD (bL (aa cw (aa (MX (af (pv 1)) (aa eX ah)) ah))))))))
abbrev m7:Stmt:=top 12
def my:List Str:=["thing"]
def yS:List Str:=["thing"]
theorem D3:FnScope my yS (ai m7):=dh
theorem DC(B:Bl K mg base cv cA Cp)(jv:au P w K mg base cv 1 "is_letter" 1 cg)(T:bx K mg "is_row" m7 f):au P w K mg base cv 2 "is_row" 1 (gA):=
 aF (N:=my) (ps:=yS) T D3 (λ_ _ _ _ _ _ us hl=>match us,hl with | [_],_=>rfl) λ_ _ _ _ _ _ hr=>
  (ak (bI (PDW.t (jY (dq (cC (lM rfl B.isinstance rfl (aa (af (pv 0)) (aa (pI rfl B.str rfl) ah))))) (g6 (dq (G3 pj pj aq (b7 rfl B.len (aa (af (pv 0)) ah)) (Ca rfl B.MOST_COLUMNS)))))) (ar (aD eX)) bh) (ar (aD (wI rfl rfl B.all rfl (aa (dO (tn:=["sign"]) (n:=0) (bP (N:=my) (osc:=(ai m7)) rfl rfl (by decide+kernel)) rfl rfl (JA (af (pv 0))) (λ_ _ _ _ _ _ _=>dz (show Zc (((["sign"]:List Str))++dF ["sign"] my) by decide+kernel) rfl rfl) (λ_ _ _ _ _ _=>eU) (λ_ _ _ _ _ _=>(bf jv (mR hr) rfl b6 (aa (af (pv 0)) ah) rfl))) ah)))))
abbrev oG:Stmt:=top 14
def uW:List Str:=["board","thing"]
def uZ:List Str:=["board","thing"]
theorem AW:FnScope uW uZ (ai oG):=dh
theorem AA(B:Bl K mg base cv cA Cp)(iP:au P w K mg base cv 1 "is_whole" 1 bK)(T:bx K mg "is_cell" oG f):au P w K mg base cv 2 "is_cell" 2 (kA):=
 aF (N:=uW) (ps:=uZ) T AW (λ_ _ _ _ _ _ us hl=>match us,hl with | [_,_],_=>rfl) λ_ _ _ _ _ _ hr=>
  (ak (bI (PDW.t (jY (dq (cC (lM rfl B.isinstance rfl (aa (af (pv 1)) (aa (pI rfl B.tuple rfl) ah))))) (g6 (g7 hr.units (b7 rfl B.len (aa (af (pv 1)) ah)) aq)))) (ar (aD eX)) bh) (ak (bI (PDW.t (jY (dq (cC (bf iP (mR hr) rfl bC (aa (bH (af (pv 1)) aq) ah) rfl))) (g6 (dq (cC (bf iP (mR hr) rfl bC (aa (bH (af (pv 1)) aq) ah) rfl)))))) (ar (aD eX)) bh) (ar (aD (sC (wK pj B7 aq (bH (af (pv 1)) aq) (b7 rfl B.len (aa (af (pv 0)) ah))) (wN (wK pj B7 aq (bH (af (pv 1)) aq) (b7 rfl B.len (aa (bH (af (pv 0)) aq) ah)))))))))
abbrev eP:Stmt:=top 17
def eM:List Str:=["thing"]
def jX:List Str:=["thing"]
theorem qd:FnScope eM jX (ai eP):=dh
theorem qa(B:Bl K mg base cv cA Cp)(jv:au P w K mg base cv 1 "is_letter" 1 cg)(T:bx K mg "need_letters" eP f):au P w K mg base cv 2 "need_letters" 1 (bN):=
 aF (N:=eM) (ps:=jX) T qd (λ_ _ _ _ _ _ us hl=>match us,hl with | [_],_=>rfl) λ_ _ _ _ _ _ hr=>
  (ar (bI (PDW.t (jY (dq (cC (lM rfl B.isinstance rfl (aa (af (pv 0)) (aa (pI rfl B.list rfl) ah))))) (g6 (dq (cC (wI rfl rfl B.all rfl (aa (dO (tn:=["part"]) (n:=0) (bP (N:=eM) (osc:=(ai eP)) rfl rfl (by decide+kernel)) rfl rfl (bq (af (pv 0))) (λ_ _ _ _ _ _ _=>dz (show Zc (((["part"]:List Str))++dF ["part"] eM) by decide+kernel) rfl rfl) (λ_ _ _ _ _ _=>eU) (λ_ _ _ _ _ _=>(bf jv (mR hr) rfl b6 (aa (af (pv 0)) ah) rfl))) ah))))))) (ar (kL B.own3 Z2 rfl rfl (B.cvE 3) BY (aa cw ah))) bh))
abbrev ke:Stmt:=top 18
def o_:List Str:=["thing"]
def pF:List Str:=["thing"]
theorem xb:FnScope o_ pF (ai ke):=dh
theorem wC(B:Bl K mg base cv cA Cp)(iP:au P w K mg base cv 1 "is_whole" 1 bK)(T:bx K mg "need_ways" ke f):au P w K mg base cv 2 "need_ways" 1 (cP):=
 aF (N:=o_) (ps:=pF) T xb (λ_ _ _ _ _ _ us hl=>match us,hl with | [_],_=>rfl) λ_ _ _ _ _ _ hr=>
  (ar (bI (PDW.t (jY (dq (cC (bf iP (mR hr) rfl bC (aa (af (pv 0)) ah) rfl))) (g6 (DV (af (pv 0)) (bL (aa aq (aa aq ah))))))) (ar (kL B.own1 Z2 rfl rfl (B.cvE 1) BY (aa cw ah))) bh))
abbrev j6:Stmt:=top 20
def o4:List Str:=["board","found","row"]
def pk:List Str:=["board"]
theorem i_:FnScope o4 pk (ai j6):=dh
theorem wm(B:Bl K mg base cv cA Cp)(qL:au P w K mg base cv 1 "cells_of_row" 2 cH)(T:bx K mg "all_cells" j6 f):au P w K mg base cv 2 "all_cells" 1 (cO):=
 aF (N:=o4) (ps:=pk) T i_ (λ_ _ _ _ _ _ us hl=>match us,hl with | [_],_=>rfl) λ_ _ _ _ _ _ hr=>
  (ak (kK i_.nd rfl (.inl rfl)) (ak (cE (bD X_ rfl (d7 rfl B.range (aa (b7 rfl B.len (aa (af (pv 0)) ah)) ah)) (aT i_.nd rfl (.inl rfl)) bo (aW (ar (JK (pv 1) (bf qL (mR hr) rfl b6 (aa (af (pv 0)) (aa (af (pv 2)) ah)) rfl)))))) (ar (du (i:=1) (aD (af (pv 1)))))))
abbrev i7:Stmt:=top 23
def mC:List Str:=["board","cell","ways","found","row","column"]
def mU:List Str:=["board","cell","ways"]
theorem fC:FnScope mC mU (ai i7):=dh
theorem t_(B:Bl K mg base cv cA Cp)(zV:au P w K mg base cv 1 "are_next" 3 d6)(T:bx K mg "next_cells" i7 f):au P w K mg base cv 2 "next_cells" 3 (bB):=
 aF (N:=mC) (ps:=mU) T fC (λ_ _ _ _ _ _ us hl=>match us,hl with | [_,_,_],_=>rfl) λ_ _ _ _ _ _ hr=>
  (ak (kK fC.nd rfl (.inl rfl)) (ak (cE (bD X_ rfl (sE rfl B.range (aa (AL rfl rfl B.max rfl (aa (wO (bH (af (pv 1)) aq) aq) (aa aq ah))) (aa (AM rfl rfl B.min rfl (aa (cu (bH (af (pv 1)) aq) aq) (aa (b7 rfl B.len (aa (af (pv 0)) ah)) ah))) ah))) (aT fC.nd rfl (.inl rfl)) bo (aW (ar (bD X_ rfl (sE rfl B.range (aa (AL rfl rfl B.max rfl (aa (wO (bH (af (pv 1)) aq) aq) (aa aq ah))) (aa (AM rfl rfl B.min rfl (aa (cu (bH (af (pv 1)) aq) aq) (aa (b7 rfl B.len (aa (bH (af (pv 0)) aq) ah)) ah))) ah))) (aT fC.nd rfl (.inl rfl)) bo (aW (ar (bI (cC (bf zV (mR hr) rfl b6 (aa (af (pv 1)) (aa (bL (aa (af (pv 4)) (aa (af (pv 5)) ah))) (aa (af (pv 2)) ah))) rfl)) (ar (mY (pv 3) (bL (aa (af (pv 4)) (aa (af (pv 5)) ah))))) bh)))))))) (ar (du (i:=3) (aD (af (pv 3)))))))
abbrev j9:Stmt:=top 39
def o7:List Str:=["_law_script","_law_k","_law_many","_law_cell_here"]
def pB:List Str:=["_law_script","_law_k","_law_many"]
theorem ja:FnScope o7 pB (ai j9):=dh
theorem wy(B:Bl K mg base cv cA Cp)(zX:au P w K mg base cv 1 "_law_cell" 2 gB)(T:bx K mg "_law_drawn" j9 f):au P w K mg base cv 2 "_law_drawn" 3 (aH):=
 aF (N:=o7) (ps:=pB) T ja (λ_ _ _ _ _ _ us hl=>match us,hl with | [_,_,_],_=>rfl) λ_ _ _ _ _ _ hr=>
  (ak (aI ja.nd rfl (.inl rfl) (oj (cu (i3 (oj (bf zX (mR hr) rfl bC (aa (af (pv 0)) (aa (af (pv 1)) ah)) rfl) aq) aq) (i3 aq (cu (af (pv 1)) aq))) aq)) (ak (aI ja.nd rfl (.inl rfl) (oj (cu (i3 (af (pv 3)) (af (pv 3))) (wL (af (pv 3)) aq)) aq)) (ar (aD (oj (wL (oj (cu (i3 (af (pv 3)) (af (pv 3))) (wL (af (pv 3)) aq)) aq) aq) (af (pv 2)))))))
abbrev ik:Stmt:=top 47
def lg:List Str:=["_law_board_here","_law_ways","_law_start","_law_found","_law_turn","_law_cell_here","_law_there","_law_by"]
def lp:List Str:=["_law_board_here","_law_ways","_law_start"]
theorem cJ:FnScope lg lp (ai ik):=dh
theorem sq(B:Bl K mg base cv cA Cp)(iQ:au P w K mg base cv 1 "_law_beside" 3 cS)(gr:au P w K mg base cv 1 "_law_sign" 2 bQ)(T:bx K mg "_law_changes" ik f):au P w K mg base cv 2 "_law_changes" 3 (dW):=
 aF (N:=lg) (ps:=lp) T cJ (λ_ _ _ _ _ _ us hl=>match us,hl with | [_,_,_],_=>rfl) λ_ _ _ _ _ _ hr=>
  (ak (sH cJ.nd rfl (.inl rfl) (oq hr.units (af (pv 2)) aq)) (ak (cE (bD X_ rfl (d7 rfl B.range (aa (i3 (b7 rfl B.len (aa (af (pv 0)) ah)) (b7 rfl B.len (aa (bH (af (pv 0)) aq) ah))) ah)) (aT cJ.nd rfl (.inl rfl)) bo (aW (ar (bD X_ rfl (bq (K0 (Cc rfl rfl B.sorted rfl (aa (af (pv 3)) ah)))) (aT cJ.nd rfl (.inl rfl)) bo (aW (ar (bD X_ rfl (bq (bf iQ (mR hr) rfl b6 (aa (af (pv 0)) (aa (af (pv 5)) (aa (af (pv 1)) ah))) rfl)) (aT cJ.nd rfl (.inl rfl)) bo (aW (ak (aI cJ.nd rfl (.inl rfl) (GN (cu (fR hr.units (af (pv 3)) (af (pv 5))) (Jw rfl B.int rfl (aa (PQ hr.units (bf gr (mR hr) rfl b6 (aa (af (pv 0)) (aa (af (pv 6)) ah)) rfl) (bf gr (mR hr) rfl b6 (aa (af (pv 0)) (aa (af (pv 5)) ah)) rfl)) ah))))) (ar (gL hr.units (pv 3) (af (pv 6)) (GN (AM rfl rfl B.min rfl (aa (Jv hr.units (af (pv 3)) (af (pv 6)) aq ⟨rfl,rfl,rfl,rfl⟩) (aa (af (pv 7)) ah)))))))))))))))) (ar (du (i:=3) (aD (af (pv 3)))))))
abbrev fM:Stmt:=top 48
def eu:List Str:=["_law_board_here","_law_ways","_law_signs","_law_start","_law_found","_law_some","_law_far","_law_cell_here","_law_longer","_law_nigh"]
def pC:List Str:=["_law_board_here","_law_ways","_law_signs","_law_start"]
theorem bE:FnScope eu pC (ai fM):=dh
theorem wz(B:Bl K mg base cv cA Cp)(gr:au P w K mg base cv 1 "_law_sign" 2 bQ)(iQ:au P w K mg base cv 1 "_law_beside" 3 cS)(T:bx K mg "_law_steps" fM f):au P w K mg base cv 2 "_law_steps" 4 (dE):=
 aF (N:=eu) (ps:=pC) T bE (λ_ _ _ _ _ _ us hl=>match us,hl with | [_,_,_,_],_=>rfl) λ_ _ _ _ _ _ hr=>
  (ak (jZ bE.nd rfl (.inr rfl)) (ak (aI bE.nd rfl (.inl rfl) (PO (AV hr.units (bf gr (mR hr) rfl bC (aa (af (pv 0)) (aa (af (pv 3)) ah)) rfl) (af (pv 2))) (di (aa (af (pv 3)) ah)) (di ah))) (ak (aI bE.nd rfl (.inl rfl) aq) (ak (cE (oy X_ (g7 hr.units (af (pv 5)) (di ah)) (aW (ak (bD X_ rfl (bq (af (pv 5))) (aT bE.nd rfl (.inl rfl)) bo (aW (ar (gL hr.units (pv 4) (af (pv 7)) (af (pv 6)))))) (ak (aI bE.nd rfl (.inl rfl) (di ah)) (ak (JL (bD X_ rfl (bq (af (pv 5))) (aT bE.nd rfl (.inl rfl)) bo (aW (ak (aI bE.nd rfl (.inl rfl) (bf iQ (mR hr) rfl b6 (aa (af (pv 0)) (aa (af (pv 7)) (aa (af (pv 1)) ah))) rfl)) (ar (aI bE.nd rfl (.inl rfl) (wJ (af (pv 8)) (dO (tn:=["_law_there"]) (n:=0) (bP (N:=eu) (osc:=(ai fM)) rfl rfl (by decide+kernel)) rfl rfl (bq (af (pv 9))) (λ_ _ _ _ _ _ _=>dz (show Zc (((["_law_there"]:List Str))++dF ["_law_there"] eu) by decide+kernel) rfl rfl) (λ_ _ _ _ _ _=>(kh (AV hr.units (bf gr (mR hr) rfl b6 (aa (af (pv 1)) (aa (af (pv 0)) ah)) rfl) (af (pv 3))))) (λ_ _ _ _ _ _=>(af (pv 0))))))))))) (ak (aI bE.nd rfl (.inl rfl) (K0 (AO rfl hr.units rfl B.sorted rfl B.set rfl rfl (dO (tn:=["_law_cell_here"]) (n:=0) (bP (N:=eu) (osc:=(ai fM)) rfl rfl (by decide+kernel)) rfl rfl (bq (af (pv 8))) (λ_ _ _ _ _ _ _=>dz (show Zc (((["_law_cell_here"]:List Str))++dF ["_law_cell_here"] eu) by decide+kernel) rfl rfl) (λ_ _ _ _ _ _=>(kh (iH hr.units (af (pv 0)) (af (pv 5))))) (λ_ _ _ _ _ _=>(af (pv 0))))))) (ar (aI bE.nd rfl (.inl rfl) (cu (af (pv 6)) aq)))))))))) (ar (du (i:=4) (aD (af (pv 4)))))))))
abbrev gM:Stmt:=top 13
def fc:List Str:=["thing"]
def su:List Str:=["thing"]
theorem zj:FnScope fc su (ai gM):=dh
theorem yN(B:Bl K mg base cv cA Cp)(EI:au P w K mg base cv 2 "is_row" 1 gA)(T:bx K mg "is_board" gM f):au P w K mg base cv 3 "is_board" 1 (iT):=
 aF (N:=fc) (ps:=su) T zj (λ_ _ _ _ _ _ us hl=>match us,hl with | [_],_=>rfl) λ_ _ _ _ _ _ hr=>
  (ak (bI (PDW.t (jY (dq (cC (lM rfl B.isinstance rfl (aa (af (pv 0)) (aa (pI rfl B.tuple rfl) ah))))) (g6 (dq (G3 pj pj aq (b7 rfl B.len (aa (af (pv 0)) ah)) (Ca rfl B.MOST_ROWS)))))) (ar (aD eX)) bh) (ak (bI (dq (cC (wI rfl rfl B.all rfl (aa (dO (tn:=["row"]) (n:=0) (bP (N:=fc) (osc:=(ai gM)) rfl rfl (by decide+kernel)) rfl rfl (i4 (af (pv 0))) (λ_ _ _ _ _ _ _=>dz (show Zc (((["row"]:List Str))++dF ["row"] fc) by decide+kernel) rfl rfl) (λ_ _ _ _ _ _=>eU) (λ_ _ _ _ _ _=>(bf EI (mR hr) rfl b6 (aa (af (pv 0)) ah) rfl))) ah)))) (ar (aD eX)) bh) (ar (aD (wI rfl rfl B.all rfl (aa (dO (tn:=["row"]) (n:=0) (bP (N:=fc) (osc:=(ai gM)) rfl rfl (by decide+kernel)) rfl rfl (i4 (af (pv 0))) (λ_ _ _ _ _ _ _=>dz (show Zc (((["row"]:List Str))++dF ["row"] fc) by decide+kernel) rfl rfl) (λ_ _ _ _ _ _=>eU) (λ_ _ _ _ _ _=>(yT hr.units (b7 rfl B.len (aa (af (pv 0)) ah)) (b7 rfl B.len (aa (bH (af (pv 1)) aq) ah))))) ah))))))
abbrev kc:Stmt:=top 16
def o9:List Str:=["board","thing"]
def pE:List Str:=["board","thing"]
theorem xa:FnScope o9 pE (ai kc):=dh
theorem wB(B:Bl K mg base cv cA Cp)(CK:au P w K mg base cv 2 "is_cell" 2 kA)(T:bx K mg "need_cell" kc f):au P w K mg base cv 3 "need_cell" 2 (cj):=
 aF (N:=o9) (ps:=pE) T xa (λ_ _ _ _ _ _ us hl=>match us,hl with | [_,_],_=>rfl) λ_ _ _ _ _ _ hr=>
  (ar (bI (dq (cC (bf CK (mR hr) rfl bC (aa (af (pv 0)) (aa (af (pv 1)) ah)) rfl))) (ar (kL B.own2 Z2 rfl rfl (B.cvE 2) BY (aa cw ah))) bh))
abbrev f9:Stmt:=top 27
def fX:List Str:=["board","cell","ways","letter"]
def mQ:List Str:=["board","cell","ways"]
theorem lq:FnScope fX mQ (ai f9):=dh
theorem t7(B:Bl K mg base cv cA Cp)(gV:au P w K mg base cv 1 "letter_of" 2 bG)(eC:au P w K mg base cv 2 "next_cells" 3 bB)(T:bx K mg "like_cells" f9 f):au P w K mg base cv 3 "like_cells" 3 (cT):=
 aF (N:=fX) (ps:=mQ) T lq (λ_ _ _ _ _ _ us hl=>match us,hl with | [_,_,_],_=>rfl) λ_ _ _ _ _ _ hr=>
  (ak (aI lq.nd rfl (.inr rfl) (bf gV (mR hr) rfl bC (aa (af (pv 0)) (aa (af (pv 1)) ah)) rfl)) (ar (aD (dO (tn:=["near"]) (n:=0) (bP (N:=fX) (osc:=(ai f9)) rfl rfl (by decide+kernel)) rfl rfl (bq (bf eC (mR hr) rfl bC (aa (af (pv 0)) (aa (af (pv 1)) (aa (af (pv 2)) ah))) rfl)) (λ_ _ _ _ _ _ _=>dz (show Zc (((["near"]:List Str))++dF ["near"] fX) by decide+kernel) rfl rfl) (λ_ _ _ _ _ _=>(kh (u4 hr.units (bf gV (mR hr) rfl b6 (aa (af (pv 1)) (aa (af (pv 0)) ah)) rfl) (af (pv 4))))) (λ_ _ _ _ _ _=>(af (pv 0)))))))
abbrev gO:Stmt:=top 31
def jP:List Str:=["board","ways","found","numbers","near","cell","mine","other"]
def jW:List Str:=["board","ways","found"]
theorem cb:FnScope jP jW (ai gO):=dh
theorem p_(B:Bl K mg base cv cA Cp)(iS:au P w K mg base cv 1 "numbers_of" 1 cU)(fF:au P w K mg base cv 2 "all_cells" 1 cO)(eC:au P w K mg base cv 2 "next_cells" 3 bB)(T:bx K mg "near_numbers" gO f):au P w K mg base cv 3 "near_numbers" 3 (eG):=
 aF (N:=jP) (ps:=jW) T cb (λ_ _ _ _ _ _ us hl=>match us,hl with | [_,_,_],_=>rfl) λ_ _ _ _ _ _ hr=>
  (ak (aI cb.nd rfl (.inl rfl) (bf iS (mR hr) rfl bC (aa (af (pv 2)) ah) rfl)) (ak (G2 cb.nd rfl (.inl rfl)) (ak (cE (G1 X_ rfl hr.units (bq (bf fF (mR hr) rfl b6 (aa (af (pv 0)) ah) rfl)) (aT cb.nd rfl (.inl rfl)) (pv 4) (fR hr.units (af (pv 3)) (af (pv 5))) ⟨rfl,rfl,rfl,rfl⟩ (aT cb.nd rfl (.inl rfl)) (bq (bf eC (mR hr) rfl b6 (aa (af (pv 0)) (aa (af (pv 5)) (aa (af (pv 1)) ah))) rfl)) (aT cb.nd rfl (.inl rfl)) (g7 hr.units (fR hr.units (af (pv 3)) (af (pv 7))) (fR hr.units (af (pv 3)) (af (pv 5)))) (pv 6) (fR hr.units (af (pv 3)) (af (pv 7))))) (ar (du (i:=4) (aD (af (pv 4))))))))
abbrev f_:Stmt:=top 32
def fY:List Str:=["board","some","ways","among","near","cell"]
def mS:List Str:=["board","some","ways"]
theorem fB:FnScope fY mS (ai f_):=dh
theorem t8(B:Bl K mg base cv cA Cp)(vv:au P w K mg base cv 1 "keyed" 1 kB)(eC:au P w K mg base cv 2 "next_cells" 3 bB)(T:bx K mg "near_among" f_ f):au P w K mg base cv 3 "near_among" 3 (fV):=
 aF (N:=fY) (ps:=mS) T fB (λ_ _ _ _ _ _ us hl=>match us,hl with | [_,_,_],_=>rfl) λ_ _ _ _ _ _ hr=>
  (ak (aI fB.nd rfl (.inr rfl) (bf vv (mR hr) rfl bC (aa (af (pv 1)) ah) rfl)) (ak (jZ fB.nd rfl (.inl rfl)) (ak (cE (bD X_ rfl (bq (af (pv 1))) (aT fB.nd rfl (.inl rfl)) bo (aW (ar (gL hr.units (pv 4) (af (pv 5)) (dO (tn:=["other"]) (n:=0) (bP (N:=fY) (osc:=(ai f_)) rfl rfl (by decide+kernel)) rfl rfl (bq (bf eC (mR hr) rfl b6 (aa (af (pv 0)) (aa (af (pv 5)) (aa (af (pv 2)) ah))) rfl)) (λ_ _ _ _ _ _ _=>dz (show Zc (((["other"]:List Str))++dF ["other"] fY) by decide+kernel) rfl rfl) (λ_ _ _ _ _ _=>(kh (Nl hr.units (af (pv 0)) (af (pv 4))))) (λ_ _ _ _ _ _=>(af (pv 0))))))))) (ar (du (i:=4) (aD (af (pv 4))))))))
abbrev g9:Stmt:=top 40
def gY:List Str:=["_law_script","_law_at","_law_most","_law_rows","_law_wide","_law_alphabet","_law_found","_law_row","_law_signs"]
def pz:List Str:=["_law_script","_law_at","_law_most"]
theorem cp:FnScope gY pz (ai g9):=dh
theorem wu(B:Bl K mg base cv cA Cp)(aP:au P w K mg base cv 2 "_law_drawn" 3 aH)(T:bx K mg "_law_board" g9 f):au P w K mg base cv 3 "_law_board" 3 (dD):=
 aF (N:=gY) (ps:=pz) T cp (λ_ _ _ _ _ _ us hl=>match us,hl with | [_,_,_],_=>rfl) λ_ _ _ _ _ _ hr=>
  (ak (aI cp.nd rfl (.inl rfl) (cu aq (bf aP (mR hr) rfl bC (aa (af (pv 0)) (aa (af (pv 1)) (aa (af (pv 2)) ah))) rfl))) (ak (aI cp.nd rfl (.inl rfl) (cu aq (bf aP (mR hr) rfl bC (aa (af (pv 0)) (aa (cu (af (pv 1)) aq) (aa (af (pv 2)) ah))) rfl))) (ak (aI cp.nd rfl (.inr rfl) (AJ (di (aa cw (aa cw (aa cw (aa cw ah))))) (bf aP (mR hr) rfl bC (aa (af (pv 0)) (aa (cu (af (pv 1)) aq) (aa aq ah))) rfl))) (ak (aI cp.nd rfl (.inl rfl) (bL ah)) (ak (cE (bD X_ rfl (d7 rfl B.range (aa (af (pv 3)) ah)) (aT cp.nd rfl (.inr rfl)) bo (aW (ak (yZ (tn:=["_law_k"]) (n:=0) cp.nd rfl (.inl rfl) (bP (N:=gY) (osc:=(ai g9)) rfl rfl (by decide+kernel)) rfl rfl (d7 rfl B.range (aa (af (pv 4)) ah)) (λ_ _ _ _ _ _ _=>dz (show Zc (((["_law_k"]:List Str))++dF ["_law_k"] gY) by decide+kernel) rfl rfl) (λ_ _ _ _ _ _=>eU) (λ_ _ _ _ _ _=>(AK (af (pv 6)) (bf aP (mR hr) rfl b6 (aa (af (pv 1)) (aa (cu (cu (cu (af (pv 2)) aq) (i3 aq (af (pv 8)))) (af (pv 0))) (aa (b7 rfl B.len (aa (af (pv 6)) ah)) ah))) rfl)))) (ar (aI cp.nd rfl (.inl rfl) (Ju (af (pv 6)) (bL (aa (Jx cw (aa (af (pv 8)) ah)) ah))))))))) (ar (aD (af (pv 6)))))))))
abbrev ij:Stmt:=top 44
def lb:List Str:=["_law_script","_law_at","_law_board_here"]
def ll:List Str:=["_law_script","_law_at","_law_board_here"]
theorem sR:FnScope lb ll (ai ij):=dh
theorem sm(B:Bl K mg base cv cA Cp)(aP:au P w K mg base cv 2 "_law_drawn" 3 aH)(T:bx K mg "_law_cell_in" ij f):au P w K mg base cv 3 "_law_cell_in" 3 (dU):=
 aF (N:=lb) (ps:=ll) T sR (λ_ _ _ _ _ _ us hl=>match us,hl with | [_,_,_],_=>rfl) λ_ _ _ _ _ _ hr=>
  (ar (aD (bL (aa (bf aP (mR hr) rfl bC (aa (af (pv 0)) (aa (af (pv 1)) (aa (b7 rfl B.len (aa (af (pv 2)) ah)) ah))) rfl) (aa (bf aP (mR hr) rfl bC (aa (af (pv 0)) (aa (cu (af (pv 1)) aq) (aa (b7 rfl B.len (aa (bH (af (pv 2)) aq) ah)) ah))) rfl) ah)))))
abbrev i6:Stmt:=top 15
def mB:List Str:=["thing"]
def mT:List Str:=["thing"]
theorem ue:FnScope mB mT (ai i6):=dh
theorem t9(B:Bl K mg base cv cA Cp)(zW:au P w K mg base cv 3 "is_board" 1 iT)(T:bx K mg "need_board" i6 f):au P w K mg base cv 4 "need_board" 1 (bU):=
 aF (N:=mB) (ps:=mT) T ue (λ_ _ _ _ _ _ us hl=>match us,hl with | [_],_=>rfl) λ_ _ _ _ _ _ hr=>
  (ar (bI (dq (cC (bf zW (mR hr) rfl bC (aa (af (pv 0)) ah) rfl))) (ar (kL B.own0 Z2 rfl rfl (B.cvE 0) BY (aa cw ah))) bh))
abbrev i9:Stmt:=top 28
def mE:List Str:=["board","start","ways","back","ring","further","cell","near"]
def mW:List Str:=["board","start","ways"]
theorem cy:FnScope mE mW (ai i9):=dh
theorem ub(B:Bl K mg base cv cA Cp)(vw:au P w K mg base cv 3 "like_cells" 3 cT)(T:bx K mg "steps_back" i9 f):au P w K mg base cv 4 "steps_back" 3 (dJ):=
 aF (N:=mE) (ps:=mW) T cy (λ_ _ _ _ _ _ us hl=>match us,hl with | [_,_,_],_=>rfl) λ_ _ _ _ _ _ hr=>
  (ak (sH cy.nd rfl (.inl rfl) (oq hr.units (af (pv 1)) cW)) (ak (aI cy.nd rfl (.inl rfl) (di (aa (af (pv 1)) ah))) (ak (cE (oy X_ (cC (af (pv 4))) (aW (ak (kK cy.nd rfl (.inl rfl)) (ak (bD X_ rfl (bq (af (pv 4))) (aT cy.nd rfl (.inl rfl)) bo (aW (ar (bD X_ rfl (bq (bf vw (mR hr) rfl b6 (aa (af (pv 0)) (aa (af (pv 6)) (aa (af (pv 2)) ah))) rfl)) (aT cy.nd rfl (.inl rfl)) bo (aW (ar (bI (AQ (iH hr.units (af (pv 7)) (af (pv 3)))) (ak (gL hr.units (pv 3) (af (pv 7)) (af (pv 6))) (ar (mY (pv 5) (af (pv 7))))) bh))))))) (ar (du (i:=5) (aI cy.nd rfl (.inl rfl) (af (pv 5)))))))))) (ar (du (i:=3) (aD (af (pv 3))))))))
abbrev fj:Stmt:=top 26
def iC:List Str:=["board","ways","one","other"]
def iF:List Str:=["board","ways","one","other"]
theorem m8:FnScope iC iF (ai fj):=dh
theorem mL(B:Bl K mg base cv cA Cp)(iR:au P w K mg base cv 4 "need_board" 1 bU)(jz:au P w K mg base cv 2 "need_ways" 1 cP)(fG:au P w K mg base cv 3 "need_cell" 2 cj)(T:bx K mg "need_two_cells" fj f):au P w K mg base cv 5 "need_two_cells" 4 (dI):=
 aF (N:=iC) (ps:=iF) T m8 (λ_ _ _ _ _ _ us hl=>match us,hl with | [_,_,_,_],_=>rfl) λ_ _ _ _ _ _ hr=>
  (ak (ft (bf iR (mR hr) rfl bC (aa (af (pv 0)) ah) rfl)) (ak (ft (bf jz (mR hr) rfl bC (aa (af (pv 1)) ah) rfl)) (ak (ft (bf fG (mR hr) rfl bC (aa (af (pv 0)) (aa (af (pv 2)) ah)) rfl)) (ar (ft (bf fG (mR hr) rfl bC (aa (af (pv 0)) (aa (af (pv 3)) ah)) rfl))))))
abbrev ig:Stmt:=top 29
def la:List Str:=["board","ways","found","seen","cell","patch"]
def lj:List Str:=["board","ways"]
theorem dH:FnScope la lj (ai ig):=dh
theorem sk(B:Bl K mg base cv cA Cp)(fF:au P w K mg base cv 2 "all_cells" 1 cO)(vy:au P w K mg base cv 4 "steps_back" 3 dJ)(vv:au P w K mg base cv 1 "keyed" 1 kB)(T:bx K mg "all_patches" ig f):au P w K mg base cv 5 "all_patches" 2 (fm):=
 aF (N:=la) (ps:=lj) T dH (λ_ _ _ _ _ _ us hl=>match us,hl with | [_,_],_=>rfl) λ_ _ _ _ _ _ hr=>
  (ak (kK dH.nd rfl (.inl rfl)) (ak (jZ dH.nd rfl (.inl rfl)) (ak (cE (bD X_ rfl (bq (bf fF (mR hr) rfl b6 (aa (af (pv 0)) ah) rfl)) (aT dH.nd rfl (.inl rfl)) bo (aW (ar (bI (AQ (iH hr.units (af (pv 4)) (af (pv 3)))) (ak (aI dH.nd rfl (.inl rfl) (Cc rfl rfl B.sorted rfl (aa (bf vy (mR hr) rfl b6 (aa (af (pv 0)) (aa (af (pv 4)) (aa (af (pv 1)) ah))) rfl) ah))) (ak (mY (pv 2) (af (pv 5))) (ar (JN hr.units (pv 3) (bf vv (mR hr) rfl b6 (aa (af (pv 5)) ah) rfl) ⟨rfl,rfl,rfl,rfl⟩)))) bh))))) (ar (du (i:=2) (aD (af (pv 2))))))))
abbrev gc:Stmt:=top 36
def fZ:List Str:=["board","ways","letters","one","other","near"]
def mX:List Str:=["board","ways","letters","one","other"]
theorem lr:FnScope fZ mX (ai gc):=dh
theorem uc(B:Bl K mg base cv cA Cp)(iR:au P w K mg base cv 4 "need_board" 1 bU)(jz:au P w K mg base cv 2 "need_ways" 1 cP)(qN:au P w K mg base cv 2 "need_letters" 1 bN)(fG:au P w K mg base cv 3 "need_cell" 2 cj)(vx:au P w K mg base cv 3 "near_among" 3 fV)(ju:au P w K mg base cv 1 "distances" 2 bW)(fF:au P w K mg base cv 2 "all_cells" 1 cO)(gV:au P w K mg base cv 1 "letter_of" 2 bG)(T:bx K mg "steps_over" gc f):au P w K mg base cv 5 "steps_over" 5 (aQ):=
 aF (N:=fZ) (ps:=mX) T lr (λ_ _ _ _ _ _ us hl=>match us,hl with | [_,_,_,_,_],_=>rfl) λ_ _ _ _ _ _ hr=>
  (ak (ft (bf iR (mR hr) rfl bC (aa (af (pv 0)) ah) rfl)) (ak (ft (bf jz (mR hr) rfl bC (aa (af (pv 1)) ah) rfl)) (ak (ft (bf qN (mR hr) rfl bC (aa (af (pv 2)) ah) rfl)) (ak (ft (bf fG (mR hr) rfl bC (aa (af (pv 0)) (aa (af (pv 3)) ah)) rfl)) (ak (ft (bf fG (mR hr) rfl bC (aa (af (pv 0)) (aa (af (pv 4)) ah)) rfl)) (ak (aI lr.nd rfl (.inl rfl) (bf vx (mR hr) rfl bC (aa (af (pv 0)) (aa (dO (tn:=["cell"]) (n:=0) (bP (N:=fZ) (osc:=(ai gc)) rfl rfl (by decide+kernel)) rfl rfl (bq (bf fF (mR hr) rfl bC (aa (af (pv 0)) ah) rfl)) (λ_ _ _ _ _ _ _=>dz (show Zc (((["cell"]:List Str))++dF ["cell"] fZ) by decide+kernel) rfl rfl) (λ_ _ _ _ _ _=>(kh (AV hr.units (bf gV (mR hr) rfl b6 (aa (af (pv 1)) (aa (af (pv 0)) ah)) rfl) (af (pv 3))))) (λ_ _ _ _ _ _=>(af (pv 0)))) (aa (af (pv 1)) ah))) rfl)) (ak (bI (iH hr.units (af (pv 3)) (af (pv 5))) (ar (aD cW)) bh) (ar (aD (B_ hr.units (bf ju (mR hr) rfl bC (aa (af (pv 5)) (aa (af (pv 3)) ah)) rfl) (af (pv 4)) ⟨rfl,rfl,rfl,rfl⟩))))))))))
abbrev fg:Stmt:=top 35
def iA:List Str:=["board","ways","one","other","found","numbers"]
def iD:List Str:=["board","ways","one","other"]
theorem eQ:FnScope iA iD (ai fg):=dh
theorem mJ(B:Bl K mg base cv cA Cp)(nK:au P w K mg base cv 5 "need_two_cells" 4 dI)(tK:au P w K mg base cv 5 "all_patches" 2 fm)(iS:au P w K mg base cv 1 "numbers_of" 1 cU)(ju:au P w K mg base cv 1 "distances" 2 bW)(qM:au P w K mg base cv 3 "near_numbers" 3 eG)(T:bx K mg "fewest_changes" fg f):au P w K mg base cv 6 "fewest_changes" 4 (aR):=
 aF (N:=iA) (ps:=iD) T eQ (λ_ _ _ _ _ _ us hl=>match us,hl with | [_,_,_,_],_=>rfl) λ_ _ _ _ _ _ hr=>
  (ak (ft (bf nK (mR hr) rfl bC (aa (af (pv 0)) (aa (af (pv 1)) (aa (af (pv 2)) (aa (af (pv 3)) ah)))) rfl)) (ak (aI eQ.nd rfl (.inl rfl) (bf tK (mR hr) rfl bC (aa (af (pv 0)) (aa (af (pv 1)) ah)) rfl)) (ak (aI eQ.nd rfl (.inl rfl) (bf iS (mR hr) rfl bC (aa (af (pv 4)) ah) rfl)) (ar (aD (fR hr.units (bf ju (mR hr) rfl bC (aa (bf qM (mR hr) rfl bC (aa (af (pv 0)) (aa (af (pv 1)) (aa (af (pv 4)) ah))) rfl) (aa (fR hr.units (af (pv 5)) (af (pv 2))) ah)) rfl) (fR hr.units (af (pv 5)) (af (pv 3)))))))))
theorem qj(B:Bl K mg base cv cA Cp){n m:Nat}(hn:n∈[0,1,2,3])(hm:m∈[0,1,2,3]):vU K (zU cA) [.exc (cA n), .raw (.ref (cA m))]=ae (.bl (decide (n=m))):=by
 have h:cA n∈zU cA:=by
  unfold zU;simp only[XF,Yt,or_false] at hn;rcases hn with rfl | rfl | rfl | rfl<;>simp
 show (if cA n∈zU cA then(match X3 K (.ref (cA n)) (.ref (cA m)) with | some b=>ae (D.bl b) | none=>ag) else ag)=_;rw[aeg h,B.kit n m hn hm]
theorem FK(B:Bl K mg base cv cA Cp){n:Nat}(hn:n∈[0,1,2,3]):vU K (zU cA) [.exc (cA n), .raw (.ty "ValueError")]=ae (.bl true):=by
 have h:cA n∈zU cA:=by
  unfold zU;simp only[XF,Yt,or_false] at hn;rcases hn with rfl | rfl | rfl | rfl<;>simp
 show (if cA n∈zU cA then(match X3 K (.ref (cA n)) (.type "ValueError") with | some b=>ae (D.bl b) | none=>ag) else ag)=_;rw[aeg h,B.kitV n hn]
theorem Ct(k:Nat):N5 k∈[0,1,2,3]:=by
 unfold N5;split<;>simp
theorem y_(B:Bl K mg base cv cA Cp)(k:Nat):a9 K cA [.exc (cB cA k)]=LZ k:=by
 unfold LZ cB;have hn:=Ct k;generalize N5 k=n at hn;have hv:=FK B hn;have x0:=qj B (m:=0) hn (by decide);have x1:=qj B (m:=1) hn (by decide);have x2:=qj B (m:=2) hn (by decide);have x3:=qj B (m:=3) hn (by decide);clear B;simp only[XF,Yt,or_false] at hn;rcases hn with rfl | rfl | rfl | rfl
 ·simp only[a9,cK,hv,x0,x1,x2,x3,bM,aB,bu,dA,aC,aN,dV,dC,d1,d2,dM,lS,cG,bT,fP,bc,b9,cf,ax,XN,Zo,Zj,Yq,XT,XH,YE,ZE,ZF,Yr,Yx,a_,Nat.reduceSub,Nat.reduceAdd,lim,Nat.reduceLeDiff,if_true,jF,mh,z0,bools,decide_true,decide_false,Nat.reduceEqDiff];rfl
 ·simp only[a9,cK,hv,x0,x1,x2,x3,bM,aB,bu,dA,aC,aN,dV,dC,d1,d2,dM,lS,cG,bT,fP,bc,b9,cf,ax,XN,Zo,Zj,Yq,XT,XH,YE,ZE,ZF,Yr,Yx,a_,Nat.reduceSub,Nat.reduceAdd,lim,Nat.reduceLeDiff,if_true,jF,mh,z0,bools,decide_true,decide_false,Nat.reduceEqDiff];rfl
 ·simp only[a9,cK,hv,x0,x1,x2,x3,bM,aB,bu,dA,aC,aN,dV,dC,d1,d2,dM,lS,cG,bT,fP,bc,b9,cf,ax,XN,Zo,Zj,Yq,XT,XH,YE,ZE,ZF,Yr,Yx,a_,Nat.reduceSub,Nat.reduceAdd,lim,Nat.reduceLeDiff,if_true,jF,mh,z0,bools,decide_true,decide_false,Nat.reduceEqDiff];rfl
 ·simp only[a9,cK,hv,x0,x1,x2,x3,bM,aB,bu,dA,aC,aN,dV,dC,d1,d2,dM,lS,cG,bT,fP,bc,b9,cf,ax,XN,Zo,Zj,Yq,XT,XH,YE,ZE,ZF,Yr,Yx,a_,Nat.reduceSub,Nat.reduceAdd,lim,Nat.reduceLeDiff,if_true,jF,mh,z0,bools,decide_true,decide_false,Nat.reduceEqDiff];rfl
theorem hh(B:Bl K mg base cv cA Cp){i:Nat}(k:Nat)(ρ:aX)(e:ρ[i]? =some (some (.fz (.exc (cB cA k))))):bc (EJ 1 (a9 K cA) (aC (dV i) aN)) ρ=(LZ k>>=λd=>ae (.rt d)):=by
 have h4:dV i ρ=ae (.exc (cB cA k)):=by unfold dV;rw[e]
 show ((dV i ρ>>=λx=>aN ρ>>=λxs=>ae (x::xs))>>=λds=>if ds.length=1 then noex (noex (a9 K cA ds)) else ag)>>=_=_;rw[h4];show (if [D.exc (cB cA k)].length=1 then noex (noex (a9 K cA [.exc (cB cA k)])) else ag)>>=_=_;rw[y_ B k];rfl
abbrev gN:Stmt:=top 46
def jO:List Str:=["_law_kind","_law_board_here","_law_ways","_law_signs","_law_one","_law_other","_law_e"]
def jV:List Str:=["_law_kind","_law_board_here","_law_ways","_law_signs","_law_one","_law_other"]
theorem jh:FnScope jO jV (ai gN):=dh
theorem p9(B:Bl K mg base cv cA Cp)(vz:au P w K mg base cv 5 "steps_over" 5 aQ)(nH:au P w K mg base cv 6 "fewest_changes" 4 aR)(nJ:qe P w K mg base cv 1 "_law_refused" 1 (a9 K cA))(T:bx K mg "_law_told" gN f):au P w K mg base cv 7 "_law_told" 6 (av):=
 aF (N:=jO) (ps:=jV) T jh (λ_ _ _ _ _ _ us hl=>match us,hl with | [_,_,_,_,_,_],_=>rfl) λ_ _ _ _ _ _ hr=>
  (ar (JM (i:=6) (hd:=LZ) B.cvE jh.nd rfl rfl rfl B.top B.exm (λpn Ec Xw' hp=>(ak (bI (u4 hr.units (af (pv 0)) aq) (ar (aD (bf nH (mR hr) rfl hp (aa (af (pv 1)) (aa (af (pv 2)) (aa (af (pv 4)) (aa (af (pv 5)) ah)))) rfl))) bh) (ar (aD (bf vz (mR hr) rfl hp (aa (af (pv 1)) (aa (af (pv 2)) (aa (af (pv 3)) (aa (af (pv 4)) (aa (af (pv 5)) ah))))) rfl))))) (λea=>(ar (aD (Ig nJ (RoomH.of (mR hr) _) rfl (aa (af (pv 6)) ah))))) (λk ρ _ e=>hh B k ρ e)))
abbrev ay:Stmt:=top 49
def aS:List Str:=["_law_script","_law_board_here","_law_ways","_law_one","_law_due","_law_signs","_law_fars","_law_other","_law_bad"]
def og:List Str:=["_law_script"]
theorem c_:FnScope aS og (ai ay):=dh
theorem xh(B:Bl K mg base cv cA Cp)(jw:au P w K mg base cv 3 "_law_board" 3 dD){bY:Value}{A:Yy}{outer:List Env}{s:XD}{H:Hp}{E:XK}(hr:Room 7 (A.deeper (Zz "law" (ai ay) s.heap.objs.size f bY))):
 Box (iO (aY (cQ P w cv) P w K mg base aS "law" (ai ay) f bY A outer s H E) (λn H'=>E (cv n) none H') ((bg ay).getD 0 (.Pass ⟨0,0,0,0⟩)) pM):=
 ⟨(aI c_.nd rfl (.inr rfl) (bf jw (mR hr) rfl bC (aa (af (pv 0)) (aa aq (aa aq ah))) rfl))⟩
theorem xi(B:Bl K mg base cv cA Cp)(aP:au P w K mg base cv 2 "_law_drawn" 3 aH){bY:Value}{A:Yy}{outer:List Env}{s:XD}{H:Hp}{E:XK}(hr:Room 7 (A.deeper (Zz "law" (ai ay) s.heap.objs.size f bY))):
 Box (iO (aY (cQ P w cv) P w K mg base aS "law" (ai ay) f bY A outer s H E) (λn H'=>E (cv n) none H') ((bg ay).getD 1 (.Pass ⟨0,0,0,0⟩)) pN):=
 ⟨(aI c_.nd rfl (.inl rfl) (AJ (di (aa aq (aa aq ah))) (bf aP (mR hr) rfl bC (aa (af (pv 0)) (aa aq (aa aq ah))) rfl)))⟩
theorem xj(B:Bl K mg base cv cA Cp)(hJ:au P w K mg base cv 3 "_law_cell_in" 3 dU){bY:Value}{A:Yy}{outer:List Env}{s:XD}{H:Hp}{E:XK}(hr:Room 7 (A.deeper (Zz "law" (ai ay) s.heap.objs.size f bY))):
 Box (iO (aY (cQ P w cv) P w K mg base aS "law" (ai ay) f bY A outer s H E) (λn H'=>E (cv n) none H') ((bg ay).getD 2 (.Pass ⟨0,0,0,0⟩)) pO):=
 ⟨(aI c_.nd rfl (.inl rfl) (bf hJ (mR hr) rfl bC (aa (af (pv 0)) (aa aq (aa (af (pv 1)) ah))) rfl))⟩
theorem xk(B:Bl K mg base cv cA Cp)(hZ:au P w K mg base cv 2 "_law_changes" 3 dW){bY:Value}{A:Yy}{outer:List Env}{s:XD}{H:Hp}{E:XK}(hr:Room 7 (A.deeper (Zz "law" (ai ay) s.heap.objs.size f bY))):
 Box (iO (aY (cQ P w cv) P w K mg base aS "law" (ai ay) f bY A outer s H E) (λn H'=>E (cv n) none H') ((bg ay).getD 3 (.Pass ⟨0,0,0,0⟩)) pP):=
 ⟨(aI c_.nd rfl (.inl rfl) (bf hZ (mR hr) rfl bC (aa (af (pv 1)) (aa (af (pv 2)) (aa (af (pv 3)) ah))) rfl))⟩
def UQ:Stmt->List Expr
 | .Assign t _ _=>t
 |_=>[]
def Qy:Stmt->Expr
 | .Assign _ v _=>v
 |_=> .Constant .none 0 ⟨0,0,0,0⟩
def UP:Stmt->Pos
 | .Assign _ _ p=>p
 |_=>⟨0,0,0,0⟩
def UE:Expr->Expr
 | .Subscript a _ _=>a
 |_=> .Constant .none 0 ⟨0,0,0,0⟩
def sIx:Expr->Expr
 | .Subscript _ b _=>b
 |_=> .Constant .none 0 ⟨0,0,0,0⟩
def W5:Expr->Pos
 | .Subscript _ _ p=>p
 |_=>⟨0,0,0,0⟩
abbrev N7:Stmt:=(bg ay).getD 4 (.Pass ⟨0,0,0,0⟩)
theorem Qd(B:Bl K mg base cv cA Cp)(aP:au P w K mg base cv 2 "_law_drawn" 3 aH){bY:Value}{A:Yy}{outer:List Env}{s:XD}{H:Hp}{E:XK}(hr:Room 7 (A.deeper (Zz "law" (ai ay) s.heap.objs.size f bY))){it:Expr}{δ:DE}(hI:Box (PD (aY (cQ P w cv) P w K mg base aS "law" (ai ay) f bY A outer s H E) (λn H'=>E (cv n) none H') it δ)):
 Box (iO (aY (cQ P w cv) P w K mg base aS "law" (ai ay) f bY A outer s H E) (λn H'=>E (cv n) none H') (.Assign (UQ N7) (.Subscript it (sIx (Qy N7)) (W5 (Qy N7))) (UP N7)) (bu 5 (d2 tP δ (aw 3 aH (aC (dV 0) (aC (dC (.int 63)) (aC (dC (.int 5)) aN))))))):=
 ⟨aI c_.nd rfl (.inl rfl) (AJ hI.1 (bf aP (mR hr) rfl bC (aa (af (pv 0)) (aa aq (aa aq ah))) rfl))⟩
theorem Qe(B:Bl K mg base cv cA Cp)(aP:au P w K mg base cv 2 "_law_drawn" 3 aH){bY:Value}{A:Yy}{outer:List Env}{s:XD}{H:Hp}{E:XK}(hr:Room 7 (A.deeper (Zz "law" (ai ay) s.heap.objs.size f bY))):Box (PD (aY (cQ P w cv) P w K mg base aS "law" (ai ay) f bY A outer s H E) (λn H'=>E (cv n) none H') (UE (Qy N7)) (dA a_ (aC (dA a_ (aC (dC (.str "a")) aN)) (aC (dA a_ (aC (dC (.str "b")) (aC (dC (.str "a")) aN))) (aC (dA a_ (aC (dC (.str "c")) aN)) (aC (dA a_ aN) (aC (dA a_ (aC (dC (.str "a")) (aC (dC (.str "b")) (aC (dC (.str "c")) (aC (dC (.str "f")) aN))))) aN))))))):=
 (lB (il (lB (fE gq)) (il (lB (fE (fE gq))) (il (lB (fE gq)) (il (lB gq) (il (lB (fE (fE (fE (fE gq))))) gq))))))
theorem xm(B:Bl K mg base cv cA Cp)(aP:au P w K mg base cv 2 "_law_drawn" 3 aH){bY:Value}{A:Yy}{outer:List Env}{s:XD}{H:Hp}{E:XK}(hr:Room 7 (A.deeper (Zz "law" (ai ay) s.heap.objs.size f bY))):
 Box (iO (aY (cQ P w cv) P w K mg base aS "law" (ai ay) f bY A outer s H E) (λn H'=>E (cv n) none H') ((bg ay).getD 4 (.Pass ⟨0,0,0,0⟩)) pQ):=
 Qd B aP hr (it:=UE (Qy N7)) (Qe B aP hr)
theorem xn(B:Bl K mg base cv cA Cp)(jy:au P w K mg base cv 2 "_law_steps" 4 dE){bY:Value}{A:Yy}{outer:List Env}{s:XD}{H:Hp}{E:XK}(hr:Room 7 (A.deeper (Zz "law" (ai ay) s.heap.objs.size f bY))):
 Box (iO (aY (cQ P w cv) P w K mg base aS "law" (ai ay) f bY A outer s H E) (λn H'=>E (cv n) none H') ((bg ay).getD 5 (.Pass ⟨0,0,0,0⟩)) pR):=
 ⟨(aI c_.nd rfl (.inl rfl) (bf jy (mR hr) rfl bC (aa (af (pv 1)) (aa (af (pv 2)) (aa (af (pv 5)) (aa (af (pv 3)) ah)))) rfl))⟩
theorem xo(B:Bl K mg base cv cA Cp)(jx:au P w K mg base cv 1 "_law_cells" 1 el)(aE:au P w K mg base cv 7 "_law_told" 6 av){bY:Value}{A:Yy}{outer:List Env}{s:XD}{H:Hp}{E:XK}(hr:Room 7 (A.deeper (Zz "law" (ai ay) s.heap.objs.size f bY))):
 Box (iO (aY (cQ P w cv) P w K mg base aS "law" (ai ay) f bY A outer s H E) (λn H'=>E (cv n) none H') ((bg ay).getD 6 (.Pass ⟨0,0,0,0⟩)) pS):=
 ⟨(cE (bD X_ rfl (bq (bf jx (mR hr) rfl b6 (aa (af (pv 1)) ah) rfl)) (aT c_.nd rfl (.inl rfl)) bo (aW (ak (bI (g7 hr.units (bf aE (mR hr) rfl b6 (aa aq (aa (af (pv 1)) (aa (af (pv 2)) (aa cW (aa (af (pv 3)) (aa (af (pv 7)) ah)))))) rfl) (fR hr.units (af (pv 4)) (af (pv 7)))) (ar (aD eX)) bh) (ar (bI (g7 hr.units (bf aE (mR hr) rfl b6 (aa aq (aa (af (pv 1)) (aa (af (pv 2)) (aa (af (pv 5)) (aa (af (pv 3)) (aa (af (pv 7)) ah)))))) rfl) (B_ hr.units (af (pv 6)) (af (pv 7)) ⟨rfl,rfl,rfl,rfl⟩)) (ar (aD eX)) bh))))))⟩
def U6:Stmt->List Stmt
 | .For _ _ b _ _=>b
 |_=>[]
def U9:Stmt->Expr
 | .For t _ _ _ _=>t
 |_=> .Constant .none 0 ⟨0,0,0,0⟩
def Tt:Stmt->Expr
 | .For _ i _ _ _=>i
 |_=> .Constant .none 0 ⟨0,0,0,0⟩
def U8:Stmt->Pos
 | .For _ _ _ _ p=>p
 |_=>⟨0,0,0,0⟩
abbrev Qc:Stmt:=(bg ay).getD 7 (.Pass ⟨0,0,0,0⟩)
theorem Qf(B:Bl K mg base cv cA Cp)(aE:au P w K mg base cv 7 "_law_told" 6 av){bY:Value}{A:Yy}{outer:List Env}{s:XD}{H:Hp}{E:XK}(hr:Room 7 (A.deeper (Zz "law" (ai ay) s.heap.objs.size f bY))){it:Expr}{δ:DE}(hI:Box (PD (aY (cQ P w cv) P w K mg base aS "law" (ai ay) f bY A outer s H E).nox (λ_ _=>False) it δ))(hs:∀x,ZU it (aY (cQ P w cv) P w K mg base aS "law" (ai ay) f bY A outer s H E).nox.env x=pure x):
 Box (iO (aY (cQ P w cv) P w K mg base aS "law" (ai ay) f bY A outer s H E) (λn H'=>E (cv n) none H') (.For (U9 Qc) it (U6 Qc) [] (U8 Qc)) (λρ=>noex ((cY (putN 8) (lG δ) (ck [8] (aB (fP (cf (d2 ib (aw 6 av (aC (dC (.int 0)) (aC (dV 1) (aC (dV 2) (aC (dC .non) (aC (dV 8) (aC (dC .non) aN))))))) (dA aO (aC (dC (.str "refused")) (aC (dC (.int 3)) aN))))) (bc (dC (.bl false))) b9) (aB (fP (cf (d2 ib (aw 6 av (aC (dC (.int 0)) (aC (dV 1) (aC (dV 2) (aC (dC .non) (aC (dV 3) (aC (dV 8) aN))))))) (dA aO (aC (dC (.str "refused")) (aC (dC (.int 3)) aN))))) (bc (dC (.bl false))) b9) (aB (fP (cf (d2 ib (aw 6 av (aC (dC (.int 1)) (aC (dV 1) (aC (dV 2) (aC (dA a_ aN) (aC (dV 8) (aC (dC .non) aN))))))) (dA aO (aC (dC (.str "refused")) (aC (dC (.int 3)) aN))))) (bc (dC (.bl false))) b9) (aB (fP (cf (d2 ib (aw 6 av (aC (dC (.int 1)) (aC (dV 1) (aC (dV 2) (aC (dA a_ aN) (aC (dV 3) (aC (dV 8) aN))))))) (dA aO (aC (dC (.str "refused")) (aC (dC (.int 3)) aN))))) (bc (dC (.bl false))) b9) (aB (fP (cf (d2 ib (aw 6 av (aC (dC (.int 1)) (aC (dV 1) (aC (dV 2) (aC (dV 8) (aC (dC .non) (aC (dC .non) aN))))))) (dA aO (aC (dC (.str "refused")) (aC (dC (.int 2)) aN))))) (bc (dC (.bl false))) b9) (aB (fP (cf (d2 ib (aw 6 av (aC (dC (.int 1)) (aC (dV 1) (aC (dV 2) (aC (dA a_ (aC (dV 8) aN)) (aC (dC .non) (aC (dC .non) aN))))))) (dA aO (aC (dC (.str "refused")) (aC (dC (.int 2)) aN))))) (bc (dC (.bl false))) b9) (fP (cf (d2 ib (bA 0 (lG (dA aO (aC (dC (.int 0)) (aC (dC (.int 1)) aN)))) dB (aw 6 av (aC (dV 0) (aC (dV 2) (aC (dV 9) (aC (dC .non) (aC (dC .non) (aC (dC .non) aN)))))))) (d2 Fl (dA a_ (aC (dA aO (aC (dC (.str "refused")) (aC (dC (.int 1)) aN))) aN)) (dC (.int 2))))) (bc (dC (.bl false))) b9))))))))) ρ))):=
 ⟨cE (bD X_ rfl (i4 hI.1) (aT c_.nd rfl (.inr rfl)) bo (aW (ak (bI (g7 hr.units (bf aE (mR hr) rfl b6 (aa aq (aa (af (pv 1)) (aa (af (pv 2)) (aa cW (aa (af (pv 8)) (aa cW ah)))))) rfl) (bL (aa cw (aa aq ah)))) (ar (aD eX)) bh) (ak (bI (g7 hr.units (bf aE (mR hr) rfl b6 (aa aq (aa (af (pv 1)) (aa (af (pv 2)) (aa cW (aa (af (pv 3)) (aa (af (pv 8)) ah)))))) rfl) (bL (aa cw (aa aq ah)))) (ar (aD eX)) bh) (ak (bI (g7 hr.units (bf aE (mR hr) rfl b6 (aa aq (aa (af (pv 1)) (aa (af (pv 2)) (aa (di ah) (aa (af (pv 8)) (aa cW ah)))))) rfl) (bL (aa cw (aa aq ah)))) (ar (aD eX)) bh) (ak (bI (g7 hr.units (bf aE (mR hr) rfl b6 (aa aq (aa (af (pv 1)) (aa (af (pv 2)) (aa (di ah) (aa (af (pv 3)) (aa (af (pv 8)) ah)))))) rfl) (bL (aa cw (aa aq ah)))) (ar (aD eX)) bh) (ak (bI (g7 hr.units (bf aE (mR hr) rfl b6 (aa aq (aa (af (pv 1)) (aa (af (pv 2)) (aa (af (pv 8)) (aa cW (aa cW ah)))))) rfl) (bL (aa cw (aa aq ah)))) (ar (aD eX)) bh) (ak (bI (g7 hr.units (bf aE (mR hr) rfl b6 (aa aq (aa (af (pv 1)) (aa (af (pv 2)) (aa (di (aa (af (pv 8)) ah)) (aa cW (aa cW ah)))))) rfl) (bL (aa cw (aa aq ah)))) (ar (aD eX)) bh) (ar (bI (g7 hr.units (dO (tn:=["_law_kind"]) (n:=0) (bP (N:=aS) (osc:=(ai ay)) rfl rfl (by decide+kernel)) rfl rfl (i4 (bL (aa aq (aa aq ah)))) (λ_ _ _ _ _ _ _=>dz (show Zc (((["_law_kind"]:List Str))++dF ["_law_kind"] aS) by decide+kernel) rfl rfl) (λ_ _ _ _ _ _=>eU) (λ_ _ _ _ _ _=>(bf aE (mR hr) rfl b6 (aa (af (pv 0)) (aa (af (pv 2)) (aa (af (pv 9)) (aa cW (aa cW (aa cW ah)))))) rfl))) (GL (di (aa (bL (aa cw (aa aq ah))) ah)) aq)) (ar (aD eX)) bh))))))))) hs)⟩
theorem Qg(B:Bl K mg base cv cA Cp)(aE:au P w K mg base cv 7 "_law_told" 6 av){bY:Value}{A:Yy}{outer:List Env}{s:XD}{H:Hp}{E:XK}(hr:Room 7 (A.deeper (Zz "law" (ai ay) s.heap.objs.size f bY))):Box (PD (aY (cQ P w cv) P w K mg base aS "law" (ai ay) f bY A outer s H E).nox (λ_ _=>False) (Tt Qc) (dA aO (aC (dC .non) (aC (dA aO (aC (dC (.int 9)) (aC (dC (.int 0)) aN))) (aC (dA aO (aC (dC (.int 0)) aN)) (aC (dA a_ (aC (dC (.int 0)) (aC (dC (.int 0)) aN))) (aC (dA aO (aC (dC (.bl true)) (aC (dC (.int 0)) aN))) (aC (dC (.int 5)) aN)))))))):=
 (vu (EE (qK (vu (gp (gp gq))) (qK (vu (gp gq)) (il (lB (gp (gp gq))) (qK (vu (ED (gp gq))) (gp gq)))))))
theorem xp(B:Bl K mg base cv cA Cp)(aE:au P w K mg base cv 7 "_law_told" 6 av){bY:Value}{A:Yy}{outer:List Env}{s:XD}{H:Hp}{E:XK}(hr:Room 7 (A.deeper (Zz "law" (ai ay) s.heap.objs.size f bY))):
 Box (iO (aY (cQ P w cv) P w K mg base aS "law" (ai ay) f bY A outer s H E) (λn H'=>E (cv n) none H') ((bg ay).getD 7 (.Pass ⟨0,0,0,0⟩)) pT):=
 Qf B aE hr (it:=Tt Qc) (Qg B aE hr) (λ_=>rfl)
theorem xq(B:Bl K mg base cv cA Cp)(aE:au P w K mg base cv 7 "_law_told" 6 av){bY:Value}{A:Yy}{outer:List Env}{s:XD}{H:Hp}{E:XK}(hr:Room 7 (A.deeper (Zz "law" (ai ay) s.heap.objs.size f bY))):
 Box (iO (aY (cQ P w cv) P w K mg base aS "law" (ai ay) f bY A outer s H E) (λn H'=>E (cv n) none H') ((bg ay).getD 8 (.Pass ⟨0,0,0,0⟩)) pU):=
 ⟨(aD (yT hr.units (dO (tn:=["_law_kind"]) (n:=0) (bP (N:=aS) (osc:=(ai ay)) rfl rfl (by decide+kernel)) rfl rfl (i4 (bL (aa aq (aa aq ah)))) (λ_ _ _ _ _ _ _=>dz (show Zc (((["_law_kind"]:List Str))++dF ["_law_kind"] aS) by decide+kernel) rfl rfl) (λ_ _ _ _ _ _=>eU) (λ_ _ _ _ _ _=>(bf aE (mR hr) rfl b6 (aa (af (pv 0)) (aa (bL (aa cw ah)) (aa cW (aa cW (aa cW (aa cW ah)))))) rfl))) (GL (di (aa (bL (aa cw (aa aq ah))) ah)) aq)))⟩
theorem yK{fd:ZP}(B:Bl K mg base cv cA Cp)(jw:au P w K mg base cv 3 "_law_board" 3 dD)(hJ:au P w K mg base cv 3 "_law_cell_in" 3 dU)(hZ:au P w K mg base cv 2 "_law_changes" 3 dW)(jy:au P w K mg base cv 2 "_law_steps" 4 dE)(jx:au P w K mg base cv 1 "_law_cells" 1 el)(aP:au P w K mg base cv 2 "_law_drawn" 3 aH)(aE:au P w K mg base cv 7 "_law_told" 6 av)(Fn:Fun K "law" "law" ay f fd):FnOk P w K mg base (cQ P w cv) 8 f fd og (HZ K cv 1 kC):=
 Oz (N:=aS) (ps:=og) (τ:=oR) Fn c_ λbY A outer s H E hr=>by
  obtain⟨Xk⟩:Box (PSDs (aY (cQ P w cv) P w K mg base aS "law" (ai ay) f bY A outer s H E) (λn H'=>E (cv n) none H') (bg ay) oR):=(jt (xh B jw hr) (jt (xi B aP hr) (jt (xj B hJ hr) (jt (xk B hZ hr) (jt (xm B aP hr) (jt (xn B jy hr) (jt (xo B jx aE hr) (jt (xp B aE hr) (Lo (xq B aE hr))))))))))
  assumption
end
end K1
namespace K1
open PySem L2 L3
theorem Ga{ds:List D}(h:ds.length<=lim):a_ ds=ae (.lst ds):=aeg h
theorem cM:lim=4096:=rfl
theorem jr{α:Type}{xs:List α}{i:Nat}{x:α}(h:xs[i]? =some x):L2.atI xs (i:Int)=some x:=by
 obtain⟨hi,e⟩:=XI.mp h;unfold L2.atI Mu;rw[aeg (Int.natCast_nonneg i),aeg (by exact Int.ofNat_lt.mpr hi)];exact h
theorem aj{m:Nat}{g:List D->M D}{δs:DA}{ρ:aX}{ds:List D}(h:δs ρ=ae ds)(hl:ds.length=m):aw m g δs ρ=g ds:=by
 unfold aw;rw[h];exact aeg hl
theorem aZ{a:DE}{r:DA}{ρ:aX}{x:D}{xs:List D}(h1:a ρ=ae x)(h2:r ρ=ae xs):aC a r ρ=ae (x::xs):=by
 unfold aC;rw[h1,ax,h2];rfl
theorem aL{g:D->D->M D}{a b:DE}{ρ:aX}{x y:D}(h1:a ρ=ae x)(h2:b ρ=ae y):d2 g a b ρ=g x y:=by
 unfold d2;rw[h1,ax,h2];rfl
theorem eD{g:List D->M D}{a:DA}{ρ:aX}{xs:List D}(h:a ρ=ae xs):dA g a ρ=g xs:=by
 unfold dA;rw[h];rfl
theorem ip{i j:Int}(h:0<j):l9 (.int i) (.int j)=ae (.int (i % j)):=by
 show (if decide (0<j)=true then _ else _)=_;rw[aeg (aei h)]
theorem l7{i j:Int}(h:0<j)(h2:j<1073741824):tO (.int i) (.int j)=ae (.int (i / j)):=by
 show (if decide (0<j/\j<1073741824)=true then _ else _)=_;rw[aeg (aei ⟨h,h2⟩)]
theorem fH{i j:Int}(h:(-(2 ^ 64)<i/\i<2 ^ 64)\/(-(2 ^ 64)<j/\j<2 ^ 64)):gS (.int i) (.int j)=ae (.int (i*j)):=by
 show (if decide _=true then _ else _)=_;rw[aeg (aei h)]
theorem jE{i j:Int}:dN (.int i) (.int j)=ae (.int (i+j)):=rfl
theorem EN(ns:List Int)(hl:ns.length<=63)(k:Nat):∃v,gB [.scr ns, .int (k:Int)]=ae (.int v):=by
 cases ns with
 |nil=>
  refine⟨7*(k:Int),?_⟩;rfl
 |cons n r=>
  have hp:0<(n::r).length:=Nat.succ_pos _;generalize e:(n::r)=ns at*;have he:kz 6 (.scr ns) (.lst [])=some false:=by subst e;rfl
  obtain⟨y,hy⟩:∃y,ns[k % ns.length]? =some y:=⟨_,XC (aco _ hp)⟩
  have Ug:(0:Int)<(ns.length:Int):=by omega
  have h1:l9 (.int (k:Int)) (.int (ns.length:Int))=ae (.int ((k % ns.length:Nat):Int)):=ip Ug;have h2:tO (.int (k:Int)) (.int (ns.length:Int))=ae (.int ((k:Int) / (ns.length:Int))):=l7 Ug (by omega);have h3:Fi (.scr ns) (.int ((k % ns.length:Nat):Int))=ae (.int y):=by
   show (match L2.atI ns ((k % ns.length:Nat):Int) with | some n=>ae (D.int n) | none=>ag)=_;rw[jr hy]
  have h4:gS (.int 6553) (.int ((k:Int) / (ns.length:Int)))=ae (.int (6553*((k:Int) / (ns.length:Int)))):=fH (.inl ⟨by decide,by decide⟩);refine⟨y+6553*((k:Int) / (ns.length:Int)),?_⟩;simp only[gB,tB,bM,aB,fP,bc,b9,cf,d2,dV,dC,dA,aC,aN,a_,bF,Ef,ny,he,ax,h1,h2,h3,h4,XN,Zo,Zj,Yq,XH,YE,Yr,Yx,cM,Nat.reduceAdd,Ys,if_true,X4,if_false,dN,gI]
theorem d_(ns:List Int)(hl:ns.length<=63)(k m:Nat)(hm:0<m):∃v:Nat,v<m/\aH [.scr ns, .int (k:Int), .int (m:Int)]=ae (.int (v:Int)):=by
 obtain⟨c,hc⟩:=EN ns hl k;have b1:=abJ (c % 2147483563*69069+104723*((k:Int)+1)) (b:=2147483563) (by decide);have b2:=aa3 (c % 2147483563*69069+104723*((k:Int)+1)) (b:=2147483563) (by decide);generalize hx:(c % 2147483563*69069+104723*((k:Int)+1)) % 2147483563=x at b1 b2;have b3:=abJ (x*x+x / 3) (b:=2147483399) (by decide);have b4:=aa3 (x*x+x / 3) (b:=2147483399) (by decide);generalize hy:(x*x+x / 3) % 2147483399=y at b3 b4;have m1:gS (.int (c % 2147483563)) (.int 69069)=_:=fH (.inr ⟨by decide,by decide⟩);have m2:gS (.int 104723) (.int ((k:Int)+1))=_:=fH (.inl ⟨by decide,by decide⟩);have m3:gS (.int x) (.int x)=_:=fH (.inl ⟨by omega,by omega⟩);have m4:gS (.int y) (.int y)=_:=fH (.inl ⟨by omega,by omega⟩);have hM:(0:Int)<(m:Int):=Int.ofNat_lt.mpr hm;have n1:=abJ ((y*y+y / 7) % 2147483647 / 11) (b:=(m:Int)) (by omega);have n2:=aa3 ((y*y+y / 7) % 2147483647 / 11) hM;have q1:l9 (.int c) (.int 2147483563)=_:=ip (by decide);have q2:l9 (.int (c % 2147483563*69069+104723*((k:Int)+1))) (.int 2147483563)=_:=ip (by decide);have q3:tO (.int x) (.int 3)=_:=l7 (by decide) (by decide);have q4:l9 (.int (x*x+x / 3)) (.int 2147483399)=_:=ip (by decide);have q5:tO (.int y) (.int 7)=_:=l7 (by decide) (by decide);have q6:l9 (.int (y*y+y / 7)) (.int 2147483647)=_:=ip (by decide);have q7:tO (.int ((y*y+y / 7) % 2147483647)) (.int 11)=_:=l7 (by decide) (by decide);have q8:l9 (.int ((y*y+y / 7) % 2147483647 / 11)) (.int (m:Int))=_:=ip hM;refine⟨((y*y+y / 7) % 2147483647 / 11 % (m:Int)).toNat,by omega,?_⟩;rw[abV n1];rw[hx] at q2;rw[hy] at q4;simp only[aH,pL,bM,aB,bu,bc,aw,d2,dV,dC,dA,aC,aN,ax,hc,XN,Zo,Zj,Yq,XH,YE,Yr,Yx,XT,ZE,ZF,Nat.reduceAdd,Nat.reduceSub,if_true,jE,m1,m2,m3,m4,q1,q2,q3,q4,q5,q6,q7,q8]
theorem Gk{α:Type}(a:α):noex (ae a)=ae a:=rfl
theorem yk{put:D->aX->Option aX}{body:DS}{I:Nat->aX->Prop}:∀(ds:List D) (i:Nat) (ρ:aX),I i ρ->
 (∀j d,ds[j]? =some d->∀ρ,I (i+j) ρ->∃ρ1 ρ2,put d ρ=some ρ1/\body ρ1=ae (.nx ρ2)/\I (i+j+1) ρ2)->∃ρ',forL put body ds ρ=ae (.nx ρ')/\I (i+ds.length) ρ'
 |[],i,ρ,h,_=>⟨ρ,rfl,h⟩
 |d::ds,i,ρ,h,step=>by
  obtain⟨ρ1,ρ2,e1,e2,h2⟩:=step 0 d rfl ρ h;obtain⟨ρ',e3,h3⟩:=yk (I:=I) ds (i+1) ρ2 h2 λj d' hd ρ hI=>by
   have:=step (j+1) d' hd ρ (by rw[show i+(j+1)=i+1+j by omega];exact hI);rw[show i+(j+1)+1=i+1+j+1 by omega] at this;exact this
  refine⟨ρ',?_,?_⟩
  ·show (match put d ρ with | none=>ag | some ρ1=>body ρ1>>=λo=>match o with | .nx ρ2=>forL put body ds ρ2 | .rt v=>ae (.rt v))=_;rw[e1];show (body ρ1>>=λo=>match o with | .nx ρ2=>forL put body ds ρ2 | .rt v=>ae (.rt v))=_;rw[e2];exact e3
  ·rw[show i+(d::ds).length=i+1+ds.length by simp;omega];exact h3
theorem uw{f:D->M (Option D)}{Pr:D->Prop}:∀(ds:List D),(∀d∈ds,∃y,f d=ae (some y)/\Pr y)->∃ys,d9 f ds=ae ys/\ys.length=ds.length/\∀y∈ys,Pr y
 |[],_=>⟨[],rfl,rfl,λ_ h=>by cases h⟩
 |d::ds,h=>by
  obtain⟨y,e,hy⟩:=h d (XA ..);obtain⟨ys,e2,hl,hp⟩:=uw ds λd' hd=>h d' (Xz _ hd);refine⟨y::ys,?_,by simp[hl],λz hz=>?_⟩
  ·rw[gu,e,ax,e2];rfl
  ·cases hz with
   |head=>exact hy
   |tail _ hz=>exact hp z hz
theorem eZ{f:D->M (Option D)}{g:D->D}:∀(ds:List D),(∀d∈ds,f d=ae (some (g d)))->d9 f ds=ae (ds.map g)
 |[],_=>rfl
 |d::ds,h=>by
  rw[gu,h d (XA ..),ax,eZ ds λd' hd=>h d' (Xz _ hd)];rfl
def IU(x:Str):Bool:=!(aag ("abcdef":Str) x 0 ("abcdef":Str).length 1).isEmpty
structure Row (W:Nat) (r:Str):Prop where
 len:r.length=W
 let':∀c∈r.cps.toList,IU ⟨#[c]⟩=true
structure Good (bd:List Str) (W:Nat):Prop where
 r1:1<=bd.length
 r5:bd.length<=5
 w1:1<=W
 w5:W<=5
 rows:∀r∈bd,Row W r
abbrev lE(c:Nat):Prop:=IU ⟨#[c]⟩=true/\c≠101/\c≠100
def UO(r:Str):Prop:=∀c∈r.cps.toList,c≠101
def Qw(r:Str):Prop:=∀c∈r.cps.toList,c≠101/\c≠100
theorem zA:∀(ys:List D),(∀y∈ys,∃c,y= .str ⟨#[c]⟩/\lE c)->∃xs,xu ys=some xs/\xs.length=ys.length/\(xs.map (·.length)).sum=ys.length/\Row ys.length (fQ xs)/\Qw (fQ xs)
 |[],_=>⟨[],rfl,rfl,rfl,⟨rfl,λc h=>by cases h⟩,λc h=>by cases h⟩
 |y::ys,h=>by
  obtain⟨c,e,hc⟩:=h y (XA ..);obtain⟨xs,e1,e2,e3,e4,e5⟩:=zA ys λz hz=>h z (Xz _ hz);subst e;have jG:∀z,z∈((⟨#[c]⟩:Str)++fQ xs).cps.toList->z=c\/z∈(fQ xs).cps.toList:=λz hz=>by
   have:((⟨#[c]⟩:Str)++fQ xs).cps= #[c]++(fQ xs).cps:=rfl;rw[this] at hz;simpa using hz
  refine⟨⟨#[c]⟩::xs,?_,by simp[e2],?_,⟨?_,λz hz=>?_⟩,λz hz=>?_⟩
  ·show (xu ys).map _=_;rw[e1];rfl
  ·rw[XN,ab2,e3];show 1+ys.length=_;simp;omega
  ·show ((⟨#[c]⟩:Str)++fQ xs).length=_;rw[kg,e4.len];show 1+ys.length=_;simp;omega
  ·rcases jG z hz with rfl | q
   ·exact hc.1
   ·exact e4.let' z q
  ·rcases jG z hz with rfl | q
   ·exact hc.2
   ·exact e5 z q
theorem Hf{lo:Int}{n:Nat}{d:D}(h:d∈iM lo n):∃i:Nat,i<n/\d= .int (lo+(i:Int)):=by
 unfold iM at h;obtain⟨i,hi,e⟩:=XS.mp h;exact⟨i,Y3.mp hi,e.symm⟩
theorem JU{lo:Int}{n j:Nat}{d:D}(h:(iM lo n)[j]? =some d):j<n/\d= .int (lo+(j:Int)):=by
 unfold iM at h;rw[XX] at h;by_cases hj:j<n
 ·rw[adR hj] at h;cases h;exact⟨hj,rfl⟩
 ·rw[Z4 (by simpa using hj)] at h;cases h
theorem j5(lo:Int)(n:Nat):(iM lo n).length=n:=by simp[iM]
abbrev iW(w:Nat):D:= .int w
abbrev fz(d:D):Option Sl:=some (.fz d)
theorem qT{δe:DE}{ρ:aX}{d:D}:jc 0 dB δe ρ d=(δe (fz d::ρ)>>=λy=>ae (some y)):=rfl
theorem jB{δt:DT}{δe:DE}{ρ:aX}{d:D}:jc 0 δt δe ρ d=(δt (fz d::ρ)>>=λb=>if b then δe (fz d::ρ)>>=λy=>ae (some y) else ae none):=rfl
theorem ao{a b:DS}{ρ ρ':aX}{o:M Out}(h:a ρ=ae (.nx ρ'))(h2:b ρ'=o):aB a b ρ=o:=by
 unfold aB;rw[h];exact h2
theorem eN{a b:DS}{ρ:aX}{d:D}(h:a ρ=ae (.rt d)):aB a b ρ=ae (.rt d):=by
 unfold aB;rw[h];rfl
theorem aM{i:Nat}{δ:DE}{ρ:aX}{d:D}(h:δ ρ=ae d):bu i δ ρ=ae (.nx (ρ.set i (fz d))):=by
 unfold bu;rw[h];rfl
theorem eA{c:DT}{a b:DS}{ρ:aX}{o:M Out}(h:c ρ=ae true)(h2:a ρ=o):fP c a b ρ=o:=by
 unfold fP;rw[h];exact h2
theorem fL{c:DT}{a b:DS}{ρ:aX}{o:M Out}(h:c ρ=ae false)(h2:b ρ=o):fP c a b ρ=o:=by
 unfold fP;rw[h];exact h2
theorem a6{δ:DE}{ρ:aX}{d:D}(h:δ ρ=ae d):bc δ ρ=ae (.rt d):=by
 unfold bc;rw[h];rfl
theorem br{δ:DE}{ρ:aX}{d:D}(h:δ ρ=ae d):jq δ ρ=ae (.nx ρ):=by
 unfold jq;rw[h];rfl
theorem ba{n:Nat}{τ:DS}{ds:List D}{d:D}(h:τ (ds.map (λd=>some (Sl.fz d))++XT (n - ds.length) none)=ae (.rt d)):bM n τ ds=ae d:=by
 unfold bM;rw[h];rfl
theorem qw{n:Nat}{τ:DS}{ds:List D}{ρ:aX}(h:τ (ds.map (λd=>some (Sl.fz d))++XT (n - ds.length) none)=ae (.nx ρ)):bM n τ ds=ae .non:=by
 unfold bM;rw[h];rfl
theorem cX{n k:Nat}{τ:DS}{ds:List D}(h:τ (ds.map (λd=>some (Sl.fz d))++XT (n - ds.length) none)=a7 k):bM n τ ds=a7 k:=by
 unfold bM;rw[h];rfl
theorem zc{put:D->aX->Option aX}{δi:DA}{b:DS}{ρ:aX}{ds:List D}{o:Out}(h:δi ρ=ae ds)(h2:forL put b ds ρ=ae o):noex (cY put δi b ρ)=ae o:=by
 unfold cY;rw[h,ax,h2];rfl
theorem a8{is:List Nat}{τ:DS}{ρ ρ':aX}(h:τ ρ=ae (.nx ρ')):ck is τ ρ=ae (.nx (fgt is ρ')):=by
 unfold ck;rw[h];rfl
theorem bJ{n:Nat}{δi:DA}{δt:DT}{δe:DE}{ρ:aX}{ds ys:List D}(h:δi ρ=ae ds)(h2:d9 (jc n δt δe ρ) ds=ae ys)(h3:ys.length<=lim):bA n δi δt δe ρ=ae (.lst ys):=by
 unfold bA;rw[h,ax,h2,Gk,ax,Ga h3]
theorem oF{n:Nat}(h:n<=4096):g8 [.int (n:Int)]=ae (iM 0 n):=by
 show (if -4096<=(n:Int)/\(n:Int)<=4096 then ae (iM 0 (n:Int).toNat) else ag)=_;rw[aeg ⟨by omega,by omega⟩];rfl
structure Alpha (al:Str):Prop where
 pos:0<al.length
 ok:∀c∈al.cps.toList,lE c
theorem Lh:Alpha "ab"/\Alpha "abc"/\Alpha "aab"/\Alpha "fa":=by
 refine⟨⟨by decide+kernel,?_⟩,⟨by decide+kernel,?_⟩,⟨by decide+kernel,?_⟩,⟨by decide+kernel,?_⟩⟩<;>decide+kernel
theorem Fj{x:Str}{i:Nat}(h:i<x.length):∃c,c∈x.cps.toList/\x.cps.toList[i]? =some c/\rh (.str x) (.int (i:Int))=ae (.str ⟨#[c]⟩):=by
 have h:i<x.cps.toList.length:=by rw[XG];exact h
 refine⟨x.cps.toList[i],ZC h,XC h,?_⟩;show (match L2.atI x.cps.toList (i:Int) with | some c=>ae (D.str ⟨#[c]⟩) | none=>ag)=_;rw[jr (XC h)]
abbrev brd(bd:List Str):D:= .tup (bd.map D.str)
abbrev sgn(at' mo:Nat)(ns:List Int)(W:Nat)(al:Str)(bd:List Str)(R:Nat)(x7 x8:Option Sl):aX:=[fz (.scr ns),fz (.int (at':Int)),fz (.int (mo:Int)),fz (.int (R:Int)),fz (.int (W:Int)),fz (.str al),fz (brd bd),x7,x8]
theorem D6(at' mo:Nat)(ns:List Int)(hl:ns.length<=63)(al:Str)(ha:Alpha al)(j W R:Nat)(hW:W<=5)(bd:List Str)(x8:Option Sl):
 ∃ys,Te (sgn at' mo ns W al bd R (fz (.int (0+(j:Int)))) x8)=ae (.lst ys)/\ys.length=W/\∀y∈ys,∃c,y= .str ⟨#[c]⟩/\lE c:=by
 obtain⟨ys,e,Ag,hp⟩:=uw (f:=jc 0 dB (d2 rh (dV 6) (aw 3 aH (aC (dV 1) (aC (d2 dN (d2 dN (d2 dN (dV 2) (dC (.int 3))) (d2 gS (dC (.int 7)) (dV 8))) (dV 0)) (aC (dA bF (aC (dV 6) aN)) aN)))))
  (sgn at' mo ns W al bd R (fz (.int (0+(j:Int)))) x8)) (Pr:=λy=>∃c,y= .str ⟨#[c]⟩/\lE c) (iM 0 W) λd hd=>by
  obtain⟨i,hi,rfl⟩:=Hf hd;obtain⟨v,hv,e⟩:=d_ ns hl (at'+3+7*j+i) al.length ha.pos;obtain⟨c,hc,_,e2⟩:=Fj hv;refine⟨.str ⟨#[c]⟩,?_,c,rfl,ha.ok c hc⟩;rw[qT];have k:(at':Int)+3+7*(0+(j:Int))+(0+(i:Int))=((at'+3+7*j+i:Nat):Int):=by omega
  have m1:gS (.int 7) (.int (0+(j:Int)))=ae (.int (7*(0+(j:Int)))):=fH (.inl ⟨by decide,by decide⟩);simp only[aw,d2,dV,dC,dA,aC,aN,ax,XH,YE,Yr,Yx,Nat.reduceAdd,if_true,jE,m1,k,bF,e,e2]
 refine⟨ys,bJ (oF (n:=W) (by omega)) e (by rw[Ag,j5,cM];omega),by rw[Ag,j5],hp⟩
theorem Ih(at' mo:Nat)(ns:List Int)(W:Nat)(al:Str)(bd:List Str)(R:Nat)(x7:Option Sl)(ys:List D)(hb:bd.length<=5)(hy:ys.length<=5)(s3:∀y∈ys,∃c,y= .str ⟨#[c]⟩/\lE c):
 ∃r,(Row ys.length r/\Qw r)/\Tf (sgn at' mo ns W al bd R x7 (fz (.lst ys)))=ae (.nx (sgn at' mo ns W al (bd++[r]) R x7 (fz (.lst ys)))):=by
 obtain⟨xs,t1,t2,t3,t4⟩:=zA ys s3;refine⟨fQ xs,t4,?_⟩;have jn:joinM (.str "") [.lst ys]=ae (.str (fQ xs)):=by
  show (match xu ys with | some (xs:List Str)=>if ("":Str).length=0/\(xs.map (λx:Str=>x.length)).sum<=lim then ae (D.str (fQ xs)) else ag | none=>ag)=_;rw[t1];show (if ("":Str).length=0/\(xs.map (λx:Str=>x.length)).sum<=lim then ae (D.str (fQ xs)) else ag)=_;rw[aeg ⟨rfl,by rw[t3,cM];omega⟩]
 have ct:BK (brd bd) (.tup [.str (fQ xs)])=ae (brd (bd++[fQ xs])):=by
  show (if (bd.map D.str).length+1<=lim then ae (D.tup (bd.map D.str++[.str (fQ xs)])) else ag)=_;rw[aeg (by rw[XB,cM];omega)];simp[brd]
 refine(aM (d:=brd (bd++[fQ xs])) ?_).trans rfl;simp only[d2,dV,dC,dA,aC,aN,dM,QV,ax,Yr,Yx,if_true,jn,aO,XH,YE,cM,Nat.reduceAdd,Nat.reduceLeDiff,ct]
theorem zS(ns:List Int)(hl:ns.length<=63)(at' mo:Nat)(m0:0<mo)(m5:mo<=5):∃bd W,Good bd W/\(∀r∈bd,Qw r)/\bd.length<=mo/\W<=mo/\dD [.scr ns, .int (at':Int), .int (mo:Int)]=ae (brd bd):=by
 obtain⟨r,hr,e1⟩:=d_ ns hl at' mo m0;obtain⟨c,hc,e2⟩:=d_ ns hl (at'+1) mo m0;obtain⟨a,ha,e3⟩:=d_ ns hl (at'+2) 4 (by decide);obtain⟨al,LW,e4⟩:∃al,Alpha al/\tP (.lst [.str "ab", .str "abc", .str "aab", .str "fa"]) (.int (a:Int))=ae (.str al):=by
  obtain⟨a1,a2,a3,a4⟩:=Lh
  match a,ha with
  |0,_=>exact⟨_,a1,rfl⟩
  |1,_=>exact⟨_,a2,rfl⟩
  |2,_=>exact⟨_,a3,rfl⟩
  |3,_=>exact⟨_,a4,rfl⟩
 have k1:(1:Int)+(r:Int)=((r+1:Nat):Int):=by omega
 have k2:(1:Int)+(c:Int)=((c+1:Nat):Int):=by omega
 have Eg:aH [.scr ns, .int (at':Int), .int (mo:Int)]=ae (.int (r:Int)):=e1;have NR:aH [.scr ns, .int ((at':Int)+1), .int (mo:Int)]=ae (.int (c:Int)):=e2;have QA:aH [.scr ns, .int ((at':Int)+2), .int 4]=ae (.int (a:Int)):=e3;obtain⟨ρ',f1,bd,f2,f3,f4⟩:=yk (put:=putN 7) (body:=ck [7,8] (aB (bu 8 Te) Tf))
  (I:=λi ρ=>∃bd,ρ=sgn at' mo ns (c+1) al bd (r+1) none none/\bd.length=i/\∀z∈bd,Row (c+1) z/\Qw z)
  (iM 0 (r+1)) 0 (sgn at' mo ns (c+1) al [] (r+1) none none) ⟨[],rfl,rfl,λ_ h=>by cases h⟩ λj d hd ρ ⟨bd,hρ,hb,hw⟩=>by
   obtain⟨hj,rfl⟩:=JU hd;subst hρ;obtain⟨ys,s1,s2,s3⟩:=D6 at' mo ns hl al LW j (c+1) (r+1) (by omega) bd none;obtain⟨xK,t1,t2⟩:=Ih at' mo ns (c+1) al bd (r+1) (fz (.int (0+(j:Int)))) ys (by omega) (by omega) s3;refine⟨_,_,rfl,a8 (ao (aM s1) t2),bd++[xK],rfl,by simp[hb],λz hz=>?_⟩;rcases Yk.mp hz with h | h
   ·exact hw z h
   ·have h:z=xK:=by simpa using h
    subst h;rw[s2] at t1;exact t1
 refine⟨bd,c+1,⟨by rw[f3,j5];omega,by rw[f3,j5];omega,by omega,by omega,λr q=>(f4 r q).1⟩,λr q=>(f4 r q).2,by rw[f3,j5];omega,by omega,?_⟩;subst f2;refine ba ?_;refine ao (aM (d:= .int ((r+1:Nat):Int)) ?_) ?_
 ·simp only[aw,d2,dV,dC,aC,aN,ax,XN,Zo,Zj,Yq,XH,YE,Yr,Yx,Nat.reduceAdd,if_true,jE,Eg,k1]
 refine ao (aM (d:= .int ((c+1:Nat):Int)) ?_) ?_
 ·simp only[aw,d2,dV,dC,aC,aN,ax,XN,Zo,Zj,Yq,XH,YE,XT,ZE,ZF,Nat.reduceSub,Yr,Yx,Nat.reduceAdd,if_true,jE,NR,k2]
 refine ao (aM (d:= .str al) ?_) ?_
 ·simp only[aw,d2,dV,dC,dA,aC,aN,ax,XN,Zo,Zj,Yq,XH,YE,XT,ZE,ZF,Nat.reduceSub,Yr,Yx,Nat.reduceAdd,if_true,jE,QA,a_,cM,Nat.reduceLeDiff,e4]
 refine ao (aM (d:= .tup []) rfl) ?_;refine ao (zc (oF (n:=r+1) (by omega)) f1) ?_;exact a6 rfl
theorem zR(ns:List Int)(hl:ns.length<=63)(at' mo:Nat)(m0:0<mo)(m5:mo<=5):∃bd W,Good bd W/\(∀r∈bd,UO r)/\bd.length<=mo/\W<=mo/\dD [.scr ns, .int (at':Int), .int (mo:Int)]=ae (brd bd):=
 let ⟨bd,W,h1,h3,h2⟩:=zS ns hl at' mo m0 m5
 ⟨bd,W,h1,λr hr c hc=>(h3 r hr c hc).1,h2⟩
theorem zT(ns:List Int)(hl:ns.length<=63)(at' mo:Nat)(m0:0<mo)(m5:mo<=5):∃bd W,Good bd W/\bd.length<=mo/\W<=mo/\dD [.scr ns, .int (at':Int), .int (mo:Int)]=ae (brd bd):=
 let ⟨bd,W,h1,_,h2⟩:=zR ns hl at' mo m0 m5
 ⟨bd,W,h1,h2⟩
def Plain:D->Prop
 | .non | .bl _ | .int _ | .str _ | .tup _ | .lst _=>True
 |_=>False
def isStr:D->Bool
 | .str _=>true
 |_=>false
def isTup:D->Bool
 | .tup _=>true
 |_=>false
theorem gX{d:D}(h:Plain d):iV [d, .raw (.ty "str")]=ae (.bl (isStr d)):=by
 cases d<;>first | rfl | exact h.elim
theorem qi{d:D}(h:Plain d):iV [d, .raw (.ty "tuple")]=ae (.bl (isTup d)):=by
 cases d<;>first | rfl | exact h.elim
def vZ:D->Bool
 | .str x=>(x.length==1)&&IU x
 |_=>false
theorem jD{ρ:aX}{i:Nat}{d:D}(h:ρ[i]? =some (fz d)):dV i ρ=ae d:=by
 unfold dV;rw[h]
theorem eq_int(i j:Int):ny (.int i) (.int j)=ae (.bl (i==j)):=rfl
theorem ne_int(i j:Int):ib (.int i) (.int j)=ae (.bl (!(i==j))):=rfl
theorem len_str(x:Str):bF [.str x]=ae (.int (x.length:Int)):=rfl
theorem in_str(x:Str):Fh false (.str x) (.str "abcdef")=ae (.bl (IU x)):=rfl
theorem lh(a b:Nat):((a:Int)==(b:Int))=(a==b):=by
 by_cases h:a=b
 ·subst h;simp
 ·have h2:¬(a:Int)=(b:Int):=by omega
  rw[aen.mpr h,aen.mpr h2]
theorem Jf{d:D}(h:Plain d){i:Nat}{ρ:aX}(hρ:ρ[i]? =some (fz d)):
 eE (dA iV (aC (dV i) (aC (dC (.raw (.ty "str"))) aN))) (eE (d2 ny (dA bF (aC (dV i) aN)) (dC (.int 1))) (d2 (Fh false) (dV i) (dC (.str "abcdef")))) ρ=ae (.bl (vZ d)):=by
 have hv:=jD hρ;have e1:=lh;cases d with
 |str x=>
  have k:((x.length:Int)==1)=(x.length==1):=lh x.length 1;simp only[eE,dA,aC,aN,dC,d2,hv,ax,gX h,isStr,Ef,if_true,len_str,eq_int,k,in_str,vZ];cases x.length==1<;>rfl
 |non=>simp only[eE,dA,aC,aN,dC,d2,hv,ax,gX h,isStr,Ef,if_false,X4,vZ]
 |bl b=>simp only[eE,dA,aC,aN,dC,d2,hv,ax,gX h,isStr,Ef,if_false,X4,vZ]
 |int b=>simp only[eE,dA,aC,aN,dC,d2,hv,ax,gX h,isStr,Ef,if_false,X4,vZ]
 |tup b=>simp only[eE,dA,aC,aN,dC,d2,hv,ax,gX h,isStr,Ef,if_false,X4,vZ]
 |lst b=>simp only[eE,dA,aC,aN,dC,d2,hv,ax,gX h,isStr,Ef,if_false,X4,vZ]
 |raw _=>exact h.elim
 |exc _=>exact h.elim
 |scr _=>exact h.elim
 |dct _ _=>exact h.elim
 |dci _ _=>exact h.elim
theorem k_{d:D}(h:Plain d):cg [d]=ae (.bl (vZ d)):=ba (a6 (Jf h rfl))
def kG(x:Str):Bool:=x.cps.toList.all λc=>IU ⟨#[c]⟩
def qb:D->Bool
 | .str x=>(decide (1<=x.length)&&decide (x.length<=8))&&kG x
 |_=>false
theorem CI(l:List Bool):bools (l.map D.bl)=some l:=by
 induction l with
 |nil=>rfl
 |cons b r ih=>show (bools (r.map D.bl)).map _=_;rw[ih];rfl
theorem all_map(l:List Bool):allM [.lst (l.map D.bl)]=ae (.bl (l.all id)):=by
 show (match bools (l.map D.bl) with | some bs=>ae (D.bl (bs.all id)) | none=>ag)=_;rw[CI]
theorem ET{δ:DE}{ρ:aX}{n:Nat}(h:δ ρ=ae (.int (n:Int))):
 cf (vC (λi j=>decide (i<=j)) (λi j=>decide (i<=j)) (dC (.int 1)) δ (dC (.int 8))) ρ=ae (decide (1<=n)&&decide (n<=8)):=by
 have k1:decide ((1:Int)<=(n:Int))=decide (1<=n):=by by_cases h:1<=n<;>simp[h]<;>omega
 have k2:decide ((n:Int)<=8)=decide (n<=8):=by by_cases h:n<=8<;>simp[h]<;>omega
 simp only[cf,vC,dC,h,ax,k1,k2,gI,Ef];cases decide (1<=n)<;>rfl
theorem An{d:D}(h:Plain d):gA [d]=ae (.bl (qb d)):=by
 refine ba ?_;have hρ:([d].map (λd=>some (Sl.fz d))++XT (1 - [d].length) none)=[fz d]:=rfl;rw[hρ];have hv:dV 0 [fz d]=ae d:=rfl;have no:isStr d=false->zF [fz d]=ae (.rt (.bl false)):=λhs=>by
  refine eN (eA ?_ (a6 rfl));simp only[lS,cG,bT,dA,aC,aN,dC,hv,ax,gX h,hs,zy,aaG,if_true]
 cases d with
 |str x=>
  have hi:bT (dA iV (aC (dV 0) (aC (dC (.raw (.ty "str"))) aN))) [fz (.str x)]=ae true:=by
   simp only[bT,dA,aC,aN,dC,hv,ax,gX h,isStr,zy]
  have hl:dA bF (aC (dV 0) aN) [fz (.str x)]=ae (.int (x.length:Int)):=rfl;have hc:=ET hl;by_cases hr:(decide (1<=x.length)&&decide (x.length<=8))=true
  ·rw[hr] at hc;refine ao (fL ?_ (ρ:=[fz (.str x)]) rfl) (a6 ?_)
   ·unfold lS cG;rw[hi,ax,ax,hc];rfl
   ·have hb:x.length<=8:=by simp only[X5,ael] at hr;exact hr.2
    have cm:bA 0 (λρ=>(dV 0) ρ>>=NC) dB (aw 1 cg (aC (dV 0) aN)) [fz (.str x)]=ae (.lst ((x.cps.toList.map λc=>IU ⟨#[c]⟩).map D.bl)):=by
     refine bJ (ds:=signs x) rfl ?_ ?_
     ·have:=eZ (f:=jc 0 dB (aw 1 cg (aC (dV 0) aN)) [fz (.str x)]) (g:=λd=>D.bl (vZ d)) (signs x) λd hd=>by
       rw[qT];obtain⟨c,_,rfl⟩:=XS.mp hd;show (cg [.str ⟨#[c]⟩]>>=λy=>ae (some y))=_;rw[k_ (d:= .str ⟨#[c]⟩) trivial];rfl
      rw[this];unfold signs;rw[Yv,Yv];congr 1
     ·rw[XB,XB,XG,cM];exact Yc hb (by decide)
    rw[eD (aZ cm rfl),all_map];show ae (D.bl ((x.cps.toList.map λc=>IU ⟨#[c]⟩).all id))=ae (D.bl ((decide (1<=x.length)&&decide (x.length<=8))&&kG x));rw[hr];unfold kG;rw[aaJ];rfl
  ·have hr:(decide (1<=x.length)&&decide (x.length<=8))=false:=by simpa using hr
   rw[hr] at hc;have:qb (.str x)=false:=by
    show ((decide (1<=x.length)&&decide (x.length<=8))&&kG x)=false;rw[hr];rfl
   rw[this];refine eN (eA ?_ (a6 rfl));unfold lS cG;rw[hi,ax,ax,hc];rfl
 |non=>exact no rfl
 |bl b=>exact no rfl
 |int b=>exact no rfl
 |tup b=>exact no rfl
 |lst b=>exact no rfl
 |raw _=>exact h.elim
 |exc _=>exact h.elim
 |scr _=>exact h.elim
 |dct _ _=>exact h.elim
 |dci _ _=>exact h.elim
def lJ:D->Nat
 | .str x=>x.length
 |_=>0
def nG:D->Bool
 | .tup ds=>(decide (1<=ds.length)&&decide (ds.length<=8))&&(ds.all qb&&ds.all λd=>lJ d==lJ (ds.headD .non))
 |_=>false
def Plain2:D->Prop
 | .tup ds=>∀d∈ds,Plain d
 |d=>Plain d
theorem Plain2.plain{d:D}(h:Plain2 d):Plain d:=by
 cases d<;>first | exact h | exact trivial
theorem Je{ds:List D}:bF [.tup ds]=ae (.int (ds.length:Int)):=rfl
theorem Sv{ds:List D}{d:D}{r:List D}(h:ds=d::r):bb (.tup ds) (.int 0)=ae d:=by
 subst h;show (match L2.atI (d::r) ((0:Nat):Int) with | some d=>ae d | none=>ag)=_;rw[jr (x:=d) rfl]
theorem JV{d:D}(h:qb d=true):∃x,d= .str x:=by
 cases d<;>first | exact⟨_,rfl⟩ | cases h
theorem CV{d:D}(h:Plain d):lS (cG (bT (dA iV (aC (dV 0) (aC (dC (.raw (.ty "tuple"))) aN))))) (cG (cf (vC (λi j=>decide (i<=j)) (λi j=>decide (i<=j)) (dC (.int 1)) (dA bF (aC (dV 0) aN)) (dC (.int 8))))) [fz d]=
 ae (match d with | .tup ds=>!(decide (1<=ds.length)&&decide (ds.length<=8)) | _=>true):=by
 have hv:dV 0 [fz d]=ae d:=rfl;have no:isTup d=false->lS (cG (bT (dA iV (aC (dV 0) (aC (dC (.raw (.ty "tuple"))) aN))))) (cG (cf (vC (λi j=>decide (i<=j)) (λi j=>decide (i<=j)) (dC (.int 1)) (dA bF (aC (dV 0) aN)) (dC (.int 8))))) [fz d]=ae true:=λhs=>by
  simp only[lS,cG,bT,dA,aC,aN,dC,hv,ax,qi h,hs,zy,aaG,if_true]
 cases d with
 |tup ds=>
  have hi:bT (dA iV (aC (dV 0) (aC (dC (.raw (.ty "tuple"))) aN))) [fz (.tup ds)]=ae true:=by
   simp only[bT,dA,aC,aN,dC,hv,ax,qi h,isTup,zy]
  have hl:dA bF (aC (dV 0) aN) [fz (.tup ds)]=ae (.int (ds.length:Int)):=rfl;unfold lS cG;rw[hi,ax,ax,ET hl];rfl
 |non=>exact no rfl
 |bl b=>exact no rfl
 |int b=>exact no rfl
 |str b=>exact no rfl
 |lst b=>exact no rfl
 |raw _=>exact h.elim
 |exc _=>exact h.elim
 |scr _=>exact h.elim
 |dct _ _=>exact h.elim
 |dci _ _=>exact h.elim
theorem all_rows{ds:List D}(h:∀d∈ds,Plain d)(hl:ds.length<=8):dA allM (aC (bA 0 (lG (dV 0)) dB (aw 1 gA (aC (dV 0) aN))) aN) [fz (.tup ds)]=ae (.bl (ds.all qb)):=by
 have cm:bA 0 (lG (dV 0)) dB (aw 1 gA (aC (dV 0) aN)) [fz (.tup ds)]=ae (.lst ((ds.map qb).map D.bl)):=by
  refine bJ (ds:=ds) rfl ?_ (by rw[XB,XB,cM];omega);rw[Yv];refine eZ (g:=D.bl∘qb) ds λd hd=>?_;rw[qT];show (gA [d]>>=λy=>ae (some y))=_;rw[An (h d hd)];rfl
 rw[eD (aZ cm rfl),all_map,aaJ];rfl
theorem all_lens{ds:List D}(hs:∀d∈ds,∃x,d= .str x)(h0:1<=ds.length)(hl:ds.length<=8):
 dA allM (aC (bA 0 (lG (dV 0)) dB (d2 ny (dA bF (aC (dV 0) aN)) (dA bF (aC (d2 bb (dV 1) (dC (.int 0))) aN)))) aN) [fz (.tup ds)]=ae (.bl (ds.all λd=>lJ d==lJ (ds.headD .non))):=by
 obtain⟨d0,r,e0⟩:∃d0 r,ds=d0::r:=by
  cases ds with
  |nil=>simp at h0
  |cons a r=>exact⟨a,r,rfl⟩
 have hh:ds.headD .non=d0:=by rw[e0];rfl
 obtain⟨x0,Ul⟩:=hs d0 (by rw[e0];exact XA ..);have cm:bA 0 (lG (dV 0)) dB (d2 ny (dA bF (aC (dV 0) aN)) (dA bF (aC (d2 bb (dV 1) (dC (.int 0))) aN))) [fz (.tup ds)]=ae (.lst ((ds.map λd=>lJ d==lJ (ds.headD .non)).map D.bl)):=by
  refine bJ (ds:=ds) rfl ?_ (by rw[XB,XB,cM];omega);rw[Yv];refine eZ (g:=D.bl∘λd=>lJ d==lJ (ds.headD .non)) ds λd hd=>?_;rw[qT];obtain⟨x,rfl⟩:=hs d hd;have k:((x.length:Int)==(x0.length:Int))=(x.length==x0.length):=lh _ _;have i0:bb (.tup ds) (.int 0)=ae (.str x0):=by rw[Sv e0,Ul]
  have VH:ds.headD .non= .str x0:=by rw[hh,Ul]
  simp only[d2,dA,aC,aN,dC,dV,ax,Yr,Yx,len_str,i0,eq_int,k,aee,lJ,VH]
 rw[eD (aZ cm rfl),all_map,aaJ];rfl
theorem mj{d:D}(h:Plain2 d):iT [d]=ae (.bl (nG d)):=by
 refine ba ?_;have hρ:([d].map (λd=>some (Sl.fz d))++XT (1 - [d].length) none)=[fz d]:=rfl;rw[hρ];have hf:=CV h.plain;have no:(∀ds,d≠ .tup ds)->tw [fz d]=ae (.rt (.bl (nG d))):=λhn=>by
  cases d<;>first | exact aej rfl (hn _) | exact eN (eA hf (a6 rfl))
 cases d with
 |tup ds=>
  have hf:_=ae (!(decide (1<=ds.length)&&decide (ds.length<=8))):=hf;by_cases hr:(decide (1<=ds.length)&&decide (ds.length<=8))=true
  ·rw[hr] at hf;have hb:=hr;simp only[X5,ael] at hb;have e:nG (.tup ds)=(ds.all qb&&ds.all λd=>lJ d==lJ (ds.headD .non)):=by
    show ((decide (1<=ds.length)&&decide (ds.length<=8))&&_)=_;rw[hr,ac8]
   rw[e];have a1:=all_rows h hb.2;refine ao (fL hf rfl) ?_;cases hc:ds.all qb with
   |false=>
    rw[hc] at a1;refine eN (eA ?_ (a6 rfl));unfold cG bT;rw[a1];rfl
   |true=>
    rw[hc] at a1;refine ao (fL ?_ rfl) (a6 ?_)
    ·unfold cG bT;rw[a1];rfl
    ·rw[ac8];exact all_lens (λd hd=>JV (Yh.mp hc d hd)) hb.1 hb.2
  ·have hr:(decide (1<=ds.length)&&decide (ds.length<=8))=false:=by simpa using hr
   rw[hr] at hf;have e:nG (.tup ds)=false:=by
    show ((decide (1<=ds.length)&&decide (ds.length<=8))&&_)=_;rw[hr];rfl
   rw[e];exact eN (eA hf (a6 rfl))
 |non=>exact no λ_ z=>by cases z
 |bl b=>exact no λ_ z=>by cases z
 |int b=>exact no λ_ z=>by cases z
 |str b=>exact no λ_ z=>by cases z
 |lst b=>exact no λ_ z=>by cases z
 |raw _=>exact h.elim
 |exc _=>exact h.elim
 |scr _=>exact h.elim
 |dct _ _=>exact h.elim
 |dci _ _=>exact h.elim
structure Brd (ob:List Str) (V:Nat):Prop where
 r1:1<=ob.length
 r8:ob.length<=8
 w1:1<=V
 w8:V<=8
 rows:∀r∈ob,Row V r
theorem Good.brd{bd:List Str}{W:Nat}(hg:Good bd W):Brd bd W:=⟨hg.r1,by have:=hg.r5;omega,hg.w1,by have:=hg.w5;omega,hg.rows⟩
theorem Brd.board{ob:List Str}{V:Nat}(h:Brd ob V):nG (brd ob)=true:=by
 have Sf:∀r∈ob,qb (.str r)=true:=λr hr=>by
  have q:=h.rows r hr;show ((decide (1<=r.length)&&decide (r.length<=8))&&kG r)=true;rw[q.len];have a:decide (1<=V)=true:=aei h.w1;have b:decide (V<=8)=true:=aei h.w8;rw[a,b];show kG r=true;exact Yh.mpr λc hc=>q.let' c hc
 have h0:lJ ((ob.map D.str).headD .non)=V:=by
  have:=h.r1;have hr:=h.rows;cases ob with
  |nil=>simp at this
  |cons x l=>exact(hr x (XA ..)).len
 show ((decide (1<=(ob.map D.str).length)&&decide ((ob.map D.str).length<=8))&&((ob.map D.str).all qb&&(ob.map D.str).all λd=>lJ d==lJ ((ob.map D.str).headD .non)))=true;rw[h0,XB,aei h.r1,aei h.r8];have a:(ob.map D.str).all qb=true:=Yh.mpr λd hd=>by
  obtain⟨r,hr,rfl⟩:=XS.mp hd;exact Sf r hr
 have b:((ob.map D.str).all λd=>lJ d==V)=true:=Yh.mpr λd hd=>by
  obtain⟨r,hr,rfl⟩:=XS.mp hd;show (r.length==V)=true;rw[(h.rows r hr).len];simp
 rw[a,b];rfl
theorem CJ{bd:List Str}:Plain2 (brd bd):=λd hd=>by
 obtain⟨r,_,rfl⟩:=XS.mp hd;trivial
theorem jC{δ:DE}{ρ:aX}{b:Bool}(h:δ ρ=ae (.bl b)):bT δ ρ=ae b:=by
 unfold bT;rw[h];rfl
theorem gi{δ:DE}{ρ:aX}{b:Bool}(h:δ ρ=ae (.bl b)):cf δ ρ=ae b:=by
 unfold cf;rw[h];rfl
theorem nM{τ:DT}{ρ:aX}{b:Bool}(h:τ ρ=ae b):cG τ ρ=ae (!b):=by
 unfold cG;rw[h];rfl
theorem Kl{a c:DT}{ρ:aX}{p q:Bool}(h1:a ρ=ae p)(h2:c ρ=ae q):lS a c ρ=ae (p||q):=by
 unfold lS;rw[h1,ax];cases p
 ·exact h2
 ·rfl
theorem EW{a c:DT}{ρ:aX}{p q:Bool}(h1:a ρ=ae p)(h2:c ρ=ae q):vE a c ρ=ae (p&&q):=by
 unfold vE;rw[h1,ax];cases p
 ·rfl
 ·exact h2
theorem Il{a c:DE}{ρ:aX}{p q:Bool}(h1:a ρ=ae (.bl p))(h2:c ρ=ae (.bl q)):eE a c ρ=ae (.bl (p&&q)):=by
 unfold eE;rw[h1,ax];cases p
 ·rfl
 ·exact h2
theorem Kj{c:DT}{a b:DE}{ρ:aX}{p:Bool}(h:c ρ=ae p):Qz c a b ρ=if p then a ρ else b ρ:=by
 unfold Qz;rw[h];rfl
theorem Brd.nb{ob:List Str}{V:Nat}(h:Brd ob V):bU [brd ob]=ae .non:=by
 refine qw (ρ:=[fz (brd ob)]) (fL (nM (jC (b:=true) ?_)) rfl);refine(aj (ds:=[brd ob]) rfl rfl).trans ?_;rw[mj CJ,h.board]
structure Ln (V:Nat) (r:Str):Prop where
 len:r.length=V
structure Wd (ob:List Str) (V:Nat):Prop where
 r1:1<=ob.length
 r8:ob.length<=8
 w1:1<=V
 w8:V<=8
 rows:∀r∈ob,Ln V r
theorem Brd.wd{ob:List Str}{V:Nat}(h:Brd ob V):Wd ob V:=⟨h.r1,h.r8,h.w1,h.w8,λr hr=>⟨(h.rows r hr).len⟩⟩
theorem Wd.len0{ob:List Str}{V:Nat}(h:Wd ob V){i:Nat}{ρ:aX}(hρ:ρ[i]? =some (fz (brd ob))):dA bF (aC (d2 bb (dV i) (dC (.int 0))) aN) ρ=ae (.int (V:Int)):=by
 have h1:=h.r1;have hr:=h.rows;obtain⟨x,l,e⟩:∃x l,ob=x::l:=by
  cases ob with
  |nil=>simp at h1
  |cons x l=>exact⟨x,l,rfl⟩
 have hx:x.length=V:=(hr x (by rw[e];exact XA ..)).len;have i0:bb (brd ob) (.int 0)=ae (.str x):=Sv (show ob.map D.str=D.str x::l.map D.str by rw[e];rfl);have k:=aL (g:=bb) (jD hρ) (show dC (.int 0) ρ=ae (.int 0) from rfl);rw[i0] at k;rw[eD (aZ (xs:=[]) k rfl)];show ae (D.int (x.length:Int))=_;rw[hx]
theorem Brd.len0{ob:List Str}{V:Nat}(h:Brd ob V){i:Nat}{ρ:aX}(hρ:ρ[i]? =some (fz (brd ob))):dA bF (aC (d2 bb (dV i) (dC (.int 0))) aN) ρ=ae (.int (V:Int)):=h.wd.len0 hρ
theorem Dp{bd:List Str}{i:Nat}{ρ:aX}(hρ:ρ[i]? =some (fz (brd bd))):dA bF (aC (dV i) aN) ρ=ae (.int (bd.length:Int)):=by
 have:bF [brd bd]=ae (.int (bd.length:Int)):=by
  show ae (D.int ((bd.map D.str).length:Int))=_;rw[XB]
 simp only[dA,aC,aN,jD hρ,ax,this]
def jb:D->Bool
 | .int _=>true
 |_=>false
theorem vj{d:D}(h:Plain d):bK [d]=ae (.bl (jb d)):=by
 cases d<;>first | rfl | exact h.elim
def Oj(R W:Nat):D->D->Bool
 | .int a, .int b=>(decide (0<=a)&&decide (a<(R:Int)))&&(decide (0<=b)&&decide (b<(W:Int)))
 |_,_=>false
def Bq(R W:Nat):D->Bool
 | .tup [u,v]=>Oj R W u v
 |_=>false
theorem Ik{δ ε:DE}{ρ:aX}{i n:Int}(h:δ ρ=ae (.int i))(h2:ε ρ=ae (.int n)):
 vC (λi j=>decide (i<=j)) (λi j=>decide (i<j)) (dC (.int 0)) δ ε ρ=ae (.bl (decide (0<=i)&&decide (i<n))):=by
 simp only[vC,dC,h,h2,ax,gI];cases decide (0<=i)<;>rfl
theorem Po{d e:D}:bb (.tup [d,e]) (.int 0)=ae d/\bb (.tup [d,e]) (.int 1)=ae e:=⟨rfl,rfl⟩
theorem oX{bd:List Str}{W:Nat}(hg:Brd bd W){d:D}(h:Plain2 d):kA [brd bd,d]=ae (.bl (Bq bd.length W d)):=by
 refine ba ?_;have hρ:([brd bd,d].map (λd=>some (Sl.fz d))++XT (2 - [brd bd,d].length) none)=[fz (brd bd),fz d]:=rfl;rw[hρ];have hv:dV 1 [fz (brd bd),fz d]=ae d:=rfl;have no:isTup d=false->vk [fz (brd bd),fz d]=ae (.rt (.bl false)):=λhs=>by
  refine eN (eA ?_ (a6 rfl));simp only[lS,cG,bT,dA,aC,aN,dC,hv,ax,qi h.plain,hs,zy,aaG,if_true]
 cases d with
 |tup ds=>
  have hi:cG (bT (dA iV (aC (dV 1) (aC (dC (.raw (.ty "tuple"))) aN)))) [fz (brd bd),fz (.tup ds)]=ae false:=by
   simp only[cG,bT,dA,aC,aN,dC,hv,ax,qi h.plain,isTup,zy,ZQ]
  have k:((ds.length:Int)==2)=(ds.length==2):=lh ds.length 2;have hl:lS (cG (bT (dA iV (aC (dV 1) (aC (dC (.raw (.ty "tuple"))) aN))))) (cf (d2 ib (dA bF (aC (dV 1) aN)) (dC (.int 2)))) [fz (brd bd),fz (.tup ds)]=ae (!(ds.length==2)):=by
   unfold lS;rw[hi];simp only[cf,d2,dA,aC,aN,dC,hv,ax,Je,ne_int,k,Ef,X4,if_false]
  match ds,h,hl with
  |[],h,hl=>exact eN (eA hl (a6 rfl))
  |[_],h,hl=>exact eN (eA hl (a6 rfl))
  |_::_::_::_,h,hl=>
   refine eN (eA (hl.trans ?_) (a6 rfl));simp
  |[u,v],h,hl=>
   refine ao (fL hl rfl) ?_;have pu:Plain u:=h u (by simp);have pv:Plain v:=h v (by simp);have w1:aw 1 bK (aC (d2 bb (dV 1) (dC (.int 0))) aN) [fz (brd bd),fz (.tup [u,v])]=ae (.bl (jb u)):=vj pu;have w2:aw 1 bK (aC (d2 bb (dV 1) (dC (.int 1))) aN) [fz (brd bd),fz (.tup [u,v])]=ae (.bl (jb v)):=vj pv;have hw:lS (cG (bT (aw 1 bK (aC (d2 bb (dV 1) (dC (.int 0))) aN)))) (cG (bT (aw 1 bK (aC (d2 bb (dV 1) (dC (.int 1))) aN)))) [fz (brd bd),fz (.tup [u,v])]=ae (!(jb u&&jb v)):=by
    unfold lS cG bT;rw[w1,w2];simp only[ax,zy];cases jb u<;>cases jb v<;>rfl
   have bad:(jb u&&jb v)=false->aB (fP (lS (cG (bT (aw 1 bK (aC (d2 bb (dV 1) (dC (.int 0))) aN)))) (cG (bT (aw 1 bK (aC (d2 bb (dV 1) (dC (.int 1))) aN))))) (bc (dC (.bl false))) b9) (bc (eE (vC (λi j=>decide (i<=j)) (λi j=>decide (i<j)) (dC (.int 0)) (d2 bb (dV 1) (dC (.int 0))) (dA bF (aC (dV 0) aN))) (vC (λi j=>decide (i<=j)) (λi j=>decide (i<j)) (dC (.int 0)) (d2 bb (dV 1) (dC (.int 1))) (dA bF (aC (d2 bb (dV 0) (dC (.int 0))) aN))))) [fz (brd bd),fz (.tup [u,v])]=ae (.rt (.bl false)):=λhz=>by
    rw[hz] at hw;exact eN (eA hw (a6 rfl))
   match u,v,hw,bad with
   | .int a, .int b,hw,bad=>
     refine ao (fL hw rfl) (a6 ?_);obtain⟨x0,r,e0⟩:∃x0 r,bd=x0::r:=by
      have:=hg.r1;cases bd with
      |nil=>simp at this
      |cons x r=>exact⟨x,r,rfl⟩
     have hx:x0.length=W:=(hg.rows x0 (by rw[e0];simp)).len;have l0:dA bF (aC (dV 0) aN) [fz (brd bd),fz (.tup [.int a, .int b])]=ae (.int (bd.length:Int)):=by
      show ae (D.int ((bd.map D.str).length:Int))=_;rw[XB]
     have l1:dA bF (aC (d2 bb (dV 0) (dC (.int 0))) aN) [fz (brd bd),fz (.tup [.int a, .int b])]=ae (.int (W:Int)):=by
      have i0:bb (brd bd) (.int 0)=ae (.str x0):=Sv (r:=r.map D.str) (by rw[e0];rfl);simp only[dA,aC,aN,d2,dC,dV,Yr,ax,i0,len_str,hx]
     have c1:=Ik (δ:=d2 bb (dV 1) (dC (.int 0))) (i:=a) rfl l0;have c2:=Ik (δ:=d2 bb (dV 1) (dC (.int 1))) (i:=b) rfl l1;unfold eE;rw[c1,ax];show (if (decide (0<=a)&&decide (a<(bd.length:Int)))=true then _ else _)=ae (D.bl ((decide (0<=a)&&decide (a<(bd.length:Int)))&&(decide (0<=b)&&decide (b<(W:Int)))));cases (decide (0<=a)&&decide (a<(bd.length:Int)))
     ·rfl
     ·rw[aeg rfl,c2,ac8]
   | .non,_,_,bad=>exact bad rfl
   | .bl _,_,_,bad=>exact bad rfl
   | .str _,_,_,bad=>exact bad rfl
   | .tup _,_,_,bad=>exact bad rfl
   | .lst _,_,_,bad=>exact bad rfl
   | .raw _,_,_,_=>exact pu.elim
   | .exc _,_,_,_=>exact pu.elim
   | .scr _,_,_,_=>exact pu.elim
   | .int a, .non,_,bad=>exact bad rfl
   | .int a, .bl _,_,bad=>exact bad rfl
   | .int a, .str _,_,bad=>exact bad rfl
   | .int a, .tup _,_,bad=>exact bad rfl
   | .int a, .lst _,_,bad=>exact bad rfl
   | .int a, .raw _,_,_=>exact pv.elim
   | .int a, .exc _,_,_=>exact pv.elim
   | .int a, .scr _,_,_=>exact pv.elim
 |non=>exact no rfl
 |bl b=>exact no rfl
 |int b=>exact no rfl
 |str b=>exact no rfl
 |lst b=>exact no rfl
 |raw _=>exact h.elim
 |exc _=>exact h.elim
 |scr _=>exact h.elim
 |dct _ _=>exact h.elim
 |dci _ _=>exact h.elim
abbrev Cell:=Nat×Nat
def cD(c:Cell):D:= .tup [.int (c.1:Int), .int (c.2:Int)]
def On(R W:Nat)(c:Cell):Prop:=c.1<R/\c.2<W
instance {R W:Nat}{c:Cell}:Decidable (On R W c):=by unfold On;infer_instance
theorem EH{c:Cell}:Plain2 (cD c):=λd hd=>by
 have:d= .int (c.1:Int)\/d= .int (c.2:Int):=by simpa[cD] using hd
 rcases this with rfl | rfl<;>trivial
theorem Ii{R W:Nat}{c:Cell}(h:On R W c):Bq R W (cD c)=true:=by
 show ((decide ((0:Int)<=(c.1:Int))&&decide ((c.1:Int)<(R:Int)))&&(decide ((0:Int)<=(c.2:Int))&&decide ((c.2:Int)<(W:Int))))=true;obtain⟨h1,h2⟩:=h;simp;omega
theorem Brd.nc{bd:List Str}{W:Nat}(hg:Brd bd W){c:Cell}(h:On bd.length W c):cj [brd bd,cD c]=ae .non:=by
 refine qw (ρ:=[fz (brd bd),fz (cD c)]) (fL (nM (jC (b:=true) ?_)) rfl);refine(aj (ds:=[brd bd,cD c]) rfl rfl).trans ?_;rw[oX hg EH,Ii h]
def Ways(w:Nat):Prop:=w=4\/w=8
theorem Ways.nw{w:Nat}(h:Ways w):cP [iW w]=ae .non:=by
 rcases h with rfl | rfl<;>rfl
def ch(x:Str)(j:Nat):Nat:=x.cps.toList.getD j 0
def at2(bd:List Str)(i j:Nat):Nat:=ch (bd.getD i ⟨#[]⟩) j
abbrev lt(bd:List Str)(c:Cell):Nat:=at2 bd c.1 c.2
def sg(n:Nat):D:= .str ⟨#[n]⟩
theorem Cy{x:Str}{c:Nat}(h:c<x.length):rh (.str x) (.int (c:Int))=ae (sg (ch x c)):=by
 have h':c<x.cps.toList.length:=by rw[XG];exact h
 show (match L2.atI x.cps.toList (c:Int) with | some c=>ae (D.str ⟨#[c]⟩) | none=>ag)=_;rw[jr (XC h')];unfold sg ch;rw[X9,XC h'];rfl
theorem getD_mem{bd:List Str}{i:Nat}(h:i<bd.length):bd.getD i ⟨#[]⟩∈bd:=by
 rw[X9,XC h];exact ZC h
theorem FT{bd:List Str}{i:Nat}(h:i<bd.length):bb (brd bd) (.int (i:Int))=ae (.str (bd.getD i ⟨#[]⟩)):=by
 show (match L2.atI (bd.map D.str) (i:Int) with | some d=>ae d | none=>ag)=_;rw[jr (x:= .str (bd.getD i ⟨#[]⟩)) ?_];rw[XX,XC h,X9,XC h];rfl
theorem fq{bd:List Str}{W:Nat}(hg:Brd bd W){c:Cell}(h:On bd.length W c):bG [brd bd,cD c]=ae (sg (lt bd c)):=by
 refine ba (a6 ?_);refine(aL (x:= .str (bd.getD c.1 ⟨#[]⟩)) (y:= .int (c.2:Int)) ((aL (x:=brd bd) (y:= .int (c.1:Int)) rfl rfl).trans (FT h.1)) rfl).trans ?_;exact Cy (by rw[(hg.rows _ (getD_mem h.1)).len];exact h.2)
theorem Kp(a b:Nat):ny (sg a) (sg b)=ae (.bl (decide (a=b))):=by
 show ae (D.bl (decide ((⟨#[a]⟩:Str)=⟨#[b]⟩)))=_;congr 2;by_cases h:a=b
 ·subst h;simp
 ·have:¬((⟨#[a]⟩:Str)=⟨#[b]⟩):=λz=>by
   injection z with z
   exact h (by simpa using z)
  rw[aem h,aem this]
def bO(a b:Nat):Nat:=max a b - min a b
def lT(w:Nat)(a b:Cell):Bool:=if w=4 then decide (bO a.1 b.1+bO a.2 b.2=1) else decide (max (bO a.1 b.1) (bO a.2 b.2)=1)
theorem Be(a b:Nat):Et [.int ((a:Int) - (b:Int))]=ae (.int (bO a b:Int)):=by
 show ae (D.int _)=_;congr 2;unfold bO;omega
theorem vm{w:Nat}(hw:Ways w)(a b:Cell):d6 [cD a,cD b,iW w]=ae (.bl (lT w a b)):=by
 refine ba ?_;refine ao (ρ':=[fz (cD a),fz (cD b),fz (iW w),fz (.int (bO a.1 b.1:Int)),none]) ((aM (d:= .int (bO a.1 b.1:Int)) (Be a.1 b.1)).trans rfl) ?_;refine ao (ρ':=[fz (cD a),fz (cD b),fz (iW w),fz (.int (bO a.1 b.1:Int)),fz (.int (bO a.2 b.2:Int))]) ((aM (d:= .int (bO a.2 b.2:Int)) (Be a.2 b.2)).trans rfl) ?_;rcases hw with rfl | rfl
 ·refine eN (eA (gi rfl) (a6 ?_));show ae (D.bl (((bO a.1 b.1:Int)+(bO a.2 b.2:Int))==1))=_;unfold lT;rw[aeg rfl];congr 2;have:((bO a.1 b.1:Int)+(bO a.2 b.2:Int))=((bO a.1 b.1+bO a.2 b.2:Nat):Int):=by omega
  rw[this];have e:=lh (bO a.1 b.1+bO a.2 b.2) 1;exact e.trans rfl
 ·refine ao (fL (gi rfl) rfl) (a6 ?_);show ae (D.bl ((if (bO a.1 b.1:Int)<(bO a.2 b.2:Int) then(bO a.2 b.2:Int) else(bO a.1 b.1:Int))==1))=_;have hn:lT 8 a b=decide (max (bO a.1 b.1) (bO a.2 b.2)=1):=rfl;rw[hn];congr 2;have:(if (bO a.1 b.1:Int)<(bO a.2 b.2:Int) then(bO a.2 b.2:Int) else(bO a.1 b.1:Int))=((max (bO a.1 b.1) (bO a.2 b.2):Nat):Int):=by split<;>omega
  rw[this];have e:=lh (max (bO a.1 b.1) (bO a.2 b.2)) 1;exact e.trans rfl
theorem Gs(w:Nat)(a b:Cell):lT w a b=lT w b a:=by
 have e:∀x y:Nat,bO x y=bO y x:=λx y=>by unfold bO;omega
 unfold lT;rw[e a.1,e a.2]
theorem bZ{put:D->aX->Option aX}{body:DS}{d:D}{ds:List D}{ρ ρ1 ρ2:aX}(h1:put d ρ=some ρ1)(h2:body ρ1=ae (.nx ρ2)):forL put body (d::ds) ρ=forL put body ds ρ2:=by
 show (match put d ρ with | none=>ag | some ρ1=>body ρ1>>=λo=>match o with | .nx ρ2=>forL put body ds ρ2 | .rt v=>ae (.rt v))=_;rw[h1];show (body ρ1>>=λo=>match o with | .nx ρ2=>forL put body ds ρ2 | .rt v=>ae (.rt v))=_;rw[h2];rfl
section
variable{α σ:Type}{put:D->aX->Option aX}{body:DS}
theorem kD(enc:α->D)(mk:σ->aX)(step:σ->α->σ)(I:σ->Prop):∀(xs:List α) (s:σ),I s->(∀s,I s->∀x∈xs,I (step s x)/\∃ρ1,put (enc x) (mk s)=some ρ1/\body ρ1=ae (.nx (mk (step s x))))->
 I (xs.foldl step s)/\forL put body (xs.map enc) (mk s)=ae (.nx (mk (xs.foldl step s)))
 |[],s,h,_=>⟨h,rfl⟩
 |x::xs,s,h,st=>by
  obtain⟨h2,ρ1,e1,e2⟩:=st s h x (XA ..);obtain⟨h3,e3⟩:=kD enc mk step I xs (step s x) h2 λs hs y hy=>st s hs y (Xz _ hy);exact⟨h3,(bZ e1 e2).trans e3⟩
theorem nP(enc:α->D)(ρ:aX):∀(xs:List α),(∀x∈xs,∃ρ1,put (enc x) ρ=some ρ1/\body ρ1=ae (.nx ρ))->forL put body (xs.map enc) ρ=ae (.nx ρ)
 |[],_=>rfl
 |x::xs,st=>by
  obtain⟨ρ1,e1,e2⟩:=st x (XA ..);exact(bZ e1 e2).trans (nP enc ρ xs λy hy=>st y (Xz _ hy))
theorem gD(enc:α->D)(mk:List D->aX)(g:α->List D){B:Nat}:∀(xs:List α) (v4:List D),(v4++xs.flatMap g).length<=B->(∀x∈xs,∀v4,(v4++g x).length<=B->∃ρ1,put (enc x) (mk v4)=some ρ1/\body ρ1=ae (.nx (mk (v4++g x))))->
 forL put body (xs.map enc) (mk v4)=ae (.nx (mk (v4++xs.flatMap g)))
 |[],v4,_,_=>by simp;rfl
 |x::xs,v4,hB,st=>by
  have Tz:((v4++g x)++xs.flatMap g).length<=B:=by simpa[ZM,Zb] using hB
  obtain⟨ρ1,e1,e2⟩:=st x (XA ..) v4 (Yc (by simp only[XR];omega) Tz);have e3:=gD enc mk g xs (v4++g x) Tz λy hy=>st y (Xz _ hy);rw[XN,bZ e1 e2,e3,ZM,Zb]
end
theorem dY{put:D->aX->Option aX}{δi:DA}{b:DS}{ρ:aX}{ds:List D}{m:M Out}(h:δi ρ=ae ds)(h2:forL put b ds ρ=m):cY put δi b ρ=m:=by
 unfold cY;rw[h];exact h2
theorem cV{τ:DS}{ρ:aX}{o:Out}(h:τ ρ=ae o):(λρ=>noex (τ ρ)) ρ=ae o:=by
 show noex (τ ρ)=_;rw[h];rfl
theorem zb(lo n:Nat):iM (lo:Int) n=(YU lo n).map λ(k:Nat)=>D.int (k:Int):=by
 unfold iM;rw[adF];have:∀(n a:Nat),(YU a n).map (λ(i:Nat)=>D.int ((lo:Int)+(i:Int)))=(YU (lo+a) n).map λ(k:Nat)=>D.int (k:Int):=by
  intro n;induction n with
  |zero=>intro a;rfl
  |succ n ih=>
   intro a;rw[abn,abn,XN,XN,ih (a+1)];rfl
 exact this n 0
theorem He{δ:DE}{ρ:aX}{n:Nat}(h:δ ρ=ae (.int (n:Int)))(hn:n<=4096):(aC δ aN ρ>>=g8)=ae ((Yg n).map λ(k:Nat)=>D.int (k:Int)):=by
 rw[aZ h rfl,ax,oF hn,show iM 0 n=iM ((0:Nat):Int) n from rfl,zb,adF]
theorem Qa{δ ε:DE}{ρ:aX}{i j:Nat}(h:δ ρ=ae (.int (i:Int)))(h2:ε ρ=ae (.int (j:Int)))(hi:i<=4096)(hj:j<=4096):(aC δ (aC ε aN) ρ>>=va)=ae ((YU i (j - i)).map λ(k:Nat)=>D.int (k:Int)):=by
 rw[aZ h (aZ h2 rfl),ax];show (if (-4096<=(i:Int)/\(i:Int)<=4096)/\(-4096<=(j:Int)/\(j:Int)<=4096) then ae (iM (i:Int) ((j:Int) - (i:Int)).toNat) else ag)=_;rw[aeg ⟨⟨by omega,by omega⟩,by omega,by omega⟩,show ((j:Int) - (i:Int)).toNat=j - i by omega,zb]
def dg(W r:Nat):List Cell:=(Yg W).map λk=>(r,k)
def aU(R W:Nat):List Cell:=(Yg R).flatMap (dg W)
theorem aJ{R W:Nat}{c:Cell}:c∈aU R W↔On R W c:=by
 unfold aU dg On;simp only[aaL,Y3,XS];constructor
 ·rintro⟨r,hr,k,hk,rfl⟩;exact⟨hr,hk⟩
 ·rintro⟨h1,h2⟩;exact⟨c.1,h1,c.2,h2,rfl⟩
theorem b0(R W:Nat):(aU R W).length=R*W:=by
 unfold aU;have:∀l:List Nat,(l.flatMap (dg W)).length=l.length*W:=by
  intro l;induction l with
  |nil=>simp
  |cons a l ih=>rw[ZM,XR,ih,XH,Nat.succ_mul];simp[dg];omega
 rw[this,Zq]
theorem nL{bd:List Str}{W:Nat}(hg:Brd bd W)(r:Nat):cH [brd bd, .int (r:Int)]=ae (.lst ((dg W r).map cD)):=by
 have:=hg.w8;refine ba (a6 (bJ (He (n:=W) (hg.len0 rfl) (by omega)) ?_ (by simp[dg,cM];omega)));rw[show (dg W r).map cD=((Yg W).map λ(k:Nat)=>D.int (k:Int)).map (λe=> .tup [.int (r:Int),e]) by simp[dg,Yv];intro a _;rfl];exact eZ (g:=λe=> .tup [.int (r:Int),e]) _ λe _=>rfl
theorem fk{bd:List Str}{W:Nat}(hg:Brd bd W):cO [brd bd]=ae (.lst ((aU bd.length W).map cD)):=by
 have h8:=hg.r8;have w8:=hg.w8;have hm:bd.length*W<=64:=aaH h8 w8;have HU:(Yg bd.length).flatMap (λr=>(dg W r).map cD)=(aU bd.length W).map cD:=by
  unfold aU;rw[abo]
 have e:=gD (put:=putN 2) (body:=ck [2] (Hi 1 (aw 2 cH (aC (dV 0) (aC (dV 2) aN))))) (λ(k:Nat)=>D.int (k:Int)) (λv4=>[fz (brd bd),some (.ow (.lst v4)),none]) (λr=>(dg W r).map cD) (B:=64) (Yg bd.length) []
  (by rw[Yq,HU,XB,b0];exact hm) λr hr v4 hB=>by
   refine⟨[fz (brd bd),some (.ow (.lst v4)),fz (.int (r:Int))],rfl,?_⟩;refine(a8 (ρ':=[fz (brd bd),some (.ow (.lst (v4++(dg W r).map cD))),fz (.int (r:Int))]) ?_).trans rfl;show (cH [brd bd, .int (r:Int)]>>=λd=>lstM d>>=λes=>if v4.length+es.length<=lim then ae (Out.nx (List.set [fz (brd bd),some (.ow (.lst v4)),fz (.int (r:Int))] 1 (some (.ow (.lst (v4++es)))))) else ag)=_;rw[nL hg,ax];show (if v4.length+((dg W r).map cD).length<=lim then ae (Out.nx [fz (brd bd),some (.ow (.lst (v4++(dg W r).map cD))),fz (.int (r:Int))]) else ag)=_;rw[aeg (by rw[XR] at hB;rw[cM];omega)]
 rw[Yq,HU] at e;refine ba (ao (ρ':=[fz (brd bd),some (.ow (.lst [])),none]) rfl (ao (ρ':=[fz (brd bd),some (.ow (.lst ((aU bd.length W).map cD))),none]) (cV (dY (He (n:=bd.length) (Dp rfl) (by omega)) e)) ?_));rfl
def g0(R W w:Nat)(c:Cell):List Cell:=
 (YU (c.1 - 1) (min (c.1+2) R - (c.1 - 1))).flatMap λr=>((YU (c.2 - 1) (min (c.2+2) W - (c.2 - 1))).map λk=>(r,k)).filter (lT w c)
theorem gj{R W w:Nat}(hw:Ways w){c x:Cell}:x∈g0 R W w c↔On R W x/\lT w c x=true:=by
 unfold g0 On;simp only[aaL,YA,XS,List.mem_range'_1];constructor
 ·rintro⟨r,⟨h1,h2⟩,⟨k,⟨h3,h4⟩,rfl⟩,h5⟩;refine⟨⟨?_,?_⟩,h5⟩
  ·show r<R;omega
  ·show k<W;omega
 ·rintro⟨⟨h1,h2⟩,h5⟩;have h6:bO c.1 x.1<=1/\bO c.2 x.2<=1:=by
   unfold lT at h5;rcases hw with rfl | rfl
   ·rw[aeg rfl] at h5;have:=aek h5;omega
   ·rw[aeh (by decide)] at h5;have:=aek h5;omega
  unfold bO at h6;exact⟨x.1,⟨by omega,by omega⟩,⟨x.2,⟨by omega,by omega⟩,rfl⟩,h5⟩
theorem nU(R W w:Nat)(c:Cell):(g0 R W w c).length<=9:=by
 unfold g0;rw[adQ];have h:∀r,(((YU (c.2 - 1) (min (c.2+2) W - (c.2 - 1))).map λk=>(r,k)).filter (lT w c)).length<=3:=λr=>by
  refine Yc (Y1 ..) ?_;rw[XB,ab3];omega
 have:∀(l:List Nat),(l.map λr=>(((YU (c.2 - 1) (min (c.2+2) W - (c.2 - 1))).map λk=>(r,k)).filter (lT w c)).length).sum<=3*l.length:=by
  intro l;induction l with
  |nil=>simp
  |cons a l ih=>rw[XN,ab2,XH];have:=h a;omega
 refine Yc (this _) ?_;rw[ab3];omega
abbrev nc(b c w:D)(v4:List D)(x4 x5:Option Sl):aX:=[fz b,fz c,fz w,some (.ow (.lst v4)),x4,x5]
theorem gH{bd:List Str}{W w:Nat}(hg:Brd bd W)(hw:Ways w){c:Cell}(hc:On bd.length W c):bB [brd bd,cD c,iW w]=ae (.lst ((g0 bd.length W w c).map cD)):=by
 have h8:=hg.r8;have w8:=hg.w8;obtain⟨c1,c2⟩:=hc;have O1:∀n:Nat,Ar [.int ((n:Int) - 1), .int 0]=ae (.int ((n - 1:Nat):Int)):=λn=>by
  show ae (D.int (if (0:Int)>(n:Int) - 1 then 0 else(n:Int) - 1))=_;congr 2;split<;>omega
 have O2:∀n m:Nat,tV [.int ((n:Int)+2), .int (m:Int)]=ae (.int ((min (n+2) m:Nat):Int)):=λn m=>by
  show ae (D.int (if (m:Int)<(n:Int)+2 then(m:Int) else(n:Int)+2))=_;congr 2;split<;>omega
 have inner:∀(r:Nat) (v4:List D),v4.length<=16->forL (putN 5) (ck [5] (fP (bT (aw 3 d6 (aC (dV 1) (aC (dA aO (aC (dV 4) (aC (dV 5) aN))) (aC (dV 2) aN))))) (sP 3 (dA aO (aC (dV 4) (aC (dV 5) aN)))) b9))
  ((YU (c.2 - 1) (min (c.2+2) W - (c.2 - 1))).map λ(k:Nat)=>D.int (k:Int)) (nc (brd bd) (cD c) (iW w) v4 (fz (.int (r:Int))) none)=
  ae (.nx (nc (brd bd) (cD c) (iW w) (v4++(YU (c.2 - 1) (min (c.2+2) W - (c.2 - 1))).flatMap λk=>if lT w c (r,k) then [cD (r,k)] else []) (fz (.int (r:Int))) none)):=λr v4 tQ=>by
  refine gD (λ(k:Nat)=>D.int (k:Int)) (λv4=>nc (brd bd) (cD c) (iW w) v4 (fz (.int (r:Int))) none) (λk=>if lT w c (r,k) then [cD (r,k)] else []) (B:=64) _ v4 ?_ λk hk v4 hB=>?_
  ·rw[XR,adQ];have:∀l:List Nat,(l.map λk=>(if lT w c (r,k) then [cD (r,k)] else []).length).sum<=l.length:=by
    intro l;induction l with
    |nil=>simp
    |cons a l ih=>rw[XN,ab2,XH];split<;>simp<;>omega
   have h2:=this (YU (c.2 - 1) (min (c.2+2) W - (c.2 - 1)));rw[ab3] at h2;omega
  ·refine⟨nc (brd bd) (cD c) (iW w) v4 (fz (.int (r:Int))) (fz (.int (k:Int))),rfl,?_⟩;have ht:bT (aw 3 d6 (aC (dV 1) (aC (dA aO (aC (dV 4) (aC (dV 5) aN))) (aC (dV 2) aN)))) (nc (brd bd) (cD c) (iW w) v4 (fz (.int (r:Int))) (fz (.int (k:Int))))=ae (lT w c (r,k)):=
    jC ((aj (ds:=[cD c,cD (r,k),iW w]) rfl rfl).trans (vm hw c (r,k)))
   cases hn:lT w c (r,k) with
   |true=>
    rw[hn] at ht;rw[hn,aeg rfl,XR] at hB;refine(a8 (ρ':=nc (brd bd) (cD c) (iW w) (v4++[cD (r,k)]) (fz (.int (r:Int))) (fz (.int (k:Int)))) (eA ht ?_)).trans rfl;show (if v4.length<lim then ae (Out.nx (nc (brd bd) (cD c) (iW w) (v4++[cD (r,k)]) (fz (.int (r:Int))) (fz (.int (k:Int))))) else ag)=_;rw[aeg (by rw[cM];simp at hB;omega)]
   |false=>
    rw[hn] at ht;refine(a8 (ρ':=nc (brd bd) (cD c) (iW w) v4 (fz (.int (r:Int))) (fz (.int (k:Int)))) (fL ht rfl)).trans ?_;simp;rfl
 have flt:∀r,((YU (c.2 - 1) (min (c.2+2) W - (c.2 - 1))).flatMap λk=>if lT w c (r,k) then [cD (r,k)] else [])=(((YU (c.2 - 1) (min (c.2+2) W - (c.2 - 1))).map λk=>(r,k)).filter (lT w c)).map cD:=λr=>by
  generalize YU (c.2 - 1) (min (c.2+2) W - (c.2 - 1))=l;induction l with
  |nil=>rfl
  |cons a l ih=>
   rw[ZM,ih,XN,List.filter_cons];cases lT w c (r,a)<;>rfl
 have tot:(YU (c.1 - 1) (min (c.1+2) bd.length - (c.1 - 1))).flatMap (λr=>(((YU (c.2 - 1) (min (c.2+2) W - (c.2 - 1))).map λk=>(r,k)).filter (lT w c)).map cD)=(g0 bd.length W w c).map cD:=by
  unfold g0;rw[abo]
 have outer:=gD (put:=putN 4) (body:=ck [4,5] (cY (putN 5) (λρ=>(aC (dA Ar (aC (d2 Ac (d2 bb (dV 1) (dC (.int 1))) (dC (.int 1))) (aC (dC (.int 0)) aN))) (aC (dA tV (aC (d2 dN (d2 bb (dV 1) (dC (.int 1))) (dC (.int 2))) (aC (dA bF (aC (d2 bb (dV 0) (dC (.int 0))) aN)) aN))) aN)) ρ>>=va) (ck [5] (fP (bT (aw 3 d6 (aC (dV 1) (aC (dA aO (aC (dV 4) (aC (dV 5) aN))) (aC (dV 2) aN))))) (sP 3 (dA aO (aC (dV 4) (aC (dV 5) aN)))) b9))))
  (λ(k:Nat)=>D.int (k:Int)) (λv4=>nc (brd bd) (cD c) (iW w) v4 none none) (λr=>(((YU (c.2 - 1) (min (c.2+2) W - (c.2 - 1))).map λk=>(r,k)).filter (lT w c)).map cD) (B:=16) (YU (c.1 - 1) (min (c.1+2) bd.length - (c.1 - 1))) []
  (by rw[Yq,tot,XB];have:=nU bd.length W w c;omega) λr hr v4 hB=>by
   refine⟨nc (brd bd) (cD c) (iW w) v4 (fz (.int (r:Int))) none,rfl,?_⟩;have e:=inner r v4 (by rw[XR] at hB;omega);rw[flt r] at e;refine(a8 (dY (Qa (i:=c.2 - 1) (j:=min (c.2+2) W) ?_ ?_ (by omega) (by omega)) e)).trans rfl
   ·exact(eD (xs:=[.int ((c.2:Int) - 1), .int 0]) rfl).trans (O1 c.2)
   ·refine(eD (xs:=[.int ((c.2:Int)+2), .int (W:Int)]) ?_).trans (O2 c.2 W);exact aZ (show d2 dN (d2 bb (dV 1) (dC (.int 1))) (dC (.int 2)) (nc (brd bd) (cD c) (iW w) v4 (fz (.int (r:Int))) none)=ae (.int ((c.2:Int)+2)) from rfl) (aZ (hg.len0 rfl) rfl)
 rw[Yq,tot] at outer;refine ba (ao (ρ':=nc (brd bd) (cD c) (iW w) [] none none) rfl (ao (ρ':=nc (brd bd) (cD c) (iW w) ((g0 bd.length W w c).map cD) none none) (cV (dY (Qa (i:=c.1 - 1) (j:=min (c.1+2) bd.length) ?_ ?_ (by omega) (by omega)) outer)) ?_))
 ·exact(eD (xs:=[.int ((c.1:Int) - 1), .int 0]) rfl).trans (O1 c.1)
 ·refine(eD (xs:=[.int ((c.1:Int)+2), .int (bd.length:Int)]) ?_).trans (O2 c.1 bd.length);exact aZ (show d2 dN (d2 bb (dV 1) (dC (.int 0))) (dC (.int 2)) (nc (brd bd) (cD c) (iW w) [] none none)=ae (.int ((c.1:Int)+2)) from rfl) (aZ (Dp rfl) rfl)
 ·rfl
def bw(bd:List Str)(W w:Nat)(c:Cell):List Cell:=(g0 bd.length W w c).filter λx=>decide (lt bd x=lt bd c)
theorem fb{bd:List Str}{W w:Nat}(hw:Ways w){c x:Cell}:x∈bw bd W w c↔On bd.length W x/\lT w c x=true/\lt bd x=lt bd c:=by
 unfold bw;rw[YA,gj hw,ael,and_assoc]
theorem Du(bd:List Str)(W w:Nat)(c:Cell):(bw bd W w c).length<=9:=Yc (Y1 ..) (nU ..)
theorem eY{α:Type}{f:D->M (Option D)}(enc:α->D)(p:α->Bool):∀(xs:List α),(∀x∈xs,f (enc x)=ae (if p x then some (enc x) else none))->d9 f (xs.map enc)=ae ((xs.filter p).map enc)
 |[],_=>rfl
 |x::xs,h=>by
  rw[XN,gu,h x (XA ..),ax,eY enc p xs λy hy=>h y (Xz _ hy),List.filter_cons];cases p x<;>rfl
theorem rO{bd:List Str}{W w:Nat}(hg:Brd bd W)(hw:Ways w){c:Cell}(hc:On bd.length W c):cT [brd bd,cD c,iW w]=ae (.lst ((bw bd W w c).map cD)):=by
 refine ba (ao (ρ':=[fz (brd bd),fz (cD c),fz (iW w),fz (sg (lt bd c))]) ((aM (d:=sg (lt bd c)) ((aj (ds:=[brd bd,cD c]) rfl rfl).trans (fq hg hc))).trans rfl) (a6 ?_));refine bJ (ds:=(g0 bd.length W w c).map cD) ?_ (eY cD _ _ λx hx=>?_) (by rw[XB,cM];exact Yc (Du bd W w c) (by decide))
 ·show (aw 3 bB _ _>>=lstM)=_;have e:aw 3 bB (aC (dV 0) (aC (dV 1) (aC (dV 2) aN))) [fz (brd bd),fz (cD c),fz (iW w),fz (sg (lt bd c))]=ae (.lst ((g0 bd.length W w c).map cD)):=gH hg hw hc;rw[e];rfl
 ·have Df:=(gj hw).mp hx;rw[jB];have e:cf (d2 ny (aw 2 bG (aC (dV 1) (aC (dV 0) aN))) (dV 4)) (fz (cD x)::[fz (brd bd),fz (cD c),fz (iW w),fz (sg (lt bd c))])=ae (decide (lt bd x=lt bd c)):=by
   refine gi ?_;exact(aL (x:=sg (lt bd x)) (y:=sg (lt bd c)) ((aj (ds:=[brd bd,cD x]) rfl rfl).trans (fq hg Df.1)) rfl).trans (Kp _ _)
  rw[e,ax];cases decide (lt bd x=lt bd c)<;>rfl
end K1
namespace K1
section
variable{α:Type}[DecidableEq α]
structure Bk (α:Type) where
 ks:List α
 ps:List (Option α)
 fu:List α
def cN(c:α)(s:Bk α)(x:α):Bk α:=if x∈s.ks then s else⟨s.ks++[x],s.ps++[some c],s.fu++[x]⟩
variable(nb:α->List α)
def gU(s:Bk α)(c:α):Bk α:=(nb c).foldl (cN c) s
def bR(s:Bk α)(ring:List α):Bk α:=ring.foldl (gU nb) s
def Rb(a:α):Nat->α->Prop
 |0,x=>x=a
 |k+1,x=>Rb a k x\/∃y,Rb a k y/\x∈nb y
variable{nb}{a:α}
theorem Rb.mono{i j:Nat}{x:α}(h:i<=j)(r:Rb nb a i x):Rb nb a j x:=by
 induction h with
 |refl=>exact r
 |step _ ih=>exact .inl ih
structure Grown (P:α->α->Prop) (s t:Bk α):Prop where
 ex:∃fs:List (α×α),t.ks=s.ks++fs.map (·.1)/\t.ps=s.ps++fs.map (λp=>some p.2)/\t.fu=s.fu++fs.map (·.1)/\(∀p∈fs,P p.2 p.1)
 nd:s.ks.Nodup->t.ks.Nodup
theorem Grown.refl{P:α->α->Prop}(s:Bk α):Grown P s s:=⟨⟨[],by simp,by simp,by simp,λ_ h=>by cases h⟩,id⟩
theorem Grown.trans{P:α->α->Prop}{s t u:Bk α}(h1:Grown P s t)(h2:Grown P t u):Grown P s u:=by
 obtain⟨fs,a1,a2,a3,a4⟩:=h1.ex;obtain⟨gs,b1,b2,b3,b4⟩:=h2.ex;refine⟨⟨fs++gs,by rw[b1,a1];simp,by rw[b2,a2];simp,by rw[b3,a3];simp,λp hp=>?_⟩,λh=>h2.nd (h1.nd h)⟩;rcases Yk.mp hp with h | h
 ·exact a4 p h
 ·exact b4 p h
theorem xR{P:α->α->Prop}{c x:α}(s:Bk α)(h:P c x):Grown P s (cN c s x):=by
 unfold cN;split
 ·exact Grown.refl s
 ·rename_i hx;refine⟨⟨[(x,c)],rfl,rfl,rfl,λp hp=>?_⟩,λhn=>?_⟩
  ·have:p=(x,c):=by simpa using hp
   subst this;exact h
  ·refine YI.mpr ⟨hn,by simp,λy hy z hz e=>?_⟩;have hz:z=x:=by simpa using hz
   rw[e,hz] at hy;exact hx hy
theorem um{c x y:α}(s:Bk α):y∈(cN c s x).ks↔y∈s.ks\/y=x:=by
 unfold cN;split
 ·rename_i hx;exact⟨.inl,λh=>h.elim id λe=>by rw[e];exact hx⟩
 ·simp
theorem foldStep{P:α->α->Prop}{c:α}:∀(l:List α) (s:Bk α),(∀x∈l,P c x)->Grown P s (l.foldl (cN c) s)/\∀y,y∈(l.foldl (cN c) s).ks↔y∈s.ks\/y∈l
 |[],s,_=>⟨Grown.refl s,λy=>by simp⟩
 |x::l,s,h=>by
  obtain⟨h1,h2⟩:=foldStep l (cN c s x) λy hy=>h y (Xz _ hy);refine⟨(xR s (h x (XA ..))).trans h1,λy=>?_⟩;rw[ZL,h2 y,um];simp[or_assoc]
theorem yj{P:α->α->Prop}:∀(l:List α) (s:Bk α),(∀c∈l,∀x∈nb c,P c x)->Grown P s (bR nb s l)/\∀y,y∈(bR nb s l).ks↔y∈s.ks\/∃c∈l,y∈nb c
 |[],s,_=>⟨Grown.refl s,λy=>by simp[bR]⟩
 |c::l,s,h=>by
  obtain⟨g1,m1⟩:=foldStep (P:=P) (c:=c) (nb c) s (h c (XA ..));obtain⟨g2,m2⟩:=yj l (gU nb s c) λc' hc=>h c' (Xz _ hc);refine⟨g1.trans g2,λy=>?_⟩;show y∈(bR nb (gU nb s c) l).ks↔_;rw[m2 y];show (y∈((nb c).foldl (cN c) s).ks\/_)↔_;rw[m1 y];simp[or_assoc]
structure Rng (nb:α->List α) (a:α) (k:Nat) (ks:List α) (ps:List (Option α)) (ring:List α):Prop where
 len:ks.length=ps.length
 nd:ks.Nodup
 mem:∀x,x∈ks↔Rb nb a k x
 rg:∀x,x∈ring↔Rb nb a k x/\∀j,Rb nb a j x->k<=j
 par:∀x p,(x,some p)∈ks.zip ps->x∈nb p/\p∈ks/\∀j,Rb nb a j x->∃i,j=i+1/\Rb nb a i p
 non:∀x,(x,none)∈ks.zip ps->x=a
 sz:k<=ks.length/\(ring≠[]->k+1<=ks.length)
theorem Rng.zero(nb:α->List α)(a:α):Rng nb a 0 [a] [none] [a] where
 len:=rfl
 nd:=by simp
 mem:=λx=>by simp[Rb]
 rg:=λx=>by simp[Rb]
 par:=λx p h=>by simp at h
 non:=λx h=>by simpa using h
 sz:=⟨by simp,λ_=>by simp⟩
theorem Rng.next{k:Nat}{ks:List α}{ps:List (Option α)}{ring:List α}(h:Rng nb a k ks ps ring)(hr:ring≠[]):Rng nb a (k+1) (bR nb ⟨ks,ps,[]⟩ ring).ks (bR nb ⟨ks,ps,[]⟩ ring).ps (bR nb ⟨ks,ps,[]⟩ ring).fu:=by
 obtain⟨g,m⟩:=yj (nb:=nb) (P:=λc x=>c∈ring/\x∈nb c) ring ⟨ks,ps,[]⟩ λc hc x hx=>⟨hc,hx⟩
 obtain⟨fs,e1,e2,e3,e4⟩:=g.ex;have NY:=g.nd h.nd;have hm:∀x,x∈(bR nb ⟨ks,ps,[]⟩ ring).ks↔Rb nb a (k+1) x:=λx=>by
  rw[m x];show (x∈ks\/_)↔(Rb nb a k x\/_);constructor
  ·rintro(q | ⟨c,hc,hx⟩)
   ·exact .inl ((h.mem x).mp q)
   ·exact .inr ⟨c,((h.rg c).mp hc).1,hx⟩
  ·rintro(q | ⟨y,hy,hx⟩)
   ·exact .inl ((h.mem x).mpr q)
   ·by_cases hk:∀j,Rb nb a j y->k<=j
    ·exact .inr ⟨y,(h.rg y).mpr ⟨hy,hk⟩,hx⟩
    ·refine .inl ((h.mem x).mpr ?_);obtain⟨j,hj⟩:=acZ.mp hk;obtain⟨RS,VM⟩:=ado.mp hj;exact Rb.mono (i:=j+1) (by omega) (.inr ⟨y,RS,hx⟩)
 have Eg:(bR nb ⟨ks,ps,[]⟩ ring).ks=ks++fs.map (·.1):=e1;have NR:(bR nb ⟨ks,ps,[]⟩ ring).ps=ps++fs.map (λp=>some p.2):=e2;have QA:(bR nb ⟨ks,ps,[]⟩ ring).fu=fs.map (·.1):=e3;have new:∀x,x∈fs.map (·.1)->¬Rb nb a k x:=λx hx hk=>by
  rw[Eg] at NY;exact(YI.mp NY).2.2 x ((h.mem x).mpr hk) x hx rfl
 have Pt:∀x,¬Rb nb a k x->∀j,Rb nb a j x->k+1<=j:=λx hx j hj=>by
  by_cases VP:k+1<=j
  ·exact VP
  ·exact aej (Rb.mono (by omega) hj) hx
 have Ph:(bR nb ⟨ks,ps,[]⟩ ring).ks.zip (bR nb ⟨ks,ps,[]⟩ ring).ps=ks.zip ps++fs.map λp=>(p.1,some p.2):=by
  rw[Eg,NR,aar h.len];congr 1;rw[List.zip_map']
 refine⟨?_,NY,hm,λx=>?_,λx p hp=>?_,λx hx=>?_,?_⟩
 ·rw[Eg,NR,XR,XR,XB,XB,h.len]
 ·rw[QA];constructor
  ·intro hx;exact⟨(hm x).mp (by rw[Eg];exact YB _ hx),Pt x (new x hx)⟩
  ·rintro⟨h1,h2⟩;have h3:=(hm x).mpr h1;rw[Eg] at h3;rcases Yk.mp h3 with q | q
   ·have:=h2 k ((h.mem x).mp q);omega
   ·exact q
 ·rw[Ph] at hp;rcases Yk.mp hp with q | q
  ·obtain⟨q1,q2,q3⟩:=h.par x p q;exact⟨q1,by rw[Eg];exact Zm _ q2,q3⟩
  ·obtain⟨f,hf,e⟩:=XS.mp q;cases e;obtain⟨f1,f2⟩:=e4 f hf;have hc:=(h.rg f.2).mp f1;refine⟨f2,by rw[Eg];exact Zm _ ((h.mem _).mpr hc.1),λj hj=>?_⟩;have:=Pt f.1 (new f.1 (XS.mpr ⟨f,hf,rfl⟩)) j hj;exact⟨j - 1,by omega,Rb.mono (by omega) hc.1⟩
 ·rw[Ph] at hx;rcases Yk.mp hx with q | q
  ·exact h.non x q
  ·obtain⟨f,hf,e⟩:=XS.mp q;cases e
 ·have hs:=h.sz.2 hr;rw[Eg,XR,XB];refine⟨by omega,λfo=>?_⟩;have:fs≠[]:=λz=>fo (by rw[QA,z];rfl);have:=List.length_pos_iff.mpr this;omega
theorem Rng.last{k:Nat}{ks:List α}{ps:List (Option α)}(h:Rng nb a k ks ps []):∀x,x∈ks↔∃j,Rb nb a j x:=by
 have none:∀x,¬(Rb nb a k x/\∀j,Rb nb a j x->k<=j):=λx q=>by
  have:=(h.rg x).mpr q;cases this
 have hk:∀x,Rb nb a k x->∃i,i<k/\Rb nb a i x:=λx hx=>by
  by_cases q:∀j,Rb nb a j x->k<=j
  ·exact aej ⟨hx,q⟩ (none x)
  ·obtain⟨j,hj⟩:=acZ.mp q;obtain⟨RS,VM⟩:=ado.mp hj;exact⟨j,by omega,RS⟩
 have all:∀j x,Rb nb a j x->Rb nb a k x:=by
  intro j;induction j with
  |zero=>intro x hx;exact Rb.mono (Ys _) hx
  |succ j ih=>
   rintro x (q | ⟨y,hy,hx⟩)
   ·exact ih x q
   ·obtain⟨i,hi,hr⟩:=hk y (ih y hy);exact Rb.mono (i:=i+1) (by omega) (.inr ⟨y,hr,hx⟩)
 exact λx=>⟨λq=>⟨k,(h.mem x).mp q⟩,λ⟨j,hj⟩=>(h.mem x).mpr (all j x hj)⟩
theorem de{l U:List α}(hn:l.Nodup)(h:∀x∈l,x∈U):l.length<=U.length:=by
 induction l generalizing U with
 |nil=>simp
 |cons a l ih=>
  rw[Yz] at hn;have hl:∀x∈l,x∈U.erase a:=λx hx=>by
   have fo:x≠a:=λz=>hn.1 (by rw[<-z];exact hx);exact(adG fo).mpr (h x (Xz _ hx))
  have h1:=ih hn.2 hl;have h2:=abc (h a (XA ..));have h3:=adn (h a (XA ..));rw[XH];omega
end
end K1
namespace K1
open PySem L2 L3
def keyOf(c:Cell):List Key:=[.inl (c.1:Int), .inl (c.2:Int)]
theorem iy{a b:Cell}(h:keyOf a=keyOf b):a=b:=by
 unfold keyOf at h;injection h with h1 h2
 injection h1 with h1
 injection h2 with h2 _
 injection h2 with h2
 exact ad3 (aaY h1) (aaY h2)
theorem iX(c:Cell):kY (cD c)=some (keyOf c):=rfl
theorem gm{c:Cell}:∀{ks:List Cell}{ds:List D},c∉ks->dR (ks.map keyOf) ds (keyOf c)=none
 |[],_,_=>by simp[dR]
 |k::ks,[],_=>by simp[dR]
 |k::ks,d::ds,h=>by
  rw[XN];unfold dR;rw[aeh (λz=>h (by rw[iy z];exact XA ..))];exact gm λz=>h (Xz _ z)
theorem oN{c:Cell}:∀{ks:List Cell}{ds:List D},ks.length=ds.length->c∈ks->∃d,dR (ks.map keyOf) ds (keyOf c)=some d/\(c,d)∈ks.zip ds
 |[],_,_,h=>by cases h
 |k::ks,[],hl,_=>by simp at hl
 |k::ks,d::ds,hl,h=>by
  rw[XN];unfold dR;by_cases hk:k=c
  ·subst hk;rw[aeg rfl];exact⟨d,rfl,by simp⟩
  ·rw[aeh (λz=>hk (iy z))];have hc:c∈ks:=by
    rcases XF.mp h with q | q
    ·exact aej q.symm hk
    ·exact q
   obtain⟨d',e1,e2⟩:=oN (ds:=ds) (by simpa using hl) hc;exact⟨d',e1,by simp[e2]⟩
theorem kE{neg:Bool}{ks:List Cell}{ds:List D}{c:Cell}(hl:ks.length=ds.length):fW neg (cD c) (.dct (ks.map keyOf) ds)=ae (.bl (if neg then !decide (c∈ks) else decide (c∈ks))):=by
 show (match (kY (cD c)).map (dR (ks.map keyOf) ds) with | some o=>ae (D.bl (if neg then !o.isSome else o.isSome)) | none=>ag)=_;rw[iX];show ae (D.bl (if neg then !(dR (ks.map keyOf) ds (keyOf c)).isSome else(dR (ks.map keyOf) ds (keyOf c)).isSome))=_;by_cases h:c∈ks
 ·obtain⟨d,e,_⟩:=oN hl h;rw[e,aei h];rfl
 ·rw[gm h,aem h];rfl
theorem sI{ks:List Cell}{ds:List D}{c:Cell}{d:D}(h:c∉ks)(hl:ds.length<lim):jm (.dct (ks.map keyOf) ds) (cD c) d=some (.dct ((ks++[c]).map keyOf) (ds++[d])):=by
 show (match kY (cD c) with | some kk=>if ds.length<lim then some (C.dct (dw (ks.map keyOf) ds kk) (cz (ks.map keyOf) ds kk d)) else none | none=>none)=_;rw[iX];show (if ds.length<lim then some (C.dct (dw (ks.map keyOf) ds (keyOf c)) (cz (ks.map keyOf) ds (keyOf c) d)) else none)=_;rw[aeg hl];unfold dw cz;rw[gm h];simp
theorem HG{τ:DT}{ρ:aX}{b:Bool}(h:τ (tN ρ)=ae b):Lc τ ρ=ae b:=by
 unfold Lc;rw[h];rfl
theorem EZ{δ:DE}{ρ:aX}{d:D}(h:δ (tN ρ)=ae d)(hf:BH d=true):Lu δ ρ=ae d:=by
 unfold Lu;rw[h];show q_ d=_;unfold q_;rw[hf];rfl
theorem tq{c:DT}{body:DS}{n:Nat}{ρ ρ':aX}{m:M Out}(h1:c ρ=ae true)(h2:body ρ=ae (.nx ρ'))(h3:d8 c body n ρ'=m):d8 c body (n+1) ρ=m:=by
 show (c ρ>>=λb=>if b then body ρ>>=λo=>match o with | .nx ρ'=>d8 c body n ρ' | .rt d=>ae (.rt d) else ae (.nx ρ))=_;rw[h1,ax,aeg rfl,h2];exact h3
theorem nv{c:DT}{body:DS}{n:Nat}{ρ:aX}(h1:c ρ=ae false):d8 c body (n+1) ρ=ae (.nx ρ):=by
 show (c ρ>>=λb=>if b then body ρ>>=λo=>match o with | .nx ρ'=>d8 c body n ρ' | .rt d=>ae (.rt d) else ae (.nx ρ))=_;rw[h1];rfl
def GH:Option Cell->D
 |none=> .non
 |some c=>cD c
abbrev Ez(ks:List Cell)(ps:List (Option Cell)):C:= .dct (ks.map keyOf) (ps.map GH)
abbrev Bj(ks:List Cell)(ps:List (Option Cell)):D:= .dct (ks.map keyOf) (ps.map GH)
abbrev sb(b s w:D)(ks:List Cell)(ps:List (Option Cell))(x4 x5 x6 x7:Option Sl):aX:=[fz b,fz s,fz w,some (.ow (Ez ks ps)),x4,x5,x6,x7]
structure Bok (R W:Nat) (s:Bk Cell):Prop where
 len:s.ks.length=s.ps.length
 nd:s.ks.Nodup
 on:∀x∈s.ks,On R W x
 fu:s.fu.length<=s.ks.length
theorem Bok.le{R W:Nat}{s:Bk Cell}(h:Bok R W s):s.ks.length<=R*W:=by
 rw[<-b0 R W];exact de h.nd λx hx=>aJ.mpr (h.on x hx)
theorem Bok.step{R W:Nat}{s:Bk Cell}(h:Bok R W s){c x:Cell}(hx:On R W x):Bok R W (cN c s x):=by
 unfold cN;split
 ·exact h
 ·rename_i hn;refine⟨by simp[h.len],?_,λy hy=>?_,by simp;exact h.fu⟩
  ·refine YI.mpr ⟨h.nd,by simp,λy hy z hz e=>?_⟩;have hz:z=x:=by simpa using hz
   rw[e,hz] at hy;exact hn hy
  ·rcases Yk.mp hy with q | q
   ·exact h.on y q
   ·have:y=x:=by simpa using q
    rw[this];exact hx
theorem JZ{bd:List Str}{W:Nat}(hg:Brd bd W){a c x:Cell}{w:D}{r:Option Sl}{s:Bk Cell}(h:Bok bd.length W s):
 JX (sb (brd bd) (cD a) w s.ks s.ps r (some (.ow (.lst (s.fu.map cD)))) (fz (cD c)) (fz (cD x)))=ae (.nx (sb (brd bd) (cD a) w (cN c s x).ks (cN c s x).ps r (some (.ow (.lst ((cN c s x).fu.map cD)))) (fz (cD c)) none)):=by
 have hle:=h.le;have hm:bd.length*W<=64:=aaH hg.r8 hg.w8;have ht:Lc (cf (d2 (fW true) (dV 7) (dV 3))) (sb (brd bd) (cD a) w s.ks s.ps r (some (.ow (.lst (s.fu.map cD)))) (fz (cD c)) (fz (cD x)))=ae (!decide (x∈s.ks)):=
  HG (gi ((aL (x:=cD x) (y:=Bj s.ks s.ps) rfl rfl).trans (kE (neg:=true) (by rw[XB];exact h.len))))
 by_cases hx:x∈s.ks
 ·rw[aei hx] at ht;have e:cN c s x=s:=aeg hx;rw[e];exact(a8 (fL ht rfl)).trans rfl
 ·rw[aem hx] at ht;have e:cN c s x=⟨s.ks++[x],s.ps++[some c],s.fu++[x]⟩:=aeh hx;rw[e];refine(a8 (ρ':=sb (brd bd) (cD a) w (s.ks++[x]) (s.ps++[some c]) r (some (.ow (.lst ((s.fu++[x]).map cD)))) (fz (cD c)) (fz (cD x))) (eA ht (ao (ρ':=sb (brd bd) (cD a) w (s.ks++[x]) (s.ps++[some c]) r (some (.ow (.lst (s.fu.map cD)))) (fz (cD c)) (fz (cD x))) ?_ ?_))).trans rfl
  ·show (match jm (Ez s.ks s.ps) (cD x) (cD c) with | some c'=>ae (Out.nx (List.set (sb (brd bd) (cD a) w s.ks s.ps r (some (.ow (.lst (s.fu.map cD)))) (fz (cD c)) (fz (cD x))) 3 (some (.ow c')))) | none=>ag)=_;rw[sI hx (by rw[XB,<-h.len,cM];omega)];rw[show s.ps.map GH++[cD c]=(s.ps++[some c]).map GH by simp[GH]];rfl
  ·show (if (s.fu.map cD).length<lim then ae (Out.nx (sb (brd bd) (cD a) w (s.ks++[x]) (s.ps++[some c]) r (some (.ow (.lst (s.fu.map cD++[cD x])))) (fz (cD c)) (fz (cD x)))) else ag)=_;have:=h.fu;rw[aeg (by rw[XB,cM];omega)];rw[show s.fu.map cD++[cD x]=(s.fu++[x]).map cD by simp]
def NA:DS:=ck [6,7] (cY (putN 7) (cR (aw 3 cT (aC (dV 0) (aC (dV 6) (aC (dV 2) aN))))) JX)
theorem Cu{bd:List Str}{W w:Nat}(hg:Brd bd W)(hw:Ways w){a c:Cell}(hc:On bd.length W c){r:Option Sl}{s:Bk Cell}(h:Bok bd.length W s):
 Bok bd.length W (gU (bw bd W w) s c)/\NA (sb (brd bd) (cD a) (iW w) s.ks s.ps r (some (.ow (.lst (s.fu.map cD)))) (fz (cD c)) none)=
  ae (.nx (sb (brd bd) (cD a) (iW w) (gU (bw bd W w) s c).ks (gU (bw bd W w) s c).ps r (some (.ow (.lst ((gU (bw bd W w) s c).fu.map cD)))) none none)):=by
 obtain⟨h1,e⟩:=kD (put:=putN 7) (body:=JX) cD (λs:Bk Cell=>sb (brd bd) (cD a) (iW w) s.ks s.ps r (some (.ow (.lst (s.fu.map cD)))) (fz (cD c)) none) (cN c) (Bok bd.length W) (bw bd W w c) s h λs hs x hx=>
  ⟨hs.step ((fb hw).mp hx).1,_,rfl,JZ hg hs⟩
 refine⟨h1,(a8 (dY ?_ e)).trans rfl⟩;show (aw 3 cT (aC (dV 0) (aC (dV 6) (aC (dV 2) aN))) (sb (brd bd) (cD a) (iW w) s.ks s.ps r (some (.ow (.lst (s.fu.map cD)))) (fz (cD c)) none)>>=lstM)=_;have e2:aw 3 cT (aC (dV 0) (aC (dV 6) (aC (dV 2) aN))) (sb (brd bd) (cD a) (iW w) s.ks s.ps r (some (.ow (.lst (s.fu.map cD)))) (fz (cD c)) none)=ae (.lst ((bw bd W w c).map cD)):=rO hg hw hc;rw[e2];rfl
def Qb:DS:=ck [5,6,7] (aB (zf 5) (aB (cY (putN 6) (cR (dV 4)) NA) (zd 5 (bu 4 (dV 5)))))
theorem JY{bd:List Str}{W w:Nat}(hg:Brd bd W)(hw:Ways w){a:Cell}{ring:List Cell}(hr:∀c∈ring,On bd.length W c){s:Bk Cell}(h:Bok bd.length W s)(hf:s.fu=[]):
 Bok bd.length W (bR (bw bd W w) s ring)/\Qb (sb (brd bd) (cD a) (iW w) s.ks s.ps (fz (.lst (ring.map cD))) none none none)=
  ae (.nx (sb (brd bd) (cD a) (iW w) (bR (bw bd W w) s ring).ks (bR (bw bd W w) s ring).ps (fz (.lst ((bR (bw bd W w) s ring).fu.map cD))) none none none)):=by
 obtain⟨h1,e⟩:=kD (put:=putN 6) (body:=NA) cD (λs:Bk Cell=>sb (brd bd) (cD a) (iW w) s.ks s.ps (fz (.lst (ring.map cD))) (some (.ow (.lst (s.fu.map cD)))) none none) (gU (bw bd W w)) (Bok bd.length W) ring s h λs hs c hc=>
  ⟨(Cu (a:=a) (r:=fz (.lst (ring.map cD))) hg hw (hr c hc) hs).1,_,rfl,(Cu hg hw (hr c hc) hs).2⟩
 refine⟨h1,(a8 (ρ':=sb (brd bd) (cD a) (iW w) (bR (bw bd W w) s ring).ks (bR (bw bd W w) s ring).ps (fz (.lst ((bR (bw bd W w) s ring).fu.map cD))) (fz (.lst ((bR (bw bd W w) s ring).fu.map cD))) none none) ?_).trans rfl⟩;refine ao (ρ':=sb (brd bd) (cD a) (iW w) s.ks s.ps (fz (.lst (ring.map cD))) (some (.ow (.lst []))) none none) rfl (ao (ρ':=sb (brd bd) (cD a) (iW w) (bR (bw bd W w) s ring).ks (bR (bw bd W w) s ring).ps (fz (.lst (ring.map cD))) (some (.ow (.lst ((bR (bw bd W w) s ring).fu.map cD)))) none none) ?_ rfl);rw[hf] at e;exact dY rfl e
theorem zi{bd:List Str}{W w:Nat}(hg:Brd bd W)(hw:Ways w){a:Cell}(ha:On bd.length W a):∀(fuel k:Nat) (ks:List Cell) (ps:List (Option Cell)) (ring:List Cell),bd.length*W+2<=fuel+k->Rng (bw bd W w) a k ks ps ring->(∀x∈ks,On bd.length W x)->
 ∃k' ks' jl,Rng (bw bd W w) a k' ks' jl []/\(∀x∈ks',On bd.length W x)/\d8 (bT (dV 4)) Qb fuel (sb (brd bd) (cD a) (iW w) ks ps (fz (.lst (ring.map cD))) none none none)=ae (.nx (sb (brd bd) (cD a) (iW w) ks' jl (fz (.lst [])) none none none))
 |0,k,ks,ps,ring,hf,hR,eW=>by
  have h1:ks.length<=bd.length*W:=by
   rw[<-b0 bd.length W];exact de hR.nd λx hx=>aJ.mpr (eW x hx)
  have:=hR.sz.1;omega
 |fuel+1,k,ks,ps,[],hf,hR,eW=>⟨k,ks,ps,hR,eW,nv rfl⟩
 |fuel+1,k,ks,ps,c::ring,hf,hR,eW=>by
  have fo:c::ring≠[]:=by simp
  have hN:=hR.next fo;have Pa:∀x∈c::ring,On bd.length W x:=λx hx=>eW x ((hR.mem x).mpr ((hR.rg x).mp hx).1);obtain⟨hb,e⟩:=JY (a:=a) hg hw Pa (s:=⟨ks,ps,[]⟩) ⟨hR.len,hR.nd,eW,Ys _⟩ rfl;obtain⟨k',ks',jl,q1,q2,q3⟩:=zi hg hw ha fuel (k+1) _ _ _ (by omega) hN hb.on;exact⟨k',ks',jl,q1,q2,tq rfl e q3⟩
theorem sZ{bd:List Str}{W w:Nat}(hg:Brd bd W)(hw:Ways w){a:Cell}(ha:On bd.length W a):
 ∃k ks ps,Rng (bw bd W w) a k ks ps []/\(∀x∈ks,On bd.length W x)/\dJ [brd bd,cD a,iW w]=ae (Bj ks ps):=by
 have hm:bd.length*W<=64:=aaH hg.r8 hg.w8;obtain⟨k,ks,ps,h1,h2,h3⟩:=zi hg hw ha lim 0 [a] [none] [a] (by rw[cM];omega) (Rng.zero _ _) (λx hx=>(show x=a by simpa using hx)▸ha);refine⟨k,ks,ps,h1,h2,ba (ao (ρ':=[fz (brd bd),fz (cD a),fz (iW w),some (.ow (Ez [a] [none])),none,none,none,none]) rfl (ao (ρ':=sb (brd bd) (cD a) (iW w) [a] [none] (fz (.lst [cD a])) none none none) rfl (ao (ρ':=sb (brd bd) (cD a) (iW w) ks ps (fz (.lst [])) none none none) (cV h3) rfl)))⟩
def ui{α:Type}[DecidableEq α](n:Nat)(enc:α->D):Prop:=∀k x y,kz (n+k) (enc x) (enc y)=some (decide (x=y))
theorem IA(n:Nat)(xs ys:List D):kz (n+1) (.tup xs) (.tup ys)=tI (kz n) xs ys:=rfl
theorem lZ(n:Nat)(i j:Int):kz n (.int i) (.int j)=some (i==j):=by cases n<;>rfl
theorem Iz(n:Nat)(i j:Str):kz n (.str i) (.str j)=some (i==j):=by cases n<;>rfl
theorem BC{α:Type}[DecidableEq α]{enc:α->D}{f:D->D->Option Bool}(h:∀x y,f (enc x) (enc y)=some (decide (x=y))):∀(xs ys:List α),tI f (xs.map enc) (ys.map enc)=some (decide (xs=ys))
 |[],[]=>rfl
 |[],_::_=>by simp[tI]
 |_::_,[]=>by simp[tI]
 |x::xs,y::ys=>by
  rw[XN,XN];show (match f (enc x) (enc y),tI f (xs.map enc) (ys.map enc) with | some b,some r=>some (b&&r) | _,_=>none)=_;rw[h,BC h xs ys];show some (decide (x=y)&&decide (xs=ys))=_;congr 1;by_cases h1:x=y<;>by_cases h2:xs=ys<;>simp[h1,h2]
theorem LD:ui 1 cD:=λk a b=>by
 rw[acr];show (match kz k (.int (a.1:Int)) (.int (b.1:Int)),tI (kz k) [.int (a.2:Int)] [.int (b.2:Int)] with | some b,some r=>some (b&&r) | _,_=>none)=_;rw[lZ];show (match some ((a.1:Int)==(b.1:Int)),(match kz k (.int (a.2:Int)) (.int (b.2:Int)),tI (kz k) [] [] with | some b,some r=>some (b&&r) | _,_=>none) with | some b,some r=>some (b&&r) | _,_=>none)=_;rw[lZ];show some (((a.1:Int)==(b.1:Int))&&(((a.2:Int)==(b.2:Int))&&true))=_;rw[lh,lh,ac9];congr 1;obtain⟨a1,a2⟩:=a;obtain⟨b1,b2⟩:=b;by_cases h1:a1=b1<;>by_cases h2:a2=b2<;>simp[h1,h2]
theorem Iu{α:Type}[DecidableEq α]{enc:α->D}{n:Nat}(h:ui n enc):ui (n+1) (λl:List α=> .lst (l.map enc)):=λk x y=>by
 rw[show n+1+k=(n+k)+1 by omega];exact BC (h k) x y
theorem Iv:ui 0 D.str:=λk x y=>by
 rw[Iz];congr 1
theorem Rk{α:Type}[DecidableEq α]{enc:α->D}{n:Nat}(h:ui n enc)(hn:n<=6)(x y:α):ny (enc x) (enc y)=ae (.bl (decide (x=y))):=by
 have:=h (6 - n) x y;rw[show n+(6 - n)=6 by omega] at this;unfold ny;rw[this]
theorem LF{α:Type}[DecidableEq α]{enc:α->D}{n:Nat}(h:ui n enc)(hn:n<=6)(x y:α):ib (enc x) (enc y)=ae (.bl (!decide (x=y))):=by
 have:=h (6 - n) x y;rw[show n+(6 - n)=6 by omega] at this;unfold ib;rw[this]
abbrev cL(l:List Cell):D:= .lst (l.map cD)
theorem Py(a b:List Cell):ib (cL a) (cL b)=ae (.bl (!decide (a=b))):=LF (Iu LD) (by decide) a b
def ic(c:Cell):List Int:=[(c.1:Int),(c.2:Int)]
def EU(a b:Cell):Bool:=if a.1=b.1 then decide (a.2<b.2) else decide (a.1<b.1)
def IW(k:Cell):List Cell->List Cell
 |[]=>[k]
 |x::r=>if EU k x then k::x::r else x::IW k r
def lx:List Cell->List Cell
 |[]=>[]
 |k::r=>IW k (lx r)
theorem Ap(a b:Cell):eV (ic a) (ic b)=EU a b:=by
 show (if (a.1:Int)=(b.1:Int) then(if (a.2:Int)=(b.2:Int) then false else decide ((a.2:Int)<(b.2:Int))) else decide ((a.1:Int)<(b.1:Int)))=_;unfold EU;by_cases h:a.1=b.1
 ·rw[aeg h,aeg (by omega)];by_cases h2:a.2=b.2
  ·rw[aeg (by omega),h2];simp
  ·rw[aeh (by omega)];by_cases h3:a.2<b.2
   ·rw[aei h3,aei (by omega)]
   ·rw[aem h3,aem (by omega)]
 ·rw[aeh h,aeh (by omega)];by_cases h3:a.1<b.1
  ·rw[aei h3,aei (by omega)]
  ·rw[aem h3,aem (by omega)]
theorem FJ(k:Cell):∀l:List Cell,insI (ic k) (l.map ic)=(IW k l).map ic
 |[]=>rfl
 |x::r=>by
  rw[XN];unfold insI IW;rw[Ap];cases EU k x with
  |true=>rfl
  |false=>rw[aeh (by decide),aeh (by decide),XN,FJ k r]
theorem ng:∀l:List Cell,sortI (l.map ic)=(lx l).map ic
 |[]=>rfl
 |k::r=>by
  rw[XN];unfold sortI lx;rw[ng r,FJ]
theorem rA{a b:Cell}(h:ic a=ic b):a=b:=by
 unfold ic at h;injection h with h1 h2
 injection h2 with h2 _
 exact ad3 (aaY h1) (aaY h2)
theorem kI{x:Cell}{l:List Cell}:x∈lx l↔x∈l:=by
 have h:=eB (x:=ic x) (l:=l.map ic);rw[ng] at h;constructor
 ·intro hx;obtain⟨y,hy,e⟩:=XS.mp (h.mp (XS.mpr ⟨x,hx,rfl⟩));rw[<-rA e];exact hy
 ·intro hx;obtain⟨y,hy,e⟩:=XS.mp (h.mpr (XS.mpr ⟨x,hx,rfl⟩));rw[<-rA e];exact hy
def RiseC(l:List Cell):Prop:=l.Pairwise λa b=>EU a b=true
theorem wY{l:List Cell}:zO (l.map ic)↔RiseC l:=by
 unfold zO RiseC;rw[aaD];constructor<;>intro h<;>refine abA ?_ h<;>intro a b q
 ·rw[<-Ap];exact q
 ·rw[Ap];exact q
theorem yD{l:List Cell}(h:l.Nodup):(l.map ic).Nodup:=by
 unfold Zc at h⊢;rw[aaD];exact abA (λh z=>h (rA z)) h
theorem sX{l:List Cell}(h:l.Nodup):RiseC (lx l):=by
 have:=gP (yD h);rw[ng] at this;exact wY.mp this
theorem D0{a b:List Cell}(ha:RiseC a)(hb:RiseC b)(h:∀x,x∈a↔x∈b):a=b:=by
 have e:=m6 (wY.mpr ha) (wY.mpr hb) λx=>by
  constructor
  ·intro hx;obtain⟨y,hy,rfl⟩:=XS.mp hx;exact XS.mpr ⟨y,(h y).mp hy,rfl⟩
  ·intro hx;obtain⟨y,hy,rfl⟩:=XS.mp hx;exact XS.mpr ⟨y,(h y).mpr hy,rfl⟩
 have inj:∀(a b:List Cell),a.map ic=b.map ic->a=b:=by
  intro a;induction a with
  |nil=>intro b h;cases b with
   |nil=>rfl
   |cons=>simp at h
  |cons x a ih=>intro b h;cases b with
   |nil=>simp at h
   |cons y b=>
    rw[XN,XN] at h;injection h with h1 h2
    rw[rA h1,ih b h2]
 exact inj a b e
theorem RiseC.nodup{l:List Cell}(h:RiseC l):l.Nodup:=by
 refine abA ?_ h;intro a b q z;subst z;unfold EU at q;rw[aeg rfl] at q;have:=aek q;omega
theorem nS:∀ks:List Cell,gE (ks.map keyOf)=some (ks.map ic)
 |[]=>rfl
 |k::r=>by
  show (match uI (keyOf k),gE (r.map keyOf) with | some x,some xs=>some (x::xs) | _,_=>none)=_;rw[nS r];rfl
theorem KZ{ks:List Cell}(h:ks.Nodup)(hl:ks.length<64):fe (ks.map ic)=true:=by
 unfold fe;rw[XB,aei (yD h),aei hl];simp;intro a b _ z;cases z
theorem zq{ks:List Cell}{ds:List D}(h:ks.Nodup)(hl:ks.length<64):vg [.dct (ks.map keyOf) ds]=ae (cL (lx ks)):=by
 show (match gE (ks.map keyOf) with | some ks=>if fe ks&&ks.all (λk=>decide (k.length<=lim)) then ae (D.lst ((sortI ks).map tupI)) else ag | none=>ag)=_;rw[nS];show (if fe (ks.map ic)&&(ks.map ic).all (λk=>decide (k.length<=lim)) then ae (D.lst ((sortI (ks.map ic)).map tupI)) else ag)=_;rw[KZ h hl];have:(ks.map ic).all (λk=>decide (k.length<=lim))=true:=by
  simp;intro a b _;show 2<=lim
  decide
 rw[this,ac9,aeg rfl,ng,Yv];rfl
def Cn(bd:List Str)(W w:Nat)(a b:Cell):Prop:=∃j,Rb (bw bd W w) a j b
theorem Cn.refl{bd:List Str}{W w:Nat}{a:Cell}:Cn bd W w a a:=⟨0,rfl⟩
theorem Aq{bd:List Str}{W w:Nat}(hw:Ways w){a b:Cell}(ha:On bd.length W a)(h:b∈bw bd W w a):a∈bw bd W w b:=by
 obtain⟨h1,h2,h3⟩:=(fb hw).mp h;exact(fb hw).mpr ⟨ha,by rw[Gs];exact h2,h3.symm⟩
theorem Ha{bd:List Str}{W w:Nat}(hw:Ways w){a b:Cell}(ha:On bd.length W a):∀{j:Nat},Rb (bw bd W w) a j b->On bd.length W b
 |0,h=>by rw[show b=a from h];exact ha
 |j+1, .inl h=>Ha hw ha h
 |j+1, .inr ⟨y,_,hy⟩=>((fb hw).mp hy).1
theorem sJ{bd:List Str}{W w:Nat}{a c b:Cell}(h:c∈bw bd W w a):∀{j:Nat},Rb (bw bd W w) c j b->Rb (bw bd W w) a (j+1) b
 |0,q=> .inr ⟨a,rfl,by rw[show b=c from q];exact h⟩
 |j+1, .inl q=> .inl (sJ h q)
 |j+1, .inr ⟨y,q,hy⟩=> .inr ⟨y,sJ h q,hy⟩
theorem wU{bd:List Str}{W w:Nat}(hw:Ways w){a b:Cell}(ha:On bd.length W a):∀{j:Nat},Rb (bw bd W w) a j b->Rb (bw bd W w) b j a
 |0,h=>show a=b from(show b=a from h).symm
 |j+1, .inl h=> .inl (wU hw ha h)
 |j+1, .inr ⟨y,q,hy⟩=>sJ (Aq hw (Ha hw ha q) hy) (wU hw ha q)
theorem sL{bd:List Str}{W w:Nat}{a b c:Cell}{i:Nat}(h:Rb (bw bd W w) a i b):∀{j:Nat},Rb (bw bd W w) b j c->Rb (bw bd W w) a (i+j) c
 |0,q=>by rw[show c=b from q];exact h
 |j+1, .inl q=> .inl (sL h q)
 |j+1, .inr ⟨y,q,hy⟩=> .inr ⟨y,sL h q,hy⟩
theorem oA{bd:List Str}{W w:Nat}(hw:Ways w){a b:Cell}:∀{j:Nat},Rb (bw bd W w) a j b->lt bd b=lt bd a
 |0,h=>by rw[show b=a from h]
 |j+1, .inl h=>oA hw h
 |j+1, .inr ⟨y,q,hy⟩=>((fb hw).mp hy).2.2.trans (oA hw q)
section
variable{bd:List Str}{W w:Nat}{a b c:Cell}
theorem Cn.on(hw:Ways w)(ha:On bd.length W a)(h:Cn bd W w a b):On bd.length W b:=let ⟨_,q⟩:=h;Ha hw ha q
theorem Cn.symm(hw:Ways w)(ha:On bd.length W a)(h:Cn bd W w a b):Cn bd W w b a:=let ⟨j,q⟩:=h;⟨j,wU hw ha q⟩
theorem Cn.trans(h:Cn bd W w a b)(h2:Cn bd W w b c):Cn bd W w a c:=let ⟨i,q⟩:=h;let ⟨j,r⟩:=h2;⟨i+j,sL q r⟩
theorem Cn.letter(hw:Ways w)(h:Cn bd W w a b):lt bd b=lt bd a:=let ⟨_,q⟩:=h;oA hw q
theorem Cn.step(h:Cn bd W w a b)(h2:c∈bw bd W w b):Cn bd W w a c:=let ⟨j,q⟩:=h;⟨j+1, .inr ⟨b,q,h2⟩⟩
end
structure IsPatch (bd:List Str) (W w:Nat) (a:Cell) (P:List Cell):Prop where
 rise:RiseC P
 mem:∀x,x∈P↔Cn bd W w a x
theorem IsPatch.one{bd:List Str}{W w:Nat}{a:Cell}{P Q:List Cell}(h:IsPatch bd W w a P)(h2:IsPatch bd W w a Q):P=Q:=D0 h.rise h2.rise λx=>(h.mem x).trans (h2.mem x).symm
theorem fU{bd:List Str}{W:Nat}{ks:List Cell}(hn:ks.Nodup)(eW:∀x∈ks,On bd.length W x):ks.length<=bd.length*W:=by
 rw[<-b0 bd.length W];exact de hn λx hx=>aJ.mpr (eW x hx)
theorem Ed{bd:List Str}{W w:Nat}(hg:Brd bd W)(hw:Ways w){a b:Cell}(ha:On bd.length W a)(hb:On bd.length W b):dI [brd bd,iW w,cD a,cD b]=ae .non:=
 qw (ρ:=[fz (brd bd),fz (iW w),fz (cD a),fz (cD b)]) (ao (br ((aj (ds:=[brd bd]) rfl rfl).trans hg.nb)) (ao (br ((aj (ds:=[iW w]) rfl rfl).trans hw.nw)) (ao (br ((aj (ds:=[brd bd,cD a]) rfl rfl).trans (hg.nc ha))) (br ((aj (ds:=[brd bd,cD b]) rfl rfl).trans (hg.nc hb))))))
def Rc(w:Nat):List Cell->Bool
 |a::b::r=>lT w a b&&Rc w (b::r)
 |_=>true
abbrev wr(bd w a b k t:D):aX:=[fz bd,fz w,fz a,fz b,fz k,fz t]
theorem lF{α:Type}{f:D->M (Option D)}(enc:α->D)(g:α->D):∀(xs:List α),(∀x∈xs,f (enc x)=ae (some (g x)))->d9 f (xs.map enc)=ae (xs.map g)
 |[],_=>rfl
 |x::xs,h=>by
  rw[XN,gu,h x (XA ..),ax,lF enc g xs λy hy=>h y (Xz _ hy)];rfl
theorem Ey{α:Type}{δi:DA}{δe:DE}{ρ:aX}{enc:α->D}{xs:List α}{g:α->Bool}(h:δi ρ=ae (xs.map enc))(h2:∀x∈xs,δe (fz (enc x)::ρ)=ae (.bl (g x)))(h3:xs.length<=4096):dA allM (aC (bA 0 δi dB δe) aN) ρ=ae (.bl (xs.all g)):=by
 have cm:bA 0 δi dB δe ρ=ae (.lst ((xs.map g).map D.bl)):=by
  refine bJ h ?_ (by rw[XB,XB,cM];exact h3);rw[Yv];exact lF enc _ xs λx hx=>by rw[qT,h2 x hx];rfl
 rw[eD (aZ cm rfl),all_map,aaJ];rfl
theorem Us{ρ:aX}{i:Nat}{ds:List D}(h:ρ[i]? =some (fz (.lst ds))):cR (dV i) ρ=ae ds:=by
 unfold cR;rw[jD h];rfl
def bz(ks:List Cell)(c:Cell):List Cell:=if c∈ks then ks else ks++[c]
def bS(l:List Cell):List Cell:=l.foldl bz []
def trues(ks:List Cell):List D:=ks.map λ_=> .bl true
theorem da{ks:List Cell}{c x:Cell}:x∈bz ks c↔x∈ks\/x=c:=by
 unfold bz;split
 ·rename_i h;exact⟨.inl,λq=>q.elim id λe=>by rw[e];exact h⟩
 ·simp
theorem jd:∀(l ks:List Cell),(ks.Nodup->(l.foldl bz ks).Nodup)/\(∀x,x∈l.foldl bz ks↔x∈ks\/x∈l)/\(l.foldl bz ks).length<=ks.length+l.length
 |[],ks=>⟨id,λx=>by simp,by simp⟩
 |c::l,ks=>by
  obtain⟨h1,h2,h3⟩:=jd l (bz ks c);refine⟨λhn=>h1 ?_,λx=>?_,?_⟩
  ·unfold bz;split
   ·exact hn
   ·rename_i hc;refine YI.mpr ⟨hn,by simp,λy hy z hz e=>?_⟩;have hz:z=c:=by simpa using hz
    rw[e,hz] at hy;exact hc hy
  ·rw[ZL,h2 x,da];simp[or_assoc]
  ·rw[ZL,XH];have:(bz ks c).length<=ks.length+1:=by unfold bz;split<;>simp
   omega
theorem kH{l:List Cell}{x:Cell}:x∈bS l↔x∈l:=by
 unfold bS;rw[(jd l []).2.1 x];simp
theorem Gb(l:List Cell):(bS l).Nodup:=(jd l []).1 ZG
theorem Dt(l:List Cell):(bS l).length<=l.length:=by have:=(jd l []).2.2;simpa[bS] using this
theorem u_{k:List Key}:∀{ks:List (List Key)}{l:List Cell},ks.length=l.length->oE ks (trues l) k (.bl true)=trues l
 |[],[],_=>rfl
 |k'::ks,c::l,h=>by
  show (if k'=k then D.bl true else D.bl true)::oE ks (trues l) k (.bl true)=_;rw[u_ (by simpa using h)];split<;>rfl
 |[],_::_,h=>by simp at h
 |_::_,[],h=>by simp at h
theorem G7{ks:List Cell}{c:Cell}(hl:ks.length<lim):jm (.dct (ks.map keyOf) (trues ks)) (cD c) (.bl true)=some (.dct ((bz ks c).map keyOf) (trues (bz ks c))):=by
 have hlen:(trues ks).length=ks.length:=by simp[trues]
 unfold bz;by_cases h:c∈ks
 ·rw[aeg h];show (match kY (cD c) with | some kk=>if (trues ks).length<lim then some (C.dct (dw (ks.map keyOf) (trues ks) kk) (cz (ks.map keyOf) (trues ks) kk (.bl true))) else none | none=>none)=_;rw[iX];show (if (trues ks).length<lim then some (C.dct (dw (ks.map keyOf) (trues ks) (keyOf c)) (cz (ks.map keyOf) (trues ks) (keyOf c) (.bl true))) else none)=_;rw[aeg (by rw[hlen];exact hl)];obtain⟨d,e,_⟩:=oN (ds:=trues ks) hlen.symm h;unfold dw cz;rw[e];show some (C.dct (ks.map keyOf) (oE (ks.map keyOf) (trues ks) (keyOf c) (.bl true)))=_;rw[u_ (by simp)]
 ·rw[aeh h,sI h (by rw[hlen];exact hl)];simp[trues]
abbrev jJ(l:List Cell):D:= .dct ((bS l).map keyOf) (trues (bS l))
theorem uR{l:List Cell}(hl:l.length<4000):kB [cL l]=ae (jJ l):=by
 have e:∀(xs ks:List Cell),ks.length+xs.length<4000->forL (putN 2) (ck [2] (fT 1 (dV 2) (dC (.bl true)))) (xs.map cD) [fz (cL l),some (.ow (.dct (ks.map keyOf) (trues ks))),none]=ae (.nx [fz (cL l),some (.ow (.dct ((xs.foldl bz ks).map keyOf) (trues (xs.foldl bz ks)))),none]):=by
  intro xs;induction xs with
  |nil=>intro ks _;rfl
  |cons x xs ih=>
   intro ks hk;rw[XH] at hk;have hle:(bz ks x).length<=ks.length+1:=by unfold bz;split<;>simp
   refine(bZ (ρ1:=[fz (cL l),some (.ow (.dct (ks.map keyOf) (trues ks))),fz (cD x)]) (ρ2:=[fz (cL l),some (.ow (.dct ((bz ks x).map keyOf) (trues (bz ks x)))),none]) rfl ?_).trans (ih (bz ks x) (by omega));refine(a8 (ρ':=[fz (cL l),some (.ow (.dct ((bz ks x).map keyOf) (trues (bz ks x)))),fz (cD x)]) ?_).trans rfl;show (match jm (.dct (ks.map keyOf) (trues ks)) (cD x) (.bl true) with | some c'=>ae (Out.nx [fz (cL l),some (.ow c'),fz (cD x)]) | none=>ag)=_;rw[G7 (by rw[cM];omega)]
 refine ba (ao (ρ':=[fz (cL l),some (.ow (.dct [] [])),none]) rfl (ao (ρ':=[fz (cL l),some (.ow (.dct ((bS l).map keyOf) (trues (bS l)))),none]) (cV (dY (ds:=l.map cD) rfl (e l [] (by simpa using hl)))) rfl))
theorem Lq{a b:List Cell}(h:a.length+b.length<=4096):jF (cL a) (cL b)=ae (cL (a++b)):=by
 show (if (a.map cD).length+(b.map cD).length<=lim then ae (D.lst (a.map cD++b.map cD)) else ag)=_;rw[aeg (by rw[XB,XB,cM];exact h),<-Yl]
theorem KQ(a b:Nat):ib (.int (a:Int)) (.int (b:Int))=ae (.bl (!(a==b))):=by
 rw[ne_int,lh]
def z4(ks:List Cell)(f:Cell->D):C:= .dct (ks.map keyOf) (ks.map f)
def kT(ks:List Cell)(f:Cell->D):D:= .dct (ks.map keyOf) (ks.map f)
def fN(f:Cell->D)(x:Cell)(d:D):Cell->D:=λy=>if y=x then d else f y
theorem nk{f:Cell->D}{x:Cell}:∀{ks:List Cell},x∈ks->dR (ks.map keyOf) (ks.map f) (keyOf x)=some (f x)
 |y::ks,h=>by
  show (if keyOf y=keyOf x then some (f y) else dR (ks.map keyOf) (ks.map f) (keyOf x))=_;by_cases e:y=x
  ·subst e;rw[aeg rfl]
  ·rw[aeh (λz=>e (iy z))];rcases XF.mp h with q | q
   ·exact aej q.symm e
   ·exact nk q
theorem nT{ks:List Cell}{f:Cell->D}{x:Cell}(h:x∈ks):eI (kT ks f) (cD x)=ae (f x):=by
 show (match ((kY (cD x)).map λk=>dR (ks.map keyOf) (ks.map f) k) with | some (some v)=>ae v | _=>ag)=_;rw[iX];show (match some (dR (ks.map keyOf) (ks.map f) (keyOf x)) with | some (some v)=>ae v | _=>ag)=_;rw[nk h]
theorem BL{ks:List Cell}{f:Cell->D}{x:Cell}{v:D}(h:x∈ks):getM (kT ks f) (cD x) v=ae (f x):=by
 show (match ((kY (cD x)).map λk=>dR (ks.map keyOf) (ks.map f) k) with | some (some x)=>ae x | some none=>ae v | none=>ag)=_;rw[iX];show (match some (dR (ks.map keyOf) (ks.map f) (keyOf x)) with | some (some x)=>ae x | some none=>ae v | none=>ag)=_;rw[nk h]
theorem rl{ks:List Cell}{f:Cell->D}{x:Cell}{v:D}(h:x∉ks):getM (kT ks f) (cD x) v=ae v:=by
 show (match ((kY (cD x)).map λk=>dR (ks.map keyOf) (ks.map f) k) with | some (some x)=>ae x | some none=>ae v | none=>ag)=_;rw[iX];show (match some (dR (ks.map keyOf) (ks.map f) (keyOf x)) with | some (some x)=>ae x | some none=>ae v | none=>ag)=_;rw[gm h]
theorem wX{f:Cell->D}{x:Cell}{d:D}:∀{ks:List Cell},oE (ks.map keyOf) (ks.map f) (keyOf x) d=ks.map (fN f x d)
 |[]=>rfl
 |y::ks=>by
  show (if keyOf y=keyOf x then d else f y)::oE (ks.map keyOf) (ks.map f) (keyOf x) d=_;rw[wX,XN];congr 1;unfold fN;by_cases e:y=x
  ·subst e;rw[aeg rfl,aeg rfl]
  ·rw[aeh (λz=>e (iy z)),aeh e]
theorem JP{ks:List Cell}{f:Cell->D}{x:Cell}{d:D}(hl:ks.length<lim):jm (z4 ks f) (cD x) d=some (z4 (bz ks x) (fN f x d)):=by
 show (match kY (cD x) with | some kk=>if (ks.map f).length<lim then some (C.dct (dw (ks.map keyOf) (ks.map f) kk) (cz (ks.map keyOf) (ks.map f) kk d)) else none | none=>none)=_;rw[iX];show (if (ks.map f).length<lim then some (C.dct (dw (ks.map keyOf) (ks.map f) (keyOf x)) (cz (ks.map keyOf) (ks.map f) (keyOf x) d)) else none)=_;rw[aeg (by rw[XB];exact hl)];unfold z4 bz dw cz;by_cases h:x∈ks
 ·rw[nk h,aeg h];show some (C.dct (ks.map keyOf) (oE (ks.map keyOf) (ks.map f) (keyOf x) d))=_;rw[wX]
 ·rw[gm h,aeh h];show some (C.dct (ks.map keyOf++[keyOf x]) (ks.map f++[d]))=_;have e1:ks.map f=ks.map (fN f x d):=Zt λy hy=>by
   unfold fN;rw[aeh (λz:y=x=>h (z▸hy))]
  have e2:(ks++[x]).map (fN f x d)=ks.map (fN f x d)++[d]:=by
   rw[Yl];congr 1;show [fN f x d x]=[d]
   unfold fN;rw[aeg rfl]
  rw[Yl,e1,e2];rfl
theorem qu{i:Nat}{δk δv:DE}{ρ:aX}{ks:List Cell}{f:Cell->D}{x:Cell}{d:D}(h0:ρ[i]? =some (some (.ow (z4 ks f))))(hv:δv ρ=ae d)(hk:δk ρ=ae (cD x))(hl:ks.length<lim):
 fT i δk δv ρ=ae (.nx (ρ.set i (some (.ow (z4 (bz ks x) (fN f x d)))))):=by
 unfold fT ud;rw[h0];show (δv ρ>>=λv=>δk ρ>>=λk=>match jm (z4 ks f) k v with | some c'=>ae (Out.nx (ρ.set i (some (.ow c')))) | none=>ag)=_;rw[hv,ax,hk,ax,JP hl]
theorem yw{bd:List Str}{W:Nat}(hg:Wd bd W):el [brd bd]=ae (cL (aU bd.length W)):=by
 have h8:=hg.r8;have w8:=hg.w8;have hm:bd.length*W<=64:=aaH h8 w8;have HU:(Yg bd.length).flatMap (λr=>(dg W r).map cD)=(aU bd.length W).map cD:=by
  unfold aU;rw[abo]
 have e:=gD (put:=putN 2) (body:=ck [2] (bu 1 (d2 jF (dV 1) (bA 0 (λρ=>(aC (dA bF (aC (d2 bb (dV 0) (dC (.int 0))) aN)) aN) ρ>>=g8) dB (dA aO (aC (dV 3) (aC (dV 0) aN))))))) (λ(k:Nat)=>D.int (k:Int)) (λv4=>[fz (brd bd),fz (.lst v4),none]) (λr=>(dg W r).map cD) (B:=64) (Yg bd.length) []
  (by rw[Yq,HU,XB,b0];exact hm) λr hr v4 hB=>by
   refine⟨[fz (brd bd),fz (.lst v4),fz (.int (r:Int))],rfl,?_⟩;refine(a8 (ρ':=[fz (brd bd),fz (.lst (v4++(dg W r).map cD)),fz (.int (r:Int))]) ?_).trans rfl;have hc:bA 0 (λρ=>(aC (dA bF (aC (d2 bb (dV 0) (dC (.int 0))) aN)) aN) ρ>>=g8) dB (dA aO (aC (dV 3) (aC (dV 0) aN))) [fz (brd bd),fz (.lst v4),fz (.int (r:Int))]=ae (.lst ((dg W r).map cD)):=by
    refine bJ (He (n:=W) (hg.len0 rfl) (by omega)) ?_ (by simp[dg,cM];omega);rw[show (dg W r).map cD=(Yg W).map (λk=>cD (r,k)) by simp[dg,Yv]];exact lF (λ(k:Nat)=>D.int (k:Int)) (λk=>cD (r,k)) _ λk _=>rfl
   refine(aM (d:= .lst (v4++(dg W r).map cD)) ((aL (x:= .lst v4) (y:= .lst ((dg W r).map cD)) rfl hc).trans ?_)).trans rfl;show (if v4.length+((dg W r).map cD).length<=lim then ae (D.lst (v4++(dg W r).map cD)) else ag)=_;rw[aeg (by rw[XR] at hB;rw[cM];omega)]
 rw[Yq,HU] at e;refine ba (ao (ρ':=[fz (brd bd),fz (.lst []),none]) rfl (ao (ρ':=[fz (brd bd),fz (.lst ((aU bd.length W).map cD)),none]) (cV (dY (He (n:=bd.length) (Dp rfl) (by omega)) e)) ?_));rfl
theorem tT{bd:List Str}{W:Nat}(hg:Brd bd W):el [brd bd]=ae (cL (aU bd.length W)):=yw hg.wd
def xT(R W w:Nat)(c:Cell)(d e:Int):Bool:=((decide (0<=(c.1:Int)+d)&&decide ((c.1:Int)+d<(R:Int)))&&(decide (0<=(c.2:Int)+e)&&decide ((c.2:Int)+e<(W:Int))))&&((!(d==0&&e==0))&&((w==8)||(d*e==0)))
def lA(R W w:Nat)(c:Cell)(d e:Int):List Cell:=if xT R W w c d e then [(((c.1:Int)+d).toNat,((c.2:Int)+e).toNat)] else []
def kS(R W w:Nat)(c:Cell):List Cell:=[-1,0,1].flatMap λd=>[-1,0,1].flatMap λe=>lA R W w c d e
theorem EC(R W w:Nat)(c:Cell)(d e:Int):(lA R W w c d e).length<=1:=by unfold lA;split<;>simp
theorem qJ(R W w:Nat)(c:Cell):(kS R W w c).length<=9:=by
 have h:=EC R W w c;simp only[kS,ZM,List.flatMap_nil,XR,YF];have:=h (-1) (-1);have:=h (-1) 0;have:=h (-1) 1;have:=h 0 (-1);have:=h 0 0;have:=h 0 1;have:=h 1 (-1);have:=h 1 0;have:=h 1 1;omega
theorem Bf{d:Int}(h:d.natAbs<=1):d∈[(-1:Int),0,1]:=by
 have:d= -1\/d=0\/d=1:=by omega
 rcases this with rfl | rfl | rfl<;>decide
theorem Bn:∀d∈[(-1:Int),0,1],∀e∈[(-1:Int),0,1],∀w∈[4,8],((!(d==0&&e==0))&&((w==8)||(d*e==0)))=if w=4 then decide (d.natAbs+e.natAbs=1) else decide (max d.natAbs e.natAbs=1):=by decide
theorem Bx{a x:Nat}{d:Int}(h:(x:Int)=a+d):bO a x=d.natAbs:=by
 unfold bO;omega
theorem B5{w:Nat}{a1 a2 x1 x2:Nat}{d e:Int}(h1:(x1:Int)=a1+d)(h2:(x2:Int)=a2+e):lT w (a1,a2) (x1,x2)=if w=4 then decide (d.natAbs+e.natAbs=1) else decide (max d.natAbs e.natAbs=1):=by
 show (if w=4 then decide (bO a1 x1+bO a2 x2=1) else decide (max (bO a1 x1) (bO a2 x2)=1))=_;rw[Bx h1,Bx h2]
theorem iz{R W w:Nat}(hw:Ways w){c x:Cell}(hc:On R W c):x∈kS R W w c↔On R W x/\lT w c x=true:=by
 obtain⟨c1,c2⟩:=c;obtain⟨x1,x2⟩:=x;have TR:c1<R:=hc.1;have Kx:c2<W:=hc.2;have key:(x1,x2)∈kS R W w (c1,c2)↔∃d∈[(-1:Int),0,1],∃e∈[(-1:Int),0,1],xT R W w (c1,c2) d e=true/\(x1:Int)=c1+d/\(x2:Int)=c2+e:=by
  unfold kS lA;simp only[aaL];constructor
  ·rintro⟨d,hd,e,he,h⟩;by_cases hb:xT R W w (c1,c2) d e=true
   ·rw[aeg hb] at h;have Af:=hb;unfold xT at Af;simp only[X5,ael] at Af;have h:=X0.mp h;rw[aan] at h;exact⟨d,hd,e,he,hb,by omega,by omega⟩
   ·rw[aeh hb] at h;cases h
  ·rintro⟨d,hd,e,he,hb,h1,h2⟩;refine⟨d,hd,e,he,?_⟩;rw[aeg hb];exact X0.mpr (by rw[aan];exact⟨by omega,by omega⟩)
 rw[key];constructor
 ·rintro⟨d,hd,e,he,hb,h1,h2⟩;unfold xT at hb;rw[X5] at hb;have h3:=hb.1;simp only[X5,ael] at h3;refine⟨⟨show x1<R by omega,show x2<W by omega⟩,?_⟩;rw[B5 h1 h2,<-Bn d hd e he w (by rcases hw with rfl | rfl<;>decide)];exact hb.2
 ·rintro⟨⟨h1,h2⟩,h3⟩;have e1:(x1:Int)=c1+((x1:Int) - c1):=by omega
  have e2:(x2:Int)=c2+((x2:Int) - c2):=by omega
  rw[B5 e1 e2] at h3;have hn:((x1:Int) - c1).natAbs<=1/\((x2:Int) - c2).natAbs<=1:=by
   rcases hw with rfl | rfl
   ·have:=aek h3;omega
   ·have:=aek h3;omega
  have m1:=Bf hn.1;have m2:=Bf hn.2;rw[<-Bn _ m1 _ m2 w (by rcases hw with rfl | rfl<;>decide)] at h3;refine⟨_,m1,_,m2,?_,e1,e2⟩;unfold xT;rw[X5];refine⟨?_,h3⟩;have h1:x1<R:=h1;have h2:x2<W:=h2;rw[<-e1,<-e2];simp only[X5,ael];omega
section
variable{α:Type}[DecidableEq α]
theorem nq{β:Type}[DecidableEq β]{g:α->β}(hg:∀a b,g a=g b->a=b){x:α}:∀{ks:List α}{ds:List D},dR (ks.map g) ds (g x)=dR ks ds x
 |[],ds=>by cases ds<;>rfl
 |k::ks,[]=>rfl
 |k::ks,d::ds=>by
  show (if g k=g x then some d else dR (ks.map g) ds (g x))=if k=x then some d else dR ks ds x
  by_cases e:k=x
  ·rw[aeg (by rw[e]),aeg e]
  ·rw[aeh (λz=>e (hg _ _ z)),aeh e,nq hg]
theorem qx{x:α}:∀{ks:List α}{ds:List D},x∉ks->dR ks ds x=none
 |[],ds,_=>by cases ds<;>rfl
 |k::ks,[],_=>rfl
 |k::ks,d::ds,h=>by
  show (if k=x then some d else dR ks ds x)=none;rw[aeh (λz:k=x=>h (z▸XA)),qx λz=>h (Xz _ z)]
theorem nu{x:α}:∀{ks:List α}{ds:List D},ks.length=ds.length->x∈ks->∃d,dR ks ds x=some d/\(x,d)∈ks.zip ds
 |k::ks,d::ds,hl,h=>by
  by_cases e:k=x
  ·exact⟨d,by show (if k=x then some d else _)=_;rw[aeg e],by rw[e];exact XA⟩
  ·obtain⟨d',h1,h2⟩:=nu (ks:=ks) (ds:=ds) (by simpa using hl) ((XF.mp h).resolve_left λz=>e z.symm);exact⟨d',by show (if k=x then some d else _)=_;rw[aeh e,h1],Xz _ h2⟩
 |k::ks,[],hl,h=>by simp at hl
structure KOk (enc:α->D) (mk:List α->List D->C):Prop where
 at':∀ks ds x,CH (mk ks ds).d (enc x)=some (dR ks ds x)
 put:∀ks ds x d,x∉ks->ds.length<lim->jm (mk ks ds) (enc x) d=some (mk (ks++[x]) (ds++[d]))
 ini:∀x,orM (k7 (enc x) (.int 0)) (oU (enc x) (.int 0))=ae (mk [x] [.int 0])
theorem DW{ks:List Cell}{ds:List D}{x:Cell}{d:D}(h:x∉ks)(hl:ds.length<lim):jm (.dct (ks.map keyOf) ds) (cD x) d=some (.dct ((ks++[x]).map keyOf) (ds++[d])):=sI h hl
theorem KL:KOk cD (λks ds=> .dct (ks.map keyOf) ds):=
 ⟨λks ds x=>aeo some (nq (λ_ _=>iy)),λks ds x d h hl=>DW h hl,λx=>rfl⟩
def kN(n:Nat):Key:= .inl (n:Int)
theorem vW(a b:Nat)(h:kN a=kN b):a=b:=aaY (Sum.inl.inj h)
def nI(n:Nat):D:= .int (n:Int)
abbrev Uv(ks:List Nat)(ds:List D):C:= .dci (ks.map kN) ds
theorem Mx:KOk nI Uv:=
 ⟨λks ds x=>aeo some (nq vW),λks ds x d h hl=>by
  show (if ds.length<lim then some (C.dci (dw (ks.map kN) ds (kN x)) (cz (ks.map kN) ds (kN x) d)) else none)=_;rw[aeg hl];unfold dw cz;rw[nq vW,qx h];show some (C.dci (ks.map kN++[kN x]) (ds++[d]))=some (C.dci ((ks++[x]).map kN) (ds++[d]));rw[Yl];rfl,λx=>rfl⟩
variable{enc:α->D}{mk:List α->List D->C}
theorem KOk.inn(k:KOk enc mk){ks:List α}{ds:List D}{x:α}(hl:ks.length=ds.length){neg:Bool}:fW neg (enc x) (mk ks ds).d=ae (.bl (if neg then !decide (x∈ks) else decide (x∈ks))):=by
 unfold fW;rw[k.at'];by_cases h:x∈ks
 ·obtain⟨d,e,_⟩:=nu hl h;rw[e,aei h];rfl
 ·rw[qx h,aem h];rfl
theorem KOk.ix(k:KOk enc mk){ks:List α}{ds:List D}{x:α}(hl:ks.length=ds.length)(h:x∈ks):∃d,(x,d)∈ks.zip ds/\eI (mk ks ds).d (enc x)=ae d:=by
 obtain⟨d,e,h2⟩:=nu hl h;refine⟨d,h2,?_⟩;unfold eI;rw[k.at',e]
theorem KOk.get(k:KOk enc mk){ks:List α}{ds:List D}{x:α}{v:D}(hl:ks.length=ds.length):(x∈ks->∃d,(x,d)∈ks.zip ds/\getM (mk ks ds).d (enc x) v=ae d)/\(x∉ks->getM (mk ks ds).d (enc x) v=ae v):=by
 unfold getM;rw[k.at'];constructor
 ·intro h;obtain⟨d,e,h2⟩:=nu hl h;exact⟨d,h2,by rw[e]⟩
 ·intro h;rw[qx h]
def Ds(nb:α->List α)(a x:α)(n:Nat):Prop:=Rb nb a n x/\∀j,Rb nb a j x->n<=j
theorem JQ{i:Nat}{δk δv:DE}{ρ:aX}{c c':C}{k d:D}(h0:ρ[i]? =some (some (.ow c)))(hv:δv ρ=ae d)(hk:δk ρ=ae k)(hp:jm c k d=some c'):fT i δk δv ρ=ae (.nx (ρ.set i (some (.ow c')))):=by
 unfold fT ud;rw[h0];show (δv ρ>>=λv=>δk ρ>>=λk=>match jm c k v with | some c'=>ae (Out.nx (ρ.set i (some (.ow c')))) | none=>ag)=_;rw[hv,ax,hk,ax,hp]
theorem xy{β:Type}{x:β}{d:D}:∀{ks:List β}{vs:List Nat},(x,d)∈ks.zip (vs.map nI)->∃n,d=nI n/\(x,n)∈ks.zip vs
 |k::ks,v::vs,h=>by
  rw[XN,Y6] at h;rcases XF.mp h with e | h
  ·cases e;exact⟨v,rfl,XA⟩
  ·obtain⟨n,h1,h2⟩:=xy h;exact⟨n,h1,Xz _ h2⟩
 |[],_,h=>by simp at h
 |_::_,[],h=>by simp at h
def nz(enc:α->D)(S:List α)(nb:α->List α)(nr:D):Prop:=∀c∈S,∃d,eI nr (enc c)=ae d/\orM (lstM d) (jf d)=ae ((nb c).map enc)
theorem rb{β σ:Type}{put:D->aX->Option aX}{body:DS}(enc:β->D)(I:σ->aX->Prop)(step:σ->β->σ):∀(xs:List β) (s:σ) (ρ:aX),I s ρ->(∀s ρ,I s ρ->∀x∈xs,∃ρ1 ρ2,put (enc x) ρ=some ρ1/\body ρ1=ae (.nx ρ2)/\I (step s x) ρ2)->
 ∃ρ',forL put body (xs.map enc) ρ=ae (.nx ρ')/\I (xs.foldl step s) ρ'
 |[],s,ρ,h,_=>⟨ρ,rfl,h⟩
 |x::xs,s,ρ,h,st=>by
  obtain⟨ρ1,ρ2,e1,e2,h2⟩:=st s ρ h x (XA ..);obtain⟨ρ',e3,h3⟩:=rb enc I step xs (step s x) ρ2 h2 λs ρ h y hy=>st s ρ h y (Xz _ hy);exact⟨ρ',by rw[XN,bZ e1 e2,e3],h3⟩
end
theorem Ji(a b c d:Int):ib (.tup [.int a, .int b]) (.tup [.int c, .int d])=ae (.bl (!(a==c&&b==d))):=by
 show (match kz 6 (.tup [.int a, .int b]) (.tup [.int c, .int d]) with | some b=>ae (D.bl (!b)) | none=>ag)=_;have:kz 6 (.tup [.int a, .int b]) (.tup [.int c, .int d])=some (a==c&&b==d):=by
  rw[show (6:Nat)=5+1 from rfl,IA];unfold tI;rw[lZ];cases h:(a==c)
  ·rfl
  ·unfold tI;rw[lZ];cases h2:(b==d)
   ·rfl
   ·rfl
 rw[this]
theorem Ie{bd:List Str}{W w:Nat}(hg:Wd bd W){c:Cell}{d e:Int}(hd:d∈[(-1:Int),0,1])(he:e∈[(-1:Int),0,1]){v4:List D}(hl:(v4++(lA bd.length W w c d e).map cD).length<=64):
 EG [fz (brd bd),fz (cD c),fz (iW w),some (.ow (.lst v4)),fz (.int d),fz (.int e),none,none,none]=ae (.nx [fz (brd bd),fz (cD c),fz (iW w),some (.ow (.lst (v4++(lA bd.length W w c d e).map cD))),fz (.int d),none,none,none,none]):=by
 have jG:eE (vC (λi j=>decide (i<=j)) (λi j=>decide (i<j)) (dC (.int 0)) (dV 6) (dA bF (aC (dV 0) aN))) (vC (λi j=>decide (i<=j)) (λi j=>decide (i<j)) (dC (.int 0)) (dV 7) (dA bF (aC (d2 bb (dV 0) (dC (.int 0))) aN))) [fz (brd bd),fz (cD c),fz (iW w),some (.ow (.lst v4)),fz (.int d),fz (.int e),fz (.int ((c.1:Int)+d)),fz (.int ((c.2:Int)+e)),none]=
  ae (.bl ((decide (0<=(c.1:Int)+d)&&decide ((c.1:Int)+d<(bd.length:Int)))&&(decide (0<=(c.2:Int)+e)&&decide ((c.2:Int)+e<(W:Int))))):=Il (Ik rfl (Dp rfl)) (Ik rfl (hg.len0 rfl))
 have VW: -(2:Int) ^ 64<d/\d<2 ^ 64:=by
  simp only[XF,Yt,or_false] at hd;rcases hd with rfl | rfl | rfl<;>decide
 have ht:∀{b8:Bool},vE (bT (dV 8)) (vE (cf (d2 ib (dA aO (aC (dV 4) (aC (dV 5) aN))) (dA aO (aC (dC (.int 0)) (aC (dC (.int 0)) aN))))) (lS (cf (d2 ny (dV 2) (dC (.int 8)))) (cf (d2 ny (d2 gS (dV 4) (dV 5)) (dC (.int 0)))))) [fz (brd bd),fz (cD c),fz (iW w),some (.ow (.lst v4)),fz (.int d),fz (.int e),fz (.int ((c.1:Int)+d)),fz (.int ((c.2:Int)+e)),fz (.bl b8)]=
  ae (b8&&((!(d==0&&e==0))&&((w==8)||(d*e==0)))):=λ{b8}=>
  EW (jC rfl) (EW (gi ((aL (x:= .tup [.int d, .int e]) (y:= .tup [.int 0, .int 0]) rfl rfl).trans (Ji ..))) (Kl (gi ((aL (x:=iW w) (y:= .int 8) rfl rfl).trans ((eq_int _ _).trans (by rw[show ((w:Int)==8)=(w==8) from lh w 8])))) (gi ((aL (x:= .int (d*e)) (y:= .int 0) ((aL (x:= .int d) (y:= .int e) rfl rfl).trans (fH (.inl VW))) rfl).trans (eq_int _ _)))))
 have pre:∀{ρ':aX},fP (vE (bT (dV 8)) (vE (cf (d2 ib (dA aO (aC (dV 4) (aC (dV 5) aN))) (dA aO (aC (dC (.int 0)) (aC (dC (.int 0)) aN))))) (lS (cf (d2 ny (dV 2) (dC (.int 8)))) (cf (d2 ny (d2 gS (dV 4) (dV 5)) (dC (.int 0))))))) (sP 3 (dA aO (aC (dV 6) (aC (dV 7) aN)))) b9 [fz (brd bd),fz (cD c),fz (iW w),some (.ow (.lst v4)),fz (.int d),fz (.int e),fz (.int ((c.1:Int)+d)),fz (.int ((c.2:Int)+e)),fz (.bl ((decide (0<=(c.1:Int)+d)&&decide ((c.1:Int)+d<(bd.length:Int)))&&(decide (0<=(c.2:Int)+e)&&decide ((c.2:Int)+e<(W:Int)))))]=ae (.nx ρ')->
  EG [fz (brd bd),fz (cD c),fz (iW w),some (.ow (.lst v4)),fz (.int d),fz (.int e),none,none,none]=ae (.nx (fgt [5,6,7,8] ρ')):=λ{ρ'} h=>
  a8 (ao (ρ':=[fz (brd bd),fz (cD c),fz (iW w),some (.ow (.lst v4)),fz (.int d),fz (.int e),fz (.int ((c.1:Int)+d)),none,none]) rfl
   (ao (ρ':=[fz (brd bd),fz (cD c),fz (iW w),some (.ow (.lst v4)),fz (.int d),fz (.int e),fz (.int ((c.1:Int)+d)),fz (.int ((c.2:Int)+e)),none]) rfl (ao ((aM jG).trans rfl) h)))
 have HS:xT bd.length W w c d e=(((decide (0<=(c.1:Int)+d)&&decide ((c.1:Int)+d<(bd.length:Int)))&&(decide (0<=(c.2:Int)+e)&&decide ((c.2:Int)+e<(W:Int))))&&((!(d==0&&e==0))&&((w==8)||(d*e==0)))):=rfl;have ht:=ht (b8:=(decide (0<=(c.1:Int)+d)&&decide ((c.1:Int)+d<(bd.length:Int)))&&(decide (0<=(c.2:Int)+e)&&decide ((c.2:Int)+e<(W:Int))));rw[<-HS] at ht;by_cases hb:xT bd.length W w c d e=true
 ·have Af:=hb;rw[HS] at Af;simp only[X5,ael] at Af;have eg:(lA bd.length W w c d e).map cD=[.tup [.int ((c.1:Int)+d), .int ((c.2:Int)+e)]]:=by
   unfold lA;rw[aeg hb];show [D.tup [.int ((((c.1:Int)+d).toNat:Nat):Int), .int ((((c.2:Int)+e).toNat:Nat):Int)]]=_;rw[abV (by omega),abV (by omega)]
  rw[eg] at hl⊢;rw[hb] at ht;refine(pre (ρ':=[fz (brd bd),fz (cD c),fz (iW w),some (.ow (.lst (v4++[.tup [.int ((c.1:Int)+d), .int ((c.2:Int)+e)]]))),fz (.int d),fz (.int e),fz (.int ((c.1:Int)+d)),fz (.int ((c.2:Int)+e)),fz (.bl ((decide (0<=(c.1:Int)+d)&&decide ((c.1:Int)+d<(bd.length:Int)))&&(decide (0<=(c.2:Int)+e)&&decide ((c.2:Int)+e<(W:Int)))))]) (eA ht ?_)).trans rfl;show (if v4.length<lim then ae (Out.nx [fz (brd bd),fz (cD c),fz (iW w),some (.ow (.lst (v4++[.tup [.int ((c.1:Int)+d), .int ((c.2:Int)+e)]]))),fz (.int d),fz (.int e),fz (.int ((c.1:Int)+d)),fz (.int ((c.2:Int)+e)),_]) else ag)=_;rw[aeg (by rw[XR] at hl;rw[cM];simp at hl;omega)]
 ·have eg:(lA bd.length W w c d e).map cD=[]:=by
   unfold lA;rw[aeh hb];rfl
  rw[eg,YF];rw[aef.mpr hb] at ht;exact(pre (fL ht rfl)).trans rfl
theorem vX{bd:List Str}{W w:Nat}(hg:Wd bd W){c:Cell}:cS [brd bd,cD c,iW w]=ae (cL (kS bd.length W w c)):=by
 have jG:∀d∈[(-1:Int),0,1],∀v4:List D,(v4++([(-1:Int),0,1].flatMap λe=>(lA bd.length W w c d e).map cD)).length<=64->
  forL (putN 5) EG ([(-1:Int),0,1].map D.int) [fz (brd bd),fz (cD c),fz (iW w),some (.ow (.lst v4)),fz (.int d),none,none,none,none]=
   ae (.nx [fz (brd bd),fz (cD c),fz (iW w),some (.ow (.lst (v4++([(-1:Int),0,1].flatMap λe=>(lA bd.length W w c d e).map cD)))),fz (.int d),none,none,none,none]):=λd hd v4 hl=>
  gD (B:=64) D.int (λv4=>[fz (brd bd),fz (cD c),fz (iW w),some (.ow (.lst v4)),fz (.int d),none,none,none,none]) (λe=>(lA bd.length W w c d e).map cD) [(-1:Int),0,1] v4 hl λe he UR Ag=>⟨_,rfl,Ie hg hd he Ag⟩
 have HU:([(-1:Int),0,1].flatMap λd=>[(-1:Int),0,1].flatMap λe=>(lA bd.length W w c d e).map cD)=(kS bd.length W w c).map cD:=by
  unfold kS;simp only[abo]
 have O6:=gD (put:=putN 4) (body:=ck [4,5,6,7,8] (cY (putN 5) (lG (dA aO (aC (d1 Gf (dC (.int 1))) (aC (dC (.int 0)) (aC (dC (.int 1)) aN))))) EG)) (B:=64) D.int (λv4=>[fz (brd bd),fz (cD c),fz (iW w),some (.ow (.lst v4)),none,none,none,none,none]) (λd=>[(-1:Int),0,1].flatMap λe=>(lA bd.length W w c d e).map cD) [(-1:Int),0,1] []
  (by rw[Yq,HU,XB];have:=qJ bd.length W w c;omega) λd hd v4 hl=>⟨_,rfl,(a8 (dY (ds:=[(-1:Int),0,1].map D.int) rfl (jG d hd v4 hl))).trans rfl⟩
 rw[Yq,HU] at O6;refine ba (ao (ρ':=[fz (brd bd),fz (cD c),fz (iW w),some (.ow (.lst [])),none,none,none,none,none]) rfl (ao (cV (dY (ds:=[(-1:Int),0,1].map D.int) rfl O6)) ?_));rfl
theorem jK{bd:List Str}{W w:Nat}(hg:Brd bd W){c:Cell}:cS [brd bd,cD c,iW w]=ae (cL (kS bd.length W w c)):=vX hg.wd
theorem ND{bd:List Str}{W:Nat}(hg:Wd bd W){x:Cell}(hx:On bd.length W x){b i:Nat}{ρ:aX}(hb:dV b ρ=ae (brd bd))(hi:dV i ρ=ae (cD x)):d2 rh (d2 bb (dV b) (d2 bb (dV i) (dC (.int 0)))) (d2 bb (dV i) (dC (.int 1))) ρ=ae (sg (lt bd x)):=by
 have h1:d2 bb (dV i) (dC (.int 0)) ρ=ae (.int (x.1:Int)):=(aL (y:= .int 0) hi rfl).trans Po.1;have h2:d2 bb (dV i) (dC (.int 1)) ρ=ae (.int (x.2:Int)):=(aL (y:= .int 1) hi rfl).trans Po.2;refine(aL ((aL hb h1).trans (FT hx.1)) h2).trans (Cy ?_);rw[(hg.rows _ (getD_mem hx.1)).len];exact hx.2
theorem J0{bd:List Str}{W:Nat}(hg:Brd bd W){x:Cell}(hx:On bd.length W x){b i:Nat}{ρ:aX}(hb:dV b ρ=ae (brd bd))(hi:dV i ρ=ae (cD x)):d2 rh (d2 bb (dV b) (d2 bb (dV i) (dC (.int 0)))) (d2 bb (dV i) (dC (.int 1))) ρ=ae (sg (lt bd x)):=ND hg.wd hx hb hi
def rank(W:Nat)(x:Cell):Nat:=x.1*W+x.2
theorem jA{R W:Nat}{a b:Cell}(ha:On R W a)(hb:On R W b):EU a b=true↔rank W a<rank W b:=by
 unfold EU rank;have h1:=ha.2;have h2:=hb.2;by_cases h:a.1=b.1
 ·rw[aeg h,ael,h];omega
 ·rw[aeh h,ael];constructor
  ·intro q;have:(a.1+1)*W<=b.1*W:=adP _ q;rw[Nat.add_mul,Nat.one_mul] at this;omega
  ·intro q;refine YK λz=>?_;have:(b.1+1)*W<=a.1*W:=adP _ (by omega);rw[Nat.add_mul,Nat.one_mul] at this;omega
theorem y8{R W:Nat}{a b:Cell}(ha:On R W a)(hb:On R W b)(h:rank W a=rank W b):a=b:=by
 have n1:¬EU a b=true:=λz=>by have:=(jA ha hb).mp z;omega
 have n2:¬EU b a=true:=λz=>by have:=(jA hb ha).mp z;omega
 unfold EU at n1 n2;obtain⟨a1,a2⟩:=a;obtain⟨b1,b2⟩:=b;simp only at n1 n2;by_cases h1:a1=b1
 ·rw[aeg h1,ael] at n1;rw[aeg h1.symm,ael] at n2;rw[aan];exact⟨h1,by omega⟩
 ·rw[aeh h1,ael] at n1;rw[aeh (YG h1),ael] at n2;omega
section
variable{W:Nat}
def mu(R W:Nat)(L:Cell->Cell):Nat:=((aU R W).map λx=>rank W (L x)).sum
end
theorem vV{δ:DE}{ρ:aX}{l:List Cell}(h:δ ρ=ae (cL l)):cR δ ρ=ae (l.map cD):=by
 show (δ ρ>>=lstM)=_;rw[h];rfl
theorem gW(R W:Nat):RiseC (aU R W):=by
 unfold RiseC aU dg;rw[List.pairwise_flatMap];constructor
 ·intro r _;rw[aaD];exact List.pairwise_lt_range.imp λh=>by show (if _ then _ else _)=true;rw[aeg rfl,ael];exact h
 ·refine List.pairwise_lt_range.imp λ{a b} h x hx y hy=>?_;obtain⟨i,_,rfl⟩:=XS.mp hx;obtain⟨j,_,rfl⟩:=XS.mp hy;show (if a=b then _ else decide (a<b))=true;rw[aeh (by omega),ael];exact h
section
variable{bd:List Str}{W w:Nat}
def Least(bd:List Str)(W w:Nat)(x m:Cell):Prop:=Cn bd W w x m/\∀z,Cn bd W w x z->rank W m<=rank W z
end
theorem OI:((aU 8 8).map λc=>fI (ic c)).Nodup:=by decide+kernel
theorem nX{α β:Type}{f:α->β}:∀{l:List α},(l.map f).Nodup->∀a∈l,∀b∈l,f a=f b->a=b
 |x::l,h,a,ha,b,hb,e=>by
  rw[XN,Yz] at h;by_cases h1:a=x
  ·by_cases h2:b=x
   ·rw[h1,h2]
   ·have hb:b∈l:=(XF.mp hb).resolve_left h2;exact aej (XS.mpr ⟨b,hb,by rw[<-h1];exact e.symm⟩) h.1
  ·have ha:a∈l:=(XF.mp ha).resolve_left h1;by_cases h2:b=x
   ·exact aej (XS.mpr ⟨a,ha,by rw[<-h2];exact e⟩) h.1
   ·exact nX h.2 a ha b ((XF.mp hb).resolve_left h2) e
theorem BN{R W:Nat}(hR:R<=8)(hW:W<=8){l:List Cell}(hn:l.Nodup)(eW:∀x∈l,On R W x):(l.map λc=>fI (ic c)).Nodup:=by
 have h8:∀x∈l,x∈aU 8 8:=λx hx=>aJ.mpr ⟨by have:=(eW x hx).1;omega,by have:=(eW x hx).2;omega⟩;rw[Zc,aaD];refine List.Pairwise.imp_of_mem (λ{a b} ha hb h z=>h ?_) hn;exact nX OI a (h8 a ha) b (h8 b hb) z
theorem yp:∀l:List Cell,iU (l.map cD)=some (l.map ic)
 |[]=>rfl
 |c::l=>by
  show (match KI (cD c),iU (l.map cD) with | some k,some ks=>some (k::ks) | _,_=>none)=_;rw[yp l];rfl
theorem Np{ks:List Cell}{f:Cell->D}{x:Cell}{d:D}:dw (ks.map keyOf) (ks.map f) (keyOf x)=(bz ks x).map keyOf/\cz (ks.map keyOf) (ks.map f) (keyOf x) d=(bz ks x).map (fN f x d):=by
 unfold bz dw cz;by_cases h:x∈ks
 ·rw[nk h,aeg h];exact⟨rfl,wX⟩
 ·rw[gm h,aeh h];have e1:ks.map f=ks.map (fN f x d):=Zt λy hy=>by
   unfold fN;rw[aeh (λz:y=x=>h (z▸hy))]
  have e2:(ks++[x]).map (fN f x d)=ks.map (fN f x d)++[d]:=by
   rw[Yl];congr 1;show [fN f x d x]=[d]
   unfold fN;rw[aeg rfl]
  exact⟨by rw[Yl];rfl,by rw[e2,<-e1];rfl⟩
theorem rT:∀(l ks:List Cell),cq (ks.map keyOf) (trues ks) (l.map keyOf) (trues l)=((l.foldl bz ks).map keyOf,trues (l.foldl bz ks))
 |[],ks=>rfl
 |x::l,ks=>by
  show cq (dw (ks.map keyOf) (trues ks) (keyOf x)) (cz (ks.map keyOf) (trues ks) (keyOf x) (.bl true)) (l.map keyOf) (trues l)=_;have h:=Np (ks:=ks) (f:=λ_=>D.bl true) (x:=x) (d:= .bl true);have e:fN (λ_=>D.bl true) x (.bl true)=λ_=>D.bl true:=by
   funext y;unfold fN;split<;>rfl
  rw[e] at h;rw[show trues ks=ks.map (λ_=>D.bl true) from rfl,h.1,h.2];exact rT l (bz ks x)
theorem Ff{l ks:List Cell}(h:ks.Nodup):(l.foldl bz ks).Nodup:=(jd l ks).1 h
section
open Classical
variable{bd:List Str}{W w:Nat}
noncomputable def bt(bd:List Str)(W w:Nat)(m:Cell):List Cell:=(aU bd.length W).filter λx=>decide (Cn bd W w m x)
noncomputable def dm(bd:List Str)(W w:Nat)(l:List Cell):List Cell:=l.filter λx=>decide (Least bd W w x x)
theorem cI(hw:Ways w){m:Cell}(hm:On bd.length W m):IsPatch bd W w m (bt bd W w m):=by
 refine⟨(gW _ _).filter _,λx=>?_⟩;unfold bt;rw[YA,aJ,ael];exact⟨λh=>h.2,λh=>⟨h.on hw hm,h⟩⟩
theorem Least.on(hw:Ways w){x m:Cell}(hx:On bd.length W x)(h:Least bd W w x m):On bd.length W m:=h.1.on hw hx
theorem Least.move(hw:Ways w){x y m:Cell}(hx:On bd.length W x)(h:Least bd W w x m)(hy:Cn bd W w x y):Least bd W w y m:=
 ⟨(hy.symm hw hx).trans h.1,λz hz=>h.2 z (hy.trans hz)⟩
theorem Least.one(hw:Ways w){x m n:Cell}(hx:On bd.length W x)(h:Least bd W w x m)(h2:Least bd W w x n):m=n:=
 y8 (h.on hw hx) (h2.on hw hx) (aay (h.2 n h2.1) (h2.2 m h.1))
theorem Least.self(hw:Ways w){x m:Cell}(hx:On bd.length W x)(h:Least bd W w x m):Least bd W w m m:=h.move hw hx h.1
variable(L:Cell->Cell)
theorem uT(hw:Ways w):∃L:Cell->Cell,∀x,On bd.length W x->Least bd W w x (L x):=by
 have h:∀x,∃m,On bd.length W x->Least bd W w x m:=λx=>by
  by_cases hx:On bd.length W x
  ·have hP:=cI hw hx;cases hp:bt bd W w x with
   |nil=>have:=(hP.mem x).mpr Cn.refl;rw[hp] at this;cases this
   |cons m r=>
    rw[hp] at hP;have hm:=(hP.mem m).mp (XA ..);refine⟨m,λ_=>⟨hm,λz hz=>?_⟩⟩;rcases XF.mp ((hP.mem z).mpr hz) with rfl | WL
    ·exact XM _
    ·exact Y9 ((jA (hm.on hw hx) (hz.on hw hx)).mp ((Y7.mp hP.rise).1 z WL))
  ·exact⟨x,λz=>aej z hx⟩
 exact⟨λx=>Classical.choose (h x),λx=>Classical.choose_spec (h x)⟩
theorem Bw:∀l:List Cell,qW (l.map cD)=true
 |[]=>rfl
 |x::l=>by
  show (uy (cD x)&&qW (l.map cD))=true;rw[Bw l];rfl
theorem Bu{δ:DE}{ρ:aX}{l:List Cell}(h1:mO ρ=true)(h:δ (tN ρ)=ae (cL l)):Km δ ρ=ae (cL l):=by
 unfold Km;rw[aeg h1,h];show (if uy (cL l) then ae (cL l) else ag)=_;rw[aeg (show uy (cL l)=true from Bw l)]
noncomputable def sA(bd:List Str)(W w:Nat):D:= .lst ((dm bd W w (aU bd.length W)).map λm=>cL (bt bd W w m))
end
section
open Classical
variable{bd:List Str}{W w:Nat}
noncomputable def CF(bd:List Str)(W w:Nat)(s:List Cell):List D:=(dm bd W w s).map λm=>cL (bt bd W w m)
noncomputable def HP(bd:List Str)(W w:Nat)(s ks:List Cell)(x4 x5:Option Sl):aX:=[fz (brd bd),fz (iW w),some (.ow (.lst (CF bd W w s))),some (.ow (.dct (ks.map keyOf) (trues ks))),x4,x5]
structure Seen (bd:List Str) (W w:Nat) (s ks:List Cell):Prop where
 nd:ks.Nodup
 on:∀y∈ks,On bd.length W y
 mem:∀y,y∈ks↔∃m∈dm bd W w s,Cn bd W w m y
theorem HK{i:Nat}{δ:DE}{ρ:aX}{ks l:List Cell}(h0:ρ[i]? =some (some (.ow (.dct (ks.map keyOf) (trues ks)))))(hd:δ ρ=ae (jJ l))(hz:ks.length+l.length<=4096)(hh:ks=[]->((bS l).map λc=>fI (ic c)).Nodup):
 Hk i δ ρ=ae (.nx (ρ.set i (some (.ow (.dct (((bS l).foldl bz ks).map keyOf) (trues ((bS l).foldl bz ks))))))):=by
 unfold Hk ud;rw[h0];show (δ ρ>>=λd=>match HJ (ks.map keyOf) (trues ks) d with | some c'=>ae (Out.nx (ρ.set i (some (.ow c')))) | none=>ag)=_;rw[hd,ax];have:HJ (ks.map keyOf) (trues ks) (jJ l)=some (.dct (((bS l).foldl bz ks).map keyOf) (trues ((bS l).foldl bz ks))):=by
  show (match gE ((bS l).map keyOf) with | some ns=>if (trues ks).length+(trues (bS l)).length<=lim/\((ks.map keyOf).isEmpty=true->(ns.map fI).Nodup) then some (C.dct (cq (ks.map keyOf) (trues ks) ((bS l).map keyOf) (trues (bS l))).1 (cq (ks.map keyOf) (trues ks) ((bS l).map keyOf) (trues (bS l))).2) else none | none=>none)=_;rw[nS];show (if (trues ks).length+(trues (bS l)).length<=lim/\((ks.map keyOf).isEmpty=true->(((bS l).map ic).map fI).Nodup) then some (C.dct (cq (ks.map keyOf) (trues ks) ((bS l).map keyOf) (trues (bS l))).1 (cq (ks.map keyOf) (trues ks) ((bS l).map keyOf) (trues (bS l))).2) else none)=_;have c1:(trues ks).length+(trues (bS l)).length<=lim:=by
   have:=Dt l;unfold trues;rw[XB,XB,cM];omega
  have c2:(ks.map keyOf).isEmpty=true->(((bS l).map ic).map fI).Nodup:=λz=>by
   rw[Yv];exact hh (by cases ks with | nil=>rfl | cons _ _=>cases z)
  rw[aeg ⟨c1,c2⟩,rT]
 rw[this]
theorem zp(hg:Brd bd W)(hs:bd.length*W<64)(hw:Ways w){x:Cell}(hx:On bd.length W x){ρ:aX}(h0:dV 0 ρ=ae (brd bd))(h1:dV 1 ρ=ae (iW w))(h4:dV 4 ρ=ae (cD x)):
 dA vg (aC (aw 3 dJ (aC (dV 0) (aC (dV 4) (aC (dV 1) aN)))) aN) ρ=ae (cL (bt bd W w x)):=by
 obtain⟨k,ks,ps,q1,q2,q3⟩:=sZ hg hw hx;have e1:aw 3 dJ (aC (dV 0) (aC (dV 4) (aC (dV 1) aN))) ρ=ae (Bj ks ps):=(aj (ds:=[brd bd,cD x,iW w]) (aZ h0 (aZ h4 (aZ h1 rfl))) rfl).trans q3;refine(eD (xs:=[Bj ks ps]) (aZ e1 rfl)).trans ((zq q1.nd (ab8 (fU q1.nd q2) hs)).trans ?_);have:lx ks=bt bd W w x:=IsPatch.one ⟨sX q1.nd,λx=>kI.trans (q1.last x)⟩ (cI hw hx);rw[this]
theorem i1(s:List Cell)(x:Cell):dm bd W w (s++[x])=if Least bd W w x x then dm bd W w s++[x] else dm bd W w s:=by
 unfold dm;rw[List.filter_append];by_cases h:Least bd W w x x
 ·rw[aeg h,List.filter_cons_of_pos (by rw[ael];exact h),List.filter_nil]
 ·rw[aeh h,List.filter_cons_of_neg (by rw[ael];exact h),List.filter_nil,YF]
theorem Ic(hg:Brd bd W)(hs:bd.length*W<64)(hw:Ways w){L:Cell->Cell}(hL:∀x,On bd.length W x->Least bd W w x (L x)){s r ks:List Cell}{x:Cell}(e:s++x::r=aU bd.length W)(h:Seen bd W w s ks):
 ∃ks',Seen bd W w (s++[x]) ks'/\Rf (HP bd W w s ks (fz (cD x)) none)=ae (.nx (HP bd W w (s++[x]) ks' none none)):=by
 have hx:On bd.length W x:=aJ.mp (by rw[<-e];simp);have FG:=gW bd.length W;rw[<-e] at FG;have N1:∀y∈s,On bd.length W y:=λy hy=>aJ.mp (by rw[<-e];simp[hy]);have Pa:∀y∈r,On bd.length W y:=λy hy=>aJ.mp (by rw[<-e];simp[hy]);have II:∀y∈s,rank W y<rank W x:=λy hy=>(jA (N1 y hy) hx).mp ((aaO.mp FG).2.2 y hy x (XA ..));have LV:∀y∈r,rank W x<rank W y:=λy hy=>(jA hx (Pa y hy)).mp ((Y7.mp (aaO.mp FG).2.1).1 y hy);have VQ:ks.length<=64:=by have:=fU (bd:=bd) (W:=W) h.nd h.on;omega
 have El:s.length<64:=by
  have:=aeo List.length e;rw[b0,XR,XH] at this;omega
 have ht:Lc (cf (d2 (fW true) (dV 4) (dV 3))) (HP bd W w s ks (fz (cD x)) none)=ae (!decide (x∈ks)):=
  HG (gi ((aL (x:=cD x) (y:= .dct (ks.map keyOf) (trues ks)) rfl rfl).trans (kE (neg:=true) (by simp[trues]))))
 by_cases hl:Least bd W w x x
 ·have HW:x∉ks:=λz=>by
   obtain⟨m,hm,hc⟩:=(h.mem x).mp z;unfold dm at hm;rw[YA,ael] at hm;have h1:=II m hm.1;have h2:=hl.2 m (hc.symm hw (N1 m hm.1));omega
  rw[aem HW] at ht;have hP:=cI hw hx (bd:=bd) (W:=W);have LS:∀y∈bt bd W w x,On bd.length W y:=λy hy=>((hP.mem y).mp hy).on hw hx;have NS:(bt bd W w x).length<=64:=by have:=fU (bd:=bd) (W:=W) hP.rise.nodup LS;omega
  have HU:(CF bd W w s).length<lim:=by
   unfold CF;rw[XB,cM];have:=Y1 (λx=>decide (Least bd W w x x)) s;unfold dm;omega
  refine⟨(bS (bt bd W w x)).foldl bz ks,⟨Ff h.nd,λy hy=>?_,λy=>?_⟩,?_⟩
  ·rcases((jd (bS (bt bd W w x)) ks).2.1 y).mp hy with q | q
   ·exact h.on y q
   ·exact LS y (kH.mp q)
  ·rw[(jd (bS (bt bd W w x)) ks).2.1 y,kH,h.mem y,i1,aeg hl,hP.mem y];constructor
   ·rintro(⟨m,hm,hc⟩ | hc)
    ·exact⟨m,Yk.mpr (.inl hm),hc⟩
    ·exact⟨x,by simp,hc⟩
   ·rintro⟨m,hm,hc⟩;rcases Yk.mp hm with hm | hm
    ·exact .inl ⟨m,hm,hc⟩
    ·rw[X0.mp hm] at hc;exact .inr hc
  ·have ef:CF bd W w (s++[x])=CF bd W w s++[cL (bt bd W w x)]:=by
    unfold CF;rw[i1,aeg hl,Yl];rfl
   refine(a8 (ρ':=[fz (brd bd),fz (iW w),some (.ow (.lst (CF bd W w s++[cL (bt bd W w x)]))),some (.ow (.dct (((bS (bt bd W w x)).foldl bz ks).map keyOf) (trues ((bS (bt bd W w x)).foldl bz ks)))),fz (cD x),fz (cL (bt bd W w x))]) (eA ht (ao (ρ':=HP bd W w s ks (fz (cD x)) (fz (cL (bt bd W w x)))) ((aM (zp hg hs hw hx rfl rfl rfl)).trans rfl) (ao (ρ':=[fz (brd bd),fz (iW w),some (.ow (.lst (CF bd W w s++[cL (bt bd W w x)]))),some (.ow (.dct (ks.map keyOf) (trues ks))),fz (cD x),fz (cL (bt bd W w x))]) ?_ ?_)))).trans ?_
   ·show (if (CF bd W w s).length<lim then ae (Out.nx [fz (brd bd),fz (iW w),some (.ow (.lst (CF bd W w s++[cL (bt bd W w x)]))),some (.ow (.dct (ks.map keyOf) (trues ks))),fz (cD x),fz (cL (bt bd W w x))]) else ag)=_;rw[aeg HU]
   ·exact(HK (ks:=ks) (l:=bt bd W w x) rfl ((aj (ds:=[cL (bt bd W w x)]) rfl rfl).trans (uR (by omega))) (by omega) (λ_=>BN hg.r8 hg.w8 (Gb _) λy hy=>LS y (kH.mp hy))).trans rfl
   ·unfold HP;rw[ef];rfl
 ·have hm:=hL x hx;have fo:L x≠x:=λz=>hl (by rw[z] at hm;exact hm);have dG:rank W (L x)<rank W x:=by
   have h1:=hm.2 x Cn.refl;have h2:rank W (L x)≠rank W x:=λz=>fo (y8 (hm.on hw hx) hx z);omega
  have V2:L x∈s:=by
   have:L x∈s++x::r:=by rw[e];exact aJ.mpr (hm.on hw hx)
   rcases Yk.mp this with q | q
   ·exact q
   ·rcases XF.mp q with q | q
    ·exact aej q fo
    ·have:=LV _ q;omega
  have HW:x∈ks:=(h.mem x).mpr ⟨L x,by unfold dm;rw[YA,ael];exact⟨V2,hm.self hw hx⟩,hm.1.symm hw hx⟩;rw[aei HW] at ht;refine⟨ks,⟨h.nd,h.on,λy=>by rw[i1,aeh hl];exact h.mem y⟩,?_⟩;have ef:CF bd W w (s++[x])=CF bd W w s:=by
   unfold CF;rw[i1,aeh hl]
  refine(a8 (fL ht rfl)).trans ?_;unfold HP;rw[ef];rfl
theorem Bh(hg:Brd bd W)(hs:bd.length*W<64)(hw:Ways w){L:Cell->Cell}(hL:∀x,On bd.length W x->Least bd W w x (L x)):∀(r s ks:List Cell),s++r=aU bd.length W->Seen bd W w s ks->
 ∃ks',forL (putN 4) Rf (r.map cD) (HP bd W w s ks none none)=ae (.nx (HP bd W w (aU bd.length W) ks' none none))
 |[],s,ks,e,h=>by
  rw[YF] at e;exact⟨ks,by rw[e];rfl⟩
 |x::r,s,ks,e,h=>by
  obtain⟨KO,h1,e1⟩:=Ic hg hs hw hL e h;obtain⟨FX,e2⟩:=Bh hg hs hw hL r (s++[x]) KO (by rw[Zb];exact e) h1;exact⟨FX,(bZ rfl e1).trans e2⟩
theorem pV(hg:Brd bd W)(hs:bd.length*W<64)(hw:Ways w):fm [brd bd,iW w]=ae (sA bd W w):=by
 obtain⟨L,hL⟩:=uT (bd:=bd) (W:=W) hw;obtain⟨ks,e⟩:=Bh hg hs hw hL (aU bd.length W) [] [] rfl ⟨ZG,(λy hy=>(by cases hy)),(λy=>⟨λz=>(by cases z),λ⟨m,hm,_⟩=>(by cases hm)⟩)⟩;refine ba (ao (ρ':=[fz (brd bd),fz (iW w),some (.ow (.lst [])),none,none,none]) rfl (ao (ρ':=HP bd W w [] [] none none) rfl (ao (ρ':=HP bd W w (aU bd.length W) ks none none) (cV (dY (ds:=(aU bd.length W).map cD) (vV ((aj (ds:=[brd bd]) rfl rfl).trans (fk hg))) e)) rfl)))
end
structure NumOk (R W:Nat) (Ps:List (List Cell)) (ks:List Cell) (f:Cell->Nat):Prop where
 nd:ks.Nodup
 on:∀y∈ks,On R W y
 num:∀y∈ks,∃P,Ps[f y]? =some P/\y∈P
def Ux:DS:=ck [4] (fT 1 (dV 4) (dV 2))
def KW(Ps:List (List Cell))(ks:List Cell)(f:Cell->Nat)(x2 x3 x4:Option Sl):aX:=[fz (.lst (Ps.map cL)),some (.ow (z4 ks λy=> .int (f y:Int))),x2,x3,x4]
theorem CD{ks:List Cell}{x:Cell}:x∈bz ks x:=da.mpr (.inr rfl)
theorem KY{R W:Nat}(hm:R*W<=64){Ps:List (List Cell)}{i:Nat}{P:List Cell}(hP:Ps[i]? =some P){x3:Option Sl}(eW:∀y∈P,On R W y):∀(l ks:List Cell) (f:Cell->Nat),(∀y∈l,y∈P)->NumOk R W Ps ks f->
 ∃ks' f',NumOk R W Ps ks' f'/\(∀y∈ks,y∈ks')/\(∀y∈l,y∈ks')/\forL (putN 4) Ux (l.map cD) (KW Ps ks f (fz (.int (i:Int))) x3 none)=ae (.nx (KW Ps ks' f' (fz (.int (i:Int))) x3 none))
 |[],ks,f,_,h=>⟨ks,f,h,λy hy=>hy,(λy hy=>(by cases hy)),rfl⟩
 |x::l,ks,f,hl,h=>by
  have hx:=hl x (XA ..);have VQ:ks.length<=64:=by
   have h1:=de h.nd λy hy=>aJ.mpr (h.on y hy);rw[b0] at h1;omega
  have h1:NumOk R W Ps (bz ks x) (λy=>if y=x then i else f y):=by
   refine⟨(jd [x] ks).1 h.nd,λy hy=>?_,λy hy=>?_⟩
   ·rcases da.mp hy with q | q
    ·exact h.on y q
    ·rw[q];exact eW x hx
   ·by_cases e:y=x
    ·refine⟨P,?_,by rw[e];exact hx⟩;show Ps[if y=x then i else f y]? =_;rw[aeg e];exact hP
    ·rcases da.mp hy with q | q
     ·obtain⟨Q,q1,q2⟩:=h.num y q;refine⟨Q,?_,q2⟩;show Ps[if y=x then i else f y]? =_;rw[aeh e];exact q1
     ·exact aej q e
  obtain⟨ks',f',a1,a2,a3,a4⟩:=KY hm hP eW l (bz ks x) _ (λy hy=>hl y (Xz _ hy)) h1;refine⟨ks',f',a1,λy hy=>a2 y (da.mpr (.inl hy)),λy hy=>?_,?_⟩
  ·rcases XF.mp hy with rfl | hy
   ·exact a2 _ CD
   ·exact a3 y hy
  ·refine(bZ (ρ1:=KW Ps ks f (fz (.int (i:Int))) x3 (fz (cD x))) rfl ?_).trans a4;refine(a8 ((qu (ks:=ks) (f:=λy=> .int (f y:Int)) (x:=x) (d:= .int (i:Int)) rfl rfl rfl (by rw[cM];omega)).trans rfl)).trans ?_;have ef:fN (λy=>D.int (f y:Int)) x (.int (i:Int))=λy=>D.int ((if y=x then i else f y:Nat):Int):=by
    funext y;unfold fN;by_cases e:y=x
    ·rw[aeg e,aeg e]
    ·rw[aeh e,aeh e]
   show ae (Out.nx [fz (.lst (Ps.map cL)),some (.ow (z4 (bz ks x) (fN (λy=>D.int (f y:Int)) x (.int (i:Int))))),fz (.int (i:Int)),x3,none])=_;rw[ef];rfl
def QB(q:Nat×List Cell):D:= .tup [.int (q.1:Int),cL q.2]
theorem Gh{R W:Nat}(hm:R*W<=64){Ps:List (List Cell)}(eW:∀P∈Ps,∀y∈P,On R W y):∀(qs:List (Nat×List Cell)) (ks:List Cell) (f:Cell->Nat),(∀q∈qs,Ps[q.1]? =some q.2)->NumOk R W Ps ks f->
 ∃ks' f',NumOk R W Ps ks' f'/\(∀y∈ks,y∈ks')/\(∀q∈qs,∀y∈q.2,y∈ks')/\forL (Cm [2,3]) (ck [2,3,4] (cY (putN 4) (cR (dV 3)) Ux)) (qs.map QB) (KW Ps ks f none none none)=ae (.nx (KW Ps ks' f' none none none))
 |[],ks,f,_,h=>⟨ks,f,h,λy hy=>hy,(λq hq=>(by cases hq)),rfl⟩
 |q::qs,ks,f,hq,h=>by
  have hP:=hq q (XA ..);obtain⟨KO,f1,a1,a2,a3,a4⟩:=KY hm hP (x3:=fz (cL q.2)) (eW q.2 (X7 hP)) q.2 ks f (λy hy=>hy) h;obtain⟨FX,f2,b1,b2,b3,b4⟩:=Gh hm eW qs KO f1 (λq' O9=>hq q' (Xz _ O9)) a1;refine⟨FX,f2,b1,λy hy=>b2 y (a2 y hy),λq' O9 y hy=>?_,?_⟩
  ·rcases XF.mp O9 with rfl | O9
   ·exact b2 y (a3 y hy)
   ·exact b3 q' O9 y hy
  ·exact(bZ (ρ1:=KW Ps ks f (fz (.int (q.1:Int))) (fz (cL q.2)) none) rfl ((a8 (dY (ds:=q.2.map cD) (Us rfl) a4)).trans rfl)).trans b4
theorem Dw(Ps:List (List Cell)):(Ps.map cL).mapIdx (λi d=>D.tup [.int (i:Int),d])=(Ps.zipIdx.map λq:List Cell×Nat=>(q.2,q.1)).map QB:=by
 apply acf;intro i;simp only[adH,XX,List.getElem?_zipIdx,Option.map_map,Z8];cases Ps[i]? <;>simp[QB]
theorem rZ{R W:Nat}(hm:R*W<=64){Ps:List (List Cell)}(eW:∀P∈Ps,∀y∈P,On R W y):∃ks f,NumOk R W Ps ks f/\(∀P∈Ps,∀y∈P,y∈ks)/\cU [.lst (Ps.map cL)]=ae (kT ks λy=> .int (f y:Int)):=by
 have hq:∀q∈Ps.zipIdx.map (λq:List Cell×Nat=>(q.2,q.1)),Ps[q.1]? =some q.2:=λq hq=>by
  obtain⟨⟨P,i⟩,h1,rfl⟩:=XS.mp hq;exact acE.mp h1
 obtain⟨ks,f,a1,a2,a3,a4⟩:=Gh hm eW (Ps.zipIdx.map λq:List Cell×Nat=>(q.2,q.1)) [] (λ_=>0) hq ⟨ZG,(λy hy=>(by cases hy)),(λy hy=>(by cases hy))⟩;refine⟨ks,f,a1,λP hP y hy=>?_,?_⟩
 ·obtain⟨i,hi,rfl⟩:=aaT hP;refine a3 (i,Ps[i]) (XS.mpr ⟨(Ps[i],i),acE.mpr (by rw[XC hi]),rfl⟩) y hy
 ·refine ba (ao (ρ':=KW Ps [] (λ_=>0) none none none) rfl (ao (ρ':=KW Ps ks f none none none) (cV (dY (ds:=(Ps.zipIdx.map λq:List Cell×Nat=>(q.2,q.1)).map QB) ?_ a4)) rfl));show ae ((Ps.map cL).mapIdx λi d=>D.tup [.int (i:Int),d])=_;rw[Dw]
section
open Classical
variable{bd:List Str}{W w:Nat}
noncomputable def bV(bd:List Str)(W w:Nat):List (List Cell):=(dm bd W w (aU bd.length W)).map (bt bd W w)
theorem AH:sA bd W w= .lst ((bV bd W w).map cL):=by
 unfold sA bV;rw[Yv];rfl
theorem fJ{m:Cell}(h:m∈dm bd W w (aU bd.length W)):On bd.length W m:=by
 unfold dm at h;exact aJ.mp (YA.mp h).1
theorem DL(hw:Ways w):∀P∈bV bd W w,∀y∈P,On bd.length W y:=λP hP y hy=>by
 unfold bV at hP;obtain⟨m,hm,rfl⟩:=XS.mp hP;exact(((cI hw (fJ hm)).mem y).mp hy).on hw (fJ hm)
theorem AG(hg:Brd bd W)(hw:Ways w){x:Cell}(hx:On bd.length W x):∃P∈bV bd W w,x∈P:=by
 obtain⟨L,hL⟩:=uT (bd:=bd) (W:=W) hw;have hm:=hL x hx;have Ub:=hm.on hw hx;refine⟨bt bd W w (L x),XS.mpr ⟨L x,?_,rfl⟩,((cI hw Ub).mem x).mpr (hm.1.symm hw hx)⟩;unfold dm;rw[YA,ael];exact⟨aJ.mpr Ub,hm.self hw hx⟩
theorem Ao:(bV bd W w).length<=bd.length*W:=by
 unfold bV dm;rw[XB,<-b0 bd.length W];exact Y1 ..
end
end K1
namespace K1
open PySem L2 L3 HT
end K1
namespace K1
open PySem PySem.Spec L2 L3
open PyProof.Rows hiding St
section
open Classical
variable{bd:List Str}{W w:Nat}
theorem Jg:(dm bd W w (aU bd.length W)).Nodup:=by
 unfold dm;exact(RiseC.nodup (gW _ _)).filter _
theorem F9{l:List Cell}{m:Cell}:m∈dm bd W w l↔m∈l/\Least bd W w m m:=by
 unfold dm;rw[YA,ael]
theorem yx(hw:Ways w){m x:Cell}(hm:m∈dm bd W w (aU bd.length W))(hx:x∈bt bd W w m):Least bd W w x m:=
 (F9.mp hm).2.move hw (fJ hm) (((cI hw (fJ hm)).mem x).mp hx)
theorem kJ{i:Nat}{P:List Cell}(h:(bV bd W w)[i]? =some P):∃m,(dm bd W w (aU bd.length W))[i]? =some m/\P=bt bd W w m:=by
 unfold bV at h;rw[XX] at h;cases q:(dm bd W w (aU bd.length W))[i]? with
 |none=>rw[q] at h;cases h
 |some m=>rw[q] at h;cases h;exact⟨m,rfl,rfl⟩
theorem F_{i j:Nat}{m:Cell}(h:(dm bd W w (aU bd.length W))[i]? =some m)(h2:(dm bd W w (aU bd.length W))[j]? =some m):i=j:=
 (ace (XI.mp h).1 Jg).mp (h.trans h2.symm)
theorem v9{α:Type}{l:List α}{i:Nat}{x:α}(h:l[i]? =some x):x∈l:=X7 h
theorem BR(hw:Ways w){i j:Nat}{P Q:List Cell}{x:Cell}(hi:(bV bd W w)[i]? =some P)(hj:(bV bd W w)[j]? =some Q)(hx:x∈P)(hy:x∈Q):i=j:=by
 obtain⟨m,e1,rfl⟩:=kJ hi;obtain⟨n,e2,rfl⟩:=kJ hj;have hm:=v9 e1;have hn:=v9 e2;have eW:On bd.length W x:=(((cI hw (fJ hm)).mem x).mp hx).on hw (fJ hm);have:=(yx hw hm hx).one hw eW (yx hw hn hy);subst this;exact F_ e1 e2
end
end K1
namespace K1
open PySem L2 L3
abbrev NT:=List (Nat×List Nat)
def gz(p:Nat×List Nat):Key×List Key:=(kN p.1,p.2.map kN)
def Hm(l:NT)(n:Nat):NT:=if n∈l.map (·.1) then l else l++[(n,[])]
def Eu(l:NT)(n m:Nat):NT:=l.map λp=>if p.1=n then(p.1,if m∈p.2 then p.2 else p.2++[m]) else p
theorem BM(ks:List Nat)(n:Nat):tR (ks.map kN) (kN n)=decide (n∈ks):=by
 rw[acK,l_,ael,XS];exact⟨λ⟨a,h,e⟩=>vW _ _ e▸h,λh=>⟨n,h,rfl⟩⟩
theorem BJ(l:NT):(l.map gz).map (·.1)=(l.map (·.1)).map kN:=by rw[Yv,Yv];rfl
theorem Ho(l:NT)(n:Nat):xg (l.map gz) (kN n)=(Hm l n).map gz:=by
 unfold xg Hm;rw[BJ,BM];by_cases h:n∈l.map (·.1)
 ·rw[aeg h,aeg (aei h)]
 ·rw[aeh h,aeh (λz=>h (aek z)),Yl];rfl
theorem Ew(l:NT)(n m:Nat):qC (l.map gz) (kN n) (kN m)=(Eu l n m).map gz:=by
 unfold qC Eu;rw[Yv,Yv];refine Zt λp _=>?_;show (if kN p.1=kN n then(kN p.1,if tR (p.2.map kN) (kN m) then p.2.map kN else p.2.map kN++[kN m]) else gz p)=gz (if p.1=n then(p.1,if m∈p.2 then p.2 else p.2++[m]) else p);by_cases h:p.1=n
 ·rw[aeg (by rw[h]),aeg h,BM];by_cases q:m∈p.2
  ·rw[aeg (aei q),aeg q];rfl
  ·rw[aeh (λz=>q (aek z)),aeh q];show _=(kN p.1,(p.2++[m]).map kN)
   rw[Yl];rfl
 ·rw[aeh (λz=>h (vW _ _ z)),aeh h]
structure NrS (T:Nat->Prop) (E:Nat->Nat->Prop) (l:NT):Prop where
 nd:(l.map (·.1)).Nodup
 key:∀n,n∈l.map (·.1)↔T n
 nb:∀p∈l,p.2.Nodup/\∀m,m∈p.2↔E p.1 m
 hT:∀n,T n->n<64
 hE:∀n m,E n m->m<64
theorem le64{l:List Nat}(hn:l.Nodup)(h:∀n∈l,n<64):l.length<=64:=by
 have:=de (U:=Yg 64) hn λx hx=>Y3.mpr (h x hx);simpa using this
section
variable{T:Nat->Prop}{E:Nat->Nat->Prop}{l:NT}
theorem NrS.ok(h:NrS T E l):xJ (l.map gz)=true:=by
 unfold xJ;rw[ZK,ael,Yh];have:=le64 h.nd λn hn=>h.hT n ((h.key n).mp hn);refine⟨by rw[XB] at this⊢;rw[cM];omega,λp hp=>?_⟩;obtain⟨q,hq,rfl⟩:=XS.mp hp;have:=le64 (h.nb q hq).1 λm hm=>h.hE q.1 m (((h.nb q hq).2 m).mp hm);show decide ((q.2.map kN).length<lim)=true;rw[ael,XB,cM];omega
theorem NrS.cong{T':Nat->Prop}{E':Nat->Nat->Prop}(h:NrS T E l)(h1:∀n,T n↔T' n)(h2:∀n m,E n m↔E' n m):NrS T' E' l:=
 ⟨h.nd,λn=>(h.key n).trans (h1 n),λp hp=>⟨(h.nb p hp).1,λm=>((h.nb p hp).2 m).trans (h2 _ _)⟩,λn hn=>h.hT n ((h1 n).mpr hn),λn m hm=>h.hE n m ((h2 n m).mpr hm)⟩
theorem NrS.set(h:NrS T E l){n:Nat}(hn:n<64)(hE:∀m,E n m->T n):NrS (λk=>T k\/k=n) E (Hm l n):=by
 unfold Hm;split
 ·rename_i q;have hq:=(h.key n).mp q;exact h.cong (λk=>⟨.inl,λz=>z.elim id λe=>e▸hq⟩) λ_ _=>abK
 ·rename_i q;refine⟨?_,λk=>?_,λp hp=>?_,λk hk=>hk.elim (h.hT k) λe=>e▸hn,h.hE⟩
  ·rw[Yl,YI];exact⟨h.nd,by simp,λx hx y hy z=>q (by rw[z] at hx;cases X0.mp hy;exact hx)⟩
  ·rw[Yl,Yk,h.key];exact or_congr abK (by simp)
  ·rcases Yk.mp hp with z | z
   ·exact h.nb p z
   ·cases X0.mp z;exact⟨ZG,λm=>⟨λz=>(nomatch z),λz=>aej ((h.key n).mpr (hE m z)) q⟩⟩
theorem xN(l:NT)(n m:Nat):(Eu l n m).map (·.1)=l.map (·.1):=by
 unfold Eu;rw[Yv];refine Zt λp _=>?_;show (if p.1=n then(p.1,_) else p).1=p.1;split<;>rfl
theorem NrS.add(h:NrS T E l){n m:Nat}(hm:m<64):NrS T (λa b=>E a b\/(a=n/\b=m)) (Eu l n m):=by
 refine⟨by rw[xN];exact h.nd,λk=>by rw[xN];exact h.key k,λp hp=>?_,h.hT,λa b q=>q.elim (h.hE a b) λe=>e.2▸hm⟩;obtain⟨q,hq,rfl⟩:=XS.mp hp;have:=h.nb q hq;by_cases e:q.1=n
 ·rw[aeg e];by_cases z:m∈q.2
  ·rw[aeg z];exact⟨this.1,λb=>⟨λy=> .inl ((this.2 b).mp y),λy=>y.elim (λy=>(this.2 b).mpr y) λy=>y.2▸z⟩⟩
  ·rw[aeh z];refine⟨YI.mpr ⟨this.1,by simp,λx hx y hy e=>z (by rw[e] at hx;cases X0.mp hy;exact hx)⟩,λb=>?_⟩;show b∈q.2++[m]↔E q.1 b\/(q.1=n/\b=m);rw[Yk,this.2 b,X0];exact or_congr abK ⟨λy=>⟨e,y⟩,λy=>y.2⟩
 ·rw[aeh e];exact⟨this.1,λb=>(this.2 b).trans ⟨.inl,λy=>y.elim id λy=>aej y.1 e⟩⟩
end
theorem Gn{oi:Nat}{tc:DT}{δk:DE}{ρ:aX}{f:Cell->Nat}{n:Nat}(lI:∀y,f y<64):∀(ys:List Cell) {T:Nat->Prop}{E:Nat->Nat->Prop}{l:NT},NrS T E l->
 (∀y∈ys,tc (ρ.set oi (fz (cD y)))=ae (!decide (f y=n))/\δk (ρ.set oi (fz (cD y)))=ae (nI (f y)))->
 ∃l',lK oi tc δk (kN n) ρ (ys.map cD) (l.map gz)=ae (l'.map gz)/\NrS T (λa b=>E a b\/(a=n/\b≠n/\∃y∈ys,f y=b)) l'
 |[],T,E,l,h,_=>⟨l,rfl,h.cong (λ_=>abK) λa b=>⟨.inl,λz=>z.elim id λ⟨_,_,y,hy,_⟩=>nomatch hy⟩⟩
 |y::ys,T,E,l,h,OV=>by
  obtain⟨h1,h2⟩:=OV y XA;have OW:=λz hz=>OV z (Xz _ hz);by_cases e:f y=n
  ·rw[aei e] at h1;obtain⟨l',g1,g2⟩:=Gn (n:=n) lI ys h OW;refine⟨l',?_,g2.cong (λ_=>abK) λa b=>or_congr abK (and_congr_right λ_=>and_congr_right λhb=>?_)⟩
   ·rw[XN];unfold lK;rw[show some (Sl.fz (cD y))=fz (cD y) from rfl,h1];exact g1
   ·exact⟨λ⟨z,hz,q⟩=>⟨z,Xz _ hz,q⟩,λ⟨z,hz,q⟩=>(XF.mp hz).elim (λx=>aej (q.symm.trans (by rw[x,e])) hb) λx=>⟨z,x,q⟩⟩
  ·rw[aem e] at h1;obtain⟨l',g1,g2⟩:=Gn (n:=n) lI ys (h.add (n:=n) (lI y)) OW;refine⟨l',?_,g2.cong (λ_=>abK) λa b=>?_⟩
   ·rw[XN];unfold lK;rw[show some (Sl.fz (cD y))=fz (cD y) from rfl,h1,h2];show (if xJ (l.map gz) then lK oi tc δk (kN n) ρ (ys.map cD) (qC (l.map gz) (kN n) (kN (f y))) else ag)=_;rw[aeg h.ok,Ew];exact g1
   ·constructor
    ·rintro((q | ⟨q1,q2⟩) | ⟨q1,q2,z,hz,q3⟩)
     ·exact .inl q
     ·exact .inr ⟨q1,λz=>e (q2.symm.trans z),y,XA,q2.symm⟩
     ·exact .inr ⟨q1,q2,z,Xz _ hz,q3⟩
    ·rintro(q | ⟨q1,q2,z,hz,q3⟩)
     ·exact .inl (.inl q)
     ·rcases XF.mp hz with x | x
      ·exact .inl (.inr ⟨q1,by rw[<-q3,x]⟩)
      ·exact .inr ⟨q1,q2,z,x,q3⟩
theorem Gp{ci oi:Nat}{δk:DE}{δj:DA}{tc:DT}{δk2:DE}{ρ:aX}{f:Cell->Nat}{nx:Cell->List Cell}(lI:∀y,f y<64):∀(xs:List Cell) {T:Nat->Prop}{E:Nat->Nat->Prop}{l:NT},NrS T E l->(∀n m,E n m->T n)->
 (∀x∈xs,δk (ρ.set ci (fz (cD x)))=ae (nI (f x))/\δj (ρ.set ci (fz (cD x)))=ae ((nx x).map cD)/\∀y∈nx x,tc ((ρ.set ci (fz (cD x))).set oi (fz (cD y)))=ae (!decide (f y=f x))/\δk2 ((ρ.set ci (fz (cD x))).set oi (fz (cD y)))=ae (nI (f y)))->
 ∃l',gK ci oi δk δj tc δk2 ρ (xs.map cD) (l.map gz)=ae (l'.map gz)/\NrS (λn=>T n\/∃x∈xs,f x=n) (λa b=>E a b\/(a≠b/\∃x∈xs,f x=a/\∃y∈nx x,f y=b)) l'
 |[],T,E,l,h,_,_=>⟨l,rfl,h.cong (λn=>⟨.inl,λz=>z.elim id λ⟨_,hx,_⟩=>nomatch hx⟩) λa b=>⟨.inl,λz=>z.elim id λ⟨_,_,hx,_⟩=>nomatch hx⟩⟩
 |x::xs,T,E,l,h,TF,OV=>by
  obtain⟨h1,h2,h3⟩:=OV x XA;obtain⟨l1,g1,g2⟩:=Gn (n:=f x) lI (nx x) (h.set (lI x) λm hm=>TF _ m hm) h3;obtain⟨l2,k1,k2⟩:=Gp lI xs g2 (λn m z=>z.elim (λz=> .inl (TF n m z)) λz=> .inr z.1) λz hz=>OV z (Xz _ hz);refine⟨l2,?_,k2.cong (λn=>?_) λa b=>?_⟩
  ·rw[XN];unfold gK;rw[show some (Sl.fz (cD x))=fz (cD x) from rfl,h1];show (if xJ (l.map gz) then noex (δj (ρ.set ci (fz (cD x))))>>=λes=>lK oi tc δk2 (kN (f x)) (ρ.set ci (fz (cD x))) es (xg (l.map gz) (kN (f x)))>>=λjl=>gK ci oi δk δj tc δk2 ρ (xs.map cD) jl else ag)=_;rw[aeg h.ok,h2,Ho];show (lK oi tc δk2 (kN (f x)) (ρ.set ci (fz (cD x))) ((nx x).map cD) ((Hm l (f x)).map gz)>>=λjl=>gK ci oi δk δj tc δk2 ρ (xs.map cD) jl)=_;rw[g1];exact k1
  ·constructor
   ·rintro((q | q) | ⟨z,hz,q⟩)
    ·exact .inl q
    ·exact .inr ⟨x,XA,q.symm⟩
    ·exact .inr ⟨z,Xz _ hz,q⟩
   ·rintro(q | ⟨z,hz,q⟩)
    ·exact .inl (.inl q)
    ·rcases XF.mp hz with e | e
     ·exact .inl (.inr (by rw[<-q,e]))
     ·exact .inr ⟨z,e,q⟩
  ·constructor
   ·rintro((q | ⟨q1,q2,y,hy,q3⟩) | ⟨q1,z,hz,q2⟩)
    ·exact .inl q
    ·exact .inr ⟨λe=>q2 (e.symm.trans q1),x,XA,q1.symm,y,hy,q3⟩
    ·exact .inr ⟨q1,z,Xz _ hz,q2⟩
   ·rintro(q | ⟨q1,z,hz,q2,y,hy,q3⟩)
    ·exact .inl (.inl q)
    ·rcases XF.mp hz with e | e
     ·subst e;exact .inl (.inr ⟨q2.symm,λe=>q1 (q2.symm.trans e.symm),y,hy,q3⟩)
     ·exact .inr ⟨q1,z,e,q2,y,hy,q3⟩
theorem D2{ni ci mi oi:Nat}{δi:DA}{δk:DE}{δj:DA}{tc:DT}{δk2:DE}{ρ ρ0:aX}{ds:List D}{ps:qB}(h0:ud ρ ni=some (.dci [] []))(h1:fgt [ni,ci,mi,oi] ρ=ρ0)(h2:qD ρ0=true)(h3:δi ρ0=ae ds)
 (h4:gK ci oi δk δj tc δk2 ρ0 ds []=ae ps)(h5:xJ ps=true):ze ni ci mi oi δi δk δj tc δk2 ρ=ae (.nx (ρ0.set ni (fz (Cg ps)))):=by
 unfold ze;rw[h0,h1];show (if qD ρ0=true then noex (δi ρ0)>>=_ else ag)=_;rw[aeg h2,h3];show (noex (gK ci oi δk δj tc δk2 ρ0 ds [])>>=_)=_;rw[h4];show (if xJ ps=true then _ else ag)=_;rw[aeg h5]
def Au(l:NT)(n:Nat):List Nat:=match l.find? (λp=>p.1==n) with
 |some p=>p.2
 |none=>[]
theorem B2{l:NT}{p:Nat×List Nat}(hn:(l.map (·.1)).Nodup)(hp:p∈l):Au l p.1=p.2:=by
 unfold Au;cases q:l.find? (λr=>r.1==p.1) with
 |none=>have:=ab4.mp q p hp;simp at this
 |some r=>
  have h1:=List.find?_some q;have h2:=List.mem_of_find?_eq_some q;have h1:r.1=p.1:=by simpa using h1
  have:r=p:=nX (f:=(·.1)) hn r h2 p hp h1;rw[this]
theorem NrS.mem{T:Nat->Prop}{E:Nat->Nat->Prop}{l:NT}(h:NrS T E l){n m:Nat}(hn:T n):m∈Au l n↔E n m:=by
 obtain⟨p,hp,rfl⟩:=XS.mp ((h.key n).mpr hn);rw[B2 h.nd hp];exact(h.nb p hp).2 m
theorem Nj(l:NT):Cg (l.map gz)=(Uv (l.map (·.1)) (l.map λp=>inD (p.2.map kN))).d:=by
 unfold Cg;rw[BJ];exact aeo (D.dci _) (Yv ..)
theorem FW(ks:List Nat):jf (inD (ks.map kN))=ae (ks.map nI):=by
 show (if (ks.map kN).all yL then ae ((ks.map kN).map FV) else ag)=_;rw[aeg (Yh.mpr λk hk=>by obtain⟨n,_,rfl⟩:=XS.mp hk;rfl),Yv];rfl
theorem NrS.near{T:Nat->Prop}{E:Nat->Nat->Prop}{l:NT}(h:NrS T E l):nz nI (l.map (·.1)) (Au l) (Cg (l.map gz)):=λn hn=>by
 rw[Nj];obtain⟨d,h1,h2⟩:=Mx.ix (ds:=l.map λp=>inD (p.2.map kN)) (by simp) hn;refine⟨d,h2,?_⟩;rw[List.zip_map'] at h1;obtain⟨p,hp,e⟩:=XS.mp h1;cases e;rw[B2 h.nd hp];exact FW p.2
section
variable{α:Type}{E:α->α->Prop}{a b x:α}
def Rr(E:α->α->Prop)(a:α):Nat->α->Prop
 |0,x=>x=a
 |k+1,x=>Rr E a k x\/∃y,Rr E a k y/\E y x
def Dr(E:α->α->Prop)(a x:α)(n:Nat):Prop:=Rr E a n x/\∀j,Rr E a j x->n<=j
theorem Rr.mono{i j:Nat}(h:i<=j)(r:Rr E a i x):Rr E a j x:=by
 induction h with
 |refl=>exact r
 |step _ ih=>exact .inl ih
theorem Rr.trans{i:Nat}(h:Rr E a i b):∀{j:Nat}{x:α},Rr E b j x->Rr E a (i+j) x
 |0,_,r=>by cases r;exact h
 |_+1,_, .inl r=> .inl (Rr.trans h r)
 |_+1,_, .inr ⟨y,r,e⟩=> .inr ⟨y,Rr.trans h r,e⟩
theorem Dr.one{n m:Nat}(h:Dr E a x n)(h2:Dr E a x m):n=m:=aay (h.2 _ h2.1) (h2.2 _ h.1)
theorem jg{nb:α->List α}{P:α->Prop}(ha:P a)(hP:∀y,P y->∀x,x∈nb y->P x)(h:∀y,P y->∀x,x∈nb y↔E y x):∀{j:Nat}{x:α},(Rb nb a j x↔Rr E a j x)/\(Rb nb a j x->P x)
 |0,x=>⟨abK,λr=>by cases (show x=a from r);exact ha⟩
 |j+1,x=>by
  refine⟨⟨λr=>?_,λr=>?_⟩,λr=>?_⟩
  ·rcases r with r | ⟨y,r,q⟩
   ·exact .inl ((jg ha hP h).1.mp r)
   ·exact .inr ⟨y,(jg ha hP h).1.mp r,(h y ((jg ha hP h).2 r) x).mp q⟩
  ·rcases r with r | ⟨y,r,q⟩
   ·exact .inl ((jg ha hP h).1.mpr r)
   ·have r':=(jg (nb:=nb) ha hP h).1.mpr r;exact .inr ⟨y,r',(h y ((jg ha hP h).2 r') x).mpr q⟩
  ·rcases r with r | ⟨y,r,q⟩
   ·exact(jg ha hP h).2 r
   ·exact hP y ((jg ha hP h).2 r) x q
theorem Kn[DecidableEq α]{nb:α->List α}{P:α->Prop}(ha:P a)(hP:∀y,P y->∀x,x∈nb y->P x)(h:∀y,P y->∀x,x∈nb y↔E y x){n:Nat}:Ds nb a x n↔Dr E a x n:=
 and_congr (jg ha hP h).1 (forall_congr' λj=>imp_congr (jg ha hP h).1 abK)
end
def gd(w:Nat)(a b:Cell):Nat:=if w=4 then bO a.1 b.1+bO a.2 b.2 else max (bO a.1 b.1) (bO a.2 b.2)
def Nx(R W w:Nat)(y x:Cell):Prop:=On R W y/\On R W x/\lT w y x=true
theorem gy(a:Nat):bO a a=0:=by unfold bO;rw[Nat.max_self,adE,Nat.sub_self]
theorem gx{a b:Nat}(h:a<=b):bO a b=b - a:=by unfold bO;rw[Nat.max_eq_right h,aax h]
theorem gw{a b:Nat}(h:b<=a):bO a b=a - b:=by unfold bO;rw[Nat.max_eq_left h,Nat.min_eq_right h]
theorem By(a b c:Nat):bO a c<=bO a b+bO b c:=by
 rcases aa0 a b with h | h<;>rcases aa0 b c with h2 | h2
 ·rw[gx h,gx h2,gx (Yc h h2)];omega
 ·rw[gx h,gw h2];rcases aa0 a c with h3 | h3
  ·rw[gx h3];omega
  ·rw[gw h3];omega
 ·rw[gw h,gx h2];rcases aa0 a c with h3 | h3
  ·rw[gx h3];omega
  ·rw[gw h3];omega
 ·rw[gw h,gw h2,gw (Yc h2 h)];omega
theorem Fm{R W w:Nat}(hw:Ways w){a:Cell}:∀{j:Nat}{x:Cell},Rr (Nx R W w) a j x->gd w a x<=j
 |0,x,r=>by
  cases (show x=a from r);rcases hw with rfl | rfl
  ·show bO a.1 a.1+bO a.2 a.2<=0;rw[gy,gy];exact XM _
  ·show max (bO a.1 a.1) (bO a.2 a.2)<=0;rw[gy,gy];exact XM _
 |j+1,x, .inl r=>Nat.le_succ_of_le (Fm hw r)
 |j+1,x, .inr ⟨y,r,e⟩=>by
  have h:=Fm hw r;have e:=e.2.2;have t1:=By a.1 y.1 x.1;have t2:=By a.2 y.2 x.2;rcases hw with rfl | rfl
  ·have e:bO y.1 x.1+bO y.2 x.2=1:=aek e;show bO a.1 x.1+bO a.2 x.2<=j+1;have h:bO a.1 y.1+bO a.2 y.2<=j:=h;omega
  ·have e:max (bO y.1 x.1) (bO y.2 x.2)=1:=aek e;have h:max (bO a.1 y.1) (bO a.2 y.2)<=j:=h;have e1:=acU (bO y.1 x.1) (bO y.2 x.2);have e2:=acD (bO y.1 x.1) (bO y.2 x.2);have e3:=Yc (acU ..) h;have e4:=Yc (acD ..) h;rw[e] at e1 e2;exact Nat.max_le.mpr ⟨Yc t1 (Nat.add_le_add e3 e1),Yc t2 (Nat.add_le_add e4 e2)⟩
def toward(a b:Nat):Nat:=if b<a then b+1 else if a<b then b - 1 else b
theorem oK(a b:Nat):(toward a b<=max a b)/\bO a (toward a b)=bO a b - 1/\bO (toward a b) b=min 1 (bO a b):=by
 unfold toward;by_cases h:b<a
 ·rw[aeg h,gw h,gw (Y9 h),gw (Nat.le_succ b),Nat.max_eq_left (Y9 h),aax (by omega)];omega
 ·rw[aeh h];by_cases h2:a<b
  ·rw[aeg h2,gx (show a<=b - 1 by omega),gx (Y9 h2),gx (Nat.sub_le b 1),Nat.max_eq_right (Y9 h2),aax (by omega)];omega
  ·rw[aeh h2];have:a=b:=by omega
   subst this;rw[gy,Nat.max_self];exact⟨XM _,rfl,rfl⟩
theorem kQ{a b R:Nat}(ha:a<R)(hb:b<R):toward a b<R:=ab8 (oK a b).1 (Nat.max_lt.mpr ⟨ha,hb⟩)
theorem ID{R W w:Nat}(hw:Ways w){a b:Cell}(ha:On R W a)(hb:On R W b){n:Nat}(h:gd w a b=n+1):∃c,Nx R W w c b/\gd w a c=n:=by
 obtain⟨a1,a2⟩:=a;obtain⟨b1,b2⟩:=b;obtain⟨_,t2,t3⟩:=oK a1 b1;obtain⟨_,u2,u3⟩:=oK a2 b2;rcases hw with rfl | rfl
 ·have h:bO a1 b1+bO a2 b2=n+1:=h;by_cases e:bO a1 b1=0
  ·refine⟨(b1,toward a2 b2),⟨⟨hb.1,kQ ha.2 hb.2⟩,hb,aei (show bO b1 b1+bO (toward a2 b2) b2=1 from ?_)⟩,show bO a1 b1+bO a2 (toward a2 b2)=n from ?_⟩
   ·rw[gy,u3,aax (by omega)]
   ·rw[u2];omega
  ·refine⟨(toward a1 b1,b2),⟨⟨kQ ha.1 hb.1,hb.2⟩,hb,aei (show bO (toward a1 b1) b1+bO b2 b2=1 from ?_)⟩,show bO a1 (toward a1 b1)+bO a2 b2=n from ?_⟩
   ·rw[gy,t3,aax (by omega)]
   ·rw[t2];omega
 ·have h:max (bO a1 b1) (bO a2 b2)=n+1:=h;refine⟨(toward a1 b1,toward a2 b2),⟨⟨kQ ha.1 hb.1,kQ ha.2 hb.2⟩,hb,aei (show max (bO (toward a1 b1) b1) (bO (toward a2 b2) b2)=1 from ?_)⟩,show max (bO a1 (toward a1 b1)) (bO a2 (toward a2 b2))=n from ?_⟩
  ·rw[t3,u3];generalize bO a1 b1=p at*;generalize bO a2 b2=q at*;omega
  ·rw[t2,u2];generalize bO a1 b1=p at*;generalize bO a2 b2=q at*;omega
theorem yb{a b:Nat}(h:bO a b=0):b=a:=by
 rcases aa0 a b with q | q
 ·rw[gx q] at h;omega
 ·rw[gw q] at h;omega
theorem IE{w:Nat}(hw:Ways w){a b:Cell}(h:gd w a b=0):b=a:=by
 have:bO a.1 b.1=0/\bO a.2 b.2=0:=by
  rcases hw with rfl | rfl
  ·exact Nat.add_eq_zero_iff.mp h
  ·have h:max (bO a.1 b.1) (bO a.2 b.2)=0:=h;exact⟨Nat.le_zero.mp (h▸acU ..),Nat.le_zero.mp (h▸acD ..)⟩
 exact ad3 (yb this.1) (yb this.2)
theorem Ku{R W w:Nat}(hw:Ways w){a:Cell}(ha:On R W a):∀(n:Nat) {b:Cell},On R W b->gd w a b=n->Rr (Nx R W w) a n b
 |0,b,_,h=>IE hw h
 |n+1,b,hb,h=>by
  obtain⟨c,e,h2⟩:=ID hw ha hb h;exact .inr ⟨c,Ku hw ha n e.1 h2,e⟩
theorem Kt{R W w:Nat}(hw:Ways w){a b:Cell}(ha:On R W a)(hb:On R W b):Dr (Nx R W w) a b (gd w a b):=⟨Ku hw ha _ hb rfl,λj r=>Fm hw r⟩
section
variable{bd:List Str}{W w v:Nat}{f g:Cell->Nat}
def NumF(bd:List Str)(W w:Nat)(f:Cell->Nat):Prop:=∀x,On bd.length W x->∃P,(bV bd W w)[f x]? =some P/\x∈P
theorem NumF.eq(hw:Ways w)(hf:NumF bd W w f)(hg:NumF bd W w g){x:Cell}(hx:On bd.length W x):f x=g x:=by
 obtain⟨P,h1,h2⟩:=hf x hx;obtain⟨Q,h3,h4⟩:=hg x hx;exact BR hw h1 h3 h2 h4
theorem NumF.lt(hf:NumF bd W w f){x:Cell}(hx:On bd.length W x):f x<(bV bd W w).length:=by
 obtain⟨P,h1,_⟩:=hf x hx;exact(XI.mp h1).1
theorem NumF.cn(hw:Ways w)(hf:NumF bd W w f){x y:Cell}(hx:On bd.length W x)(hy:On bd.length W y):f x=f y↔Cn bd W w x y:=by
 obtain⟨P,h1,h2⟩:=hf x hx;obtain⟨Q,h3,h4⟩:=hf y hy;obtain⟨m,e1,rfl⟩:=kJ h1;obtain⟨n,e2,rfl⟩:=kJ h3;have om:=fJ (v9 e1);have on:=fJ (v9 e2);constructor
 ·intro e;rw[e,h3] at h1;have h1:bt bd W w n=bt bd W w m:=Yn h1;rw[h1] at h4;exact((((cI hw om).mem x).mp h2).symm hw om).trans (((cI hw om).mem y).mp h4)
 ·intro e;have:y∈bt bd W w m:=((cI hw om).mem y).mpr ((((cI hw om).mem x).mp h2).trans e);exact BR hw h1 h3 this h4
def Ad(R W v:Nat)(f:Cell->Nat)(n m:Nat):Prop:=n≠m/\∃x y,Nx R W v x y/\f x=n/\f y=m
theorem sO{R W v:Nat}{f:Cell->Nat}{a:Cell}:∀{j:Nat}{x:Cell},Rr (Nx R W v) a j x->Rr (Ad R W v f) (f a) j (f x)
 |0,x,r=>by cases (show x=a from r);rfl
 |j+1,x, .inl r=> .inl (sO r)
 |j+1,x, .inr ⟨y,r,e⟩=>by
  by_cases q:f y=f x
  ·rw[<-q];exact .inl (sO r)
  ·exact .inr ⟨f y,sO r,q,y,x,e,rfl,rfl⟩
end
section
variable{bd:List Str}{W w v:Nat}{f:Cell->Nat}
theorem jQ(hg:Brd bd W)(hs:bd.length*W<64)(hw:Ways w):∃ks f,NumF bd W w f/\(∀x,On bd.length W x->x∈ks)/\cU [.lst ((bV bd W w).map cL)]=ae (kT ks λy=>nI (f y)):=by
 obtain⟨ks,f,a1,a2,a3⟩:=rZ (R:=bd.length) (W:=W) (by omega) (DL (bd:=bd) hw);have Ek:∀x,On bd.length W x->x∈ks:=λx hx=>by
  obtain⟨P,hP,h⟩:=AG hg hw hx;exact a2 P hP x h
 exact⟨ks,f,λx hx=>a1.num x (Ek x hx),Ek,a3⟩
theorem nW(hg:Brd bd W)(hs:bd.length*W<64)(hw:Ways w)(hv:Ways v)(hf:NumF bd W w f):
 ∃l,NrS (λn=>∃x,On bd.length W x/\f x=n) (Ad bd.length W v f) l/\eG [brd bd, .int (v:Int), .lst ((bV bd W w).map cL)]=ae (Cg (l.map gz)):=by
 obtain⟨ks,g,OX,Ek,e0⟩:=jQ hg hs hw;have T4:∀x,On bd.length W x->f x % 64=g x:=λx hx=>by
  have:=hf.lt hx;have:=Ao (bd:=bd) (W:=W) (w:=w);rw[Nat.mod_eq_of_lt (by omega)];exact hf.eq hw OX hx
 have NW:∀x,On bd.length W x->f x % 64=f x:=λx hx=>(T4 x hx).trans (OX.eq hw hf hx);have ev:∀{ρ:aX}{i:Nat}{x:Cell},ρ[3]? =some (fz (kT ks λy=>nI (g y)))->ρ[i]? =some (fz (cD x))->On bd.length W x->d2 eI (dV 3) (dV i) ρ=ae (nI (f x % 64)):=λh3 hi hx=>by
  rw[T4 _ hx];exact(aL (jD h3) (jD hi)).trans (nT (f:=λy=>nI (g y)) (Ek _ hx))
 obtain⟨l,k1,k2⟩:=Gp (ci:=5) (oi:=7) (δk:=d2 eI (dV 3) (dV 5)) (δj:=cR (aw 3 bB (aC (dV 0) (aC (dV 5) (aC (dV 1) aN))))) (tc:=cf (d2 ib (d2 eI (dV 3) (dV 7)) (d2 eI (dV 3) (dV 5)))) (δk2:=d2 eI (dV 3) (dV 7))
  (ρ:=[fz (brd bd),fz (.int (v:Int)),fz (.lst ((bV bd W w).map cL)),fz (kT ks λy=>nI (g y)),none,none,none,none]) (f:=λx=>f x % 64) (nx:=g0 bd.length W v) (λy=>aco _ (by decide)) (aU bd.length W) (T:=λ_=>False) (E:=λ_ _=>False) (l:=[])
  ⟨ZG,λn=>by simp,λp hp=>(nomatch hp),λn h=>h.elim,λn m h=>h.elim⟩ (λ_ _ h=>h.elim) λx hx=>by
   have hx:=aJ.mp hx;refine⟨ev rfl rfl hx,?_,λy hy=>?_⟩
   ·exact vV ((aj (ds:=[brd bd,cD x, .int (v:Int)]) rfl rfl).trans (gH hg hv hx))
   ·have hy:=((gj hv).mp hy).1;refine⟨gi ((aL (ev rfl rfl hy) (ev rfl rfl hx)).trans ((KQ _ _).trans ?_)),ev rfl rfl hy⟩;by_cases e:f y % 64=f x % 64
    ·rw[e];simp
    ·rw[aem e,aen.mpr e]
 refine⟨l,k2.cong (λn=>?_) (λn m=>?_),ba (ao (ρ':=[fz (brd bd),fz (.int (v:Int)),fz (.lst ((bV bd W w).map cL)),fz (kT ks λy=>nI (g y)),none,none,none,none]) ((aM ((aj (ds:=[.lst ((bV bd W w).map cL)]) rfl rfl).trans e0)).trans rfl) (ao (ρ':=[fz (brd bd),fz (.int (v:Int)),fz (.lst ((bV bd W w).map cL)),fz (kT ks λy=>nI (g y)),some (.ow (.dci [] [])),none,none,none]) rfl (ao (ρ':=[fz (brd bd),fz (.int (v:Int)),fz (.lst ((bV bd W w).map cL)),fz (kT ks λy=>nI (g y)),fz (Cg (l.map gz)),none,none,none]) (cV ?_) rfl)))⟩
 ·constructor
  ·rintro(z | ⟨x,hx,e⟩)
   ·exact z.elim
   ·have hx:=aJ.mp hx;exact⟨x,hx,(NW x hx).symm.trans e⟩
  ·rintro⟨x,hx,e⟩;exact .inr ⟨x,aJ.mpr hx,(NW x hx).trans e⟩
 ·constructor
  ·rintro(z | ⟨fo,x,hx,e,y,hy,e2⟩)
   ·exact z.elim
   ·have hx:=aJ.mp hx;have hy:=(gj hv).mp hy;exact⟨fo,x,y,⟨hx,hy.1,hy.2⟩,(NW x hx).symm.trans e,(NW y hy.1).symm.trans e2⟩
  ·rintro⟨fo,x,y,⟨hx,hy,q⟩,e,e2⟩;exact .inr ⟨fo,x,aJ.mpr hx,(NW x hx).trans e,y,(gj hv).mpr ⟨hy,q⟩,(NW y hy).trans e2⟩
 ·exact D2 rfl rfl rfl (vV ((aj (ds:=[brd bd]) rfl rfl).trans (fk hg))) k1 k2.ok
end
def mF(S:List Cell)(nb:Cell->List Cell):D:=kT S λy=>cL (nb y)
end K1
namespace K1
open PySem PySem.Spec L2 L3
open PyProof.Rows hiding St
section
variable{nb:Cell->List Cell}
theorem rk{a b c:Cell}{i:Nat}(h:Rb nb a i b):∀{j:Nat},Rb nb b j c->Rb nb a (i+j) c
 |0,q=>(show c=b from q)▸h
 |j+1,q=>q.elim (λq=> .inl (rk h q)) λ⟨y,q1,q2⟩=> .inr ⟨y,rk h q1,q2⟩
end
def qm(R W w:Nat)(S:List Cell)(y:Cell):List Cell:=(g0 R W w y).filter λx=>decide (x∈S)
theorem BZ{R W w:Nat}(hw:Ways w){S:List Cell}{x y:Cell}:x∈qm R W w S y↔On R W x/\lT w y x=true/\x∈S:=by
 unfold qm;rw[YA,gj hw,ael,and_assoc]
def CnS(R W w:Nat)(S:List Cell)(a b:Cell):Prop:=∃j,Rb (qm R W w S) a j b
section
open Classical
variable{bd:List Str}{W w:Nat}{S:List Cell}{R:Nat}
theorem CnS.trans{a b c:Cell}(h:CnS R W w S a b)(h2:CnS R W w S b c):CnS R W w S a c:=let ⟨i,p⟩:=h;let ⟨j,q⟩:=h2;⟨i+j,rk p q⟩
theorem foldl_addK:∀(l t:List Cell),(t++l).Nodup->l.foldl bz t=t++l
 |[],t,_=>by simp
 |x::l,t,h=>by
  have hx:x∉t:=λq=>(YI.mp h).2.2 x q x (XA ..) rfl;rw[ZL,show bz t x=t++[x] from aeh hx,foldl_addK l (t++[x]) (by rw[Zb];exact h),Zb];rfl
theorem yB(hg:Brd bd W)(hw:Ways w)(hn:S.Nodup)(eW:∀y∈S,On bd.length W y):fV [brd bd,cL S,iW w]=ae (mF S (qm bd.length W w S)):=by
 have hm:bd.length*W<=64:=aaH hg.r8 hg.w8;have lI:S.length<=64:=by
  have:=de hn λx hx=>aJ.mpr (eW x hx);rw[b0] at this;omega
 obtain⟨_,e⟩:=kD (put:=putN 5) (body:=Uy) cD (λt:List Cell=>[fz (brd bd),fz (cL S),fz (iW w),fz (jJ S),some (.ow (z4 t λy=>cL (qm bd.length W w S y))),none]) bz (λt=>t.Nodup/\∀y∈t,y∈S) S [] ⟨ZG,λ_ h=>by cases h⟩ λt ⟨h1,h2⟩ x hx=>by
  have hl:=de h1 h2;refine⟨⟨(jd [x] t).1 h1,λy hy=>(da.mp hy).elim (h2 y) λq=>q▸hx⟩,_,rfl,?_⟩;refine(a8 (ρ':=[fz (brd bd),fz (cL S),fz (iW w),fz (jJ S),some (.ow (z4 (bz t x) λy=>cL (qm bd.length W w S y))),fz (cD x)]) ?_).trans rfl;refine(qu (x:=x) (d:=cL (qm bd.length W w S x)) rfl (bJ (ds:=(g0 bd.length W w x).map cD) (vV ((aj (ds:=[brd bd,cD x,iW w]) rfl rfl).trans (gH hg hw (eW x hx)))) (eY cD _ _ λy hy=>?_) ?_) rfl (by rw[cM];omega)).trans ?_
  ·rw[jB,gi (b:=decide (y∈S)) ((aL (x:=cD y) (y:=jJ S) rfl rfl).trans ((kE (neg:=false) (by simp[trues])).trans (by rw[aeh (by decide)];congr 2;rw[aep];exact kH))),ax];cases decide (y∈S)<;>rfl
  ·rw[XB,cM];exact Yc (Y1 ..) (Yc (nU ..) (by decide))
  ·have:fN (λy=>cL (qm bd.length W w S y)) x (cL (qm bd.length W w S x))=λy=>cL (qm bd.length W w S y):=by
    funext y;unfold fN;split
    ·rename_i q;rw[q]
    ·rfl
   rw[this];rfl
 rw[foldl_addK S [] (by simpa using hn),Yq] at e;exact ba (ao (ρ':=[fz (brd bd),fz (cL S),fz (iW w),fz (jJ S),none,none]) ((aM ((aj (ds:=[cL S]) rfl rfl).trans (uR (by omega)))).trans rfl) (ao (ρ':=[fz (brd bd),fz (cL S),fz (iW w),fz (jJ S),some (.ow (z4 [] λy=>cL (qm bd.length W w S y))),none]) rfl (ao (cV (dY rfl e)) rfl)))
end
end K1
namespace K1
open PySem L2 L3
section
variable{α:Type}[DecidableEq α]{enc:α->D}{mk:List α->List D->C}
structure SokG (S:List α) (s:Bk α):Prop where
 len:s.ks.length=s.ps.length
 nd:s.ks.Nodup
 on:∀x∈s.ks,x∈S
 fu:s.fu.length<=s.ks.length
theorem SokG.step{S:List α}{s:Bk α}(h:SokG S s){c x:α}(hx:x∈S):SokG S (cN c s x):=by
 unfold cN;split
 ·exact h
 ·rename_i hn;refine⟨by simp[h.len],?_,λy hy=>?_,by simp;exact h.fu⟩
  ·refine YI.mpr ⟨h.nd,by simp,λy hy z hz e=>?_⟩;have hz:z=x:=by simpa using hz
   rw[e,hz] at hy;exact hn hy
  ·rcases Yk.mp hy with q | q
   ·exact h.on y q
   ·have:y=x:=by simpa using q
    rw[this];exact hx
abbrev gR(mk:List α->List D->C)(nr a:D)(ks:List α)(vs:List Nat)(x3 x4 x5 x6:Option Sl):aX:=[fz nr,fz a,some (.ow (mk ks (vs.map nI))),x3,x4,x5,x6]
def Val(nb:α->List α)(a:α)(ks:List α)(vs:List Nat):Prop:=ks.length=vs.length/\∀x n,(x,n)∈ks.zip vs->Ds nb a x n
variable{S:List α}{nb:α->List α}{a0:α}
theorem Ir(kk:KOk enc mk)(lI:S.length<=64){nr a:D}{c x:α}{r:Option Sl}{s:Bk α}{k:Nat}(h:SokG S s)(hc:c∈s.ks)(hk:Ds nb a0 c k)(jk:∀y,Rb nb a0 k y->y∈s.ks)(hx:x∈nb c){vs:List Nat}(hv:Val nb a0 s.ks vs):
 ∃vs',Val nb a0 (cN c s x).ks vs'/\LA (gR mk nr a s.ks vs r (some (.ow (.lst (s.fu.map enc)))) (fz (enc c)) (fz (enc x)))=ae (.nx (gR mk nr a (cN c s x).ks vs' r (some (.ow (.lst ((cN c s x).fu.map enc)))) (fz (enc c)) none)):=by
 have hle:s.ks.length<=S.length:=de h.nd h.on;have hl:s.ks.length=(vs.map nI).length:=by rw[XB];exact hv.1
 have ht:Lc (cf (d2 (fW true) (dV 6) (dV 2))) (gR mk nr a s.ks vs r (some (.ow (.lst (s.fu.map enc)))) (fz (enc c)) (fz (enc x)))=ae (!decide (x∈s.ks)):=
  HG (gi ((aL (x:=enc x) (y:=(mk s.ks (vs.map nI)).d) rfl rfl).trans (kk.inn (neg:=true) hl)))
 by_cases HW:x∈s.ks
 ·rw[aei HW] at ht;have e:cN c s x=s:=aeg HW;rw[e];exact⟨vs,hv,(a8 (fL ht rfl)).trans rfl⟩
 ·rw[aem HW] at ht;have e:cN c s x=⟨s.ks++[x],s.ps++[some c],s.fu++[x]⟩:=aeh HW;rw[e];obtain⟨d,hd,hi⟩:=kk.ix hl hc;obtain⟨n,rfl,hn⟩:=xy hd;have V7:n=k:=aay ((hv.2 c n hn).2 k hk.1) (hk.2 n (hv.2 c n hn).1);subst V7;have hp:jm (mk s.ks (vs.map nI)) (enc x) (nI (n+1))=some (mk (s.ks++[x]) ((vs++[n+1]).map nI)):=by
   rw[kk.put _ _ _ _ HW (by rw[XB,<-hv.1,cM];omega),Yl];rfl
  refine⟨vs++[n+1],⟨by simp[hv.1],λy m hy=>?_⟩,(a8 (ρ':=gR mk nr a (s.ks++[x]) (vs++[n+1]) r (some (.ow (.lst ((s.fu++[x]).map enc)))) (fz (enc c)) (fz (enc x))) (eA ht (ao (ρ':=gR mk nr a (s.ks++[x]) (vs++[n+1]) r (some (.ow (.lst (s.fu.map enc)))) (fz (enc c)) (fz (enc x))) ((JQ (c:=mk s.ks (vs.map nI)) (k:=enc x) (d:=nI (n+1)) rfl (EZ ((aL (x:=nI n) (y:= .int 1) ((aL (x:=(mk s.ks (vs.map nI)).d) (y:=enc c) rfl rfl).trans hi) rfl).trans rfl) rfl) rfl hp).trans rfl) ?_))).trans rfl⟩
  ·rw[aar hv.1] at hy;rcases Yk.mp hy with q | q
   ·exact hv.2 y m q
   ·cases X0.mp q;refine⟨.inr ⟨c,hk.1,hx⟩,λj hj=>Nat.lt_of_not_le λz=>HW (jk _ (Rb.mono z hj))⟩
  ·show (if (s.fu.map enc).length<lim then ae (Out.nx (gR mk nr a (s.ks++[x]) (vs++[n+1]) r (some (.ow (.lst (s.fu.map enc++[enc x])))) (fz (enc c)) (fz (enc x)))) else ag)=_;have:=h.fu;rw[aeg (by rw[XB,cM];omega),show s.fu.map enc++[enc x]=(s.fu++[x]).map enc by simp]
theorem rj{c x y:α}{s:Bk α}(h:y∈s.ks):y∈(cN c s x).ks:=(um s).mpr (.inl h)
theorem ri{y c:α}{s:Bk α}(h:y∈s.ks):y∈(gU nb s c).ks:=((foldStep (P:=λ_ _=>True) (nb c) s λ_ _=>trivial).2 y).mpr (.inl h)
theorem Ip(kk:KOk enc mk)(lI:S.length<=64)(hS:∀y∈S,∀x∈nb y,x∈S){nr:D}(hN:nz enc S nb nr){a:D}{c:α}{r:Option Sl}{s:Bk α}{k:Nat}(h:SokG S s)(hc:c∈s.ks)(hk:Ds nb a0 c k)(jk:∀y,Rb nb a0 k y->y∈s.ks){vs:List Nat}(hv:Val nb a0 s.ks vs):
 SokG S (gU nb s c)/\∃vs',Val nb a0 (gU nb s c).ks vs'/\Lz (gR mk nr a s.ks vs r (some (.ow (.lst (s.fu.map enc)))) (fz (enc c)) none)=ae (.nx (gR mk nr a (gU nb s c).ks vs' r (some (.ow (.lst ((gU nb s c).fu.map enc)))) none none)):=by
 have TU:=h.on c hc;obtain⟨ρ',e,h1,h2,h4,vs',h3,rfl⟩:=rb (put:=putN 6) (body:=LA) enc (λ(s:Bk α) ρ=>SokG S s/\c∈s.ks/\(∀y,Rb nb a0 k y->y∈s.ks)/\∃vs:List Nat,Val nb a0 s.ks vs/\ρ=gR mk nr a s.ks vs r (some (.ow (.lst (s.fu.map enc)))) (fz (enc c)) none) (cN c) (nb c) s _ ⟨h,hc,jk,vs,hv,rfl⟩ λs ρ ⟨h,hc,jk,vs,hv,e⟩ x hx=>by
  subst e;obtain⟨vs',h1,h2⟩:=Ir (nr:=nr) (a:=a) (x:=x) (r:=r) kk lI h hc hk jk hx hv;exact⟨_,_,rfl,h2,h.step (hS c TU x hx),rj hc,λy hy=>rj (jk y hy),vs',h1,rfl⟩
 refine⟨h1,vs',h3,(a8 (dY ?_ e)).trans rfl⟩;obtain⟨d,hd,hd2⟩:=hN c TU;have e0:d2 eI (dV 0) (dV 5) (gR mk nr a s.ks vs r (some (.ow (.lst (s.fu.map enc)))) (fz (enc c)) none)=ae d:=(aL (x:=nr) (y:=enc c) rfl rfl).trans hd;show orM (d2 eI (dV 0) (dV 5) _>>=lstM) (d2 eI (dV 0) (dV 5) _>>=jf)=_;rw[e0];exact hd2
theorem Iq(kk:KOk enc mk)(lI:S.length<=64)(hS:∀y∈S,∀x∈nb y,x∈S){nr:D}(hN:nz enc S nb nr){a:D}{ring:List α}{s:Bk α}{k:Nat}(hr:∀c∈ring,c∈s.ks/\Ds nb a0 c k)(jk:∀y,Rb nb a0 k y->y∈s.ks)(h:SokG S s)(hf:s.fu=[]){vs:List Nat}(hv:Val nb a0 s.ks vs):
 SokG S (bR nb s ring)/\∃vs',Val nb a0 (bR nb s ring).ks vs'/\Ly (gR mk nr a s.ks vs (fz (.lst (ring.map enc))) none none none)=ae (.nx (gR mk nr a (bR nb s ring).ks vs' (fz (.lst ((bR nb s ring).fu.map enc))) none none none)):=by
 obtain⟨ρ',e,h1,h2,h4,vs',h3,rfl⟩:=rb (put:=putN 5) (body:=Lz) enc (λ(s:Bk α) ρ=>SokG S s/\(∀c∈ring,c∈s.ks/\Ds nb a0 c k)/\(∀y,Rb nb a0 k y->y∈s.ks)/\∃vs:List Nat,Val nb a0 s.ks vs/\ρ=gR mk nr a s.ks vs (fz (.lst (ring.map enc))) (some (.ow (.lst (s.fu.map enc)))) none none) (gU nb) ring s _ ⟨h,hr,jk,vs,hv,rfl⟩ λs ρ ⟨h,hr,jk,vs,hv,e⟩ c hc=>by
  subst e;obtain⟨g1,vs',g2,g3⟩:=Ip (nb:=nb) (a:=a) (r:=fz (.lst (ring.map enc))) kk lI hS hN h (hr c hc).1 (hr c hc).2 jk hv;exact⟨_,_,rfl,g3,g1,λc' Fs=>⟨ri (hr c' Fs).1,(hr c' Fs).2⟩,λy hy=>ri (jk y hy),vs',g2,rfl⟩
 rw[hf] at e;refine⟨h1,vs',h3,(a8 (ρ':=gR mk nr a (bR nb s ring).ks vs' (fz (.lst ((bR nb s ring).fu.map enc))) (fz (.lst ((bR nb s ring).fu.map enc))) none none) ?_).trans rfl⟩;refine ao (ρ':=gR mk nr a s.ks vs (fz (.lst (ring.map enc))) (some (.ow (.lst []))) none none) rfl (ao (ρ':=gR mk nr a (bR nb s ring).ks vs' (fz (.lst (ring.map enc))) (some (.ow (.lst ((bR nb s ring).fu.map enc)))) none none) ?_ rfl);exact dY rfl e
theorem x_(kk:KOk enc mk)(lI:S.length<=64)(hS:∀y∈S,∀x∈nb y,x∈S){nr:D}(hN:nz enc S nb nr)(ha:a0∈S):∀(fuel k:Nat) (ks:List α) (ps:List (Option α)) (ring:List α) (vs:List Nat),S.length+2<=fuel+k->Rng nb a0 k ks ps ring->(∀x∈ks,x∈S)->Val nb a0 ks vs->
 ∃k' ks' jl vs',Rng nb a0 k' ks' jl []/\(∀x∈ks',x∈S)/\Val nb a0 ks' vs'/\d8 (bT (dV 3)) Ly fuel (gR mk nr (enc a0) ks vs (fz (.lst (ring.map enc))) none none none)=ae (.nx (gR mk nr (enc a0) ks' vs' (fz (.lst [])) none none none))
 |0,k,ks,ps,ring,vs,hf,hR,eW,hv=>by
  have h1:ks.length<=S.length:=de hR.nd eW;have:=hR.sz.1;omega
 |fuel+1,k,ks,ps,[],vs,hf,hR,eW,hv=>⟨k,ks,ps,vs,hR,eW,hv,nv rfl⟩
 |fuel+1,k,ks,ps,c::ring,vs,hf,hR,eW,hv=>by
  have Vg:=hR.next (by simp);have Pa:∀x∈c::ring,x∈ks/\Ds nb a0 x k:=λx hx=>⟨(hR.mem x).mpr ((hR.rg x).mp hx).1,(hR.rg x).mp hx⟩
  obtain⟨hb,Xf,WB,e⟩:=Iq (nb:=nb) (a:=enc a0) kk lI hS hN (s:=⟨ks,ps,[]⟩) Pa (λy hy=>(hR.mem y).mpr hy) ⟨hR.len,hR.nd,eW,Ys _⟩ rfl hv;obtain⟨k',ks',jl,vs',q1,q2,q3,q4⟩:=x_ kk lI hS hN ha fuel (k+1) _ _ _ Xf (by omega) Vg hb.on WB;exact⟨k',ks',jl,vs',q1,q2,q3,tq rfl e q4⟩
theorem qY(kk:KOk enc mk)(lI:S.length<=64)(hS:∀y∈S,∀x∈nb y,x∈S){nr:D}(hN:nz enc S nb nr)(ha:a0∈S):
 ∃(ks:List α) (vs:List Nat),(∀x,x∈ks↔∃j,Rb nb a0 j x)/\Val nb a0 ks vs/\bW [nr,enc a0]=ae (mk ks (vs.map nI)).d:=by
 obtain⟨k,ks,ps,vs,h1,h2,h3,h4⟩:=x_ (nb:=nb) kk lI hS hN ha lim 0 [a0] [none] [a0] [0] (by rw[cM];omega) (Rng.zero _ _) (λx hx=>(show x=a0 by simpa using hx)▸ha) ⟨rfl,λx n h=>by
  have h:x=a0/\n=0:=by simpa using h
  rw[h.1,h.2];exact⟨rfl,λj _=>Ys _⟩⟩
 refine⟨ks,vs,h1.last,h3,ba (ao (ρ':=gR mk nr (enc a0) [a0] [0] none none none none) ?_ (ao (ρ':=gR mk nr (enc a0) [a0] [0] (fz (.lst [enc a0])) none none none) rfl (ao (ρ':=gR mk nr (enc a0) ks vs (fz (.lst [])) none none none) (cV h4) rfl)))⟩;show (orM (k7 (enc a0) (.int 0)) (oU (enc a0) (.int 0))>>=_)=_;rw[kk.ini];rfl
end
end K1
namespace K1
open PySem L2 L3 HT
theorem IV(c:Nat):IU ⟨#[c]⟩=decide (c∈[97,98,99,100,101,102]):=StrLaws.found_one "abcdef" c
abbrev Oh:List Nat:=[97,98,99,100,101,102]
end K1
namespace K1
open PySem L2 L3
section
variable{bd:List Str}{W w v:Nat}{f:Cell->Nat}
theorem Gr(hv:Ways v){l:NT}(hl:NrS (λn=>∃x,On bd.length W x/\f x=n) (Ad bd.length W v f) l){a b:Cell}(ha:On bd.length W a)(hb:On bd.length W b):
 ∃n,Dr (Ad bd.length W v f) (f a) (f b) n/\∃d,bW [Cg (l.map gz),nI (f a)]=ae d/\eI d (nI (f b))=ae (nI n):=by
 have hP:∀y,(∃x,On bd.length W x/\f x=y)->∀x,x∈Au l y->∃z,On bd.length W z/\f z=x:=λy hy x hx=>by
  obtain⟨_,p,q,h1,_,h2⟩:=(hl.mem hy).mp hx;exact⟨q,h1.2.1,h2⟩
 have hE:∀y,(∃x,On bd.length W x/\f x=y)->∀x,x∈Au l y↔Ad bd.length W v f y x:=λy hy x=>hl.mem hy;have lI:(l.map (·.1)).length<=64:=le64 hl.nd λn hn=>hl.hT n ((hl.key n).mp hn);obtain⟨ks,vs,h1,h2,h3⟩:=qY (nb:=Au l) Mx lI (λy hy x hx=>(hl.key x).mpr (hP y ((hl.key y).mp hy) x hx)) hl.near ((hl.key (f a)).mpr ⟨a,ha,rfl⟩);have hr:=sO (f:=f) (Kt hv ha hb).1;have jG:f b∈ks:=(h1 _).mpr ⟨_,(jg ⟨a,ha,rfl⟩ hP hE).1.mpr hr⟩;obtain⟨d,e1,e2⟩:=Mx.ix (ds:=vs.map nI) (by rw[XB];exact h2.1) jG;obtain⟨n,rfl,e3⟩:=xy e1;exact⟨n,(Kn ⟨a,ha,rfl⟩ hP hE).mp (h2.2 _ _ e3),_,h3,e2⟩
theorem xW(hg:Brd bd W)(hs:bd.length*W<64)(hw:Ways w)(hf:NumF bd W w f){a b:Cell}(ha:On bd.length W a)(hb:On bd.length W b):
 ∃n,Dr (Ad bd.length W w f) (f a) (f b) n/\aR [brd bd,iW w,cD a,cD b]=ae (nI n):=by
 obtain⟨l,hl,e1⟩:=nW (v:=w) hg hs hw hw hf;obtain⟨n,hn,d,e2,e3⟩:=Gr hw hl ha hb;obtain⟨ks,g,OX,Ek,e0⟩:=jQ hg hs hw;have ga:g a=f a:=OX.eq hw hf ha;have gb:g b=f b:=OX.eq hw hf hb;refine⟨n,hn,ba (ao (br ((aj (ds:=[brd bd,iW w,cD a,cD b]) rfl rfl).trans (Ed hg hw ha hb))) (ao (ρ':=[fz (brd bd),fz (iW w),fz (cD a),fz (cD b),fz (.lst ((bV bd W w).map cL)),none]) ((aM ((aj (ds:=[brd bd,iW w]) rfl rfl).trans ((pV hg hs hw).trans (by rw[AH])))).trans rfl) (ao (ρ':=[fz (brd bd),fz (iW w),fz (cD a),fz (cD b),fz (.lst ((bV bd W w).map cL)),fz (kT ks λy=>nI (g y))]) ((aM ((aj (ds:=[.lst ((bV bd W w).map cL)]) rfl rfl).trans e0)).trans rfl) (a6 ((aL (x:=d) (y:=nI (f b)) ((aj (ds:=[Cg (l.map gz),nI (f a)]) (aZ ((aj (ds:=[brd bd,iW w, .lst ((bV bd W w).map cL)]) rfl rfl).trans e1) (aZ (((aL (x:=kT ks λy=>nI (g y)) (y:=cD a) rfl rfl).trans (nT (f:=λy=>nI (g y)) (Ek a ha))).trans (by rw[ga])) rfl)) rfl).trans e2) (((aL (x:=kT ks λy=>nI (g y)) (y:=cD b) rfl rfl).trans (nT (f:=λy=>nI (g y)) (Ek b hb))).trans (by rw[gb]))).trans e3)))))⟩
def ES(W w:Nat)(S:List Cell)(y x:Cell):Prop:=y∈S/\x∈S/\lT w y x=true
def lets(bd:List Str)(W:Nat)(ls:List Nat):List Cell:=(aU bd.length W).filter λx=>decide (lt bd x∈ls)
theorem eJ{ls:List Nat}{x:Cell}:x∈lets bd W ls↔On bd.length W x/\lt bd x∈ls:=by
 unfold lets;rw[YA,aJ,ael]
theorem jM{cs:List Nat}(h:∀c∈cs,c∈Oh)(hl:cs.length<=4096):bN [.lst (cs.map sg)]=ae .non:=by
 refine qw (fL (Kl (p:=false) (q:=false) (nM (b:=true) (jC rfl)) (nM (b:=true) (jC ((Ey (enc:=sg) (xs:=cs) (g:=λ_=>true) (Us rfl) (λc hc=>?_) hl).trans ?_)))) rfl)
 ·refine(aj (ds:=[sg c]) rfl rfl).trans ((k_ (d:=sg c) trivial).trans ?_);show ae (D.bl (true&&IU ⟨#[c]⟩))=_;rw[(IV c).trans (aei (h c hc))];rfl
 ·rw[Yh.mpr λ_ _=>rfl]
theorem Fb(a b:Nat):kz 6 (sg a) (sg b)=some (decide (a=b)):=by
 show some ((⟨#[a]⟩:Str)==⟨#[b]⟩)=_;have:=Kp a b;have h2:=Iv 6 ⟨#[a]⟩ ⟨#[b]⟩;have:decide ((⟨#[a]⟩:Str)=⟨#[b]⟩)=decide (a=b):=by
  rw[aep];exact⟨λh=>by have h:=aeo (λx:Str=>x.cps.toList) h;simpa using h,λh=>by rw[h]⟩
 rw[<-this];exact h2
theorem qF(c:Nat):∀l:List Nat,anyF (sg c) (l.map sg)=some (decide (c∈l))
 |[]=>by simp[anyF]
 |a::l=>by
  show (match kz 6 (sg a) (sg c),anyF (sg c) (l.map sg) with | some p,some q=>some (p||q) | _,_=>none)=_;rw[qF c l,Fb];refine aeo some (show (decide (a=c)||decide (c∈l))=_ from ?_);by_cases e:c=a
  ·rw[aei e.symm,Bool.true_or,e,aei XA]
  ·rw[aem (λz=>e z.symm),Bool.false_or,aep];exact⟨Xz _,λh=>(XF.mp h).resolve_left e⟩
theorem kO{ls:List Nat}:(lets bd W ls).Nodup:=by
 unfold lets;exact RiseC.nodup ((gW _ _).filter _)
theorem AF(hg:Brd bd W)(hs:bd.length*W<64)(hw:Ways w){ls:List Nat}(h:∀c∈ls,c∈Oh)(hl:ls.length<=4096){a b:Cell}(ha:On bd.length W a)(hb:On bd.length W b)(Dc:lt bd a∈ls):
 (∃n,Dr (ES W w (lets bd W ls)) a b n/\aQ [brd bd,iW w, .lst (ls.map sg),cD a,cD b]=ae (nI n))\/
 ((∀j,¬Rr (ES W w (lets bd W ls)) a j b)/\aQ [brd bd,iW w, .lst (ls.map sg),cD a,cD b]=ae .non):=by
 have hS:a∈lets bd W ls:=eJ.mpr ⟨ha,Dc⟩;have eW:∀y∈lets bd W ls,On bd.length W y:=λy hy=>(eJ.mp hy).1;have e1:=yB hg hw kO eW;have hP:∀y,y∈lets bd W ls->∀x,x∈qm bd.length W w (lets bd W ls) y->x∈lets bd W ls:=λy _ x hx=>((BZ hw).mp hx).2.2;have hE:∀y,y∈lets bd W ls->∀x,x∈qm bd.length W w (lets bd W ls) y↔ES W w (lets bd W ls) y x:=λy hy x=>(BZ hw).trans ⟨λq=>⟨hy,q.2.2,q.2.1⟩,λq=>⟨eW x q.2.1,q.2.2,q.2.1⟩⟩;have lI:(lets bd W ls).length<=64:=by
  have:=fU kO eW;omega
 have hN:nz cD (lets bd W ls) (qm bd.length W w (lets bd W ls)) (mF (lets bd W ls) (qm bd.length W w (lets bd W ls))):=λc hc=>⟨_,nT (f:=λy=>cL (qm bd.length W w (lets bd W ls) y)) hc,rfl⟩
 obtain⟨ks,vs,h1,h2,h3⟩:=qY (nb:=qm bd.length W w (lets bd W ls)) KL lI (λy hy x hx=>hP y hy x hx) hN hS;obtain⟨g1,g2⟩:=KL.get (ks:=ks) (ds:=vs.map nI) (x:=b) (v:= .non) (by rw[XB];exact h2.1);have L7:fW true (cD a) (mF (lets bd W ls) (qm bd.length W w (lets bd W ls)))=ae (.bl false):=(kE (neg:=true) (by simp)).trans (by rw[aei hS];rfl);have go:∀{r:D},getM (C.dct (ks.map keyOf) (vs.map nI)).d (cD b) .non=ae r->aQ [brd bd,iW w, .lst (ls.map sg),cD a,cD b]=ae r:=λ{r} hr=>by
  refine ba (ao (br ((aj (ds:=[brd bd]) rfl rfl).trans hg.nb)) (ao (br ((aj (ds:=[iW w]) rfl rfl).trans hw.nw)) (ao (br ((aj (ds:=[.lst (ls.map sg)]) rfl rfl).trans (jM h hl))) (ao (br ((aj (ds:=[brd bd,cD a]) rfl rfl).trans (hg.nc ha))) (ao (br ((aj (ds:=[brd bd,cD b]) rfl rfl).trans (hg.nc hb)))
   (ao (ρ':=[fz (brd bd),fz (iW w),fz (.lst (ls.map sg)),fz (cD a),fz (cD b),fz (mF (lets bd W ls) (qm bd.length W w (lets bd W ls)))]) ((aM ((aj (ds:=[brd bd,cL (lets bd W ls),iW w]) (aZ rfl (aZ ?_ (aZ rfl rfl))) rfl).trans e1)).trans rfl)
   (ao (fL (gi (b:=false) ((aL (x:=cD a) (y:=mF (lets bd W ls) (qm bd.length W w (lets bd W ls))) rfl rfl).trans L7)) rfl) (a6 ?_))))))))
  ·refine bJ (ds:=(aU bd.length W).map cD) ?_ (eY cD (λx=>decide (lt bd x∈ls)) _ λx hx=>?_) (by rw[XB,cM];exact Yc lI (by decide))
   ·exact vV ((aj (ds:=[brd bd]) rfl rfl).trans (fk hg))
   ·have hi:l8 false (sg (lt bd x)) (.lst (ls.map sg))=ae (.bl (decide (lt bd x∈ls))):=by
     show (match anyF (sg (lt bd x)) (ls.map sg) with | some r=>ae (D.bl (if false then !r else r)) | none=>ag)=_;rw[qF];rfl
    have ht:cf (d2 (l8 false) (aw 2 bG (aC (dV 1) (aC (dV 0) aN))) (dV 3)) [fz (cD x),fz (brd bd),fz (iW w),fz (.lst (ls.map sg)),fz (cD a),fz (cD b),none]=ae (decide (lt bd x∈ls)):=gi ((aL (x:=sg (lt bd x)) (y:= .lst (ls.map sg)) ((aj (ds:=[brd bd,cD x]) rfl rfl).trans (fq hg (aJ.mp hx))) rfl).trans hi);rw[jB];show (cf (d2 (l8 false) (aw 2 bG (aC (dV 1) (aC (dV 0) aN))) (dV 3)) [fz (cD x),fz (brd bd),fz (iW w),fz (.lst (ls.map sg)),fz (cD a),fz (cD b),none]>>=_)=_;rw[ht];cases decide (lt bd x∈ls)<;>rfl
  ·show (aw 2 bW _ _>>=λd=>if uM d then dV 4 _>>=λk=>getM d k .non else ag)=_;rw[show aw 2 bW (aC (dV 5) (aC (dV 3) aN)) _=bW [mF (lets bd W ls) (qm bd.length W w (lets bd W ls)),cD a] from aj rfl rfl,h3];exact hr
 by_cases jG:b∈ks
 ·obtain⟨d,e2,e3⟩:=g1 jG;obtain⟨n,rfl,e4⟩:=xy e2;exact .inl ⟨n,(Kn (P:=(· ∈lets bd W ls)) hS hP hE).mp (h2.2 _ _ e4),go e3⟩
 ·exact .inr ⟨λj r=>jG ((h1 b).mpr ⟨j,(jg (P:=(· ∈lets bd W ls)) hS hP hE).1.mpr r⟩),go (g2 jG)⟩
end
section
variable{α:Type}{E:α->α->Prop}{df:α->α->Bool}{a x:α}
def chg(df:α->α->Bool)(y x:α):Nat:=if df y x then 1 else 0
def Cw(E:α->α->Prop)(df:α->α->Bool)(a:α):Nat->Nat->α->Prop
 |0,c,x=>x=a/\c=0
 |t+1,c,x=>∃y c',Cw E df a t c' y/\E y x/\c=c'+chg df y x
theorem Cw.trans{t c:Nat}{b:α}(h:Cw E df a t c b):∀{t' c':Nat}{x:α},Cw E df b t' c' x->Cw E df a (t+t') (c+c') x
 |0,_,_,⟨h1,h2⟩=>by subst h1 h2;exact h
 |t'+1,_,_,⟨y,c',h1,h2,h3⟩=>⟨y,c+c',h.trans h1,h2,by rw[h3];omega⟩
inductive Pw (E:α->α->Prop) (df:α->α->Bool) (a:α):List α->Nat->Prop
 |nil:Pw E df a [a] 0
 |cons {y:α}{l:List α}{c:Nat}(x:α):Pw E df a (y::l) c->E y x->Pw E df a (x::y::l) (c+chg df y x)
theorem Kh:∀{t c:Nat}{x:α},Cw E df a t c x->∃l,Pw E df a (x::l) c
 |0,_,_,⟨h1,h2⟩=>by subst h1 h2;exact⟨[], .nil⟩
 |t+1,_,x,⟨y,c',h1,h2,h3⟩=>by
  obtain⟨l,h⟩:=Kh h1;subst h3;exact⟨y::l, .cons x h h2⟩
theorem K4:∀{l:List α}{c:Nat},Pw E df a l c->∃x r,l=x::r/\Cw E df a r.length c x
 |_,_, .nil=>⟨a,[],rfl,rfl,rfl⟩
 |_,_, .cons (y:=y) x h e=>by
  obtain⟨x',r,h1,h2⟩:=K4 h;cases h1;exact⟨x,_,rfl,y,_,h2,e,rfl⟩
theorem Co:∀{l:List α}{c:Nat},Pw E df a l c->∀{x:α},x∈l->∃r c',Pw E df a (x::r) c'/\c'<=c/\(x::r).length<=l.length/\∀y∈x::r,y∈l
 |_,_, .nil,x,hx=>by
  cases X0.mp hx;exact⟨[],0, .nil,XM _,XM _,λy hy=>hy⟩
 |_,_, .cons (y:=y) (l:=l) (c:=c) z h e,x,hx=>by
  rcases XF.mp hx with rfl | hx
  ·exact⟨_,_, .cons x h e,XM _,XM _,λy hy=>hy⟩
  ·obtain⟨r,c',h1,h2,h3,h4⟩:=Co h hx;exact⟨r,c',h1,by omega,by rw[XH (a:=z)];omega,λy hy=>Xz _ (h4 y hy)⟩
theorem oz[DecidableEq α]:∀(n:Nat) {l:List α}{x:α}{c:Nat},l.length<=n->Pw E df a (x::l) c->∃r c',Pw E df a (x::r) c'/\c'<=c/\(x::r).Nodup/\∀y∈x::r,y∈x::l
 |n,[],x,c,_,h=>⟨[],c,h,XM _,by simp,λy hy=>hy⟩
 |0,y::l,x,c,hn,_=>aej hn (by simp)
 |n+1,y::l,x,_,hn, .cons (c:=c) _ h e=>by
  by_cases hx:x∈y::l
  ·obtain⟨r,c',h1,h2,h3,h4⟩:=Co h hx;obtain⟨r',c2,k1,k2,k3,k4⟩:=oz n (l:=r) (by rw[XH] at h3 hn;rw[XH] at h3;omega) h1;exact⟨r',c2,k1,by omega,k3,λz hz=>Xz _ (h4 z (k4 z hz))⟩
  ·obtain⟨r',c2,k1,k2,k3,k4⟩:=oz n (l:=l) (by rw[XH] at hn;omega) h;exact⟨y::r',_, .cons x k1 e,by omega,Yz.mpr ⟨λz=>hx (k4 x z),k3⟩,λz hz=>by
    rcases XF.mp hz with rfl | hz
    ·exact XA ..
    ·exact Xz _ (k4 z hz)⟩
theorem K5{P:α->Prop}(ha:P a)(hP:∀y x,E y x->P x):∀{l:List α}{c:Nat},Pw E df a l c->∀x∈l,P x
 |_,_, .nil,x,hx=>by cases X0.mp hx;exact ha
 |_,_, .cons z h e,x,hx=>by
  rcases XF.mp hx with rfl | hx
  ·exact hP _ _ e
  ·exact K5 ha hP h x hx
theorem EV[DecidableEq α]{U:List α}(ha:a∈U)(hP:∀y x,E y x->x∈U){t c:Nat}(h:Cw E df a t c x):∃t' c',Cw E df a t' c' x/\c'<=c/\t'<U.length:=by
 obtain⟨l,hl⟩:=Kh h;obtain⟨r,c',h1,h2,h3,h4⟩:=oz l.length (XM _) hl;obtain⟨x',r',e1,e2⟩:=K4 h1;cases e1;have:=de h3 (K5 (P:=(· ∈U)) ha hP h1);rw[XH] at this;exact⟨_,c',e2,h2,by omega⟩
end
section
variable{bd:List Str}{W w:Nat}{f:Cell->Nat}{a:Cell}
def dL(bd:List Str)(y x:Cell):Bool:=decide (lt bd x≠lt bd y)
theorem Rj(hw:Ways w)(hf:NumF bd W w f){y x:Cell}(h:Nx bd.length W w y x):dL bd y x=decide (f y≠f x):=by
 unfold dL;have e:lt bd x=lt bd y↔f y=f x:=(show lt bd x=lt bd y↔Cn bd W w y x from⟨λe=>Cn.refl.step ((fb hw).mpr ⟨h.2.1,h.2.2,e⟩),λq=>q.letter hw⟩).trans (hf.cn hw h.1 h.2.1).symm;exact aep.mpr (not_congr e)
theorem Ki(hw:Ways w)(hf:NumF bd W w f):∀{t c:Nat}{x:Cell},Cw (Nx bd.length W w) (dL bd) a t c x->Rr (Ad bd.length W w f) (f a) c (f x)
 |0,_,_,⟨h1,h2⟩=>by subst h1 h2;rfl
 |t+1,_,x,⟨y,c',h1,h2,h3⟩=>by
  have r:=Ki hw hf h1;rw[h3];unfold chg;rw[Rj hw hf h2];by_cases e:f y=f x
  ·rw[aeh (by simp[e]),<-e];exact r
  ·rw[aeg (aei e)];exact .inr ⟨f y,r,e,y,x,h2,rfl,rfl⟩
theorem Bs(hw:Ways w){y:Cell}(hy:On bd.length W y):∀{j:Nat}{x:Cell},Rb (bw bd W w) y j x->On bd.length W x/\∃t,Cw (Nx bd.length W w) (dL bd) y t 0 x
 |0,_,r=>by cases r;exact⟨hy,0,rfl,rfl⟩
 |j+1,x, .inl r=>Bs hw hy r
 |j+1,x, .inr ⟨z,r,q⟩=>by
  obtain⟨h1,t,h2⟩:=Bs hw hy r;obtain⟨q1,q2,q3⟩:=(fb hw).mp q;refine⟨q1,t+1,z,0,h2,⟨h1,q1,q2⟩,?_⟩;unfold chg dL;rw[aeh (by simp[q3])]
theorem Cs(hw:Ways w)(hf:NumF bd W w f)(ha:On bd.length W a):∀{n:Nat}{m:Nat},Rr (Ad bd.length W w f) (f a) n m->∀x,On bd.length W x->f x=m->∃t c,c<=n/\Cw (Nx bd.length W w) (dL bd) a t c x
 |0,m,r,x,hx,e=>by
  cases (show m=f a from r);obtain⟨j,hj⟩:=(hf.cn hw ha hx).mp e.symm;obtain⟨_,t,ht⟩:=Bs hw ha hj;exact⟨t,0,XM _,ht⟩
 |n+1,m, .inl r,x,hx,e=>by
  obtain⟨t,c,h1,h2⟩:=Cs hw hf ha r x hx e;exact⟨t,c,by omega,h2⟩
 |n+1,m, .inr ⟨k,r,_,p,q,h1,h2,h3⟩,x,hx,e=>by
  obtain⟨t,c,k1,k2⟩:=Cs hw hf ha r p h1.1 h2;obtain⟨j,hj⟩:=(hf.cn hw h1.2.1 hx).mp (h3.trans e.symm);obtain⟨_,t',ht⟩:=Bs hw h1.2.1 hj;have s:Cw (Nx bd.length W w) (dL bd) a (t+1) (c+chg (dL bd) p q) q:=⟨p,c,k2,h1,rfl⟩
  have hc:chg (dL bd) p q<=1:=by unfold chg;split<;>omega
  exact⟨_,_,by omega,s.trans ht⟩
theorem Ou(hw:Ways w)(hf:NumF bd W w f)(ha:On bd.length W a){x:Cell}(hx:On bd.length W x){n v:Nat}(hn:Dr (Ad bd.length W w f) (f a) (f x) n)(h1:∃t,Cw (Nx bd.length W w) (dL bd) a t v x)(h2:∀t c,Cw (Nx bd.length W w) (dL bd) a t c x->v<=c):v=n:=by
 obtain⟨t,ht⟩:=h1;obtain⟨t',c,k1,k2⟩:=Cs hw hf ha hn.1 x hx rfl;exact aay (Yc (h2 _ _ k2) k1) (hn.2 _ (Ki hw hf ht))
end
section
variable{bd:List Str}{W w:Nat}{a:Cell}
structure BF (bd:List Str) (W w:Nat) (a:Cell) (ks:List Cell) (v:Cell->Nat):Prop where
 nd:ks.Nodup
 on:∀x∈ks,On bd.length W x
 snd:∀x∈ks,∃t,Cw (Nx bd.length W w) (dL bd) a t (v x) x
 lt:∀x∈ks,v x<ks.length
def jo(bd:List Str)(ks:List Cell)(v:Cell->Nat)(c x:Cell):Nat:=min (if x∈ks then v x else 99) (v c+chg (dL bd) c x)
def nh(v:Cell->Nat)(x:Cell)(n:Nat):Cell->Nat:=λy=>if y=x then n else v y
theorem BF.len{ks:List Cell}{v:Cell->Nat}(h:BF bd W w a ks v):ks.length<=bd.length*W:=fU h.nd h.on
theorem H_(ks:List Cell)(x:Cell):ks.length<=(bz ks x).length:=by
 unfold bz;split
 ·exact XM _
 ·simp
theorem BF.step{ks:List Cell}{v:Cell->Nat}(h:BF bd W w a ks v)(hs:bd.length*W<64){c x:Cell}(hc:c∈ks)(hx:On bd.length W x)(hn:lT w c x=true):
 BF bd W w a (bz ks x) (nh v x (jo bd ks v c x))/\(∀y∈ks,nh v x (jo bd ks v c x) y<=v y)/\nh v x (jo bd ks v c x) x<=v c+chg (dL bd) c x:=by
 have hl:=h.len;have WC:=h.lt c hc;have Ft:chg (dL bd) c x<=1:=by unfold chg;split<;>omega
 have VC:=H_ ks x;have self:nh v x (jo bd ks v c x) x=jo bd ks v c x:=aeg rfl;have HY:∀y,y≠x->nh v x (jo bd ks v c x) y=v y:=λy hy=>aeh hy;have Wi:jo bd ks v c x<=v c+chg (dL bd) c x:=Nat.min_le_right ..;have Uh:x∈ks->jo bd ks v c x<=v x:=λDf=>by unfold jo;rw[aeg Df];exact Nat.min_le_left ..
 have Wj:x∉ks->jo bd ks v c x=v c+chg (dL bd) c x:=λDf=>by unfold jo;rw[aeh Df];omega
 have Wk:(x∈ks/\jo bd ks v c x=v x)\/jo bd ks v c x=v c+chg (dL bd) c x:=by
  by_cases Df:x∈ks
  ·unfold jo;rw[aeg Df];rcases aa0 (v x) (v c+chg (dL bd) c x) with q | q
   ·exact .inl ⟨Df,aax q⟩
   ·exact .inr (Nat.min_eq_right q)
  ·exact .inr (Wj Df)
 refine⟨⟨(jd [x] ks).1 h.nd,λy hy=>?_,λy hy=>?_,λy hy=>?_⟩,λy hy=>?_,by rw[self];exact Wi⟩
 ·rcases da.mp hy with q | q
  ·exact h.on y q
  ·rw[q];exact hx
 ·by_cases e:y=x
  ·subst e;rw[self];rcases Wk with⟨q1,q2⟩ | q
   ·rw[q2];exact h.snd y q1
   ·obtain⟨t,ht⟩:=h.snd c hc;exact⟨t+1,c,v c,ht,⟨h.on c hc,hx,hn⟩,q⟩
  ·rw[HY y e];exact h.snd y ((da.mp hy).resolve_right e)
 ·by_cases e:y=x
  ·subst e;rw[self];by_cases q:y∈ks
   ·have:=Uh q;have:=h.lt y q;omega
   ·have e2:(bz ks y).length=ks.length+1:=by unfold bz;rw[aeh q];simp
    omega
  ·rw[HY y e];have:=h.lt y ((da.mp hy).resolve_right e);omega
 ·by_cases e:y=x
  ·subst e;rw[self];exact Uh hy
  ·rw[HY y e];exact XM _
def qf(bd:List Str)(w:Nat)(a:Cell)(ks:List Cell)(v:Cell->Nat)(t:Option Sl)(c5 c6 c7:Option Sl):aX:=[fz (brd bd),fz (iW w),fz (cD a),some (.ow (z4 ks λy=>nI (v y))),t,c5,c6,c7]
theorem sV(hg:Brd bd W){x:Cell}(hx:On bd.length W x):bQ [brd bd,cD x]=ae (sg (lt bd x)):=ba (a6 (J0 hg hx rfl rfl))
theorem MK(a b:Nat):ib (sg a) (sg b)=ae (.bl (!decide (a=b))):=by
 show (match kz 6 (sg a) (sg b) with | some r=>ae (D.bl (!r)) | none=>ag)=_;rw[Fb]
theorem MH(n m:Nat):tV [nI n,nI m]=ae (nI (min n m)):=by
 unfold tV nI
 dsimp only
 split<;>(congr 2;omega)
theorem CA{v:Cell->Nat}{x:Cell}{n:Nat}:fN (λy=>nI (v y)) x (nI n)=λy=>nI (nh v x n y):=by
 funext y;unfold fN nh;split<;>rfl
theorem Ls(hg:Brd bd W)(hs:bd.length*W<64){ks:List Cell}{v:Cell->Nat}(h:BF bd W w a ks v){t:Option Sl}{c x:Cell}(hc:c∈ks)(hx:On bd.length W x):
 Rg (qf bd w a ks v t (fz (cD c)) (fz (cD x)) none)=ae (.nx (qf bd w a (bz ks x) (nh v x (jo bd ks v c x)) t (fz (cD c)) none none)):=by
 have hl:=h.len;have hb:Lu (d2 dN (d2 eI (dV 3) (dV 5)) (dA IY (aC (d2 ib (aw 2 bQ (aC (dV 0) (aC (dV 6) aN))) (aw 2 bQ (aC (dV 0) (aC (dV 5) aN)))) aN))) (qf bd w a ks v t (fz (cD c)) (fz (cD x)) none)=ae (nI (v c+chg (dL bd) c x)):=by
  refine EZ ((aL (x:=nI (v c)) (y:=nI (chg (dL bd) c x)) ((aL (x:=kT ks λy=>nI (v y)) (y:=cD c) rfl rfl).trans (nT (f:=λy=>nI (v y)) hc)) ((eD (xs:=[.bl (!decide (lt bd x=lt bd c))]) (aZ ((aL (x:=sg (lt bd x)) (y:=sg (lt bd c)) ((aj (ds:=[brd bd,cD x]) rfl rfl).trans (sV hg hx)) ((aj (ds:=[brd bd,cD c]) rfl rfl).trans (sV hg (h.on c hc)))).trans (MK _ _)) rfl)).trans ?_)).trans ?_) rfl
  ·show ae (D.int (if (!decide (lt bd x=lt bd c))=true then 1 else 0))=_;unfold nI chg dL;by_cases e:lt bd x=lt bd c<;>simp[e]
  ·show ae (D.int _)=_;unfold nI;congr 2
 have hm:Lu (dA tV (aC (EY (dV 3) (dV 6) (dC (.int 99))) (aC (dV 7) aN))) (qf bd w a ks v t (fz (cD c)) (fz (cD x)) (fz (nI (v c+chg (dL bd) c x))))=ae (nI (jo bd ks v c x)):=by
  refine EZ ((eD (xs:=[nI (if x∈ks then v x else 99),nI (v c+chg (dL bd) c x)]) (aZ ?_ (aZ rfl rfl))).trans (MH _ _)) rfl;show getM (kT ks λy=>nI (v y)) (cD x) (.int 99)=_;by_cases q:x∈ks
  ·rw[BL q,aeg q]
  ·rw[rl q,aeh q];rfl
 refine(a8 (ρ':=qf bd w a (bz ks x) (nh v x (jo bd ks v c x)) t (fz (cD c)) (fz (cD x)) (fz (nI (v c+chg (dL bd) c x)))) (ao (ρ':=qf bd w a ks v t (fz (cD c)) (fz (cD x)) (fz (nI (v c+chg (dL bd) c x)))) ((aM hb).trans rfl) ?_)).trans rfl;refine(qu (ks:=ks) (f:=λy=>nI (v y)) (x:=x) rfl hm rfl (by rw[cM];omega)).trans ?_;rw[CA];rfl
end
section
variable{bd:List Str}{W w:Nat}{a:Cell}
def Mo(ks:List Cell)(v:Cell->Nat)(ks':List Cell)(v':Cell->Nat):Prop:=∀y∈ks,y∈ks'/\v' y<=v y
theorem Mo.trans{ks KO FX:List Cell}{v v1 v2:Cell->Nat}(h:Mo ks v KO v1)(h2:Mo KO v1 FX v2):Mo ks v FX v2:=λy hy=>⟨(h2 y (h y hy).1).1,Yc (h2 y (h y hy).1).2 (h y hy).2⟩
theorem Kg(hg:Brd bd W)(hs:bd.length*W<64){t:Option Sl}{c:Cell}:∀(l ks:List Cell) (v:Cell->Nat),(∀x∈l,On bd.length W x/\lT w c x=true)->BF bd W w a ks v->c∈ks->
 ∃ks' v',BF bd W w a ks' v'/\Mo ks v ks' v'/\(∀x∈l,x∈ks'/\v' x<=v c+chg (dL bd) c x)/\forL (putN 6) Rg (l.map cD) (qf bd w a ks v t (fz (cD c)) none none)=ae (.nx (qf bd w a ks' v' t (fz (cD c)) none none))
 |[],ks,v,_,h,_=>⟨ks,v,h,λy hy=>⟨hy,XM _⟩,(λx hx=>by cases hx),rfl⟩
 |x::l,ks,v,hl,h,hc=>by
  obtain⟨x1,x2⟩:=hl x (XA ..);obtain⟨b1,b2,b3⟩:=h.step hs hc x1 x2;have m1:Mo ks v (bz ks x) (nh v x (jo bd ks v c x)):=λy hy=>⟨da.mpr (.inl hy),b2 y hy⟩
  obtain⟨ks',v',c1,c2,c3,c4⟩:=Kg hg hs (t:=t) l _ _ (λy hy=>hl y (Xz _ hy)) b1 (m1 c hc).1;have WC:=(m1 c hc).2;refine⟨ks',v',c1,m1.trans c2,λy hy=>?_,(bZ (ρ1:=qf bd w a ks v t (fz (cD c)) (fz (cD x)) none) rfl (Ls hg hs h hc x1)).trans c4⟩;rcases XF.mp hy with rfl | hy
  ·have:=c2 y (da.mpr (.inr rfl));exact⟨this.1,by omega⟩
  ·have:=c3 y hy;exact⟨this.1,by omega⟩
theorem ER(hg:Brd bd W)(hs:bd.length*W<64)(hw:Ways w){t:Option Sl}:∀(l ks:List Cell) (v:Cell->Nat),(∀x∈l,x∈ks)->BF bd W w a ks v->
 ∃ks' v',BF bd W w a ks' v'/\Mo ks v ks' v'/\(∀c∈l,∀x,Nx bd.length W w c x->x∈ks'/\v' x<=v c+chg (dL bd) c x)/\forL (putN 5) To (l.map cD) (qf bd w a ks v t none none none)=ae (.nx (qf bd w a ks' v' t none none none))
 |[],ks,v,_,h=>⟨ks,v,h,λy hy=>⟨hy,XM _⟩,(λx hx=>by cases hx),rfl⟩
 |c::l,ks,v,hl,h=>by
  have hc:=hl c (XA ..);have eW:=h.on c hc;obtain⟨k1,v1,b1,b2,b3,b4⟩:=Kg hg hs (t:=t) (c:=c) (kS bd.length W w c) ks v (λx hx=>(iz hw eW).mp hx) h hc;obtain⟨ks',v',c1,c2,c3,c4⟩:=ER hg hs hw (t:=t) l k1 v1 (λx hx=>(b2 x (hl x (Xz _ hx))).1) b1;refine⟨ks',v',c1,b2.trans c2,λd hd x hx=>?_,(bZ (ρ1:=qf bd w a ks v t (fz (cD c)) none none) (ρ2:=qf bd w a k1 v1 t none none none) rfl ((a8 (ρ':=qf bd w a k1 v1 t (fz (cD c)) none none) (dY (vV ((aj (ds:=[brd bd,cD c,iW w]) rfl rfl).trans (jK hg))) b4)).trans rfl)).trans c4⟩;rcases XF.mp hd with rfl | hd
  ·have q1:=b3 x ((iz hw eW).mpr ⟨hx.2.1,hx.2.2⟩);have q2:=c2 x q1.1;exact⟨q2.1,by omega⟩
  ·have q1:=c3 d hd x hx;have q2:=b2 d (hl d (Xz _ hd));exact⟨q1.1,by omega⟩
def Oa(bd:List Str)(W w:Nat)(a:Cell)(T:Nat)(ks:List Cell)(v:Cell->Nat):Prop:=∀t c x,t<=T->Cw (Nx bd.length W w) (dL bd) a t c x->x∈ks/\v x<=c
theorem Ij(hg:Brd bd W)(hs:bd.length*W<64)(hw:Ways w){n T:Nat}{ks:List Cell}{v:Cell->Nat}(h:BF bd W w a ks v)(hT:Oa bd W w a T ks v):
 ∃ks' v',BF bd W w a ks' v'/\Oa bd W w a (T+1) ks' v'/\Rh (qf bd w a ks v (fz (nI n)) none none none)=ae (.nx (qf bd w a ks' v' none none none none)):=by
 have hl:=h.len;obtain⟨ks',v',c1,c2,c3,c4⟩:=ER hg hs hw (t:=fz (nI n)) (lx ks) ks v (λx hx=>kI.mp hx) h;refine⟨ks',v',c1,λt c x ht hx=>?_,(a8 (ρ':=qf bd w a ks' v' (fz (nI n)) none none none) (dY (vV (l:=lx ks) (Bu rfl ((eD (xs:=[kT ks λy=>nI (v y)]) (aZ rfl rfl)).trans (zq h.nd (by omega))))) c4)).trans rfl⟩;cases t with
 |zero=>
  have q:=hT 0 c x (Ys _) hx;have q2:=c2 x q.1;exact⟨q2.1,by omega⟩
 |succ t=>
  obtain⟨y,c',h1,h2,h3⟩:=hx;have q:=hT t c' y (by omega) h1;have q2:=c3 y (kI.mpr q.1) x h2;exact⟨q2.1,by omega⟩
theorem EO(hg:Brd bd W)(hs:bd.length*W<64)(hw:Ways w):∀(l:List Nat) (T:Nat) (ks:List Cell) (v:Cell->Nat),BF bd W w a ks v->Oa bd W w a T ks v->
 ∃ks' v',BF bd W w a ks' v'/\Oa bd W w a (T+l.length) ks' v'/\forL (putN 4) Rh (l.map nI) (qf bd w a ks v none none none none)=ae (.nx (qf bd w a ks' v' none none none none))
 |[],T,ks,v,h,hT=>⟨ks,v,h,hT,rfl⟩
 |n::l,T,ks,v,h,hT=>by
  obtain⟨k1,v1,b1,b2,b3⟩:=Ij hg hs hw (n:=n) h hT;obtain⟨ks',v',c1,c2,c3⟩:=EO hg hs hw l (T+1) k1 v1 b1 b2;exact⟨ks',v',c1,by rw[XH,show T+(l.length+1)=T+1+l.length by omega];exact c2,(bZ (ρ1:=qf bd w a ks v (fz (nI n)) none none none) rfl b3).trans c3⟩
theorem p0(hg:Brd bd W)(hs:bd.length*W<64)(hw:Ways w)(ha:On bd.length W a){f:Cell->Nat}(hf:NumF bd W w f):
 ∃(ks:List Cell) (v:Cell->Nat),dW [brd bd,iW w,cD a]=ae (kT ks λy=>nI (v y))/\∀x,On bd.length W x->x∈ks/\∀n,Dr (Ad bd.length W w f) (f a) (f x) n->v x=n:=by
 have h0:BF bd W w a [a] (λ_=>0):=⟨by simp,λx hx=>by cases X0.mp hx;exact ha,λx hx=>by cases X0.mp hx;exact⟨0,rfl,rfl⟩,λx hx=>by simp⟩
 have Vp:Oa bd W w a 0 [a] (λ_=>0):=λt c x ht hx=>by
  obtain rfl:t=0:=by omega
  obtain⟨rfl,rfl⟩:=hx;exact⟨by simp,XM _⟩
 obtain⟨ks,v,b1,b2,b3⟩:=EO hg hs hw (Yg (bd.length*W)) 0 [a] (λ_=>0) h0 Vp;rw[Zq,Z8] at b2;refine⟨ks,v,?_,λx hx=>?_⟩
 ·have Se:(λρ=>(aC (d2 gS (dA bF (aC (dV 0) aN)) (dA bF (aC (d2 bb (dV 0) (dC (.int 0))) aN))) aN) ρ>>=g8) (qf bd w a [a] (λ_=>0) none none none none)=ae ((Yg (bd.length*W)).map nI):=by
   have mu:d2 gS (dA bF (aC (dV 0) aN)) (dA bF (aC (d2 bb (dV 0) (dC (.int 0))) aN)) (qf bd w a [a] (λ_=>0) none none none none)=ae (.int ((bd.length*W:Nat):Int)):=(aL (Dp (i:=0) rfl) (hg.len0 (i:=0) rfl)).trans ((fH (.inl ⟨by omega,by have:=hg.r8;omega⟩)).trans (by rw[Int.natCast_mul]));exact He mu (by omega)
  refine ba (ao (ρ':=qf bd w a [a] (λ_=>0) none none none none) rfl (ao (ρ':=qf bd w a ks v none none none none) (zc Se b3) ?_));rfl
 ·have LW:∀x,On bd.length W x->∃t c,Cw (Nx bd.length W w) (dL bd) a t c x:=λx hx=>by
   obtain⟨t,c,_,h⟩:=Cs hw hf ha (sO (f:=f) (Kt hw ha hx).1) x hx rfl;exact⟨t,c,h⟩
  have short:∀{t c:Nat},Cw (Nx bd.length W w) (dL bd) a t c x->x∈ks/\v x<=c:=λ{t c} h=>by
   obtain⟨t',c',k1,k2,k3⟩:=EV (U:=aU bd.length W) (aJ.mpr ha) (λy x e=>aJ.mpr e.2.1) h;rw[b0] at k3;have:=b2 t' c' x (by omega) k1;exact⟨this.1,by omega⟩
  obtain⟨t,c,h⟩:=LW x hx;have jG:=(short h).1;exact⟨jG,λn hn=>Ou hw hf ha hx hn (b1.snd x jG) λt c h=>(short h).2⟩
end
section
variable{α:Type}{E:α->α->Prop}{a x:α}
theorem Rr.dr:∀{j:Nat}{x:α},Rr E a j x->∃n,n<=j/\Dr E a x n:=λ{j x}=>by
 induction j using Nat.strongRecOn with
 |_ j ih=>
  intro h;by_cases q:∃i,i<j/\Rr E a i x
  ·obtain⟨i,h1,h2⟩:=q;obtain⟨n,h3,h4⟩:=ih i h1 h2;exact⟨n,by omega,h4⟩
  ·exact⟨j,XM _,h,λi hi=>Nat.le_of_not_lt λz=>q ⟨i,z,hi⟩⟩
theorem Dr.pred{k:Nat}(h:Dr E a x (k+1)):∃y,Dr E a y k/\E y x:=by
 rcases h.1 with r | ⟨y,r,e⟩
 ·have:=h.2 k r;omega
 ·exact⟨y,⟨r,λj hj=>by have:=h.2 (j+1) (.inr ⟨y,hj,e⟩);omega⟩,e⟩
theorem Dr.down{k:Nat}:∀{m:Nat}{x:α},k<=m->Dr E a x m->∃y,Dr E a y k
 |0,x,h,q=>by obtain rfl:k=0:=by omega
              exact⟨x,q⟩
 |m+1,x,h,q=>by
  by_cases e:k=m+1
  ·subst e;exact⟨x,q⟩
  ·obtain⟨y,h1,_⟩:=q.pred;exact Dr.down (by omega) h1
end
theorem xV(L:List Cell):∀(l:List (List Int)),(∀k∈l,k∈L.map ic)->∃U:List Cell,l=U.map ic/\∀c∈U,c∈L
 |[],_=>⟨[],rfl,λc hc=>by cases hc⟩
 |k::l,h=>by
  obtain⟨c,hc,e⟩:=XS.mp (h k (XA ..));obtain⟨U,h1,h2⟩:=xV L l λk hk=>h k (Xz _ hk);exact⟨c::U,by rw[h1,<-e];rfl,λd hd=>by
   rcases XF.mp hd with rfl | hd
   ·exact hc
   ·exact h2 d hd⟩
theorem wc{α β:Type}{f:α->β}{l:List α}(h:(l.map f).Nodup):l.Nodup:=by
 rw[Zc,aaD] at h;exact h.imp λ{x y} q z=>q (aeo f z)
theorem zr{R W:Nat}(hR:R<=8)(hW:W<=8)(hs:R*W<64){l:List Cell}(eW:∀x∈l,On R W x):∃S:List Cell,eS (cL l)=ae (cL S)/\RiseC S/\∀x,x∈S↔x∈l:=by
 obtain⟨U,h1,h2⟩:=xV l (tH (l.map ic)) λk hk=>qk.mp hk;have hn:U.Nodup:=wc (f:=ic) (h1▸Lx (l.map ic));have hm:∀x,x∈U↔x∈l:=λx=>by
  refine⟨h2 x,λhx=>?_⟩;have:ic x∈U.map ic:=by rw[<-h1];exact qk.mpr (XS.mpr ⟨x,hx,rfl⟩)
  obtain⟨y,hy,e⟩:=XS.mp this;rw[<-rA e];exact hy
 have hl:U.length<64:=by
  have:U.length<=(aU R W).length:=de hn λx hx=>aJ.mpr (eW x (h2 x hx));rw[b0] at this;omega
 refine⟨lx U,?_,sX hn,λx=>kI.trans (hm x)⟩;show (match iU (l.map cD) with | some ks=>if fe (tH ks)=true/\((tH ks).map fI).Nodup then ae (D.lst ((sortI (tH ks)).map tupI)) else ag | none=>ag)=_;rw[yp]
 dsimp only
 rw[h1];refine(aeg ⟨KZ hn hl,by rw[Yv];exact BN hR hW hn λx hx=>eW x (h2 x hx)⟩).trans ?_;rw[ng,Yv];rfl
section
variable{bd:List Str}{W w:Nat}{a:Cell}{ls:List Nat}
def ji(bd:List Str)(w:Nat)(ls:List Nat)(a:Cell)(ks:List Cell)(v:Cell->Nat)(S:List Cell)(k:Nat)(c7 c8 c9:Option Sl):aX:=[fz (brd bd),fz (iW w),fz (.lst (ls.map sg)),fz (cD a),some (.ow (z4 ks λy=>nI (v y))),fz (cL S),fz (nI k),c7,c8,c9]
def UH:DS:=(ck [7] (fT 4 (dV 7) (dV 6)))
theorem Hy{S:List Cell}{k:Nat}{c8 c9:Option Sl}:∀(l ks:List Cell) (v:Cell->Nat),ks.length+l.length<=4095->
 ∃ks' v',(ks.Nodup->ks'.Nodup)/\(∀x,x∈ks'↔x∈ks\/x∈l)/\(∀x,v' x=if x∈l then k else v x)/\forL (putN 7) UH (l.map cD) (ji bd w ls a ks v S k none c8 c9)=ae (.nx (ji bd w ls a ks' v' S k none c8 c9))
 |[],ks,v,_=>⟨ks,v,λh=>h,λx=>by simp,λx=>by simp,rfl⟩
 |y::l,ks,v,hl=>by
  rw[XH] at hl;have ha:(bz ks y).length<=ks.length+1:=(jd [y] ks).2.2;obtain⟨ks',v',h1,h2,h3,h4⟩:=Hy (S:=S) (k:=k) (c8:=c8) (c9:=c9) l (bz ks y) (nh v y k) (by omega);refine⟨ks',v',λh=>h1 ((jd [y] ks).1 h),λx=>?_,λx=>?_,(bZ (ρ1:=ji bd w ls a ks v S k (fz (cD y)) c8 c9) (ρ2:=ji bd w ls a (bz ks y) (nh v y k) S k none c8 c9) rfl ((a8 (ρ':=ji bd w ls a (bz ks y) (nh v y k) S k (fz (cD y)) c8 c9) ?_).trans rfl)).trans h4⟩
  ·rw[h2,da,XF];constructor
   ·rintro((q | q) | q)
    ·exact .inl q
    ·exact .inr (.inl q)
    ·exact .inr (.inr q)
   ·rintro(q | q | q)
    ·exact .inl (.inl q)
    ·exact .inl (.inr q)
    ·exact .inr q
  ·rw[h3];unfold nh;by_cases q:x∈l
   ·rw[aeg q,aeg (Xz _ q)]
   ·rw[aeh q];by_cases e:x=y
    ·subst e;rw[aeg rfl,aeg (XA ..)]
    ·rw[aeh e,aeh λz=>(XF.mp z).elim e q]
  ·refine(qu (ks:=ks) (f:=λy=>nI (v y)) (x:=y) (d:=nI k) rfl rfl rfl (by rw[cM];omega)).trans ?_;rw[CA];rfl
theorem vQ(c:Nat):l8 false (sg c) (.lst (ls.map sg))=ae (.bl (decide (c∈ls))):=by
 show (match anyF (sg c) (ls.map sg) with | some r=>ae (D.bl (if false then !r else r)) | none=>ag)=_;rw[qF];rfl
def ql(bd:List Str)(W w:Nat)(ls:List Nat)(c:Cell):List Cell:=(kS bd.length W w c).filter λx=>decide (lt bd x∈ls)
theorem Hx(hg:Brd bd W)(hw:Ways w){ks:List Cell}{v:Cell->Nat}{S:List Cell}{k:Nat}:∀(l v4:List Cell),(∀x∈l,On bd.length W x)->v4.length+9*l.length<=4096->
 forL (putN 7) stC (l.map cD) (ji bd w ls a ks v S k none (fz (cL v4)) none)=ae (.nx (ji bd w ls a ks v S k none (fz (cL (v4++l.flatMap (ql bd W w ls)))) none))
 |[],v4,_,_=>by rw[List.flatMap_nil,YF];rfl
 |c::l,v4,eW,hl=>by
  rw[XH] at hl;have hc:=eW c (XA ..);have Vn:=qJ bd.length W w c;have V4:(ql bd W w ls c).length<=9:=Yc (Y1 ..) Vn;have ih:=Hx hg hw (ks:=ks) (v:=v) (S:=S) (k:=k) l (v4++ql bd W w ls c) (λx hx=>eW x (Xz _ hx)) (by rw[XR];omega);rw[ZM,<-Zb];have OL:bA 0 (cR (dV 9)) (cf (d2 (l8 false) (aw 2 bQ (aC (dV 1) (aC (dV 0) aN))) (dV 3))) (dV 0) (ji bd w ls a ks v S k (fz (cD c)) (fz (cL v4)) (fz (cL (kS bd.length W w c))))=ae (cL (ql bd W w ls c)):=by
   refine bJ (ds:=(kS bd.length W w c).map cD) rfl (eY cD (λx=>decide (lt bd x∈ls)) _ λx hx=>?_) (by rw[XB,cM];exact Yc V4 (by decide));have Df:=((iz hw hc).mp hx).1;have ht:cf (d2 (l8 false) (aw 2 bQ (aC (dV 1) (aC (dV 0) aN))) (dV 3)) (fz (cD x)::ji bd w ls a ks v S k (fz (cD c)) (fz (cL v4)) (fz (cL (kS bd.length W w c))))=ae (decide (lt bd x∈ls)):=gi ((aL (x:=sg (lt bd x)) (y:= .lst (ls.map sg)) ((aj (ds:=[brd bd,cD x]) rfl rfl).trans (sV hg Df)) rfl).trans (vQ _));rw[jB,ht];cases decide (lt bd x∈ls)<;>rfl
  exact(bZ (ρ1:=ji bd w ls a ks v S k (fz (cD c)) (fz (cL v4)) none) (ρ2:=ji bd w ls a ks v S k none (fz (cL (v4++ql bd W w ls c))) none) rfl ((a8 (ρ':=ji bd w ls a ks v S k (fz (cD c)) (fz (cL (v4++ql bd W w ls c))) (fz (cL (kS bd.length W w c)))) (ao (ρ':=ji bd w ls a ks v S k (fz (cD c)) (fz (cL v4)) (fz (cL (kS bd.length W w c)))) ((aM ((aj (ds:=[brd bd,cD c,iW w]) rfl rfl).trans (jK hg))).trans rfl) ((aM ((aL (x:=cL v4) rfl OL).trans (Lq (by omega)))).trans rfl))).trans rfl)).trans ih
structure Lp (bd:List Str) (W w:Nat) (ls:List Nat) (a:Cell) (k:Nat) (ks:List Cell) (v:Cell->Nat) (S:List Cell):Prop where
 nd:ks.Nodup
 key:∀x,x∈ks↔∃j,j<k/\Dr (ES W w (lets bd W ls)) a x j
 val:∀x∈ks,Dr (ES W w (lets bd W ls)) a x (v x)
 rise:RiseC S
 ring:∀x,x∈S↔Dr (ES W w (lets bd W ls)) a x k
 big:k<=ks.length
theorem Hg(ha:a∈lets bd W ls):∀{j:Nat}{x:Cell},Rr (ES W w (lets bd W ls)) a j x->x∈lets bd W ls
 |0,_,r=>by cases r;exact ha
 |j+1,x, .inl r=>Hg ha r
 |j+1,x, .inr ⟨y,_,e⟩=>e.2.1
def SV:DT:=cf (d2 ib (dV 5) (dA a_ aN))
def SU:DS:=(ck [7,8,9] (aB (cY (putN 7) (cR (dV 5)) UH) (aB (bu 8 (dA a_ aN)) (aB (JW [7] (cY (putN 7) (cR (dV 5)) stC)) (aB (bu 5 (Km (d1 eS (bA 0 (cR (dV 8)) (cf (d2 (fW true) (dV 0) (dV 5))) (dV 0))))) (bu 6 (d2 dN (dV 6) (dC (.int 1)))))))))
theorem J3(hg:Brd bd W)(hs:bd.length*W<64)(hw:Ways w)(ha:a∈lets bd W ls){k:Nat}{ks:List Cell}{v:Cell->Nat}{S:List Cell}(h:Lp bd W w ls a k ks v S)(hS:S≠[]):
 ∃ks' v' S',Lp bd W w ls a (k+1) ks' v' S'/\SU (ji bd w ls a ks v S k none none none)=ae (.nx (ji bd w ls a ks' v' S' (k+1) none none none)):=by
 have jG:∀{x:Cell}{n:Nat},Dr (ES W w (lets bd W ls)) a x n->x∈lets bd W ls:=λq=>Hg ha q.1;have eW:∀{x:Cell}{n:Nat},Dr (ES W w (lets bd W ls)) a x n->On bd.length W x:=λq=>(eJ.mp (jG q)).1;have IQ:∀x∈S,On bd.length W x:=λx hx=>eW ((h.ring x).mp hx);have R8:∀x∈ks,On bd.length W x:=λx hx=>let ⟨_,_,q⟩:=(h.key x).mp hx;eW q
 have l1:=fU h.rise.nodup IQ;have l2:=fU h.nd R8;obtain⟨ks',v',b1,b2,b3,b4⟩:=Hy (bd:=bd) (w:=w) (ls:=ls) (a:=a) (S:=S) (k:=k) (c8:=none) (c9:=none) S ks v (by omega);have b5:=Hx (ls:=ls) (a:=a) hg hw (ks:=ks') (v:=v') (S:=S) (k:=k) S [] IQ (by rw[YE];omega);rw[Yq] at b5;have pZ:∀x,x∈ks'↔∃j,j<k+1/\Dr (ES W w (lets bd W ls)) a x j:=λx=>by
  rw[b2,h.key,h.ring];constructor
  ·rintro(⟨j,h1,h2⟩ | q)
   ·exact⟨j,by omega,h2⟩
   ·exact⟨k,by omega,q⟩
  ·rintro⟨j,h1,h2⟩;by_cases e:j=k
   ·subst e;exact .inr h2
   ·exact .inl ⟨j,by omega,h2⟩
 have R9:∀x,x∈(S.flatMap (ql bd W w ls)).filter (λx=>!decide (x∈ks'))->On bd.length W x:=λx hx=>by
  obtain⟨c,hc,hx⟩:=aaL.mp (YA.mp hx).1;exact((iz hw (IQ c hc)).mp (YA.mp hx).1).1
 obtain⟨S',c1,c2,c3⟩:=zr hg.r8 hg.w8 hs R9;have O_:∀x,x∈S'↔Dr (ES W w (lets bd W ls)) a x (k+1):=λx=>by
  rw[c3,YA,aaL,Bool.not_eq_true',decide_eq_false_iff_not];constructor
  ·rintro⟨⟨c,hc,hx⟩,rp⟩;obtain⟨Um,Sm⟩:=YA.mp hx;have rm:=(h.ring c).mp hc;have hb:=(iz hw (IQ c hc)).mp Um;have e:ES W w (lets bd W ls) c x:=⟨jG rm,eJ.mpr ⟨hb.1,aek Sm⟩,hb.2⟩
   have r:Rr (ES W w (lets bd W ls)) a (k+1) x:= .inr ⟨c,rm.1,e⟩;refine⟨r,λj hj=>?_⟩;obtain⟨n,n1,n2⟩:=hj.dr;apply YK;intro z;exact rp ((pZ x).mpr ⟨n,by omega,n2⟩)
  ·intro q;obtain⟨y,q1,q2⟩:=q.pred;refine⟨⟨y,(h.ring y).mpr q1,YA.mpr ⟨(iz hw (eW q1)).mpr ⟨eW q,q2.2.2⟩,aei (eJ.mp q2.2.1).2⟩⟩,λz=>?_⟩;obtain⟨j,j1,j2⟩:=(pZ x).mp z;have:=j2.one q;omega
 refine⟨ks',v',S',⟨b1 h.nd,pZ,λx hx=>?_,c2,O_,?_⟩,?_⟩
 ·rw[b3];by_cases q:x∈S
  ·rw[aeg q];exact(h.ring x).mp q
  ·rw[aeh q];exact h.val x (((b2 x).mp hx).resolve_right q)
 ·cases S with
  |nil=>exact aej rfl hS
  |cons y S0=>
   have hy:y∉ks:=λz=>by
    obtain⟨j,j1,j2⟩:=(h.key y).mp z;have:=j2.one ((h.ring y).mp (XA ..));omega
   have:(y::ks).length<=ks'.length:=de (Yz.mpr ⟨hy,h.nd⟩) λx hx=>by
    rcases XF.mp hx with rfl | hx
    ·exact(b2 x).mpr (.inr (XA ..))
    ·exact(b2 x).mpr (.inl hx)
   rw[XH] at this;have:=h.big;omega
 ·have RG:Km (d1 eS (bA 0 (cR (dV 8)) (cf (d2 (fW true) (dV 0) (dV 5))) (dV 0))) (ji bd w ls a ks' v' S k none (fz (cL (S.flatMap (ql bd W w ls)))) none)=ae (cL S'):=by
   have hle:(S.flatMap (ql bd W w ls)).length<=4096:=by
    have:∀l:List Cell,(l.flatMap (ql bd W w ls)).length<=9*l.length:=by
     intro l;induction l with
     |nil=>simp
     |cons c l ih=>
      rw[ZM,XR,XH];have:(ql bd W w ls c).length<=9:=Yc (Y1 ..) (qJ bd.length W w c);omega
    have:=this S;omega
   have e:bA 0 (cR (dV 8)) (cf (d2 (fW true) (dV 0) (dV 5))) (dV 0) (tN (ji bd w ls a ks' v' S k none (fz (cL (S.flatMap (ql bd W w ls)))) none))=ae (cL ((S.flatMap (ql bd W w ls)).filter λx=>!decide (x∈ks'))):=by
    refine bJ (ds:=(S.flatMap (ql bd W w ls)).map cD) rfl (eY cD (λx=>!decide (x∈ks')) _ λx hx=>?_) (by rw[XB,cM];exact Yc (Y1 ..) hle);have ht:cf (d2 (fW true) (dV 0) (dV 5)) (fz (cD x)::tN (ji bd w ls a ks' v' S k none (fz (cL (S.flatMap (ql bd W w ls)))) none))=ae (!decide (x∈ks')):=gi ((aL (x:=cD x) (y:=kT ks' λy=>nI (v' y)) rfl rfl).trans (kE (by simp)));rw[jB,ht];cases decide (x∈ks')<;>rfl
   refine Bu rfl ?_;show (bA 0 (cR (dV 8)) (cf (d2 (fW true) (dV 0) (dV 5))) (dV 0) (tN (ji bd w ls a ks' v' S k none (fz (cL (S.flatMap (ql bd W w ls)))) none))>>=eS)=_;rw[e];exact c1
  have O0:bu 6 (d2 dN (dV 6) (dC (.int 1))) (ji bd w ls a ks' v' S' k none (fz (cL (S.flatMap (ql bd W w ls)))) none)=ae (.nx (ji bd w ls a ks' v' S' (k+1) none (fz (cL (S.flatMap (ql bd W w ls)))) none)):=
   (aM ((aL (x:=nI k) (y:= .int 1) rfl rfl).trans (show dN (nI k) (.int 1)=ae (nI (k+1)) from rfl))).trans rfl
  have Sh:bu 5 (Km (d1 eS (bA 0 (cR (dV 8)) (cf (d2 (fW true) (dV 0) (dV 5))) (dV 0)))) (ji bd w ls a ks' v' S k none (fz (cL (S.flatMap (ql bd W w ls)))) none)=ae (.nx (ji bd w ls a ks' v' S' k none (fz (cL (S.flatMap (ql bd W w ls)))) none)):=(aM RG).trans rfl;have De:JW [7] (cY (putN 7) (cR (dV 5)) stC) (ji bd w ls a ks' v' S k none (fz (cL [])) none)=ae (.nx (ji bd w ls a ks' v' S k none (fz (cL (S.flatMap (ql bd W w ls)))) none)):=by
   show cY (putN 7) (cR (dV 5)) stC (ji bd w ls a ks' v' S k none (fz (cL [])) none)=_;exact dY (ds:=S.map cD) rfl b5
  exact(a8 (ρ':=ji bd w ls a ks' v' S' (k+1) none (fz (cL (S.flatMap (ql bd W w ls)))) none) (ao (ρ':=ji bd w ls a ks' v' S k none none none) (dY (ds:=S.map cD) rfl b4) (ao (ρ':=ji bd w ls a ks' v' S k none (fz (cL [])) none) rfl (ao (ρ':=ji bd w ls a ks' v' S k none (fz (cL (S.flatMap (ql bd W w ls)))) none) De (ao (ρ':=ji bd w ls a ks' v' S' k none (fz (cL (S.flatMap (ql bd W w ls)))) none) Sh O0))))).trans rfl
theorem zt(hg:Brd bd W)(hs:bd.length*W<64)(hw:Ways w)(ha:a∈lets bd W ls):∀(n k:Nat) (ks:List Cell) (v:Cell->Nat) (S:List Cell),Lp bd W w ls a k ks v S->65<=k+n->
 ∃ks' v' k',Lp bd W w ls a k' ks' v' []/\d8 SV SU n (ji bd w ls a ks v S k none none none)=ae (.nx (ji bd w ls a ks' v' [] k' none none none))
 |n,k,ks,v,S,h,hn=>by
  have hk:k<64:=by
   have:=h.big;have:=fU (bd:=bd) (W:=W) h.nd λx hx=>let ⟨_,_,q⟩:=(h.key x).mp hx;(eJ.mp (Hg ha q.1)).1
   omega
  have ht:SV (ji bd w ls a ks v S k none none none)=ae (!decide (S=[])):=gi ((aL (x:=cL S) (y:=cL []) rfl rfl).trans (Py _ _));cases n with
  |zero=>omega
  |succ n=>
   by_cases e:S=[]
   ·subst e;exact⟨ks,v,k,h,nv (ht.trans rfl)⟩
   ·obtain⟨KO,v1,S1,h1,h2⟩:=J3 hg hs hw ha h e;obtain⟨ks',v',k',h3,h4⟩:=zt hg hs hw ha n (k+1) KO v1 S1 h1 (by omega);exact⟨ks',v',k',h3,tq (ht.trans (by rw[aem e];rfl)) h2 h4⟩
theorem tU(hg:Brd bd W)(hs:bd.length*W<64)(hw:Ways w)(ha:On bd.length W a)(Dc:lt bd a∈ls):
 ∃(ks:List Cell) (v:Cell->Nat),dE [brd bd,iW w, .lst (ls.map sg),cD a]=ae (kT ks λy=>nI (v y))/\∀x,(∀n,Dr (ES W w (lets bd W ls)) a x n->x∈ks/\v x=n)/\((∀j,¬Rr (ES W w (lets bd W ls)) a j x)->x∉ks):=by
 have jG:a∈lets bd W ls:=eJ.mpr ⟨ha,Dc⟩;have h0:Lp bd W w ls a 0 [] (λ_=>0) [a]:=⟨ZG,λx=>⟨λq=>(by cases q),λ⟨j,q,_⟩=>aej q (by omega)⟩,(λx hx=>by cases hx),ac7 ..,λx=>⟨λq=>(by cases X0.mp q;exact⟨rfl,λj _=>Ys _⟩),λq=>X0.mpr q.1⟩,XM _⟩
 obtain⟨ks,v,k,h1,h2⟩:=zt hg hs hw jG lim 0 [] (λ_=>0) [a] h0 (by rw[cM];omega);refine⟨ks,v,ba (ao rfl (ao (ρ':=[fz (brd bd),fz (iW w),fz (.lst (ls.map sg)),fz (cD a),some (.ow (z4 [] λy=>nI 0)),fz (cL [a]),none,none,none,none]) ?_ (ao (ρ':=ji bd w ls a [] (λ_=>0) [a] 0 none none none) rfl (ao (ρ':=ji bd w ls a ks v [] k none none none) (cV h2) rfl)))),λx=>⟨λn hn=>?_,λrp hx=>?_⟩⟩
 ·refine(aM (d:=cL [a]) ?_).trans rfl;refine(Kj (p:=true) ?_).trans rfl;exact gi ((aL (x:=sg (lt bd a)) (y:= .lst (ls.map sg)) ((aj (ds:=[brd bd,cD a]) rfl rfl).trans (sV hg ha)) rfl).trans ((vQ _).trans (by rw[aei Dc])))
 ·have dG:n<k:=by
   apply YK;intro z;obtain⟨y,hy⟩:=hn.down (k:=k) (by omega);have:=(h1.ring y).mpr hy;cases this
  have hx:=(h1.key x).mpr ⟨n,dG,hn⟩;exact⟨hx,(h1.val x hx).one hn⟩
 ·exact rp _ (h1.val x hx).1
theorem vY(hg:Brd bd W)(ha:On bd.length W a)(Dc:lt bd a∉ls):
 dE [brd bd,iW w, .lst (ls.map sg),cD a]=ae (kT [] λy=> .non):=by
 refine ba (ao rfl (ao (ρ':=[fz (brd bd),fz (iW w),fz (.lst (ls.map sg)),fz (cD a),some (.ow (z4 [] λy=>nI 0)),fz (cL []),none,none,none,none]) ?_ (ao (ρ':=ji bd w ls a [] (λ_=>0) [] 0 none none none) rfl (ao (ρ':=ji bd w ls a [] (λ_=>0) [] 0 none none none) (cV ?_) rfl))))
 ·refine(aM (d:=cL []) ?_).trans rfl;refine(Kj (p:=false) ?_).trans rfl;exact gi ((aL (x:=sg (lt bd a)) (y:= .lst (ls.map sg)) ((aj (ds:=[brd bd,cD a]) rfl rfl).trans (sV hg ha)) rfl).trans ((vQ _).trans (by rw[aem Dc])))
 ·show d8 SV SU lim _=_;rw[cM];exact nv rfl
end
theorem dP{δ:DE}{ρ:aX}{n:Nat}(h:δ ρ=a7 n):jq δ ρ=a7 n:=by
 unfold jq;rw[h];rfl
theorem d5{a b:DS}{ρ:aX}{n:Nat}(h:a ρ=a7 n):aB a b ρ=a7 n:=by
 unfold aB;rw[h];rfl
def gT(n:Nat):D:= .tup [.str "refused", .int (n:Int)]
def NM(m:M D):M D:=match m with
 |some (.ex n)=>noex (LZ n)
 |r=>r
theorem Cv{a b:DS}{ρ:aX}{m:M D}(h:a ρ=(m>>=λd=>ae (Out.rt d))):aB a b ρ=(m>>=λd=>ae (Out.rt d)):=by
 unfold aB;rw[h]
 match m with
 |none=>rfl
 |some (.ok a)=>rfl
 |some (.ex n)=>rfl
theorem Cz{n:Nat}{τ:DS}{ds:List D}{m:M D}(h:τ (ds.map (λd=>some (Sl.fz d))++XT (n - ds.length) none)=(m>>=λd=>ae (Out.rt d))):bM n (Hj τ λk=>noex (LZ k)) ds=NM m:=by
 unfold bM Hj;rw[h]
 match m with
 |none=>rfl
 |some (.ok a)=>rfl
 |some (.ex n)=>rfl
theorem tW{d:D}(h:Plain2 d)(hb:nG d=false):bU [d]=a7 0:=by
 refine cX (eA (nM (b:=false) (jC ((aj (ds:=[d]) rfl rfl).trans ((mj h).trans (by rw[hb]))))) rfl)
theorem wa{bd:List Str}{W:Nat}(hg:Brd bd W){d:D}(h:Plain2 d)(hb:Bq bd.length W d=false):cj [brd bd,d]=a7 2:=by
 refine cX (eA (nM (b:=false) (jC ((aj (ds:=[brd bd,d]) rfl rfl).trans ((oX hg h).trans (by rw[hb]))))) rfl)
theorem LJ(n:Nat):ib (gT n) (gT n)=ae (.bl false):=by
 show (match kz 6 (gT n) (gT n) with | some b=>ae (D.bl (!b)) | none=>ag)=_;have:kz 6 (gT n) (gT n)=some true:=by
  show (match kz 5 (.str "refused") (.str "refused"),(match kz 5 (.int (n:Int)) (.int (n:Int)),some true with | some b,some r=>some (b&&r) | _,_=>none) with | some b,some r=>some (b&&r) | _,_=>none)=_;rw[lZ,beq_self_eq_true];rfl
 rw[this];rfl
section
variable{bd:List Str}{W w:Nat}{a b:Cell}{ls:List Nat}
theorem zx{x w s p q:D}:av [.int 0,x,w,s,p,q]=NM (aR [x,w,p,q]):=Cz (m:=aR [x,w,p,q]) (Cv (eA rfl rfl))
theorem s_{x w s p q:D}:av [.int 1,x,w,s,p,q]=NM (aQ [x,w,s,p,q]):=Cz (m:=aQ [x,w,s,p,q]) (ao (fL rfl rfl) rfl)
theorem N3(hg:Brd bd W)(hw:Ways w){ρ:aX}{τ:DS}{o:M Out}(k:τ ρ=o)(h0:ρ[0]? =some (fz (brd bd)):=by rfl)(h1:ρ[1]? =some (fz (iW w)):=by rfl):aB (jq (aw 1 bU (aC (dV 0) aN))) (aB (jq (aw 1 cP (aC (dV 1) aN))) τ) ρ=o:=
 ao (br ((aj (ds:=[brd bd]) (aZ (jD h0) rfl) rfl).trans hg.nb)) (ao (br ((aj (ds:=[iW w]) (aZ (jD h1) rfl) rfl).trans hw.nw)) k)
theorem DI(hg:Brd bd W)(hs:bd.length*W<64)(hw:Ways w)(h:∀c∈ls,c∈Oh)(hl:ls.length<=4096)(ha:On bd.length W a)(hb:On bd.length W b)(Dc:lt bd a∉ls):aQ [brd bd,iW w, .lst (ls.map sg),cD a,cD b]=ae .non:=by
 have hS:a∉lets bd W ls:=λz=>Dc (eJ.mp z).2;have eW:∀y∈lets bd W ls,On bd.length W y:=λy hy=>(eJ.mp hy).1;have e1:=yB hg hw kO eW;have lI:(lets bd W ls).length<=64:=by
  have:=fU kO eW;omega
 have L7:fW true (cD a) (mF (lets bd W ls) (qm bd.length W w (lets bd W ls)))=ae (.bl true):=(kE (neg:=true) (by simp)).trans (by rw[aem hS];rfl);refine ba (N3 hg hw (ao (br ((aj (ds:=[.lst (ls.map sg)]) rfl rfl).trans (jM h hl))) (ao (br ((aj (ds:=[brd bd,cD a]) rfl rfl).trans (hg.nc ha))) (ao (br ((aj (ds:=[brd bd,cD b]) rfl rfl).trans (hg.nc hb)))
  (ao (ρ':=[fz (brd bd),fz (iW w),fz (.lst (ls.map sg)),fz (cD a),fz (cD b),fz (mF (lets bd W ls) (qm bd.length W w (lets bd W ls)))]) ((aM ((aj (ds:=[brd bd,cL (lets bd W ls),iW w]) (aZ rfl (aZ ?_ (aZ rfl rfl))) rfl).trans e1)).trans rfl)
  (Cv (m:=ae .non) (eA (gi ((aL (x:=cD a) (y:=mF (lets bd W ls) (qm bd.length W w (lets bd W ls))) rfl rfl).trans L7)) rfl)))))))
 refine bJ (ds:=(aU bd.length W).map cD) ?_ (eY cD (λx=>decide (lt bd x∈ls)) _ λx hx=>?_) (by rw[XB,cM];exact Yc lI (by decide))
 ·exact vV ((aj (ds:=[brd bd]) rfl rfl).trans (fk hg))
 ·have ht:cf (d2 (l8 false) (aw 2 bG (aC (dV 1) (aC (dV 0) aN))) (dV 3)) [fz (cD x),fz (brd bd),fz (iW w),fz (.lst (ls.map sg)),fz (cD a),fz (cD b),none]=ae (decide (lt bd x∈ls)):=gi ((aL (x:=sg (lt bd x)) (y:= .lst (ls.map sg)) ((aj (ds:=[brd bd,cD x]) rfl rfl).trans (fq hg (aJ.mp hx))) rfl).trans (vQ _));rw[jB];show (cf (d2 (l8 false) (aw 2 bG (aC (dV 1) (aC (dV 0) aN))) (dV 3)) [fz (cD x),fz (brd bd),fz (iW w),fz (.lst (ls.map sg)),fz (cD a),fz (cD b),none]>>=_)=_;rw[ht];cases decide (lt bd x∈ls)<;>rfl
theorem A3(hg:Brd bd W)(hs:bd.length*W<64)(hw:Ways w)(h:∀c∈ls,c∈Oh)(hl:ls.length<=4096)(ha:On bd.length W a):
 ∃ks g,dE [brd bd,iW w, .lst (ls.map sg),cD a]=ae (kT ks g)/\∀x,On bd.length W x->∃d,(d= .non\/∃n,d=nI n)/\aQ [brd bd,iW w, .lst (ls.map sg),cD a,cD x]=ae d/\getM (kT ks g) (cD x) .non=ae d:=by
 by_cases Dc:lt bd a∈ls
 ·obtain⟨ks,v,e1,e2⟩:=tU hg hs hw ha Dc;refine⟨ks,_,e1,λx hx=>?_⟩;rcases AF hg hs hw h hl ha hx Dc with⟨n,h1,h2⟩ | ⟨h1,h2⟩
  ·obtain⟨k1,k2⟩:=(e2 x).1 n h1;exact⟨nI n, .inr ⟨n,rfl⟩,h2,(BL k1).trans (by rw[k2])⟩
  ·exact⟨.non, .inl rfl,h2,rl ((e2 x).2 h1)⟩
 ·exact⟨[],_,vY hg ha Dc,λx hx=>⟨.non, .inl rfl,DI hg hs hw h hl ha hx Dc,rl (by simp)⟩⟩
def lW:List D:=[.non, .tup [.int 9, .int 0], .tup [.int 0], .lst [.int 0, .int 0], .tup [.bl true, .int 0], .int 5]
theorem EA(hR:bd.length<=8){d:D}(h:d∈lW):Plain2 d/\Bq bd.length W d=false:=by
 unfold lW at h;simp only[XF,Yt,or_false] at h;rcases h with rfl | rfl | rfl | rfl | rfl | rfl
 ·exact⟨Y0,rfl⟩
 ·refine⟨λd hd=>?_,?_⟩
  ·simp only[XF,Yt,or_false] at hd;rcases hd with rfl | rfl<;>exact Y0
  ·show ((decide ((0:Int)<=9)&&decide ((9:Int)<(bd.length:Int)))&&_)=false;rw[aem (show¬(9:Int)<(bd.length:Int) by omega),abP,Bool.false_and]
 ·exact⟨λd hd=>by cases X0.mp hd;exact Y0,rfl⟩
 ·exact⟨Y0,rfl⟩
 ·refine⟨λd hd=>?_,rfl⟩;simp only[XF,Yt,or_false] at hd;rcases hd with rfl | rfl<;>exact Y0
 ·exact⟨Y0,rfl⟩
theorem EB{d:D}(h:d∈lW):cP [d]=a7 1:=by
 unfold lW at h;simp only[XF,Yt,or_false] at h;rcases h with rfl | rfl | rfl | rfl | rfl | rfl<;>rfl
theorem xS{d:D}(h:d∈lW):bN [d]=a7 3/\bN [.lst [d]]=a7 3:=by
 unfold lW at h;simp only[XF,Yt,or_false] at h;rcases h with rfl | rfl | rfl | rfl | rfl | rfl<;>exact⟨rfl,rfl⟩
end
section
variable{bd:List Str}{W w:Nat}{a:Cell}{ls:List Nat}
theorem oT{α β:Type}{m:M α}{x:α}{f:α->M β}{r:M β}(h:m=ae x)(h2:f x=r):(m>>=f)=r:=by
 rw[h];exact h2
theorem xr{T:DT}{ρ:aX}(h:T ρ=ae false):fP T (bc (dC (.bl false))) b9 ρ=ae (.nx ρ):=fL h rfl
theorem KS(n:Nat):ib (nI n) (nI n)=ae (.bl false):=(KQ n n).trans (by simp)
def DY(ns:List Int)(bd:List Str)(w:Nat)(a:Cell)(BA:D)(ls:List Nat)(kW:D)(c7 c8:Option Sl):aX:=[fz (.scr ns),fz (brd bd),fz (iW w),fz (cD a),fz BA,fz (.lst (ls.map sg)),fz kW,c7,c8]
theorem MF(ns:List Int)(hg:Brd bd W){BA kW:D}{x:Cell}{n:Nat}{d:D}(h0:aR [brd bd,iW w,cD a,cD x]=ae (nI n))(h1:eI BA (cD x)=ae (nI n))(hd:d= .non\/∃n,d=nI n)(h2:aQ [brd bd,iW w, .lst (ls.map sg),cD a,cD x]=ae d)(h3:getM kW (cD x) .non=ae d)(hf:uM kW=true):
 Sz (DY ns bd w a BA ls kW (fz (cD x)) none)=ae (.nx (DY ns bd w a BA ls kW none none)):=by
 have t0:aw 6 av (aC (dC (.int 0)) (aC (dV 1) (aC (dV 2) (aC (dC .non) (aC (dV 3) (aC (dV 7) aN)))))) (DY ns bd w a BA ls kW (fz (cD x)) none)=ae (nI n):=(aj (ds:=[.int 0,brd bd,iW w, .non,cD a,cD x]) rfl rfl).trans (zx.trans (by rw[h0];rfl));have t1:aw 6 av (aC (dC (.int 1)) (aC (dV 1) (aC (dV 2) (aC (dV 5) (aC (dV 3) (aC (dV 7) aN)))))) (DY ns bd w a BA ls kW (fz (cD x)) none)=ae d:=(aj (ds:=[.int 1,brd bd,iW w, .lst (ls.map sg),cD a,cD x]) rfl rfl).trans (s_.trans (by rw[h2];rfl));have t2:Bt (dV 6) (dV 7) (DY ns bd w a BA ls kW (fz (cD x)) none)=ae d:=by
  show (if uM kW then getM kW (cD x) .non else ag)=_;rw[aeg hf];exact h3
 have ed:ib d d=ae (.bl false):=by
  rcases hd with rfl | ⟨m,rfl⟩
  ·rfl
  ·exact KS m
 exact(a8 (ρ':=DY ns bd w a BA ls kW (fz (cD x)) none) (ao (xr (gi ((aL t0 ((aL (x:=BA) (y:=cD x) rfl rfl).trans h1)).trans (KS n)))) (xr (gi ((aL t1 t2).trans ed))))).trans rfl
theorem MG(ns:List Int)(hg:Brd bd W)(hw:Ways w)(ha:On bd.length W a){BA kW y:D}(hy:y∈lW):
 SA (DY ns bd w a BA ls kW none (fz y))=ae (.nx (DY ns bd w a BA ls kW none none)):=by
 obtain⟨y1,y2⟩:=EA (W:=W) hg.r8 hy;have xc:=wa hg y1 y2;have xw:=EB hy;obtain⟨xl,Xg⟩:=xS hy;have q1:∀{z:D},aR [brd bd,iW w,y,z]=a7 2:=λ{z}=>cX (d5 (dP ((aj (ds:=[brd bd,iW w,y,z]) rfl rfl).trans (cX (N3 hg hw (d5 (dP ((aj (ds:=[brd bd,y]) rfl rfl).trans xc))))))));have q2:aR [brd bd,iW w,cD a,y]=a7 2:=cX (d5 (dP ((aj (ds:=[brd bd,iW w,cD a,y]) rfl rfl).trans (cX (N3 hg hw (ao (br ((aj (ds:=[brd bd,cD a]) rfl rfl).trans (hg.nc ha))) (dP ((aj (ds:=[brd bd,y]) rfl rfl).trans xc))))))));have q3:∀{z:D},aR [brd bd,y,z, .non]=a7 1:=λ{z}=>cX (d5 (dP ((aj (ds:=[brd bd,y,z, .non]) rfl rfl).trans (cX (ao (br ((aj (ds:=[brd bd]) rfl rfl).trans hg.nb)) (d5 (dP ((aj (ds:=[y]) rfl rfl).trans xw))))))));have nl:bN [.lst []]=ae .non:=jM (cs:=[]) (λc hc=>by cases hc) (by simp);have s1:∀{z:D},aQ [brd bd,iW w, .lst [],y,z]=a7 2:=λ{z}=>cX (N3 hg hw (ao (br ((aj (ds:=[.lst []]) rfl rfl).trans nl)) (d5 (dP ((aj (ds:=[brd bd,y]) rfl rfl).trans xc)))));have s2:aQ [brd bd,iW w, .lst [],cD a,y]=a7 2:=cX (N3 hg hw (ao (br ((aj (ds:=[.lst []]) rfl rfl).trans nl)) (ao (br ((aj (ds:=[brd bd,cD a]) rfl rfl).trans (hg.nc ha))) (d5 (dP ((aj (ds:=[brd bd,y]) rfl rfl).trans xc))))));have s3:∀{l:D},bN [l]=a7 3->aQ [brd bd,iW w,l, .non, .non]=a7 3:=λ{l} hl=>cX (N3 hg hw (d5 (dP ((aj (ds:=[l]) rfl rfl).trans hl))));have s4:aQ [brd bd,y, .non, .non, .non]=a7 1:=cX (ao (br ((aj (ds:=[brd bd]) rfl rfl).trans hg.nb)) (d5 (dP ((aj (ds:=[y]) rfl rfl).trans xw))));have go:∀{δ:DE}{ε:DE}{n:Nat}{ρ:aX},δ ρ=ae (gT n)->ε ρ=ae (gT n)->fP (cf (d2 ib δ ε)) (bc (dC (.bl false))) b9 ρ=ae (.nx ρ):=λh1 h2=>xr (gi ((aL h1 h2).trans (LJ _)));refine(a8 (ρ':=DY ns bd w a BA ls kW none (fz y)) ?_).trans rfl;refine ao (go (n:=3) ((aj (ds:=[.int 0,brd bd,iW w, .non,y, .non]) rfl rfl).trans (zx.trans (by rw[q1];rfl))) rfl) ?_;refine ao (go (n:=3) ((aj (ds:=[.int 0,brd bd,iW w, .non,cD a,y]) rfl rfl).trans (zx.trans (by rw[q2];rfl))) rfl) ?_;refine ao (go (n:=3) ((aj (ds:=[.int 1,brd bd,iW w, .lst [],y, .non]) rfl rfl).trans (s_.trans (by rw[s1];rfl))) rfl) ?_;refine ao (go (n:=3) ((aj (ds:=[.int 1,brd bd,iW w, .lst [],cD a,y]) rfl rfl).trans (s_.trans (by rw[s2];rfl))) rfl) ?_;refine ao (go (n:=2) ((aj (ds:=[.int 1,brd bd,iW w,y, .non, .non]) rfl rfl).trans (s_.trans (by rw[s3 xl];rfl))) rfl) ?_;refine ao (go (n:=2) ((aj (ds:=[.int 1,brd bd,iW w, .lst [y], .non, .non]) rfl rfl).trans (s_.trans (by rw[s3 Xg];rfl))) rfl) ?_;refine xr (gi ((aL (x:= .lst [gT 1,gT 1]) (y:= .lst [gT 1,gT 1]) ?_ rfl).trans rfl));refine bJ (ds:=[.int 0, .int 1]) rfl ?_ (by decide);have e0:av [.int 0,brd bd,y, .non, .non, .non]=ae (gT 1):=zx.trans (by rw[q3];rfl);have e1:av [.int 1,brd bd,y, .non, .non, .non]=ae (gT 1):=s_.trans (by rw[s4];rfl);refine eZ (g:=λ_=>gT 1) [.int 0, .int 1] λd hd=>?_;rw[jB];simp only[XF,Yt,or_false] at hd;rcases hd with rfl | rfl
 ·exact oT (x:=true) rfl (oT ((aj (ds:=[.int 0,brd bd,y, .non, .non, .non]) rfl rfl).trans e0) rfl)
 ·exact oT (x:=true) rfl (oT ((aj (ds:=[.int 1,brd bd,y, .non, .non, .non]) rfl rfl).trans e1) rfl)
theorem Lr(ns:List Int)(hl:ns.length<=63)(hg:Brd bd W)(k:Nat):∃c,On bd.length W c/\dU [.scr ns, .int (k:Int),brd bd]=ae (cD c):=by
 obtain⟨v,hv,e⟩:=d_ ns hl k bd.length hg.r1;obtain⟨u,hu,e2⟩:=d_ ns hl (k+1) W hg.w1;refine⟨(v,u),⟨hv,hu⟩,ba (a6 ((eD (xs:=[.int (v:Int), .int (u:Int)]) (aZ ?_ (aZ ?_ rfl))).trans rfl))⟩
 ·exact(aj (ds:=[.scr ns, .int (k:Int), .int (bd.length:Int)]) (aZ rfl (aZ rfl (aZ (Dp (i:=2) rfl) rfl))) rfl).trans e
 ·exact(aj (ds:=[.scr ns, .int ((k+1:Nat):Int), .int (W:Int)]) (aZ rfl (aZ rfl (aZ (hg.len0 (i:=2) rfl) rfl))) rfl).trans e2
def K9:List D:=[.lst [.str "a"], .lst [.str "b", .str "a"], .lst [.str "c"], .lst [], .lst [.str "a", .str "b", .str "c", .str "f"]]
theorem Ni{i:Nat}(hi:i<5):∃ls:List Nat,(∀c∈ls,c∈Oh)/\ls.length<=4096/\tP (.lst K9) (.int (i:Int))=ae (.lst (ls.map sg)):=by
 match i,hi with
 |0,_=>exact⟨[97],by decide,by decide,rfl⟩
 |1,_=>exact⟨[98,97],by decide,by decide,rfl⟩
 |2,_=>exact⟨[99],by decide,by decide,rfl⟩
 |3,_=>exact⟨[],by decide,by decide,rfl⟩
 |4,_=>exact⟨[97,98,99,102],by decide,by decide,rfl⟩
theorem F4(ns:List Int)(hl:ns.length<=63):kC [.scr ns]=ae (.bl true):=by
 obtain⟨bd,W,hG,l1,l2,eb⟩:=zT ns hl 0 5 (by decide) (by decide);have hg:=hG.brd;have hs:bd.length*W<64:=by have:=aaH l1 l2;omega
 obtain⟨i,hi,ei⟩:=d_ ns hl 60 2 (by decide);obtain⟨w,hw,ew⟩:∃w:Nat,Ways w/\tP (.lst [.int 4, .int 8]) (.int (i:Int))=ae (iW w):=by
  match i,hi with
  |0,_=>exact⟨4, .inl rfl,rfl⟩
  |1,_=>exact⟨8, .inr rfl,rfl⟩
 obtain⟨a,ha,ea⟩:=Lr ns hl hg 61;obtain⟨z,hz,ez⟩:=d_ ns hl 63 5 (by decide);obtain⟨ls,VX,VU,UZ⟩:=Ni hz;obtain⟨_,f,hf,_,_⟩:=jQ hg hs hw;obtain⟨ks,v,ec,hv⟩:=p0 hg hs hw ha hf;obtain⟨FX,g,es,vO⟩:=A3 hg hs hw VX VU ha;refine ba ?_;refine ao (ρ':=[fz (.scr ns),fz (brd bd),none,none,none,none,none,none,none]) ((aM (d:=brd bd) ((aj (ds:=[.scr ns, .int 0, .int 5]) rfl rfl).trans eb)).trans rfl) ?_;refine ao (ρ':=[fz (.scr ns),fz (brd bd),fz (iW w),none,none,none,none,none,none]) ((aM (d:=iW w) ((aL (x:= .lst [.int 4, .int 8]) (y:= .int (i:Int)) rfl ((aj (ds:=[.scr ns, .int 60, .int 2]) rfl rfl).trans ei)).trans ew)).trans rfl) ?_;refine ao (ρ':=[fz (.scr ns),fz (brd bd),fz (iW w),fz (cD a),none,none,none,none,none]) ((aM (d:=cD a) ((aj (ds:=[.scr ns, .int 61,brd bd]) rfl rfl).trans ea)).trans rfl) ?_;refine ao (ρ':=[fz (.scr ns),fz (brd bd),fz (iW w),fz (cD a),fz (kT ks λy=>nI (v y)),none,none,none,none]) ((aM ((aj (ds:=[brd bd,iW w,cD a]) rfl rfl).trans ec)).trans rfl) ?_;refine ao (ρ':=[fz (.scr ns),fz (brd bd),fz (iW w),fz (cD a),fz (kT ks λy=>nI (v y)),fz (.lst (ls.map sg)),none,none,none]) ((aM (d:= .lst (ls.map sg)) ((aL (x:= .lst K9) (y:= .int (z:Int)) rfl ((aj (ds:=[.scr ns, .int 63, .int 5]) rfl rfl).trans ez)).trans UZ)).trans rfl) ?_;refine ao (ρ':=DY ns bd w a (kT ks λy=>nI (v y)) ls (kT FX g) none none) ((aM ((aj (ds:=[brd bd,iW w, .lst (ls.map sg),cD a]) rfl rfl).trans es)).trans rfl) ?_;refine ao (ρ':=DY ns bd w a (kT ks λy=>nI (v y)) ls (kT FX g) none none) (cV (dY (vV ((aj (ds:=[brd bd]) rfl rfl).trans (tT hg))) (nP (body:=Sz) cD _ _ λx hx=>?_))) ?_
 ·have hx:=aJ.mp hx;obtain⟨n,n1,n2⟩:=xW hg hs hw hf ha hx;obtain⟨v1,v2⟩:=hv x hx;obtain⟨d,d1,d2,d3⟩:=vO x hx;exact⟨_,rfl,MF ns hg n2 ((nT (f:=λy=>nI (v y)) v1).trans (by rw[v2 n n1])) d1 d2 d3 rfl⟩
 ·refine ao (ρ':=DY ns bd w a (kT ks λy=>nI (v y)) ls (kT FX g) none none) (cV (dY (ds:=lW) rfl ?_)) ?_
  ·have:=nP (put:=putN 8) (body:=SA) (id:D->D) (DY ns bd w a (kT ks λy=>nI (v y)) ls (kT FX g) none none) lW λy hy=>⟨_,rfl,MG ns hg hw ha hy⟩
   rwa [List.map_id] at this
  ·have nb:bU [.tup [.str "A"]]=a7 0:=tW (λd hd=>by cases X0.mp hd;exact Y0) (by decide+kernel);have e0:av [.int 0, .tup [.str "A"], .non, .non, .non, .non]=ae (gT 0):=zx.trans (by rw[show aR [.tup [.str "A"], .non, .non, .non]=a7 0 from cX (d5 (dP ((aj (ds:=[.tup [.str "A"], .non, .non, .non]) rfl rfl).trans (cX (d5 (dP ((aj (ds:=[.tup [.str "A"]]) rfl rfl).trans nb)))))))];rfl);have e1:av [.int 1, .tup [.str "A"], .non, .non, .non, .non]=ae (gT 0):=s_.trans (by rw[show aQ [.tup [.str "A"], .non, .non, .non, .non]=a7 0 from cX (d5 (dP ((aj (ds:=[.tup [.str "A"]]) rfl rfl).trans nb)))];rfl);refine a6 ((aL (x:= .lst [gT 0,gT 0]) (y:= .lst [gT 0,gT 0]) (bJ (ds:=[.int 0, .int 1]) rfl (eZ (g:=λ_=>gT 0) [.int 0, .int 1] λd hd=>?_) (by decide)) rfl).trans rfl);rw[jB];simp only[XF,Yt,or_false] at hd;rcases hd with rfl | rfl
   ·exact oT (x:=true) rfl (oT ((aj (ds:=[.int 0, .tup [.str "A"], .non, .non, .non, .non]) rfl rfl).trans e0) rfl)
   ·exact oT (x:=true) rfl (oT ((aj (ds:=[.int 1, .tup [.str "A"], .non, .non, .non, .non]) rfl rfl).trans e1) rfl)
end
end K1
namespace K1
open PySem PySem.Spec L2 L3
open PyProof.Rows hiding St
def Pu(c0 c1 c2 c3:Addr):Nat->Addr
 |0=>c0
 |1=>c1
 |2=>c2
 |_=>c3
def DF(K:XO)(x:Str)(s:Stmt):Prop:=∃(f:Addr) (oc:Value) (od an:Option Addr) (sl:Array (Option Value)) (kV dc pm cd ct:Value),Yp K Yb x=some (some (.ref f))/\K.lookup f=some ⟨oc,od, .func (Y5 x x (eF s) (bg s) (ai s) .none kV dc pm an cd ct),sl⟩/\aad K cd x=true/\Zl K (.ref f)=true
theorem DF.mk{K:XO}{x:Str}{s:Stmt}{f:Addr}{oc:Value}{od an:Option Addr}{sl:Array (Option Value)}{kV dc pm cd ct:Value}(a:Yp K Yb x=some (some (.ref f)))(l:K.lookup f=some ⟨oc,od, .func (Y5 x x (eF s) (bg s) (ai s) .none kV dc pm an cd ct),sl⟩)(c:aad K cd x=true)(k:Zl K (.ref f)=true):DF K x s:=⟨f,oc,od,an,sl,kV,dc,pm,cd,ct,a,l,c,k⟩
theorem DF.at{K:XO}{x:Str}{s:Stmt}{h:Heap}{mg:Str->Option Value}(X:K.In h)(G:h.Ns Yb mg)(d:DF K x s):∃f,bx K mg x s f:=by
 obtain⟨f,oc,od,an,sl,kV,dc,pm,cd,ct,a,l,c,k⟩:=d;exact⟨f,Zk X G a,_,Fg (st:=s) l c k⟩
theorem all_mk{P:Yd}{w:World}{K:XO}{h:Heap}{mg:Str->Option Value}{fa:Addr}(X:K.In h)(G:h.Ns Yb mg)(Vw:mg "law"=some (.ref fa))
 {lH:Addr}{Az qE:Option Addr}{AZ:Array (Option Value)}{Ay rH qV sG lC qU:Value}
 {D7:Tok}
 {zw:Tok}
 {s9:Tok}
 {C0 C1 C2 C3 Cp:Addr}{r0:ClassData}{r1:ClassData}{r2:ClassData}{r3:ClassData}
 (d_is_whole:DF K "is_whole" lO)
 (d_is_letter:DF K "is_letter" j8)
 (d_cells_of_row:DF K "cells_of_row" eO)
 (d_letter_of:DF K "letter_of" j_)
 (d_are_next:DF K "are_next" lN)
 (d_keyed:DF K "keyed" w6)
 (d_numbers_of:DF K "numbers_of" i8)
 (d_distances:DF K "distances" j7)
 (d_law_cell:DF K "_law_cell" lP)
 (d_law_cells:DF K "_law_cells" g_)
 (d_law_beside:DF K "_law_beside" i5)
 (d_law_sign:DF K "_law_sign" lQ)
 (d_law_refused_v3:DF K "_law_refused" fi)
 (d_is_row:DF K "is_row" m7)
 (d_is_cell:DF K "is_cell" oG)
 (d_need_letters:DF K "need_letters" eP)
 (d_need_ways:DF K "need_ways" ke)
 (d_all_cells:DF K "all_cells" j6)
 (d_next_cells:DF K "next_cells" i7)
 (d_law_drawn:DF K "_law_drawn" j9)
 (d_law_changes:DF K "_law_changes" ik)
 (d_law_steps:DF K "_law_steps" fM)
 (d_is_board:DF K "is_board" gM)
 (d_need_cell:DF K "need_cell" kc)
 (d_like_cells:DF K "like_cells" f9)
 (d_near_numbers:DF K "near_numbers" gO)
 (d_near_among:DF K "near_among" f_)
 (d_law_board:DF K "_law_board" g9)
 (d_law_cell_in:DF K "_law_cell_in" ij)
 (d_need_board:DF K "need_board" i6)
 (d_steps_back:DF K "steps_back" i9)
 (d_need_two_cells:DF K "need_two_cells" fj)
 (d_all_patches:DF K "all_patches" ig)
 (d_steps_over:DF K "steps_over" gc)
 (d_fewest_changes:DF K "fewest_changes" fg)
 (d_law_told_v12:DF K "_law_told" gN)
 (a_law_k74:Yp K Yb "law"=some (some (.ref lH)))(l_law_k74:K.lookup lH=some ⟨Ay,Az, .func (Y5 "law" "law" (eF ay) (bg ay) (ai ay) .none rH qV sG qE lC qU),AZ⟩)(c_law_k74:aad K lC "law"=true)(k_law_k74:Zl K (.ref lH)=true)
 (z_len:Yp K Yb "len"=some none)
 (z_isinstance:Yp K Yb "isinstance"=some none)
 (z_all:Yp K Yb "all"=some none)
 (z_abs:Yp K Yb "abs"=some none)
 (z_max:Yp K Yb "max"=some none)
 (z_min:Yp K Yb "min"=some none)
 (z_range:Yp K Yb "range"=some none)
 (z_str:Yp K Yb "str"=some none)
 (z_int:Yp K Yb "int"=some none)
 (z_bool:Yp K Yb "bool"=some none)
 (z_tuple:Yp K Yb "tuple"=some none)
 (z_list:Yp K Yb "list"=some none)
 (z_set:Yp K Yb "set"=some none)
 (z_sorted:Yp K Yb "sorted"=some none)
 (z_enumerate:Yp K Yb "enumerate"=some none)
 (z_ValueError:Yp K Yb "ValueError"=some none)
 (y_LETTERS:Yp K Yb "LETTERS"=some (some (.str "abcdef" D7)))
 (y_MOST_ROWS:Yp K Yb "MOST_ROWS"=some (some (.int 8 zw)))
 (y_MOST_COLUMNS:Yp K Yb "MOST_COLUMNS"=some (some (.int 8 s9)))
 (e0:Yp K Yb "NoBoard"=some (some (.ref C0)))
 (e1:Yp K Yb "NoWays"=some (some (.ref C1)))
 (e2:Yp K Yb "NoCell"=some (some (.ref C2)))
 (e3:Yp K Yb "NoLetter"=some (some (.ref C3)))
 (ep:Yp K Yb "PatchError"=some (some (.ref Cp)))
 (sp:PySem.W.subIn K (.ref Cp) (.type "BaseException")=some true)
 (q0:aaK K C0 [.type "ValueError", .type "Exception", .type "BaseException", .type "object"] "ValueError.__new__"=true)
 (ga0:YR K (.ref C0) "__getattribute__"=some (some (.builtin "BaseException.__getattribute__")))(gt0:YR K (.ref C0) "__getattr__"=some none)(ca0:YR K (.ref C0) "__class__"=some (some (.builtin "object.__class__")))(mo0:ZN K C0 (.type "object")=some true)(mb0:ZN K C0 (.type "BaseException")=some true)(cl0:aak K C0=some r0)
 (kp0:X3 K (.ref C0) (.ref Cp)=some true)(kv0:X3 K (.ref C0) (.type "ValueError")=some true)(np0:((Ye C0)==(Ye Cp))=false)
 (k00:X3 K (.ref C0) (.ref C0)=some true)
 (k01:X3 K (.ref C0) (.ref C1)=some false)
 (k02:X3 K (.ref C0) (.ref C2)=some false)
 (k03:X3 K (.ref C0) (.ref C3)=some false)
 (q1:aaK K C1 [.type "ValueError", .type "Exception", .type "BaseException", .type "object"] "ValueError.__new__"=true)
 (ga1:YR K (.ref C1) "__getattribute__"=some (some (.builtin "BaseException.__getattribute__")))(gt1:YR K (.ref C1) "__getattr__"=some none)(ca1:YR K (.ref C1) "__class__"=some (some (.builtin "object.__class__")))(mo1:ZN K C1 (.type "object")=some true)(mb1:ZN K C1 (.type "BaseException")=some true)(cl1:aak K C1=some r1)
 (kp1:X3 K (.ref C1) (.ref Cp)=some true)(kv1:X3 K (.ref C1) (.type "ValueError")=some true)(np1:((Ye C1)==(Ye Cp))=false)
 (k10:X3 K (.ref C1) (.ref C0)=some false)
 (k11:X3 K (.ref C1) (.ref C1)=some true)
 (k12:X3 K (.ref C1) (.ref C2)=some false)
 (k13:X3 K (.ref C1) (.ref C3)=some false)
 (q2:aaK K C2 [.type "ValueError", .type "Exception", .type "BaseException", .type "object"] "ValueError.__new__"=true)
 (ga2:YR K (.ref C2) "__getattribute__"=some (some (.builtin "BaseException.__getattribute__")))(gt2:YR K (.ref C2) "__getattr__"=some none)(ca2:YR K (.ref C2) "__class__"=some (some (.builtin "object.__class__")))(mo2:ZN K C2 (.type "object")=some true)(mb2:ZN K C2 (.type "BaseException")=some true)(cl2:aak K C2=some r2)
 (kp2:X3 K (.ref C2) (.ref Cp)=some true)(kv2:X3 K (.ref C2) (.type "ValueError")=some true)(np2:((Ye C2)==(Ye Cp))=false)
 (k20:X3 K (.ref C2) (.ref C0)=some false)
 (k21:X3 K (.ref C2) (.ref C1)=some false)
 (k22:X3 K (.ref C2) (.ref C2)=some true)
 (k23:X3 K (.ref C2) (.ref C3)=some false)
 (q3:aaK K C3 [.type "ValueError", .type "Exception", .type "BaseException", .type "object"] "ValueError.__new__"=true)
 (ga3:YR K (.ref C3) "__getattribute__"=some (some (.builtin "BaseException.__getattribute__")))(gt3:YR K (.ref C3) "__getattr__"=some none)(ca3:YR K (.ref C3) "__class__"=some (some (.builtin "object.__class__")))(mo3:ZN K C3 (.type "object")=some true)(mb3:ZN K C3 (.type "BaseException")=some true)(cl3:aak K C3=some r3)
 (kp3:X3 K (.ref C3) (.ref Cp)=some true)(kv3:X3 K (.ref C3) (.type "ValueError")=some true)(np3:((Ye C3)==(Ye Cp))=false)
 (k30:X3 K (.ref C3) (.ref C0)=some false)
 (k31:X3 K (.ref C3) (.ref C1)=some false)
 (k32:X3 K (.ref C3) (.ref C2)=some false)
 (k33:X3 K (.ref C3) (.ref C3)=some true):
 ∃(cv:Nat->Value) (fd:ZP),(∀(s:XD) (u:Value),adp s fd ⟨[u],[]⟩ [("_law_script",u)])/\∀base:Heap,K.In base->base.Ns Yb mg->FnOk P w K mg base (cQ P w cv) 8 fa fd ["_law_script"] (HZ K cv 1 kC):=by
 have ea:=Vw.symm.trans (Zk X G a_law_k74);cases ea;refine⟨λn=> .ref (cB (Pu C0 C1 C2 C3) n),Y5 "law" "law" (eF ay) (bg ay) (ai ay) .none rH qV sG qE lC qU,λs v=> .of_eq rfl,λbase KB GB=>?_⟩;have B:Bl K mg base (λn=> .ref (cB (Pu C0 C1 C2 C3) n)) (Pu C0 C1 C2 C3) Cp:=by
  refine⟨Yu X G z_len,Yu X G z_isinstance,Yu X G z_all,Yu X G z_abs,Yu X G z_max,Yu X G z_min,Yu X G z_range,Yu X G z_str,Yu X G z_int,Yu X G z_bool,Yu X G z_tuple,Yu X G z_list,Yu X G z_set,Yu X G z_sorted,Yu X G z_enumerate,Yu X G z_ValueError,⟨_,Zk X G y_LETTERS⟩,⟨_,Zk X G y_MOST_ROWS⟩,⟨_,Zk X G y_MOST_COLUMNS⟩,Zk X G e0,Zk X G e1,Zk X G e2,Zk X G e3,wF KB GB e0 q0,wF KB GB e1 q1,wF KB GB e2 q2,wF KB GB e3 q3,λ_=>rfl,Zk X G ep,?exm,?exs,?kit,?kitV⟩
  case exm=>
   intro n;have h:∀m,m∈[0,1,2,3]->aaW K (.ref ((Pu C0 C1 C2 C3) m)) (.ref Cp)=some true:=by
    intro m hm;simp only[XF,Yt,or_false] at hm;rcases hm with rfl | rfl | rfl | rfl
    ·exact vI sp kp0 np0
    ·exact vI sp kp1 np1
    ·exact vI sp kp2 np2
    ·exact vI sp kp3 np3
   exact h (N5 n) (Ct n)
  case exs=>
   intro C hC;simp only[zU,Pu,XF,Yt,or_false] at hC;rcases hC with e | e | e | e<;>subst e
   ·exact⟨ga0,gt0,ca0,mo0,mb0,by rw[cl0];rfl⟩
   ·exact⟨ga1,gt1,ca1,mo1,mb1,by rw[cl1];rfl⟩
   ·exact⟨ga2,gt2,ca2,mo2,mb2,by rw[cl2];rfl⟩
   ·exact⟨ga3,gt3,ca3,mo3,mb3,by rw[cl3];rfl⟩
  case kit=>
   intro n m hn hm;simp only[XF,Yt,or_false] at hn hm;rcases hn with rfl | rfl | rfl | rfl
   ·rcases hm with rfl | rfl | rfl | rfl
    ·exact k00
    ·exact k01
    ·exact k02
    ·exact k03
   ·rcases hm with rfl | rfl | rfl | rfl
    ·exact k10
    ·exact k11
    ·exact k12
    ·exact k13
   ·rcases hm with rfl | rfl | rfl | rfl
    ·exact k20
    ·exact k21
    ·exact k22
    ·exact k23
   ·rcases hm with rfl | rfl | rfl | rfl
    ·exact k30
    ·exact k31
    ·exact k32
    ·exact k33
  case kitV=>
   intro n hn;simp only[XF,Yt,or_false] at hn;rcases hn with rfl | rfl | rfl | rfl
   ·exact kv0
   ·exact kv1
   ·exact kv2
   ·exact kv3
 have sd:=(DF.at X G d_is_whole).elim λ_ t=>yO (P:=P) (w:=w) B t;have pd:=(DF.at X G d_is_letter).elim λ_ t=>wt (P:=P) (w:=w) B t;have r_:=(DF.at X G d_cells_of_row).elim λ_ t=>p8 (P:=P) (w:=w) B t;have pe:=(DF.at X G d_letter_of).elim λ_ t=>wA (P:=P) (w:=w) B t;have Av:=(DF.at X G d_are_next).elim λ_ t=>yM (P:=P) (w:=w) B t;have B6:=(DF.at X G d_keyed).elim λ_ t=>Gx (P:=P) (w:=w) B t;have mI:=(DF.at X G d_numbers_of).elim λ_ t=>ua (P:=P) (w:=w) B t;have pb:=(DF.at X G d_distances).elim λ_ t=>wo (P:=P) (w:=w) B t;have Ax:=(DF.at X G d_law_cell).elim λ_ t=>yP (P:=P) (w:=w) B t;have yH:=(DF.at X G d_law_cells).elim λ_ t=>wx (P:=P) (w:=w) B t;have mG:=(DF.at X G d_law_beside).elim λ_ t=>t6 (P:=P) (w:=w) B t;have se:=(DF.at X G d_law_sign).elim λ_ t=>yQ (P:=P) (w:=w) B t;have nZ:=(DF.at X G d_law_refused_v3).elim λ_ t=>mK (P:=P) (w:=w) B t;have Gu:=(DF.at X G d_is_row).elim λ_ t=>DC (P:=P) (w:=w) B pd t;have Dz:=(DF.at X G d_is_cell).elim λ_ t=>AA (P:=P) (w:=w) B sd t;have sj:=(DF.at X G d_need_letters).elim λ_ t=>qa (P:=P) (w:=w) B pd t;have ph:=(DF.at X G d_need_ways).elim λ_ t=>wC (P:=P) (w:=w) B sd t;have jR:=(DF.at X G d_all_cells).elim λ_ t=>wm (P:=P) (w:=w) B r_ t;have i2:=(DF.at X G d_next_cells).elim λ_ t=>t_ (P:=P) (w:=w) B Av t;have jS:=(DF.at X G d_law_drawn).elim λ_ t=>wy (P:=P) (w:=w) B Ax t;have tZ:=(DF.at X G d_law_changes).elim λ_ t=>sq (P:=P) (w:=w) B mG se t;have yI:=(DF.at X G d_law_steps).elim λ_ t=>wz (P:=P) (w:=w) B se mG t;have Aw:=(DF.at X G d_is_board).elim λ_ t=>yN (P:=P) (w:=w) B Gu t;have pf:=(DF.at X G d_need_cell).elim λ_ t=>wB (P:=P) (w:=w) B Dz t;have we:=(DF.at X G d_like_cells).elim λ_ t=>t7 (P:=P) (w:=w) B pe i2 t;have si:=(DF.at X G d_near_numbers).elim λ_ t=>p_ (P:=P) (w:=w) B mI jR i2 t;have wg:=(DF.at X G d_near_among).elim λ_ t=>t8 (P:=P) (w:=w) B B6 i2 t;have yG:=(DF.at X G d_law_board).elim λ_ t=>wu (P:=P) (w:=w) B jS t;have tY:=(DF.at X G d_law_cell_in).elim λ_ t=>sm (P:=P) (w:=w) B jS t;have mH:=(DF.at X G d_need_board).elim λ_ t=>t9 (P:=P) (w:=w) B Aw t;have wj:=(DF.at X G d_steps_back).elim λ_ t=>ub (P:=P) (w:=w) B we t;have n9:=(DF.at X G d_need_two_cells).elim λ_ t=>mL (P:=P) (w:=w) B mH ph pf t;have tX:=(DF.at X G d_all_patches).elim λ_ t=>sk (P:=P) (w:=w) B jR wj B6 t;have wk:=(DF.at X G d_steps_over).elim λ_ t=>uc (P:=P) (w:=w) B mH ph sj pf wg pb jR pe t;have nY:=(DF.at X G d_fewest_changes).elim λ_ t=>mJ (P:=P) (w:=w) B n9 tX mI pb si t;have sf:=(DF.at X G d_law_told_v12).elim λ_ t=>p9 (P:=P) (w:=w) B wk nY nZ t;exact yK B yG tY tZ yI yH jS sf (Fg (st:=ay) l_law_k74 c_law_k74 k_law_k74)
end K1
open PySem PySem.W PyProof.Rows
theorem PySem.Challenge.cw_cellpatches_k74_roads_holds : PySem.Challenge.rw_cellpatches_k74_roads.Holds := by
 w_on;refine holds_law (by kernel_rfl) λW6=>?_
 refine holds_open (q:=K1.zB) (loose:=[]) (Xt:=λs=>xlAt K1.zB [] s&&recOk (RowW.records (OpenRow.toRowW _)) s) (XP:=XL K1.zB []) (Yf:=Hook.obs (kHook K1.ro K1.rn (λ_=>by kernel_rfl))) (Ya:=Hook.val (kHook K1.ro K1.rn (λ_=>by kernel_rfl))) (YP:=Hook.says (kHook K1.ro K1.rn (λ_=>by kernel_rfl))) (N:=4590) ?hl (Hook.of (kHook K1.ro K1.rn (λ_=>by kernel_rfl))) (Hook.keeps (kHook K1.ro K1.rn (λ_=>by kernel_rfl))) (λs e=>xl_of s (ZK.mp e).1) XL.keeps (by rfl) (by rfl) (by rfl) (λs e=>recFacts_of (ZK.mp e).2) (by rfl) (by first | assumption | decide+kernel) (by decide+kernel) ⟨rfl,rfl,rfl,rfl,rfl,by decide+kernel⟩ ?hw ?hc
 case hl=>exact K1.OZ
 (case hw=>w_witness2)
 k_fill
 refine L3.Qu (l:=PySem.Challenge.rw_cellpatches_k74_roads) (k:=8) (n:=63) (x:="_law_script") (g:=K1.kC) rfl (by decide) rfl ⟨rfl,by decide,by decide⟩ (λw h Y=>PySem.W.kIn_of Y) K1.F4 ?F
 case F=>
  intro w mg fa h KX G Ma;refine' K1.all_mk KX G Ma ?d_is_whole ?d_is_letter ?d_cells_of_row ?d_letter_of ?d_are_next ?d_keyed ?d_numbers_of ?d_distances ?d_law_cell ?d_law_cells ?d_law_beside ?d_law_sign ?d_law_refused_v3 ?d_is_row ?d_is_cell ?d_need_letters ?d_need_ways ?d_all_cells ?d_next_cells ?d_law_drawn ?d_law_changes ?d_law_steps ?d_is_board ?d_need_cell ?d_like_cells ?d_near_numbers ?d_near_among ?d_law_board ?d_law_cell_in ?d_need_board ?d_steps_back ?d_need_two_cells ?d_all_patches ?d_steps_over ?d_fewest_changes ?d_law_told_v12 ?a_law_k74 ?l_law_k74 ?c_law_k74 ?k_law_k74 ?z_len ?z_isinstance ?z_all ?z_abs ?z_max ?z_min ?z_range ?z_str ?z_int ?z_bool ?z_tuple ?z_list ?z_set ?z_sorted ?z_enumerate ?z_ValueError ?y_LETTERS ?y_MOST_ROWS ?y_MOST_COLUMNS ?e0 ?e1 ?e2 ?e3 ?ep ?sp ?q0 ?ga0 ?gt0 ?ca0 ?mo0 ?mb0 ?cl0 ?kp0 ?kv0 ?np0 ?k00 ?k01 ?k02 ?k03 ?q1 ?ga1 ?gt1 ?ca1 ?mo1 ?mb1 ?cl1 ?kp1 ?kv1 ?np1 ?k10 ?k11 ?k12 ?k13 ?q2 ?ga2 ?gt2 ?ca2 ?mo2 ?mb2 ?cl2 ?kp2 ?kv2 ?np2 ?k20 ?k21 ?k22 ?k23 ?q3 ?ga3 ?gt3 ?ca3 ?mo3 ?mb3 ?cl3 ?kp3 ?kv3 ?np3 ?k30 ?k31 ?k32 ?k33
  any_goals (refine' K1.DF.mk ?a ?l ?c ?k;(case a=>k_is);(case l=>k_is);(case c=>k_is);(case k=>k_is))
  any_goals first | k_is | kit_is | k_exc | rfl
