import PyProof.Rows.All
import KE.KDictOf
import KE.KDictSum
import KE.KSortTup
import KE.KTryMore
import KE.RegKIsAll
import Lean
import PySem.Challenge.RW_cellpatches_k31_holes
set_option compiler.extract_closed false
open PySem renaming wpAny_bind->Zn,wpAny_pure->Zs,Shared->Zt,starEach->ZF,sizeLine->ZQ,mainGlobals->ZR,Program->Z5,bootBuiltins->aab,Around->aao,compareOp->aas,wpAny_holding->aaA,behindInMarks->aaB,wpAny_mono->aaF,wpAny_truthy_bool->aaH,sysModules->aa3,sizeLine_eq->aa4,IsTupleKey->aa6,codeAny_builtin->aa_,mem_of_lookup->abg,backTo->abk,wpAny_setState_of->abl,wpAny_dictEntries->abm,intKind->abo,wpAny_Call_Name_kw->abv,plainId_quiet->abI,attributeBase->abJ,wpAny_typeNameOfWhole_keyiter->abN,tupleKind->abO,tupleKind_room_in1->abU,FuncData->abW,wpAny_passesOwn->ab0,keywordEach->ab1,wpAny_newObj_type->ab4,SetTable->ab5,Keyword->aca,wpAny_forIn_list->acf,wpAny_call_entry->acg,wpAny_typeNameOf_keyiter->acq,binaryOp->acv,wpAny_pyIter_list->acE,codeAny->acF,wpAny_seqItems->acH,storedH->acN,wpAny_execs_nil->acX,wpAny_dictEpoch->acY,sliceBounds->acZ,Builtin->ac5,tupleKeyHash->ada,codeAny_mono->adb,backToKw->ade,NameKind->adg,wpAny_tryCatch->adj,swapsWith->adq,pyNext->ads,foldedSetIterable->adt,call_meets->adu,DictEntry->adx,swapsWithSole->adF,wpAny_specialOf->adQ,wpAny_notOrdered_dict->adR,letOwnedTupleGo->adS,typeLookup->ad0,assignEach->ad2,codeAny_call_builtin->ad6,recursionLimit->ad_,Paired->aea,rawInt->aei,dictSetHashed->aej,wpAny_loadPart_at->aet,wpAny_assign_Name->aeu,wpAny_Call_method->aev,ofAClassStatement->aew,callerA->aex,wpAny_typeOf->aeE,setAddHashed->aeF,call_meetsIn->aeG,noFill_tuple_add->aeO,checkBuiltinCall->aeP,wpAny_updateSeq->aeX,wpAny_of_eq->aeY,wpAny_letGo->aeZ,valueAt->ae0,size_of_entries->ae1,richCompare->ae2,cellsFrom->ae4,BindsTo->afc,wpAny_newFunctionEnv_cells->afe,wpAny_comprehension_free->afz,entryOfKey->afA,wpAny_newList->afI,wpAny_callSpecial?_slot->afJ,seq_tuple_add->afL,notedBy->afM,getItem->afN,call->afQ,GenState->afZ
open List renaming length_map->Zo,mem_cons_of_mem->Zp,mem_cons_self->Zq,map_cons->Zu,mem_cons->Zw,mem_map->Zx,getElem?_eq_getElem->Zy,length_cons->Zz,length_append->ZA,size_toArray->ZD,replicate->ZH,getElem?_eq_some_iff->ZI,getElem?_map->ZJ,getElem?_set_ne->ZO,mem_filter->ZT,getElem?_set_self->ZV,range->ZX,nil_append->ZY,mem_singleton->Z0,getD_eq_getElem?_getD->Z3,not_mem_nil->Z7,mem_append->Z9,append_nil->Z_,getElem?_append_left->aac,length_filter_le->aad,getElem?_cons_zero->aaf,getElem?_cons_succ->aag,mem_append_right->aai,Nodup->aaj,mem_of_getElem?->aak,mem_iff_getElem->aal,getElem?_append_right->aam,all_eq_true->aan,map_map->aap,length_nil->aat,map_append->aaw,pairwise_iff_getElem->aax,range'->aaD,pairwise_cons->aaI,nodup_cons->aaK,getElem_mem->aaM,zip_cons_cons->aaR,sum_cons->aaS,getElem?_replicate->aaT,pairwise_map->aaX,nodup_append->aaY,length_range->aaZ,append_assoc->aa0,mem_range->aa1,filterMap_cons_some->aa7,mem_append_left->abb,toArray->abd,flatMap_cons->abf,replicate_succ->abi,foldl_cons->abj,lookup_cons->abp,cons_append->abq,map_nil->abt,pairwise_append->aby,length_zip->abA,any_cons->abC,nodup_nil->abH,set_cons_zero->abK,set_cons_succ->abL,flatten_cons->abV,length_take->ab6,filterMap_cons->ab7,filterMap_cons_none->ab_,mem_filterMap->aci,find?_cons->acj,filter_nil->ack,filter_cons_of_pos->acm,filter_cons_of_neg->acn,mem_flatMap->acy,map_flatMap->acz,getElem_zip->acA,getElem_map->acB,filter_cons->acC,any_eq_true->acD,all_cons->acJ,zip_append->acL,of_mem_zip->acM,all_map->acR,length_erase_of_mem->ac6,length_eq_zero_iff->adh,range'_succ->adl,range_succ_eq_map->adn,pairwise_lt_range->ado,take_append_drop->adz,length_replicate->adA,getElem?_toArray->adB,getElem?_eq_none->adC,filter_map->adD,map_congr_left->adN,length_flatMap->adO,getElem_of_mem->adP,length_range'->ad4,filter_append->ad5,take_length->aeg,forIn_cons->aeq,drop_eq_getElem_cons->aeI,sum_replicate_nat->ae9,length_pos_of_mem->ae_,filter_eq_nil_iff->afa,pairwise_flatMap->afi,length_singleton->afj,any_map->afk,range_eq_range'->aft,mem_erase_of_ne->afu,getElem?_mapIdx->afv,length->afE,getElem?_range->afF,find?_eq_none->afW,contains_cons->afX,foldl_append->af9,foldl->af_,filter_congr->aga,any_eq_false->agb
open PySem.Heap renaming get?_push_of_some->Zr,lt_size->ZG,get?_push_size->ZL,get?_update_self->aaE,SameBut->abe,size_push->abu,get?_update_other->adp,get?_none_of_le->afw
open Nat renaming le_refl->Zv,ne_of_lt->ZW,le_trans->Z2,lt_of_lt_of_le->aaa,zero_le->aae,lt_irrefl->aaq,mul_le_mul->aaL,le_add_right->aaU,le_of_lt->aa5,lt_succ_of_lt->abh,lt_succ_self->abG,ne_of_gt->abQ,lt_trans->abR,mul_le_mul_right->ab2,zero_add->acd,le_antisymm->acP,lt_of_le_of_lt->acS,add_right_comm->acT,add_comm->adH,div_div_eq_div_mul->afh,succ_mul->afq,mul_comm->afr,le_of_eq->afs,add_le_add_right->afD,one_mul->afT,le_succ->afU,add_mul->afV
open Array renaming length_toList->ZC,getD_eq_getD_getElem?->ZN,getElem?_eq_getElem->ZS,getElem?_eq_some_iff->aau,getElem?_toList->aaC,getElem?_setIfInBounds_self_of_lt->ady,forIn_toList->adX,append_assoc->adY,getElem?_setIfInBounds_ne->ad9,replicate->aen,size_setIfInBounds->aeM,getElem?_replicate->aeN,toList_filterMap->aeV,getElem?_eq_none->aeW,toList_filter->afy,foldl_toList->afH,isEmpty_iff->af3
open PySem.W renaming Frag->ZE,kitOne->ZK,nsIn->ZZ,mg_none_of->Z8,kia_one->aay,mg_of->aaJ,keepIn->aaO,fnOf->aaQ,findIn->aaV,codeIn->abX,mroIn->ab8,clsIn->acw,exmOne->acO,excIn->ac1,cellsFrom_some->ac8,hideAll->adk,looks_findIn->adv,callWith_K->adL,methodObj->adT,instObj->aec,lookIn->ael,looks_mroIn->ae7,hideAll_get->ae8,of_hideAll->aff,codeRec_of->afg,kitx_list->afo,kitx_dict->afp,plainGet->afC,OpenLaw->afR
open Bool renaming and_eq_true->ZM,false_eq_true->ZU,false_ne_true->Z1,or_eq_true->acp,not_eq_true'->acu,not_false->acW,eq_false_iff->ac7,not_true->adi,and_false->aeL,and_true->aeU,and_eq_true_iff->afx,not_eq_false'->af2
open PySem.PassesOwn renaming never->ZP
open Option.some renaming inj->Z4
open PySem.Value renaming ref->Z6,none->aaN,bool->abc,builtin->ace,type->ac0,isInt->aek,str->ae5,int->ae6
open PySem.Heap.SameBut renaming update->aah,refl->aeJ
open Option renaming isSome_iff_exists->aar,getD_some->ac_,map_eq_some_iff->adf,isSome_map->ad3,getD_none->afS
open Classical renaming byContradiction->aav,propDecidable->aem,not_forall->aeK,not_imp->afb
open Ne renaming symm->aaz
open ForInStep renaming yield->aaG
open PySem.Around renaming under_plainId->aaP,frames_deeper->afd
open False renaming elim->aaW
open PyProof.Rows.F renaming plain_set_update_loop->aa2,entry_set_update_loop->ac4
open PyProof.Rows renaming callWith_type1->aa8,envOfC->abw,seqObj->abD,IntsAre->abF,callWith_builtin1->adG,kindOf->adK,AllBare->adZ,lt_int->aep,subscriptTail_builtinR->af4
open PySem.Obj renaming mapSeq->aa9,data_mapDictKeys->acI,isFreed_of_dict->adU,putSet->aed,data_mapFields->af7
open Prod.mk renaming injEq->aba
open PySem.F renaming slot_dict_get->abn,plain_min_loop->abM,slot_dict_keyiterator_next->abP,plainAttrs_list->ab9,entry_dict_get->ach,excBase_ValueError->acK,args_tuple_add_2->acQ,plainAttrs_dict->ac2,entry_tuple_add->ac3,slot_tuple_add->ac9,slot_dict_update->aeo,args_dict_keyiterator_next_1->aer,args_dict_get_3->aez,args_dict_get_2->aeA,entry_min_loop->aeB,entry_dict_keyiterator_next->aeC,type_dict_get->aeT,typeOf_object_class->af0
open PySem.Calls renaming spliced_cons->abr,spliced_nil->abS,evalArgs_plain->abY,callWith_builtin->acr,Name_function_global->aes,call_function_entry->aeD
open Prod renaming ext->abx
open True renaming intro->abz
open PySem.Paired renaming length->abB
open List.Pairwise renaming imp->abE,imp_of_mem->acG,nil->adw,filter->aeh
open PySem.Builtin.List renaming listTooLong->abT
open PySem.Builtin.Dict renaming updateFrom->abZ,showsAll->acV,entriesForEmpty->adM,selfAndRest->ad7,addKeywords->ad8,pairItems->aee,mergeDict->aef
open PySem.Builtin.Str renaming occurrences->ab3
open PySem.Str renaming ofString->acb
open PySem.Data renaming dict->aco,fields->afG
open PUnit renaming unit->acs
open Int renaming mul_le_mul_of_nonneg_right->acx,emod_lt_of_pos->acU,emod_nonneg->adJ,toNat_of_nonneg->adV,add_mul->afY
open PySem.Builtin.Dict_items renaming ownsTuple->adm
open PySem.Builtin.Builtins renaming bindParams->adE
open Int.ofNat renaming inj->adI
open PySem.Builtin.Tuple renaming tupleHashOf->adW
open ToString renaming toString->ad1
open Sum renaming inl->aeb,inr->aey
open PySem.Walks renaming list->aeH
open PySem.SeqAt.EqAt renaming str_int->aeQ,int_str->aeR,int_int->aeS
open LawfulBEq renaming eq_of_beq->ae3
open PySem.Heap.IsList renaming «at»->afl
open PySem.SetTable renaming gaveWay->afm,fits->af5
open PySem.SeqAt renaming notIn_tupleAt->afn,notIn_listAt->afB,EqAt->afP,in_tupleAt->af6
open MonadExcept renaming tryCatch->afK
open PySem.Value.ref renaming inj->afO
open PySem.Code renaming quiet_builtin->af1
open PySem.NameKind renaming free->af8
open Function renaming comp->agc
set_option maxHeartbeats 0
set_option Elab.async false
set_option linter.all false
set_option maxRecDepth 100000
abbrev agd:=@if_pos
abbrev age:=@if_neg
abbrev agf:=@decide_eq_true_eq
abbrev agg:=@decide_eq_true
abbrev agh:=@decide_eq_false
abbrev agi:=@of_decide_eq_true
abbrev agj:=@absurd
abbrev agk:=@beq_eq_false_iff_ne
abbrev agl:=@congrArg
abbrev agm:=@decide_eq_decide
namespace L2
open PySem
abbrev cr(bq:Pos)(e:Expr)(v:Env):Prop:=((abk bq (ZF [e] v)).all (λx=>!x.1)&&(ade bq (ab1 [] v)).all (λx=>x.1.isSome)&&decide ([e].length+([]:List aca).length+(if ([]:List aca).isEmpty then 0 else 1)<30))=true
abbrev dL(x:Str):Prop:=(x==("__debug__":Str))=false
abbrev jp(e:Expr)(es:List Expr)(v:Env):Prop:=ZF (e::es) v=(false,eval e v)::ZF es v
abbrev kt(e:Expr)(v:Env):Prop:=ZF [e] v=[(false,eval e v)]
abbrev bv(p:Pos)(es:List Expr)(v:Env):Prop:=(abk p (ZF es v)).any (·.1)=false
abbrev ci(a b:Pos):Prop:=(a.endLine==b.line)=true
def eZ(s:Stmt):Arguments:=match s with
 | .FunctionDef _ a _ _ _ _ _ _ _ _=>a
 |_=>{posonlyargs:=[],args:=[],vararg:=none,kwonlyargs:=[],kw_defaults:=[],kwarg:=none,defaults:=[]}
def aY(s:Stmt):List Stmt:=match s with
 | .FunctionDef _ _ b _ _ _ _ _ _ _=>b
 |_=>[]
def ai(s:Stmt):Scope:=match s with
 | .FunctionDef _ _ _ _ _ _ sc _ _ _=>sc
 |_=>{kind:= .function,names:=[],isGenerator:=false,isCoroutine:=false}
end L2
namespace K1
open PySem PySem.Spec
def top(i:Nat):Stmt:=PySem.Challenge.pw_cellpatches_k31_holes.main.body.getD i (.Pass ⟨0,0,0,0⟩)
abbrev hS(s:String)(t:Tok):Value:= .str (acb s) t
abbrev hE(P:Params)(s:String)(t:Tok)(v:Value):adx:={hash:=PyData.keyHash P (acb s),key:=hS s t,val:=v}
abbrev hT(xs:Array Value):Obj:={cls:= .type "tuple",data:=Data.seq xs}
abbrev hF(s:String)(t:Stmt)(m:Value)(c:Addr):Obj:={cls:= .type "function",data:=Data.func {name:=acb s,qualname:=acb s,params:=L2.eZ t,body:=FuncBody.stmts (L2.aY t),scope:=L2.ai t,globals:=3,closure:=[],defaults:= .none,kwdefaults:= .none,pyModule:=m,code:= .ref c} }
abbrev jV(s:String)(t1 t2 t3:Tok)(l n f:Int)(a:Addr)(v:Int)(b:Addr)(x y:Value)(d:Addr)(p:Int)(t4:Tok):Obj:={cls:= .type "code",data:=afG #[hS s t1,hS s t2,hS "/claim/cut.py" t3, .int l 0, .int n 0, .int 0 0, .int 0 0, .int f 0, .ref a, .bool true, .int v 0, .ref b, .none,x,y, .ref d, .int p 0, .int l 0,hS "/claim/cut.py" t4]}
abbrev CV:Value:=hS "law_cellpatches_k31_holes" 551
abbrev FO:Value:=hS "cellpatches.boards" 319
abbrev Mg:Value:=hS "cellpatches.errors" 187
abbrev Nr:Value:=hS "cellpatches.measures" 489
abbrev Po:Value:=hS "cellpatches.patches" 422
abbrev Nq(n:String)(b a ns r:Addr)(t1 t2:Tok):Obj:={cls:= .type "type",data:=Data.cls {name:=acb n,bases:=[.ref b],mro:=[.ref a, .ref b, .type "ValueError", .type "Exception", .type "BaseException", .type "object"],ns:=ns,qualname:=acb n},slots:= #[some (.ref r),none,some (hS n t1),some (hS n t2),some (.builtin "ValueError.__new__"),some (.bool true)]}
def rq:Params->ZE:=λP=>(nat_lit 2,{cls:= .none,data:=aco #[]})::
 (nat_lit 3,{cls:= .type "dict",data:=aco #[hE P "__name__" 165 CV,hE P "__doc__" 166 .none,hE P "__package__" 167 .none,hE P "__loader__" 168 (.builtin "__main__.__loader__#opaque"),hE P "__spec__" 169 .none,hE P "__annotations__" 170 (.ref 6),hE P "__builtins__" 171 (.ref 4),hE P "__file__" 173 (hS "/claim/cut.py" 172),hE P "__cached__" 174 .none,hE P "PatchError" 206 (.ref 24),hE P "NoBoard" 222 (.ref 37),hE P "NoWays" 238 (.ref 49),hE P "NoCell" 254 (.ref 61),hE P "NoLetter" 270 (.ref 73),hE P "NoNumber" 286 (.ref 85),hE P "NoFit" 302 (.ref 97),hE P "Nothing" 318 (.ref 109),hE P "LETTERS" 322 (hS "abcdef" 321),hE P "MOST_ROWS" 324 (.int 8 323),hE P "MOST_COLUMNS" 326 (.int 8 325),hE P "is_whole" 333 (.ref 118),hE P "is_letter" 340 (.ref 125),hE P "is_row" 346 (.ref 130),hE P "is_board" 352 (.ref 135),hE P "need_board" 359 (.ref 142),hE P "need_ways" 366 (.ref 149),hE P "cells_of_row" 372 (.ref 154),hE P "all_cells" 381 (.ref 161),hE P "letter_of" 389 (.ref 168),hE P "are_next" 400 (.ref 175),hE P "next_cells" 412 (.ref 182),hE P "keyed" 421 (.ref 189),hE P "like_cells" 429 (.ref 194),hE P "steps_back" 443 (.ref 201),hE P "all_patches" 455 (.ref 208),hE P "near_among" 461 (.ref 213),hE P "distances" 474 (.ref 220),hE P "parts_of" 488 (.ref 227),hE P "need_number" 498 (.ref 234),hE P "patch_of_number" 508 (.ref 241),hE P "is_at_edge" 516 (.ref 248),hE P "comes_to_edge" 522 (.ref 253),hE P "shut_parts" 528 (.ref 258),hE P "shut_in" 540 (.ref 265),hE P "holes" 550 (.ref 272),hE P "_law_cell" 560 (.ref 279),hE P "_law_drawn" 570 (.ref 286),hE P "_law_board" 576 (.ref 291),hE P "_law_cells" 582 (.ref 296),hE P "_law_beside" 597 (.ref 303),hE P "_law_labels" 603 (.ref 308),hE P "_law_patches" 609 (.ref 313),hE P "_law_refused" 617 (.ref 320),hE P "_law_told" 628 (.ref 327),hE P "_law_parts" 634 (.ref 332),hE P "_law_holes" 640 (.ref 337),hE P "_law_aslant" 646 (.ref 342),hE P "law" 652 (.ref 347)] 58})::
 (nat_lit 15,hT #[.type "ValueError"])::
 (nat_lit 22,hT #[])::
 (nat_lit 23,{cls:= .type "dict",data:=aco #[hE P "__module__" 196 Mg,hE P "__firstlineno__" 200 (.int 2 199),hE P "__static_attributes__" 201 (.ref 22),hE P "__weakref__" 203 (.ref 25),hE P "__doc__" 204 .none] 3})::
 (nat_lit 24,{cls:= .type "type",data:=Data.cls {name:=acb "PatchError",bases:=[.type "ValueError"],mro:=[.ref 24, .type "ValueError", .type "Exception", .type "BaseException", .type "object"],ns:=23,qualname:=acb "PatchError",subclasses:=[.ref 37, .ref 49, .ref 61, .ref 73, .ref 85, .ref 97, .ref 109]},slots:= #[some (.ref 15),none,some (hS "PatchError" 189),some (hS "PatchError" 197),some (.builtin "ValueError.__new__"),some (.bool true)]})::
 (nat_lit 25,{cls:= .type "getset_descriptor",data:=afG #[hS "__weakref__" 202, .ref 24, .builtin "ExceptionGroup.__weakref__", .none]})::
 (nat_lit 28,hT #[.ref 24])::
 (nat_lit 35,hT #[])::
 (nat_lit 36,{cls:= .type "dict",data:=aco #[hE P "__module__" 214 Mg,hE P "__firstlineno__" 218 (.int 4 217),hE P "__static_attributes__" 219 (.ref 35),hE P "__doc__" 220 .none] 2})::
 (nat_lit 37,Nq "NoBoard" 24 37 36 28 207 215)::
 (nat_lit 40,hT #[.ref 24])::
 (nat_lit 47,hT #[])::
 (nat_lit 48,{cls:= .type "dict",data:=aco #[hE P "__module__" 230 Mg,hE P "__firstlineno__" 234 (.int 6 233),hE P "__static_attributes__" 235 (.ref 47),hE P "__doc__" 236 .none] 2})::
 (nat_lit 49,Nq "NoWays" 24 49 48 40 223 231)::
 (nat_lit 52,hT #[.ref 24])::
 (nat_lit 59,hT #[])::
 (nat_lit 60,{cls:= .type "dict",data:=aco #[hE P "__module__" 246 Mg,hE P "__firstlineno__" 250 (.int 8 249),hE P "__static_attributes__" 251 (.ref 59),hE P "__doc__" 252 .none] 2})::
 (nat_lit 61,Nq "NoCell" 24 61 60 52 239 247)::
 (nat_lit 64,hT #[.ref 24])::
 (nat_lit 71,hT #[])::
 (nat_lit 72,{cls:= .type "dict",data:=aco #[hE P "__module__" 262 Mg,hE P "__firstlineno__" 266 (.int 10 265),hE P "__static_attributes__" 267 (.ref 71),hE P "__doc__" 268 .none] 2})::
 (nat_lit 73,Nq "NoLetter" 24 73 72 64 255 263)::
 (nat_lit 76,hT #[.ref 24])::
 (nat_lit 83,hT #[])::
 (nat_lit 84,{cls:= .type "dict",data:=aco #[hE P "__module__" 278 Mg,hE P "__firstlineno__" 282 (.int 12 281),hE P "__static_attributes__" 283 (.ref 83),hE P "__doc__" 284 .none] 2})::
 (nat_lit 85,Nq "NoNumber" 24 85 84 76 271 279)::
 (nat_lit 88,hT #[.ref 24])::
 (nat_lit 95,hT #[])::
 (nat_lit 96,{cls:= .type "dict",data:=aco #[hE P "__module__" 294 Mg,hE P "__firstlineno__" 298 (.int 14 297),hE P "__static_attributes__" 299 (.ref 95),hE P "__doc__" 300 .none] 2})::
 (nat_lit 97,Nq "NoFit" 24 97 96 88 287 295)::
 (nat_lit 100,hT #[.ref 24])::
 (nat_lit 107,hT #[])::
 (nat_lit 108,{cls:= .type "dict",data:=aco #[hE P "__module__" 310 Mg,hE P "__firstlineno__" 314 (.int 16 313),hE P "__static_attributes__" 315 (.ref 107),hE P "__doc__" 316 .none] 2})::
 (nat_lit 109,Nq "Nothing" 24 109 108 100 303 311)::
 (nat_lit 112,hT #[])::
 (nat_lit 114,hT #[hS "thing" 330])::
 (nat_lit 115,hT #[])::
 (nat_lit 117,jV "is_whole" 327 328 329 22 1 3 112 181 113 (.ref 114) (.ref 115) 116 331 332)::
 (nat_lit 118,hF "is_whole" (top 13) FO 117)::
 (nat_lit 119,hT #[])::
 (nat_lit 121,hT #[hS "thing" 337])::
 (nat_lit 122,hT #[])::
 (nat_lit 124,jV "is_letter" 334 335 336 24 1 3 119 181 120 (.ref 121) (.ref 122) 123 338 339)::
 (nat_lit 125,hF "is_letter" (top 14) FO 124)::
 (nat_lit 126,hT #[])::
 (nat_lit 129,jV "is_row" 341 342 343 26 1 3 126 181 127 .none .none 128 344 345)::
 (nat_lit 130,hF "is_row" (top 15) FO 129)::
 (nat_lit 131,hT #[])::
 (nat_lit 134,jV "is_board" 347 348 349 30 1 3 131 181 132 .none .none 133 350 351)::
 (nat_lit 135,hF "is_board" (top 16) FO 134)::
 (nat_lit 136,hT #[])::
 (nat_lit 138,hT #[hS "thing" 356])::
 (nat_lit 139,hT #[])::
 (nat_lit 141,jV "need_board" 353 354 355 36 1 3 136 181 137 (.ref 138) (.ref 139) 140 357 358)::
 (nat_lit 142,hF "need_board" (top 17) FO 141)::
 (nat_lit 143,hT #[])::
 (nat_lit 145,hT #[hS "thing" 363])::
 (nat_lit 146,hT #[])::
 (nat_lit 148,jV "need_ways" 360 361 362 39 1 3 143 181 144 (.ref 145) (.ref 146) 147 364 365)::
 (nat_lit 149,hF "need_ways" (top 18) FO 148)::
 (nat_lit 150,hT #[])::
 (nat_lit 153,jV "cells_of_row" 367 368 369 42 2 3 150 181 151 .none .none 152 370 371)::
 (nat_lit 154,hF "cells_of_row" (top 19) FO 153)::
 (nat_lit 155,hT #[])::
 (nat_lit 157,hT #[hS "board" 376,hS "found" 377,hS "row" 378])::
 (nat_lit 158,hT #[])::
 (nat_lit 160,jV "all_cells" 373 374 375 44 1 3 155 181 156 (.ref 157) (.ref 158) 159 379 380)::
 (nat_lit 161,hF "all_cells" (top 20) FO 160)::
 (nat_lit 162,hT #[])::
 (nat_lit 164,hT #[hS "board" 385,hS "cell" 386])::
 (nat_lit 165,hT #[])::
 (nat_lit 167,jV "letter_of" 382 383 384 49 2 3 162 181 163 (.ref 164) (.ref 165) 166 387 388)::
 (nat_lit 168,hF "letter_of" (top 21) FO 167)::
 (nat_lit 169,hT #[])::
 (nat_lit 171,hT #[hS "one" 393,hS "other" 394,hS "ways" 395,hS "down" 396,hS "along" 397])::
 (nat_lit 172,hT #[])::
 (nat_lit 174,jV "are_next" 390 391 392 51 3 3 169 181 170 (.ref 171) (.ref 172) 173 398 399)::
 (nat_lit 175,hF "are_next" (top 22) FO 174)::
 (nat_lit 176,hT #[])::
 (nat_lit 178,hT #[hS "board" 404,hS "cell" 405,hS "ways" 406,hS "found" 407,hS "row" 408,hS "column" 409])::
 (nat_lit 179,hT #[])::
 (nat_lit 181,jV "next_cells" 401 402 403 57 3 3 176 181 177 (.ref 178) (.ref 179) 180 410 411)::
 (nat_lit 182,hF "next_cells" (top 23) FO 181)::
 (nat_lit 183,hT #[])::
 (nat_lit 185,hT #[hS "things" 416,hS "found" 417,hS "thing" 418])::
 (nat_lit 186,hT #[])::
 (nat_lit 188,jV "keyed" 413 414 415 64 1 3 183 181 184 (.ref 185) (.ref 186) 187 419 420)::
 (nat_lit 189,hF "keyed" (top 24) FO 188)::
 (nat_lit 190,hT #[])::
 (nat_lit 193,jV "like_cells" 424 425 426 70 3 3 190 181 191 .none .none 192 427 428)::
 (nat_lit 194,hF "like_cells" (top 26) Po 193)::
 (nat_lit 195,hT #[])::
 (nat_lit 197,hT #[hS "board" 433,hS "start" 434,hS "ways" 435,hS "back" 436,hS "ring" 437,hS "further" 438,hS "cell" 439,hS "near" 440])::
 (nat_lit 198,hT #[])::
 (nat_lit 200,jV "steps_back" 430 431 432 73 3 3 195 181 196 (.ref 197) (.ref 198) 199 441 442)::
 (nat_lit 201,hF "steps_back" (top 27) Po 200)::
 (nat_lit 202,hT #[])::
 (nat_lit 204,hT #[hS "board" 447,hS "ways" 448,hS "found" 449,hS "seen" 450,hS "cell" 451,hS "patch" 452])::
 (nat_lit 205,hT #[])::
 (nat_lit 207,jV "all_patches" 444 445 446 85 2 3 202 181 203 (.ref 204) (.ref 205) 206 453 454)::
 (nat_lit 208,hF "all_patches" (top 28) Po 207)::
 (nat_lit 209,hT #[])::
 (nat_lit 212,jV "near_among" 456 457 458 94 3 3 209 181 210 .none .none 211 459 460)::
 (nat_lit 213,hF "near_among" (top 29) Po 212)::
 (nat_lit 214,hT #[])::
 (nat_lit 216,hT #[hS "near" 465,hS "start" 466,hS "far" 467,hS "ring" 468,hS "further" 469,hS "thing" 470,hS "other" 471])::
 (nat_lit 217,hT #[])::
 (nat_lit 219,jV "distances" 462 463 464 100 2 3 214 181 215 (.ref 216) (.ref 217) 218 472 473)::
 (nat_lit 220,hF "distances" (top 30) Po 219)::
 (nat_lit 221,hT #[])::
 (nat_lit 223,hT #[hS "board" 478,hS "some" 479,hS "ways" 480,hS "near" 481,hS "parts" 482,hS "seen" 483,hS "cell" 484,hS "part" 485])::
 (nat_lit 224,hT #[])::
 (nat_lit 226,jV "parts_of" 475 476 477 112 3 3 221 181 222 (.ref 223) (.ref 224) 225 486 487)::
 (nat_lit 227,hF "parts_of" (top 31) Po 226)::
 (nat_lit 228,hT #[])::
 (nat_lit 230,hT #[hS "many" 494,hS "thing" 495])::
 (nat_lit 231,hT #[])::
 (nat_lit 233,jV "need_number" 491 492 493 123 2 3 228 181 229 (.ref 230) (.ref 231) 232 496 497)::
 (nat_lit 234,hF "need_number" (top 33) Nr 233)::
 (nat_lit 235,hT #[])::
 (nat_lit 237,hT #[hS "board" 502,hS "ways" 503,hS "number" 504,hS "found" 505])::
 (nat_lit 238,hT #[])::
 (nat_lit 240,jV "patch_of_number" 499 500 501 126 3 3 235 181 236 (.ref 237) (.ref 238) 239 506 507)::
 (nat_lit 241,hF "patch_of_number" (top 34) Nr 240)::
 (nat_lit 242,hT #[])::
 (nat_lit 244,hT #[hS "board" 512,hS "cell" 513])::
 (nat_lit 245,hT #[])::
 (nat_lit 247,jV "is_at_edge" 509 510 511 132 2 3 242 181 243 (.ref 244) (.ref 245) 246 514 515)::
 (nat_lit 248,hF "is_at_edge" (top 35) Nr 247)::
 (nat_lit 249,hT #[])::
 (nat_lit 252,jV "comes_to_edge" 517 518 519 134 2 3 249 181 250 .none .none 251 520 521)::
 (nat_lit 253,hF "comes_to_edge" (top 36) Nr 252)::
 (nat_lit 254,hT #[])::
 (nat_lit 257,jV "shut_parts" 523 524 525 136 3 3 254 181 255 .none .none 256 526 527)::
 (nat_lit 258,hF "shut_parts" (top 37) Nr 257)::
 (nat_lit 259,hT #[])::
 (nat_lit 261,hT #[hS "board" 532,hS "ways" 533,hS "number" 534,hS "patch" 535,hS "told" 536,hS "part" 537])::
 (nat_lit 262,hT #[])::
 (nat_lit 264,jV "shut_in" 529 530 531 141 3 3 259 181 260 (.ref 261) (.ref 262) 263 538 539)::
 (nat_lit 265,hF "shut_in" (top 38) Nr 264)::
 (nat_lit 266,hT #[])::
 (nat_lit 268,hT #[hS "board" 544,hS "ways" 545,hS "number" 546,hS "patch" 547])::
 (nat_lit 269,hT #[])::
 (nat_lit 271,jV "holes" 541 542 543 147 3 3 266 181 267 (.ref 268) (.ref 269) 270 548 549)::
 (nat_lit 272,hF "holes" (top 39) Nr 271)::
 (nat_lit 273,hT #[])::
 (nat_lit 275,hT #[hS "_law_script" 556,hS "_law_k" 557])::
 (nat_lit 276,hT #[])::
 (nat_lit 278,jV "_law_cell" 553 554 555 151 2 3 273 181 274 (.ref 275) (.ref 276) 277 558 559)::
 (nat_lit 279,hF "_law_cell" (top 41) CV 278)::
 (nat_lit 280,hT #[])::
 (nat_lit 282,hT #[hS "_law_script" 564,hS "_law_k" 565,hS "_law_many" 566,hS "_law_cell_here" 567])::
 (nat_lit 283,hT #[])::
 (nat_lit 285,jV "_law_drawn" 561 562 563 155 3 3 280 181 281 (.ref 282) (.ref 283) 284 568 569)::
 (nat_lit 286,hF "_law_drawn" (top 42) CV 285)::
 (nat_lit 287,hT #[])::
 (nat_lit 290,jV "_law_board" 571 572 573 159 3 3 287 181 288 .none .none 289 574 575)::
 (nat_lit 291,hF "_law_board" (top 43) CV 290)::
 (nat_lit 292,hT #[])::
 (nat_lit 295,jV "_law_cells" 577 578 579 168 1 3 292 181 293 .none .none 294 580 581)::
 (nat_lit 296,hF "_law_cells" (top 44) CV 295)::
 (nat_lit 297,hT #[])::
 (nat_lit 299,hT #[hS "_law_board_here" 586,hS "_law_cell_here" 587,hS "_law_ways" 588,hS "_law_found" 589,hS "_law_down" 590,hS "_law_right" 591,hS "_law_row" 592,hS "_law_column" 593,hS "_law_inside" 594])::
 (nat_lit 300,hT #[])::
 (nat_lit 302,jV "_law_beside" 583 584 585 173 3 3 297 181 298 (.ref 299) (.ref 300) 301 595 596)::
 (nat_lit 303,hF "_law_beside" (top 45) CV 302)::
 (nat_lit 304,hT #[])::
 (nat_lit 307,jV "_law_labels" 598 599 600 183 2 3 304 181 305 .none .none 306 601 602)::
 (nat_lit 308,hF "_law_labels" (top 46) CV 307)::
 (nat_lit 309,hT #[])::
 (nat_lit 312,jV "_law_patches" 604 605 606 201 2 3 309 181 310 .none .none 311 607 608)::
 (nat_lit 313,hF "_law_patches" (top 47) CV 312)::
 (nat_lit 314,hT #[])::
 (nat_lit 316,hT #[hS "_law_e" 613,hS "_law_flags" 614])::
 (nat_lit 317,hT #[])::
 (nat_lit 319,jV "_law_refused" 610 611 612 207 1 3 314 181 315 (.ref 316) (.ref 317) 318 615 616)::
 (nat_lit 320,hF "_law_refused" (top 48) CV 319)::
 (nat_lit 321,hT #[])::
 (nat_lit 323,hT #[hS "_law_which" 621,hS "_law_board_here" 622,hS "_law_ways" 623,hS "_law_number" 624,hS "_law_e" 625])::
 (nat_lit 324,hT #[])::
 (nat_lit 326,jV "_law_told" 618 619 620 214 4 3 321 181 322 (.ref 323) (.ref 324) 325 626 627)::
 (nat_lit 327,hF "_law_told" (top 49) CV 326)::
 (nat_lit 328,hT #[])::
 (nat_lit 331,jV "_law_parts" 629 630 631 219 2 3 328 181 329 .none .none 330 632 633)::
 (nat_lit 332,hF "_law_parts" (top 50) CV 331)::
 (nat_lit 333,hT #[])::
 (nat_lit 336,jV "_law_holes" 635 636 637 232 3 3 333 181 334 .none .none 335 638 639)::
 (nat_lit 337,hF "_law_holes" (top 51) CV 336)::
 (nat_lit 338,hT #[])::
 (nat_lit 341,jV "_law_aslant" 641 642 643 241 0 3 338 181 339 .none .none 340 644 645)::
 (nat_lit 342,hF "_law_aslant" (top 52) CV 341)::
 (nat_lit 343,hT #[])::
 (nat_lit 346,jV "law" 647 648 649 252 1 3 343 181 344 .none .none 345 650 651)::
 (nat_lit 347,hF "law" (top 53) CV 346)::[]
def rp:List Nat:=[2,3,15,22,23,24,25,28,35,36,37,40,47,48,49,52,59,60,61,64,71,72,73,76,83,84,85,88,95,96,97,100,107,108,109,112,114,115,117,118,119,121,122,124,125,126,129,130,131,134,135,136,138,139,141,142,143,145,146,148,149,150,153,154,155,157,158,160,161,162,164,165,167,168,169,171,172,174,175,176,178,179,181,182,183,185,186,188,189,190,193,194,195,197,198,200,201,202,204,205,207,208,209,212,213,214,216,217,219,220,221,223,224,226,227,228,230,231,233,234,235,237,238,240,241,242,244,245,247,248,249,252,253,254,257,258,259,261,262,264,265,266,268,269,271,272,273,275,276,278,279,280,282,283,285,286,287,290,291,292,295,296,297,299,300,302,303,304,307,308,309,312,313,314,316,317,319,320,321,323,324,326,327,328,331,332,333,336,337,338,341,342,343,346,347]
def AE:Z5:={PySem.Challenge.pw_cellpatches_k31_holes with main:={PySem.Challenge.pw_cellpatches_k31_holes.main with body:=[top 1,top 2,top 3,top 4,top 5,top 6,top 7,top 8,top 10,top 11,top 12,top 13,top 14,top 15,top 16,top 17,top 18,top 19,top 20,top 21,top 22,top 23,top 24,top 26,top 27,top 28,top 29,top 30,top 31,top 33,top 34,top 35,top 36,top 37,top 38,top 39,top 41,top 42,top 43,top 44,top 45,top 46,top 47,top 48,top 49,top 50,top 51,top 52,top 53]} }
open PySem.W PyProof.Rows in
theorem Qy:LeftO PySem.Challenge.rw_cellpatches_k31_holes.row.prog AE [] (λs=>xlAt AE [] s&&recOk PySem.Challenge.rw_cellpatches_k31_holes.row.records s) (kHook rq rp (λ_=>by kernel_rfl)).obs (kHook rq rp (λ_=>by kernel_rfl)).val 5876:=λw=>by kernel_rfl
end K1
namespace L2
open PySem PySem.Spec PyProof.Rows
abbrev Key:=Sum Int Str
def rL:Key->Value->Bool
 | .inl k,v=>aek k v
 | .inr x,v=>Value.isStrOf x v
def QY(w:World):Key->Int
 | .inl k=>hashInt k
 | .inr x=>hashStr w x
theorem cp:∀{k:Key}{v:Value},rL k v=true->(∃i t,k=aeb i/\v=ae6 i t)\/(∃x t,k=aey x/\v=ae5 x t)
 | .inl i,v,h=>by
   obtain⟨t,e⟩:=Value.isInt_shape (k:=i) (v:=v) h;exact .inl ⟨i,t,rfl,e⟩
 | .inr x,v,h=>by
   obtain⟨t,e⟩:=Value.isStrOf_shape (x:=x) (v:=v) h;exact .inr ⟨x,t,rfl,e⟩
theorem ER(i:Int)(t:Tok):rL (.inl i) (.int i t)=true:=by simp[rL,aek]
theorem ES(x:Str)(t:Tok):rL (.inr x) (.str x t)=true:=by simp[rL,Value.isStrOf]
theorem N5(a b:Int):decide ((aeb a:Key)=aeb b)=(a==b):=by
 by_cases e:a=b
 ·subst e;simp
 ·have h:¬(aeb a:Key)=aeb b:=λq=>e (Sum.inl.inj q);rw[agh h];exact(agk.mpr e).symm
theorem N8(a b:Str):decide ((aey a:Key)=aey b)=decide (a=b):=by
 by_cases e:a=b
 ·subst e;simp
 ·have h:¬(aey a:Key)=aey b:=λq=>e (Sum.inr.inj q);rw[agh h,agh e]
theorem N6(a:Int)(b:Str):decide ((aeb a:Key)=aey b)=false:=agh (λq=>nomatch q)
theorem N7(a:Str)(b:Int):decide ((aey a:Key)=aeb b)=false:=agh (λq=>nomatch q)
def bo(prog:Z5)(w:World):PySem.KeyKind prog w Key where
 is:=rL
 hash:=QY w
 inj:=λv a b ha hb=>by
  rcases cp ha with⟨i,t,rfl,rfl⟩ | ⟨x,t,rfl,rfl⟩
  ·rcases cp hb with⟨j,u,rfl,e⟩ | ⟨y,u,rfl,e⟩
   ·injection e with e1 _;rw[e1]
   ·exact nomatch e
  ·rcases cp hb with⟨j,u,rfl,e⟩ | ⟨y,u,rfl,e⟩
   ·exact nomatch e
   ·injection e with e1 _;rw[e1]
 byValue:=λk v h=>by
  rcases cp h with⟨i,t,rfl,rfl⟩ | ⟨x,t,rfl,rfl⟩<;>rfl
 pyHash:=λhv h=>by
  rcases cp hv with⟨i,t,rfl,rfl⟩ | ⟨x,t,rfl,rfl⟩
  ·exact wpAny_pyHash_int h
  ·exact wpAny_pyHash_str h
 eqBool:=λhu hv h=>by
  rcases cp hu with⟨i,t,rfl,rfl⟩ | ⟨x,t,rfl,rfl⟩
  ·rcases cp hv with⟨j,u,rfl,rfl⟩ | ⟨y,u,rfl,rfl⟩
   ·rw[N5] at h;exact wpAny_eqBool_int h
   ·rw[N6] at h;exact aeR i t y u _ _ _ _ h
  ·rcases cp hv with⟨j,u,rfl,rfl⟩ | ⟨y,u,rfl,rfl⟩
   ·rw[N7] at h;exact aeQ x t j u _ _ _ _ h
   ·rw[N8] at h;exact wpAny_eqBool_str h
 «strs» :=λk x t v h=>by
  rcases cp h with⟨i,u,rfl,e⟩ | ⟨y,u,rfl,e⟩
  ·exact nomatch e
  ·injection e with e1 _
   subst e1;cases v<;>rfl
theorem zJ(prog:Z5)(w:World)(i:Int)(t:Tok):(bo prog w).is (.inl i) (.int i t)=true:=ER i t
theorem zK(prog:Z5)(w:World)(x:Str)(t:Tok):(bo prog w).is (.inr x) (.str x t)=true:=ES x t
inductive V where
 |non | bl (b:Bool) | int (i:Int) | str (x:Str) | byt (b:Array UInt8) | flt (b:UInt64) | ref (a:Addr) | ty (n:String)
 deriving DecidableEq
def RelV:V->Value->Prop
 | .non,u=>u=aaN
 | .bl b,u=>u=abc b
 | .int i,u=>∃t,u=ae6 i t
 | .str x,u=>∃t,u=ae5 x t
 | .byt b,u=>∃t,u=Value.bytes b t
 | .flt b,u=>∃t,u=Value.float b t
 | .ref a,u=>u=Z6 a
 | .ty n,u=>u=ac0 n
abbrev Vals:List V->List Value->Prop:=aea RelV
theorem Vals.length{xs:List V}{us:List Value}(r:Vals xs us):xs.length=us.length:=abB r
theorem Vals.get:∀{xs:List V}{us:List Value}{i:Nat}{x:V},Vals xs us->xs[i]? =some x->∃u,us[i]? =some u/\RelV x u
 |_,_,_,_, .nil,e=>by simp at e
 |_,_,0,_, .cons r _,e=>by simp at e;subst e;exact⟨_,rfl,r⟩
 |_,_,i+1,x, .cons _ t,e=>by
  obtain⟨u,h1,h2⟩:=Vals.get (i:=i) (x:=x) t (by simpa using e);exact⟨u,by simpa using h1,h2⟩
theorem Vals.append:∀{xs ys:List V}{us ws:List Value},Vals xs us->Vals ys ws->Vals (xs++ys) (us++ws)
 |_,_,_,_, .nil,s=>s
 |_,_,_,_, .cons r t,s=> .cons r (Vals.append t s)
theorem Vals.take:∀{xs:List V}{us:List Value}(n:Nat),Vals xs us->Vals (xs.take n) (us.take n)
 |_,_,0,_=> .nil
 |_,_,_+1, .nil=> .nil
 |_,_,n+1, .cons r t=> .cons r (Vals.take n t)
theorem Vals.drop:∀{xs:List V}{us:List Value}(n:Nat),Vals xs us->Vals (xs.drop n) (us.drop n)
 |_,_,0,r=>r
 |_,_,_+1, .nil=> .nil
 |_,_,n+1, .cons _ t=>Vals.drop n t
def RelO:Option V->Option Value->Prop
 |some v,some u=>RelV v u
 |none,none=>True
 |_,_=>False
def KV{κ:Type}:List (κ×V)->List (κ×Value)->Prop:=aea λ(p:κ×V) (q:κ×Value)=>p.1=q.1/\RelV p.2 q.2
def kV:Key->V
 | .inl i=> .int i
 | .inr x=> .str x
inductive HO where
 |lst (xs:List V)
 |tup (xs:List V)
 |dK (aB:List (Key×V)) | dT (aB:List (List Key×V))
 |set (S:Int->Bool) (n:Nat)
 |ins (C dx:Addr) (fs:List (Str×V))
 |own (x:Addr)
 |xd (fs:List (Str×V))
 |met (f x:Addr)
 |rng (lo hi:Int)
 |frz (o:Obj) (u:HO)
 |tbl (ps:Array Value)
 |ext (φ:Heap->Prop)
abbrev Hp:=Addr->Option HO
def upd(H:Hp)(a:Addr)(o:HO):Hp:=λb=>if b=a then some o else H b
theorem aJ{H:Hp}{a:Addr}{o:HO}:upd H a o a=some o:=by unfold upd;rw[agd rfl]
theorem ax{H:Hp}{a b:Addr}{o:HO}(h:b≠a):upd H a o b=H b:=by unfold upd;rw[age h]
theorem Hx{H:Hp}{a b:Addr}{o u:HO}(h:H a=some o)(h':H b=some u)(d:o≠u):a≠b:=by
 intro e;subst e;rw[h] at h';exact d (Z4 h')
theorem bx{H:Hp}{a b:Addr}{o:HO}(h:H a=some o)(h':H b=none):a≠b:=by
 intro e;subst e;rw[h] at h';cases h'
section
variable(P:Z5)(w:World)
def ObjOk(H:Hp)(h:Heap)(a:Addr):HO->Prop
 | .lst xs=>xs.length<=ZQ/\∃(aL:List Value) (n:Nat),Vals xs aL/\h.get? a=some {cls:= .type "list",data:= .seq aL.toArray n}
 | .tup xs=>xs.length<=ZQ/\∃aL:List Value,Vals xs aL/\IsTup h a aL.toArray
 | .dK aB=>aB.length<=ZQ/\(a==aa3)=false/\∃vs,KV aB vs/\h.DictOf (bo P w) a vs
 | .dT aB=>aB.length<=ZQ/\(a==aa3)=false/\∃xs:List (List Key×Addr×Value),
    aea (λ(p:List Key×V) (q:List Key×Addr×Value)=>p.1=q.1/\H q.2.1=some (.tup (p.1.map kV))/\RelV p.2 q.2.2) aB xs/\
    ∃o es ep,h.get? a=some o/\o.ExactDict/\o.data= .dict es ep/\es.toList=xs.map (afA (abO (bo P w)))/\(xs.map (·.1)).Nodup
 | .set S n=>h.SetOf (abo P w) a S n
 | .ins C dx fs=>H dx=some (.own a)/\fs.length<=1000/\dx≠a/\h.get? a=some (aec C dx)/\
    ∃mA,h.Ns1 dx mA/\(∀f,RelO (fs.lookup f) (mA f))/\PySem.Within mA (fs.map (·.1))
 | .own _=>∃o,h.get? a=some o
 | .xd fs=>∃mA,h.Ns1 a mA/\∀f,RelO (fs.lookup f) (mA f)
 | .rng lo hi=>∃t u v,h.get? a=some {cls:= .type "range",data:= .fields #[.int lo t, .int hi u, .int 1 v]}
 | .frz o u=>h.get? a=some o/\ObjOk H h a u
 | .tbl ps=>h.get? a=some {cls:= .none,data:= .fields ps}
 | .met f x=>h.get? a=some (adT (.ref f) (.ref x))
 | .ext φ=>φ h/\(∃o,h.get? a=some o)/\∀h1 h2:Heap,φ h1->(∀o,h1.get? a=some o->h2.get? a=some o)->φ h2
def HOk(H:Hp)(h:Heap):Prop:=∀a o,H a=some o->ObjOk P w H h a o
end
section
variable{P:Z5}{w:World}{H H':Hp}{h h':Heap}{a:Addr}{o:HO}
theorem ObjOk.lt(x:ObjOk P w H h a o):a<h.objs.size:=by
 cases o with
 |lst xs=>obtain⟨_,_,_,_,e⟩:=x;exact ZG e
 |tup xs=>obtain⟨_,_,_,p⟩:=x;exact p.lt
 |dK aB=>obtain⟨_,_,_,_,o,_,_,e,_⟩:=x;exact ZG e
 |dT aB=>obtain⟨_,_,_,_,o,_,_,e,_⟩:=x;exact ZG e
 |set S n=>obtain⟨o,_,_,_,e,_⟩:=x;exact ZG e
 |ins C dx fs=>obtain⟨_,_,_,e,_⟩:=x;exact ZG e
 |own y=>obtain⟨_,e⟩:=x;exact ZG e
 |xd fs=>obtain⟨_,⟨_,_,_,e,_⟩,_⟩:=x;exact ZG e
 |rng lo hi=>obtain⟨_,_,_,e⟩:=x;exact ZG e
 |frz ob u=>obtain⟨e,_⟩:=x;exact ZG e
 |tbl ps=>exact ZG (show h.get? a=some _ from x)
 |met f y=>exact ZG (show h.get? a=some _ from x)
 |ext φ=>obtain⟨_,⟨_,e⟩,_⟩:=x;exact ZG e
theorem Paired.mapP{α β:Type}{F G:α->β->Prop}:∀{l₁:List α}{l₂:List β},aea F l₁ l₂->(∀a b,F a b->G a b)->aea G l₁ l₂
 |_,_, .nil,_=> .nil
 |_,_, .cons r t,f=> .cons (f _ _ r) (Paired.mapP t f)
theorem ObjOk.stay(x:ObjOk P w H h a o)(k:∀b u,(b=a\/H b=some (.own a))->h.get? b=some u->h'.get? b=some u)
 (ho:∀b,H b=some (.own a)->H' b=some (.own a))(ht:∀b xs,H b=some (.tup xs)->H' b=some (.tup xs)):ObjOk P w H' h' a o:=by
 induction o with
 |lst xs=>obtain⟨z,aL,n,r,e⟩:=x;exact⟨z,aL,n,r,k _ _ (.inl rfl) e⟩
 |tup xs=>obtain⟨z,aL,r,ob,e,c⟩:=x;exact⟨z,aL,r,ob,k _ _ (.inl rfl) e,c⟩
 |dK aB=>obtain⟨z,y,vs,r,ob,es,ep,e,c⟩:=x;exact⟨z,y,vs,r,ob,es,ep,k _ _ (.inl rfl) e,c⟩
 |dT aB=>
  obtain⟨z,y,xs,r,ob,es,ep,e,c⟩:=x;exact⟨z,y,xs,Paired.mapP r λp q z=>⟨z.1,ht _ _ z.2.1,z.2.2⟩,ob,es,ep,k _ _ (.inl rfl) e,c⟩
 |set S n=>obtain⟨ob,es,ep,t,e,c⟩:=x;exact⟨ob,es,ep,t,k _ _ (.inl rfl) e,c⟩
 |ins C dx fs=>
  obtain⟨d,z,ne,e,mA,⟨od,es,ep,e2,c⟩,r⟩:=x;exact⟨ho _ d,z,ne,k _ _ (.inl rfl) e,mA,⟨od,es,ep,k _ _ (.inr d) e2,c⟩,r⟩
 |own y=>obtain⟨ob,e⟩:=x;exact⟨ob,k _ _ (.inl rfl) e⟩
 |xd fs=>obtain⟨mA,⟨od,es,ep,e,c⟩,r⟩:=x;exact⟨mA,⟨od,es,ep,k _ _ (.inl rfl) e,c⟩,r⟩
 |rng lo hi=>obtain⟨t,u,v,e⟩:=x;exact⟨t,u,v,k _ _ (.inl rfl) e⟩
 |frz ob u ih=>obtain⟨e,q⟩:=x;exact⟨k _ _ (.inl rfl) e,ih q⟩
 |tbl ps=>
  have e:h.get? a=some {cls:= .none,data:= .fields ps}:=x;show h'.get? a=some {cls:= .none,data:= .fields ps};exact k a _ (.inl rfl) e
 |met f y=>
  have e:h.get? a=some (adT (.ref f) (.ref y)):=x;show h'.get? a=some (adT (.ref f) (.ref y));exact k a _ (.inl rfl) e
 |ext φ=>obtain⟨p,⟨o,e⟩,st⟩:=x;exact⟨st _ _ p λo q=>k _ _ (.inl rfl) q,⟨o,k _ _ (.inl rfl) e⟩,st⟩
theorem HOk.lt(x:HOk P w H h)(e:H a=some o):a<h.objs.size:=(x a o e).lt
theorem HOk.fresh(x:HOk P w H h)(e:h.objs.size<=a):H a=none:=by
 cases q:H a with
 |none=>rfl
 |some u=>exact agj (aaa (x.lt q) e) (aaq _)
theorem HOk.kept(x:HOk P w H h)(k:∀b u,h.get? b=some u->h'.get? b=some u):HOk P w H h':=λa o e=>
 (x a o e).stay (λb u _ q=>k b u q) (λ_ q=>q) λ_ _ q=>q
theorem HOk.laid(x:HOk P w H h)(k:∀b u,h.get? b=some u->h'.get? b=some u)(hp:h.objs.size<=a)(new:ObjOk P w (upd H a o) h' a o):HOk P w (upd H a o) h':=λb u e=>by
 have hn:=x.fresh hp;by_cases hb:b=a
 ·subst hb;rw[aJ] at e;cases e;exact new
 ·rw[ax hb] at e;exact(x b u e).stay (λc v _ q=>k c v q) (λc q=>by rw[ax (bx q hn)];exact q) λc xs q=>by rw[ax (bx q hn)];exact q
end
def Rd(H:Hp)(a:Addr)(u:HO):Prop:=H a=some u\/∃o,H a=some (.frz o u)
theorem Rd.ok{P:Z5}{w:World}{H:Hp}{h:Heap}{a:Addr}{u:HO}(r:Rd H a u)(x:HOk P w H h):ObjOk P w H h a u:=by
 rcases r with r | ⟨o,r⟩
 ·exact x a u r
 ·obtain⟨_,q⟩:=x a _ r;exact q
def PQ:Option HO->Prop
 |some (.lst _)=>True
 |some (.dK _)=>True
 |some (.dT _)=>True
 |some (.set _ _)=>True
 |some (.ins _ _ _)=>True
 |some (.ext _)=>True
 |_=>False
section
variable{P:Z5}{w:World}{H:Hp}{h h':Heap}{x e:Addr}{o':HO}
theorem HOk.write(ok:HOk P w H h)(mu:PQ (H x))(he:e=x\/H e=some (.own x))(k:∀b u,b≠e->h.get? b=some u->h'.get? b=some u)(FP:∃u,h'.get? e=some u)
 (new:ObjOk P w (upd H x o') h' x o'):HOk P w (upd H x o') h':=λb u q=>by
 have Q9:∀c y,H c=some (.own y)->c≠x:=λc y r z=>by subst z;rw[r] at mu;exact mu
 have UG:∀c xs,H c=some (.tup xs)->c≠x:=λc xs r z=>by subst z;rw[r] at mu;exact mu
 by_cases hb:b=x
 ·subst hb;rw[aJ] at q;cases q;exact new
 ·rw[ax hb] at q;by_cases Jv:b=e
  ·have q':H b=some (.own x):=by
    rcases he with z | z
    ·exact agj (Jv.trans z) hb
    ·rw[Jv];exact z
   rw[q] at q';cases q';obtain⟨v,hv⟩:=FP;exact⟨v,by rw[Jv];exact hv⟩
  ·refine(ok b u q).stay (λc v hc r=>k c v ?_ r) (λc r=>by rw[ax (Q9 c b r)];exact r) λc xs r=>by rw[ax (UG c xs r)];exact r
   rcases hc with rfl | hc
   ·exact Jv
   ·rintro rfl;rcases he with z | z
    ·exact Q9 c b hc z
    ·rw[hc] at z;cases z;exact hb rfl
end
structure Un (fs ex:List Addr) (H H':Hp) (h h':Heap):Prop where
 keep:∀b o,h.get? b=some o->H b=none->b∉fs->b∉ex->h'.get? b=some o
 slot:∀b o,h.get? b=some o->H b=none->b∈fs->b∉ex->∃sl,h'.get? b=some {o with slots:=sl}
 free:∀b o,h.get? b=some o->H b=none->b∉ex->H' b=none
 there:∀b o,h.get? b=some o->b∉ex->∃o',h'.get? b=some o'
 tups:∀b xs,H b=some (.tup xs)->H' b=some (.tup xs)
 frzs:∀b o u,H b=some (.frz o u)->H' b=some (.frz o u)
 tbls:∀b ps,H b=some (.tbl ps)->∃more,H' b=some (.tbl (ps++more))
section
variable{fs Vy ex Bf:List Addr}{H H1 H2:Hp}{h h1 h2 h':Heap}{a x e:Addr}{o:HO}
theorem Un.any(u:Un fs ex H H1 h h1){b:Addr}{ob:Obj}(q:h.get? b=some ob)(n:H b=none)(hx:b∉ex):∃sl,h1.get? b=some {ob with slots:=sl}:=by
 by_cases hb:b∈fs
 ·exact u.slot b ob q n hb hx
 ·exact⟨ob.slots,u.keep b ob q n hb hx⟩
theorem Un.trans(a:Un fs ex H H1 h h1)(b:Un fs ex H1 H2 h1 h2):Un fs ex H H2 h h2 where
 keep:=λc ob q n hc hx=>b.keep c ob (a.keep c ob q n hc hx) (a.free c ob q n hx) hc hx
 slot:=λc ob q n hc hx=>by
  obtain⟨sl,e1⟩:=a.slot c ob q n hc hx;obtain⟨Ly,e2⟩:=b.slot c _ e1 (a.free c ob q n hx) hc hx;exact⟨Ly,e2⟩
 free:=λc ob q n hx=>by
  obtain⟨o',e1⟩:=a.there c ob q hx;exact b.free c o' e1 (a.free c ob q n hx) hx
 there:=λc ob q hx=>by
  obtain⟨o',e1⟩:=a.there c ob q hx;exact b.there c o' e1 hx
 tups:=λc xs q=>b.tups c xs (a.tups c xs q)
 frzs:=λc ob xs q=>b.frzs c ob xs (a.frzs c ob xs q)
 tbls:=λc ps q=>by
  obtain⟨m1,e1⟩:=a.tbls c ps q;obtain⟨m2,e2⟩:=b.tbls c _ e1;exact⟨m1++m2,by rw[e2,adY]⟩
theorem Un.kept(k:∀b u,h.get? b=some u->h'.get? b=some u):Un fs ex H H h h':=
 ⟨λb ob q _ _ _=>k b ob q,λb ob q _ _ _=>⟨ob.slots,k b ob q⟩,λ_ _ _ n _=>n,λb ob q _=>⟨ob,k b ob q⟩,λ_ _ q=>q,λ_ _ _ q=>q,λ_ ps q=>⟨#[],by rw[q];simp⟩⟩
theorem Un.refl:Un fs ex H H h h:=Un.kept λ_ _ q=>q
theorem Un.laid(k:∀b u,h.get? b=some u->h'.get? b=some u)(hp:h.objs.size<=a)(hn:H a=none):Un fs ex H (upd H a o) h h' where
 keep:=λb u q _ _ _=>k b u q
 slot:=λb u q _ _ _=>⟨u.slots,k b u q⟩
 free:=λb u q n _=>by rw[ax (ZW (aaa (ZG q) hp))];exact n
 there:=λb u q _=>⟨u,k b u q⟩
 tups:=λb xs q=>by rw[ax (bx q hn)];exact q
 frzs:=λb u xs q=>by rw[ax (bx q hn)];exact q
 tbls:=λb ps q=>⟨#[],by rw[ax (bx q hn),q];simp⟩
theorem Un.write(mu:PQ (H x))(he:e=x\/H e=some (.own x))(k:∀b u,b≠e->h.get? b=some u->h'.get? b=some u)(FP:∃u,h'.get? e=some u):Un fs ex H (upd H x o) h h':=by
 have hx:∀b,H b=none->b≠x:=λb n z=>by subst z;rw[n] at mu;exact mu
 have hb:∀b,H b=none->b≠e:=λb n z=>by
  subst z;rcases he with r | r
  ·exact hx b n r
  ·rw[n] at r;cases r
 have hm:∀b u,H b=some u->¬PQ (some u)->b≠x:=λb u q nm z=>by subst z;rw[q] at mu;exact nm mu
 refine⟨λb u q n _ _=>k b u (hb b n) q,λb u q n _ _=>⟨u.slots,k b u (hb b n) q⟩,λb u q n _=>by rw[ax (hx b n)];exact n,λb u q _=>?_,
  λb xs q=>by rw[ax (hm b _ q λz=>z)];exact q,λb u xs q=>by rw[ax (hm b _ q λz=>z)];exact q,λb ps q=>⟨#[],by rw[ax (hm b _ q λz=>z),q];simp⟩⟩
 by_cases Jv:b=e
 ·subst Jv;exact FP
 ·exact⟨u,k b u Jv q⟩
theorem Un.mono(u:Un fs ex H H1 h h1)(hs:∀b∈fs,b∈Vy)(hx:∀b∈ex,b∈Bf):Un Vy Bf H H1 h h1:=
 ⟨λb ob q n hb he=>u.keep b ob q n (λz=>hb (hs b z)) λz=>he (hx b z),λ_ _ q n _ he=>u.any q n λz=>he (hx _ z),λb ob q n he=>u.free b ob q n λz=>he (hx b z),λb ob q he=>u.there b ob q λz=>he (hx b z),u.tups,u.frzs,u.tbls⟩
end
def SU(h:Heap)(H:Hp):List Addr:=(ZX h.objs.size).filter λa=>(H a).isSome
def wA(h:Heap)(H:Hp):Heap:=adk h (SU h H)
theorem EE(h:Heap)(H:Hp):(wA h H).objs.size=h.objs.size:=PySem.W.hideAll_size _ _
theorem GX{h:Heap}{H:Hp}{b:Addr}{o:Obj}(e:h.get? b=some o)(n:H b=none):(wA h H).get? b=some o:=
 ae8 _ e λhm=>by
  have q:(H b).isSome=true:=(ZT.mp hm).2;rw[n] at q;simp at q
theorem KL{h:Heap}{H:Hp}{b:Addr}{o:Obj}(e:(wA h H).get? b=some o):h.get? b=some o/\H b=none:=by
 have e':h.get? b=some o:=aff (SU h H) e;refine⟨e',?_⟩;cases q:H b with
 |none=>rfl
 |some x=>
  have hm:b∈SU h H:=ZT.mpr ⟨aa1.mpr (ZG e'),by simp[q]⟩;have z:(wA h H).get? b=none:=PySem.W.hideAll_none (SU h H) hm;rw[z] at e;cases e
def JH(g h:Heap)(L:Addr):List (Addr×Obj):=(ZX h.objs.size).filterMap λa=>if a=L\/(g.get? a).isSome=true then none else(h.get? a).map λo=>(a,o)
def W1(g h:Heap)(L d:Addr):List (Addr×Obj):=(JH g h L).filter λp=>decide (p.1≠d)
structure Mod (K:ZE) (mg:Str->Option Value) (base:Heap):Prop where
 kin:K.In base
 glob:base.Ns ZR mg
 blt:∃mb,base.Ns builtinsNs mb/\∀x:Str,x≠"__name__"->mb x=aab x
 nolimit:base.NoLimit
structure Cx where
 prog:Z5
 w:World
 K:ZE
 mg:Str->Option Value
 base:Heap
 A:aao
 N:List Str
 ago:Zt
 agn:Hp
 env:Env
 outer:List Env
 stack:List Env
 ex:List Addr
 fn:Str->Bool
 calm:Bool
 pn:List (Addr×Obj)
 xe:Value->Zt->Prop
def iG(l:List Env):List Addr:=l.filterMap (·.frame)
abbrev Cx.fs(X:Cx):List Addr:=iG X.outer
def S9(sc:Scope)(x:Str):Prop:=sc.names.lookup x=some .local\/sc.names.lookup x=some .cell\/sc.names.lookup x=some .free
def Loc(sc:Scope)(x:Str):Prop:=sc.names.lookup x=some .local\/sc.names.lookup x=some .cell
def Look(env:Env)(h:Heap)(m:Str->Option Value)(x:Str)(u:Value):Prop:=
 (env.kindOf x=some .local/\m x=some u)\/((env.kindOf x=some .cell\/env.kindOf x=some .free)/\∃c,env.cells.lookup x=some c/\h.IsCell c (some u))
structure Cx.Ok (X:Cx):Prop where
 mod:Mod X.K X.mg X.base
 kind:X.env.scope.kind= .function
 glob:X.env.globals=ZR
 blt:X.env.builtins=builtinsNs
 above:X.ago.heap.objs.size<=X.env.locals
 inj:∀x y c,X.env.cells.lookup x=some c->X.env.cells.lookup y=some c->x=y
 has:∀x,(X.env.kindOf x=some .cell\/X.env.kindOf x=some .free)->∃c,X.env.cells.lookup x=some c
 cab:∀x c,X.fn x=true->X.env.cells.lookup x=some c->X.ago.heap.objs.size<=c
 hd:X.calm=true->X.A.handled=none
 frames:X.A.frames=some X.stack
 stk:X.stack=X.outer\/(X.stack=X.env::X.outer/\X.env.frame=some X.env.locals)
 exf:∀b∈X.ex,b≠X.env.locals/\∀x c,X.env.cells.lookup x=some c->c≠b
 bs:∀b o,X.base.get? b=some o->X.ago.heap.get? b=some o/\X.agn b=none
 bsz:X.base.objs.size<=X.ago.heap.objs.size
 noex:∀b o,X.base.get? b=some o->b∉X.ex
 exfs:∀b∈X.ex,b∉X.fs
 funs:X.ago.heap.FunFrames X.base X.outer
 frf:∀b∈X.fs,X.agn b=none
structure Inv (X:Cx) (f8:List (Addr×Obj)) (σ:List (Option V)) (H:Hp) (s:Zt):Prop where
 ok:X.Ok
 os:s.os=X.ago.os
 bare:adZ s.gens
 base:Un X.fs X.ex X.agn H X.ago.heap s.heap
 loc:∃m,s.heap.Ns X.env.locals m/\∀(i:Nat) (x:Str) (v:V),X.N[i]? =some x->σ[i]? =some (some v)->S9 X.env.scope x->∃u,RelV v u/\Look X.env s.heap m x u
 cell:∀x c,X.env.cells.lookup x=some c->∃v,s.heap.IsCell c v
 free:H X.env.locals=none
 freeC:∀x c,X.env.cells.lookup x=some c->H c=none
 pin:∀p∈X.pn++f8,s.heap.get? p.1=some p.2/\H p.1=none/\p.1≠X.env.locals/\p.1∉X.fs/\∀v,p.2.data≠ .cell v
 hok:HOk X.prog X.w H s.heap
 len:σ.length=X.N.length
section
variable{X:Cx}{f8:List (Addr×Obj)}{σ:List (Option V)}{H H':Hp}{s:Zt}{h':Heap}
theorem Cx.Ok.nofr(ok:X.Ok){b:Addr}{o:Obj}(e:X.base.get? b=some o):b∉X.fs:=λhb=>by
 have:=(ok.funs.mem hb).1;rw[e] at this;cases this
theorem Inv.bs(I:Inv X f8 σ H s):∀b o,X.base.get? b=some o->s.heap.get? b=some o/\H b=none:=λb o e=>
 ⟨I.base.keep b o (I.ok.bs b o e).1 (I.ok.bs b o e).2 (I.ok.nofr e) (I.ok.noex b o e),I.base.free b o (I.ok.bs b o e).1 (I.ok.bs b o e).2 (I.ok.noex b o e)⟩
theorem Inv.bk(I:Inv X f8 σ H s):∀b o,X.base.get? b=some o->s.heap.get? b=some o:=λb o e=>(I.bs b o e).1
theorem Inv.mod(I:Inv X f8 σ H s):Mod X.K X.mg X.base:=I.ok.mod
theorem Inv.kIn(I:Inv X f8 σ H s):X.K.In s.heap:=I.ok.mod.kin.keeps I.bk
theorem Inv.nolimit(I:Inv X f8 σ H s):s.heap.NoLimit:=I.ok.mod.nolimit.keeps I.bk
theorem Inv.lt(I:Inv X f8 σ H s):X.env.locals<s.heap.objs.size:=let ⟨_,hn,_⟩:=I.loc;hn.lt
theorem Inv.sz(I:Inv X f8 σ H s):X.ago.heap.objs.size<=s.heap.objs.size:=Z2 I.ok.above (aa5 I.lt)
theorem Inv.nofs(I:Inv X f8 σ H s){a:Addr}(h:s.heap.objs.size<=a):a∉X.fs:=λhb=>by
 obtain⟨_,o,ho,_⟩:=I.ok.funs.mem hb;exact agj (aaa (ZG ho) (Z2 I.sz h)) (aaq _)
theorem Inv.cne(I:Inv X f8 σ H s):∀x c,X.env.cells.lookup x=some c->c≠X.env.locals:=λx c e z=>by
 obtain⟨v,o,ho,hd⟩:=I.cell x c e;obtain⟨m,⟨o',es,ep,mJ,u7,_⟩,_⟩:=I.loc;rw[z,mJ] at ho;cases ho;rw[u7] at hd;cases hd
theorem Inv.funs(I:Inv X f8 σ H s):s.heap.FunFrames X.base X.outer:=by
 have all:∀(l:List Env),(∀b∈iG l,b∈X.fs)->X.ago.heap.FunFrames X.base l->s.heap.FunFrames X.base l:=by
  intro l;induction l with
  |nil=>intro _ _;trivial
  |cons env r ih=>
   intro hs hl;obtain⟨hk,⟨L,o,hf,hn,ho,hd⟩,hr⟩:=hl;have hL:L∈X.fs:=hs L (by unfold iG;rw[ab7,hf];exact Zq);obtain⟨sl,e⟩:=I.base.slot L o ho (I.ok.frf L hL) hL λz=>I.ok.exfs L z hL;exact⟨hk,⟨L,_,hf,hn,e,hd⟩,ih (λb hb=>hs b (by unfold iG;rw[ab7,hf];exact Zp _ hb)) hr⟩
 exact all X.outer (λ_ hb=>hb) I.ok.funs
theorem Inv.stack(I:Inv X f8 σ H s):s.heap.FunFrames X.base X.stack:=by
 rcases I.ok.stk with e | ⟨e,hf⟩
 ·rw[e];exact I.funs
 ·rw[e];obtain⟨m,hn,_⟩:=I.loc;refine .cons (by rw[I.ok.kind];decide) hf hn ?_ I.funs;exact afw (Z2 I.ok.bsz I.ok.above)
theorem Inv.stkSub(I:Inv X f8 σ H s):∀b∈iG X.stack,b∈X.env.locals::X.fs:=λb hb=>by
 rcases I.ok.stk with e | ⟨e,hf⟩
 ·rw[e] at hb;exact Zp _ hb
 ·rw[e] at hb;unfold iG at hb;rw[ab7,hf] at hb;exact hb
theorem Inv.stkFree(I:Inv X f8 σ H s):∀b∈iG X.stack,H b=none:=λb hb=>by
 rcases Zw.mp (I.stkSub b hb) with e | hb
 ·rw[e];exact I.free
 ·obtain⟨_,o,ho,_⟩:=I.ok.funs.mem hb;exact I.base.free b o ho (I.ok.frf b hb) λz=>I.ok.exfs b z hb
theorem Inv.step{g':Array afZ}{t':Nat}{d':Drawn}{ch:List Addr}(I:Inv X f8 σ H s)
 (Jx:∀b∈ch,(b∈X.ex\/X.ago.heap.objs.size<=b)/\b≠X.env.locals/\(∀x c,X.env.cells.lookup x=some c->c≠b)/\∀p∈X.pn++f8,p.1≠b)
 (keep:∀b o,b≠X.env.locals->b∉X.fs->b∉ch->s.heap.get? b=some o->H b=none->h'.get? b=some o)
 (slot:∀b o,b≠X.env.locals->b∈X.fs->b∉ch->s.heap.get? b=some o->H b=none->∃sl,h'.get? b=some {o with slots:=sl})(free:∀b o,b∉ch->s.heap.get? b=some o->H b=none->H' b=none)
 (there:∀b o,b∉ch->s.heap.get? b=some o->∃o',h'.get? b=some o')
 (tups:∀b xs,H b=some (.tup xs)->H' b=some (.tup xs))(frzs:∀b o u,H b=some (.frz o u)->H' b=some (.frz o u))(tbls:∀b ps,H b=some (.tbl ps)->∃more,H' b=some (.tbl (ps++more)))
 (ns:∀m,s.heap.Ns X.env.locals m->h'.Ns X.env.locals m)(hok:HOk X.prog X.w H' h')(hg:adZ g'):
 Inv X f8 σ H' {s with heap:=h',gens:=g',drawn:=d',toks:=t'}:=by
 have Py:∀b o,X.ago.heap.get? b=some o->b≠X.env.locals:=λb o e=>ZW (aaa (ZG e) I.ok.above);have SK:∀b o,X.ago.heap.get? b=some o->b∉X.ex->b∉ch:=λb o e hx hb=>by
  rcases(Jx b hb).1 with z | z
  ·exact hx z
  ·exact agj (aaa (ZG e) z) (aaq _)
 have cellK:∀x c,X.env.cells.lookup x=some c->∀v,s.heap.IsCell c v->h'.IsCell c v:=λx c e v ⟨o,ho,hd⟩=>by
  have Q6:c∉ch:=λz=>(Jx c z).2.2.1 x c e rfl;by_cases hc:c∈X.fs
  ·obtain⟨sl,q⟩:=slot c o (I.cne x c e) hc Q6 ho (I.freeC x c e);exact⟨_,q,hd⟩
  ·exact⟨o,keep c o (I.cne x c e) hc Q6 ho (I.freeC x c e),hd⟩
 refine⟨I.ok,I.os,hg,⟨λb o e n hb hx=>?_,λb o e n hb hx=>?_,λb o e n hx=>?_,λb o e hx=>?_,λb xs e=>tups b xs (I.base.tups b xs e),λb o xs e=>frzs b o xs (I.base.frzs b o xs e),λb ps e=>?_⟩,?_,λx c e=>?_,?_,λx c e=>?_,λp hp=>?_,hok,I.len⟩
 ·exact keep b o (Py b o e) hb (SK b o e hx) (I.base.keep b o e n hb hx) (I.base.free b o e n hx)
 ·obtain⟨sl,e1⟩:=I.base.slot b o e n hb hx;obtain⟨Ly,e2⟩:=slot b _ (Py b o e) hb (SK b o e hx) e1 (I.base.free b o e n hx);exact⟨Ly,e2⟩
 ·obtain⟨o',e1⟩:=I.base.there b o e hx;exact free b o' (SK b o e hx) e1 (I.base.free b o e n hx)
 ·obtain⟨o',e1⟩:=I.base.there b o e hx;exact there b o' (SK b o e hx) e1
 ·obtain⟨m1,e1⟩:=I.base.tbls b ps e;obtain⟨m2,e2⟩:=tbls b _ e1;exact⟨m1++m2,by rw[e2,adY]⟩
 ·obtain⟨m,hn,hl⟩:=I.loc;refine⟨m,ns m hn,λi x v e1 e2 e3=>?_⟩;obtain⟨u,r,l⟩:=hl i x v e1 e2 e3;refine⟨u,r,?_⟩;rcases l with l | ⟨k,c,e,z⟩
  ·exact .inl l
  ·exact .inr ⟨k,c,e,cellK x c e _ z⟩
 ·obtain⟨v,z⟩:=I.cell x c e;exact⟨v,cellK x c e v z⟩
 ·obtain⟨m,⟨o,_,_,ho,_⟩,_⟩:=I.loc;exact free _ o (λz=>(Jx _ z).2.1 rfl) ho I.free
 ·obtain⟨v,o,ho,hd⟩:=I.cell x c e;exact free c o (λz=>(Jx c z).2.2.1 x c e rfl) ho (I.freeC x c e)
 ·obtain⟨e,n,ne,nf,d⟩:=I.pin p hp;have Q6:p.1∉ch:=λz=>(Jx p.1 z).2.2.2 p hp rfl;exact⟨keep p.1 p.2 ne nf Q6 e n,free p.1 p.2 Q6 e n,ne,nf,d⟩
theorem Inv.un{t':Nat}(I:Inv X f8 σ H s)(u:Un X.fs [] H H' s.heap h')(hok:HOk X.prog X.w H' h'):Inv X f8 σ H' {s with heap:=h',toks:=t'}:=by
 obtain⟨m,⟨o,es,ep,ho,r⟩,_⟩:=id I.loc;obtain⟨sl,hL⟩:=u.any ho I.free (by simp);exact I.step (g':=s.gens) (d':=s.drawn) (ch:=[]) (λ_ z=>nomatch z) (λb o _ hb _ e n=>u.keep b o e n hb (by simp)) (λb o _ hb _ e n=>u.slot b o e n hb (by simp)) (λb o _ e n=>u.free b o e n (by simp)) (λb o _ e=>u.there b o e (by simp)) u.tups u.frzs u.tbls (λm' hm=>by
  obtain⟨o',J4,J0,mJ,r'⟩:=hm;rw[ho] at mJ;cases mJ;exact⟨_,J4,J0,hL,r'⟩) hok I.bare
theorem Inv.call{g':Array afZ}{t':Nat}{d':Drawn}{ch:List Addr}(I:Inv X f8 σ H s)(u:Un (iG X.stack) ch H H' s.heap h')(hok:HOk X.prog X.w H' h')(hg:adZ g')
 (Jx:∀b∈ch,(b∈X.ex\/X.ago.heap.objs.size<=b)/\b≠X.env.locals/\(∀x c,X.env.cells.lookup x=some c->c≠b)/\∀p∈X.pn++f8,p.1≠b):
 Inv X f8 σ H' {s with heap:=h',gens:=g',drawn:=d',toks:=t'}:=by
 obtain⟨m,⟨o,es,ep,ho,r⟩,_⟩:=id I.loc;obtain⟨sl,hL⟩:=u.any ho I.free λz=>(Jx _ z).2.1 rfl;exact I.step (ch:=ch) Jx (λb o hL hb hc e n=>u.keep b o e n (λz=>(Zw.mp (I.stkSub b z)).elim hL hb) hc) (λb o _ _ hc e n=>u.any e n hc) (λb o hc e n=>u.free b o e n hc) (λb o hc e=>u.there b o e hc) u.tups u.frzs u.tbls (λm' hm=>by
  obtain⟨o',J4,J0,mJ,r'⟩:=hm;rw[ho] at mJ;cases mJ;exact⟨_,J4,J0,hL,r'⟩) hok hg
theorem Inv.turned{t':Nat}{it:Addr}(I:Inv X f8 σ H s)(k:∀b o,b≠it->s.heap.get? b=some o->h'.get? b=some o)(hn:H it=none)(hL:it≠X.env.locals)
 (h1:it∈X.ex\/X.ago.heap.objs.size<=it)(h2:∀x c,X.env.cells.lookup x=some c->c≠it)(h3:∀p∈X.pn++f8,p.1≠it):Inv X f8 σ H {s with heap:=h',toks:=t'}:=by
 have My:∀b u,H b=some u->b≠it:=λb u e z=>by rw[z,hn] at e;cases e
 refine I.step (g':=s.gens) (d':=s.drawn) (ch:=[it]) (λb hb=>?_) (λb o _ _ hc e _=>k b o (λz=>hc (by simp[z])) e) (λb o _ _ hc e _=>⟨o.slots,k b o (λz=>hc (by simp[z])) e⟩) (λ_ _ _ _ n=>n)
  (λb o hc e=>⟨o,k b o (λz=>hc (by simp[z])) e⟩) (λ_ _ e=>e) (λ_ _ _ e=>e) (λb ps e=>⟨#[],by rw[e];simp⟩) (λm hm=>?_) (λb u e=>?_) I.bare
 ·have e:b=it:=by simpa using hb
  subst e;exact⟨h1,hL,h2,h3⟩
 ·obtain⟨o,es,ep,ho,r⟩:=hm;exact⟨o,es,ep,k _ o (aaz hL) ho,r⟩
 ·refine(I.hok b u e).stay (λc v hc q=>k c v ?_ q) (λ_ q=>q) λ_ _ q=>q;rcases hc with z | z
  ·rw[z];exact My b u e
  ·exact My c _ z
theorem Inv.tok(I:Inv X f8 σ H s)(t:Nat):Inv X f8 σ H {s with toks:=t}:=I.un (h':=s.heap) (t':=t) Un.refl I.hok
theorem Inv.kept{t':Nat}(I:Inv X f8 σ H s)(k:∀b u,s.heap.get? b=some u->h'.get? b=some u):Inv X f8 σ H {s with heap:=h',toks:=t'}:=I.un (Un.kept k) (I.hok.kept k)
theorem Inv.laid{a:Addr}{o:HO}{t':Nat}(I:Inv X f8 σ H s)(k:∀b u,s.heap.get? b=some u->h'.get? b=some u)(hp:s.heap.objs.size<=a)(new:ObjOk X.prog X.w (upd H a o) h' a o):
 Inv X f8 σ (upd H a o) {s with heap:=h',toks:=t'}:=I.un (Un.laid k hp (I.hok.fresh hp)) (I.hok.laid k hp new)
theorem Inv.write{x e:Addr}{o:HO}{t':Nat}(I:Inv X f8 σ H s)(mu:PQ (H x))(he:e=x\/H e=some (.own x))(k:∀b u,b≠e->s.heap.get? b=some u->h'.get? b=some u)(FP:∃u,h'.get? e=some u)
 (new:ObjOk X.prog X.w (upd H x o) h' x o):Inv X f8 σ (upd H x o) {s with heap:=h',toks:=t'}:=I.un (Un.write mu he k FP) (I.hok.write mu he k FP new)
theorem Inv.pins_of{DL:List (Addr×Obj)}(I:Inv X f8 σ H s)(h:∀p∈DL,s.heap.get? p.1=some p.2/\H p.1=none/\p.1≠X.env.locals/\p.1∉X.fs/\∀v,p.2.data≠ .cell v):Inv X DL σ H s:=
 ⟨I.ok,I.os,I.bare,I.base,I.loc,I.cell,I.free,I.freeC,λp hp=>(Z9.mp hp).elim (λz=>I.pin p (abb _ z)) (h p),I.hok,I.len⟩
theorem zO{N:List Str}(hN:N.Nodup){i j:Nat}{x:Str}(a:N[i]? =some x)(b:N[j]? =some x):i=j:=by
 obtain⟨h1,e1⟩:=ZI.mp a;obtain⟨h2,e2⟩:=ZI.mp b;exact(List.getElem_inj hN).mp (e1.trans e2.symm)
abbrev bn(X:Cx)(x:Str):Prop:=X.fn x=true\/X.env.scope.names.lookup x=some .local
theorem o5{M:Model}{A:aao}{E:Value->Zt->Prop}{i:Nat}{x:Str}{v:V}{u:Value}{Q:Unit->Zt->Prop}(I:Inv X f8 σ H s)(hN:X.N.Nodup)(hi:X.N[i]? =some x)(hx:Loc X.env.scope x)(r:RelV v u)
 (h:∀s',Inv X f8 (σ.set i (some v)) H s'->(∃a,abe a s.heap s'.heap/\(a=X.env.locals\/X.env.cells.lookup x=some a))->Q () s')(hf:bn X x:=by first | exact .inl rfl | exact .inr rfl | assumption):wpAny M A (storeName X.env x u) Q E s:=by
 obtain⟨m,hn,hl⟩:=id I.loc;have Tu:(X.env.scope.kind== .class||(X.env.scope.kind== .module&&X.env.locals !=X.env.globals))=false:=by rw[I.ok.kind];rfl
 have VS:i<σ.length:=by rw[I.len];exact(ZI.mp hi).1
 have cne:=I.cne;have tracked:∀{a:Addr}{h':Heap},(∃o,s.heap.get? a=some o/\H a=none)->abe a s.heap h'->HOk X.prog X.w H h':=λ{a h'} ha hs b ob e=>by
  obtain⟨_,_,Ml⟩:=ha;refine(I.hok b ob e).stay (λc w' hc q=>(hs.2 c ?_).trans q) (λ_ q=>q) λ_ _ q=>q;rintro rfl;rcases hc with rfl | hc
  ·rw[Ml] at e;cases e
  ·rw[Ml] at hc;cases hc
 rcases hx with hk | hk
 ·refine wpAny_storeName_local hk hn (λh' EG hs=>?_) Tu;obtain⟨oL,_,_,NI,_⟩:=id hn;refine h _ ⟨I.ok,I.os,I.bare,⟨λb o e n hb hx=>?_,λb o e n hb hx=>?_,I.base.free,λb o e hx=>?_,I.base.tups,I.base.frzs,I.base.tbls⟩,⟨_,EG,λj y v' e1 e2 e3=>?_⟩,λy c e=>?_,I.free,I.freeC,λp hp=>?_,tracked ⟨oL,NI,I.free⟩ hs,by simpa using I.len⟩ ⟨_,hs, .inl rfl⟩
  ·exact(hs.2 b (ZW (aaa (ZG e) I.ok.above))).trans (I.base.keep b o e n hb hx)
  ·obtain⟨sl,e1⟩:=I.base.slot b o e n hb hx;exact⟨sl,(hs.2 b (ZW (aaa (ZG e) I.ok.above))).trans e1⟩
  ·obtain⟨o',e1⟩:=I.base.there b o e hx;exact⟨o',(hs.2 b (ZW (aaa (ZG e) I.ok.above))).trans e1⟩
  ·by_cases hj:j=i
   ·subst hj;rw[hi] at e1;cases e1;rw[ZV VS] at e2;cases e2;exact⟨u,r, .inl ⟨hk,by simp⟩⟩
   ·rw[ZO (aaz hj)] at e2;obtain⟨u',r',q⟩:=hl j y v' e1 e2 e3;refine⟨u',r',?_⟩;rcases q with⟨k,e⟩ | ⟨k,c,e,z⟩
    ·refine .inl ⟨k,?_⟩;have:y≠x:=λe=>hj (zO hN e1 (e▸hi));simp[this,e]
    ·exact .inr ⟨k,c,e,z.sameBut hs (cne y c e)⟩
  ·obtain⟨w',z⟩:=I.cell y c e;exact⟨w',z.sameBut hs (cne y c e)⟩
  ·obtain⟨e,n,ne,nf,d⟩:=I.pin p hp;exact⟨(hs.2 p.1 ne).trans e,n,ne,nf,d⟩
 ·have TC:X.fn x=true:=by
   rcases hf with z | z
   ·exact z
   ·rw[z] at hk;cases hk
  obtain⟨c,hc⟩:=I.ok.has x (.inl hk);obtain⟨w',z⟩:=I.cell x c hc;refine wpAny_storeName_cell I.ok.kind hk hc z (λh' Jw hs=>?_);obtain⟨oc,Sz,T5⟩:=id z;refine h {s with heap:=h'} ⟨I.ok,I.os,I.bare,⟨λb o e n hb hx=>?_,λb o e n hb hx=>?_,I.base.free,λb o e hx=>?_,I.base.tups,I.base.frzs,I.base.tbls⟩,⟨m,hn.sameBut hs (aaz (cne x c hc)),λj y v' e1 e2 e3=>?_⟩,λy c' e=>?_,I.free,I.freeC,λp hp=>?_,tracked ⟨oc,Sz,I.freeC x c hc⟩ hs,by simpa using I.len⟩ ⟨c,hs, .inr hc⟩
  ·exact(hs.2 b (ZW (aaa (ZG e) (I.ok.cab x c TC hc)))).trans (I.base.keep b o e n hb hx)
  ·obtain⟨sl,e1⟩:=I.base.slot b o e n hb hx;exact⟨sl,(hs.2 b (ZW (aaa (ZG e) (I.ok.cab x c TC hc)))).trans e1⟩
  ·obtain⟨o',e1⟩:=I.base.there b o e hx;exact⟨o',(hs.2 b (ZW (aaa (ZG e) (I.ok.cab x c TC hc)))).trans e1⟩
  ·by_cases hj:j=i
   ·subst hj;rw[hi] at e1;cases e1;rw[ZV VS] at e2;cases e2;exact⟨u,r, .inr ⟨.inl hk,c,hc,Jw⟩⟩
   ·rw[ZO (aaz hj)] at e2;obtain⟨u',r',q⟩:=hl j y v' e1 e2 e3;refine⟨u',r',?_⟩;rcases q with q | ⟨k,c',e,z'⟩
    ·exact .inl q
    ·refine .inr ⟨k,c',e,z'.sameBut hs ?_⟩;rintro rfl;exact hj (zO hN e1 (I.ok.inj _ _ _ e hc▸hi))
  ·by_cases Sq:c'=c
   ·subst Sq;exact⟨_,Jw⟩
   ·obtain⟨w2,z2⟩:=I.cell y c' e;exact⟨w2,z2.sameBut hs Sq⟩
  ·obtain⟨e,n,ne,nf,d⟩:=I.pin p hp;refine⟨(hs.2 p.1 ?_).trans e,n,ne,nf,d⟩;intro q;rw[q,Sz] at e;have q':oc=p.2:=Z4 e;exact d w' (by rw[<-q'];exact T5)
theorem Av{M:Model}{A:aao}{E:Value->Zt->Prop}{i:Nat}{x:Str}{v:V}{u:Value}{Q:Unit->Zt->Prop}(I:Inv X f8 σ H s)(hN:X.N.Nodup)(hi:X.N[i]? =some x)(hx:Loc X.env.scope x)(r:RelV v u)
 (h:∀s',Inv X f8 (σ.set i (some v)) H s'->Q () s')(hf:bn X x:=by first | exact .inl rfl | exact .inr rfl | assumption):wpAny M A (storeName X.env x u) Q E s:=
 o5 I hN hi hx r (λs' I' _=>h s' I') hf
theorem Inv.call'{s':Zt}{ch:List Addr}(I:Inv X f8 σ H s)(ho:s'.os=s.os)(u:Un (iG X.stack) ch H H' s.heap s'.heap)(hok:HOk X.prog X.w H' s'.heap)(hg:adZ s'.gens)
 (Jx:∀b∈ch,(b∈X.ex\/X.ago.heap.objs.size<=b)/\b≠X.env.locals/\(∀x c,X.env.cells.lookup x=some c->c≠b)/\∀p∈X.pn++f8,p.1≠b):Inv X f8 σ H' s':=by
 obtain⟨h',g',d',t',o'⟩:=s';have e:o'=s.os:=ho;subst e;exact I.call (g':=g') (t':=t') (d':=d') u hok hg Jx
end
abbrev XK:=Value->Option Addr->Hp->Prop
abbrev St:=List (Option V)
abbrev VK:=V->Hp->Prop
abbrev TE:=St->Hp->VK->Prop
abbrev TT:=St->Hp->(Bool->Hp->Prop)->Prop
abbrev TA:=St->Hp->(List V->Hp->Prop)->Prop
structure Ends where
 nx:St->Hp->Prop
 rt:VK
 bk:St->Hp->Prop:=λ_ _=>False
 ct:St->Hp->Prop:=λ_ _=>False
abbrev TS:=Ends->St->Hp->Prop
def EP(X:Cx)(f8:List (Addr×Obj))(σ:St)(Q:VK)(u:Value)(s':Zt):Prop:=∃v H',Inv X f8 σ H' s'/\RelV v u/\Q v H'
def TP(X:Cx)(f8:List (Addr×Obj))(σ:St)(Q:Bool->Hp->Prop)(b:Bool)(s':Zt):Prop:=∃H',Inv X f8 σ H' s'/\Q b H'
def AP(X:Cx)(f8:List (Addr×Obj))(σ:St)(Q:List V->Hp->Prop)(us:List Value)(s':Zt):Prop:=∃vs H',Inv X f8 σ H' s'/\Vals vs us/\Q vs H'
def SP(X:Cx)(f8:List (Addr×Obj))(D:Ends)(f:Flow)(s':Zt):Prop:=
 match f with
 | .next=>∃σ' H',Inv X f8 σ' H' s'/\D.nx σ' H'
 | .brk=>∃σ' H',Inv X f8 σ' H' s'/\D.bk σ' H'
 | .cont=>∃σ' H',Inv X f8 σ' H' s'/\D.ct σ' H'
 | .ret u=>∃v σ' H',Inv X f8 σ' H' s'/\RelV v u/\D.rt v H'
def PE(X:Cx)(e:Expr)(t:TE):Prop:=
 ∀(f8:List (Addr×Obj)) (s:Zt) (σ:St) (H:Hp) (Q:VK),Inv X f8 σ H s->t σ H Q->wpAny (model X.prog X.w) X.A (eval e X.env) (EP X f8 σ Q) X.xe s
def PT(X:Cx)(e:Expr)(t:TT):Prop:=
 ∀(f8:List (Addr×Obj)) (s:Zt) (σ:St) (H:Hp) (Q:Bool->Hp->Prop),Inv X f8 σ H s->t σ H Q->wpAny (model X.prog X.w) X.A (isTrue e X.env (eval e X.env)) (TP X f8 σ Q) X.xe s
def PW(X:Cx)(e:Expr)(t:TT):Prop:=
 ∀(whole:Sem Value) (f8:List (Addr×Obj)) (s:Zt) (σ:St) (H:Hp) (Q:Bool->Hp->Prop),Inv X f8 σ H s->t σ H Q->wpAny (model X.prog X.w) X.A (isTrue e X.env whole) (TP X f8 σ Q) X.xe s
theorem PW.pt{X:Cx}{e:Expr}{t:TT}(h:PW X e t):PT X e t:=h _
def PA(X:Cx)(es:List Expr)(t:TA):Prop:=
 ∀(pos:Pos) (f8:List (Addr×Obj)) (s:Zt) (σ:St) (H:Hp) (Q:List V->Hp->Prop),Inv X f8 σ H s->t σ H Q->wpAny (model X.prog X.w) X.A (spliced (abk pos (ZF es X.env))) (AP X f8 σ Q) X.xe s
def PS(X:Cx)(st:Stmt)(t:TS):Prop:=
 ∀(f8:List (Addr×Obj)) (s:Zt) (σ:St) (H:Hp) (D:Ends),Inv X f8 σ H s->t D σ H->wpAny (model X.prog X.w) X.A (exec st X.env) (SP X f8 D) X.xe s
def PSs(X:Cx)(st:List Stmt)(t:TS):Prop:=
 ∀(f8:List (Addr×Obj)) (s:Zt) (σ:St) (H:Hp) (D:Ends),Inv X f8 σ H s->t D σ H->wpAny (model X.prog X.w) X.A (execs st X.env) (SP X f8 D) X.xe s
theorem cE{α:Type}{t:Sem α}{Q Q':α->Zt->Prop}{M:Model}{A:aao}{E:Value->Zt->Prop}{s:Zt}(h:wpAny M A t Q E s)(hQ:∀a s,Q a s->Q' a s):wpAny M A t Q' E s:=aaF h hQ λ_ _ x=>x
section
variable{X:Cx}
theorem bin{a b:Expr}{ta tb:TE}(ha:PE X a ta)(hb:PE X b tb){f8:List (Addr×Obj)}{s:Zt}{σ:St}{H:Hp}{R:V->V->Hp->Prop}(I:Inv X f8 σ H s)(h:ta σ H λx H1=>tb σ H1 λy H2=>R x y H2)
 {α:Type}{Q:α->Zt->Prop}{f:Value->Value->Sem α}
 (hf:∀v u s2 x y H2,Inv X f8 σ H2 s2->RelV x v->RelV y u->R x y H2->wpAny (model X.prog X.w) X.A (f v u) Q X.xe s2):
 wpAny (model X.prog X.w) X.A (eval a X.env) (λv v6=>wpAny (model X.prog X.w) X.A (eval b X.env) (λu v4=>wpAny (model X.prog X.w) X.A (f v u) Q X.xe v4) X.xe v6) X.xe s:=by
 refine cE (ha f8 s σ H _ I h) λv s1 ⟨x,H1,I1,r1,q1⟩=>?_;refine cE (hb f8 s1 σ H1 _ I1 q1) λu s2 ⟨y,H2,I2,r2,q2⟩=>?_;exact hf v u s2 x y H2 I2 r1 r2 q2
def tu(i:Nat):TE:=λσ H Q=>∃v,σ[i]? =some (some v)/\Q v H
def tC(v:V):TE:=λ_ H Q=>Q v H
theorem OP{i:Nat}{x:Str}{pos:Pos}(hN:X.N[i]? =some x)(hv:S9 X.env.scope x)(hd:dL x:=by decide)(u6:(x==("__classdict__":Str))=false:=by decide):PE X (.Name x pos) (tu i):=by
 intro f8 s σ H Q I h;obtain⟨v,e,h⟩:=h;obtain⟨m,hn,hl⟩:=I.loc;obtain⟨u,r,l⟩:=hl i x v hN e hv;have fin:EP X f8 σ Q u s:=⟨v,H,I,r,h⟩
 rcases l with⟨hk,hm⟩ | ⟨hk,c,hc,Mk⟩
 ·exact wpAny_Name (wpAny_loadName_local I.ok.kind hk hn hm fin) hd
 ·rcases hk with hk | hk
  ·exact wpAny_Name (wpAny_loadName_cell I.ok.kind hk hc Mk fin) hd
  ·exact wpAny_Name (wpAny_loadName_free I.ok.kind hk hc Mk fin u6) hd
theorem OI{i j pos}:PE X (.Constant (.int i) j pos) (tC (.int i)):=λ_ _ _ H _ I h=>wpAny_Constant_int ⟨.int i,H,I.tok _,⟨_,rfl⟩,h⟩
theorem Rq{b j pos}:PE X (.Constant (.bool b) j pos) (tC (.bl b)):=λ_ _ _ H _ I h=>Constant_bool ⟨.bl b,H,I,rfl,h⟩
theorem OJ{j pos}:PE X (.Constant .none j pos) (tC .non):=λ_ _ _ H _ I h=>Constant_none ⟨.non,H,I,rfl,h⟩
theorem OM{x j pos}:PE X (.Constant (.str x) j pos) (tC (.str x)):=λ_ _ _ H _ I h=>Calls.Constant_str ⟨.str x,H,I.tok _,⟨_,rfl⟩,h⟩
def Gl(X:Cx)(x:Str):Prop:=X.env.kindOf x=some .globalImplicit
theorem kX{E:Value->Zt->Prop}{f8:List (Addr×Obj)}{s:Zt}{σ:St}{H:Hp}{x:Str}{u:Value}{pos:Pos}{Q:Value->Zt->Prop}(I:Inv X f8 σ H s)(hg:Gl X x)(hm:X.mg x=some u)(h:Q u s)
 (hd:dL x:=by decide):wpAny (model X.prog X.w) X.A (eval (.Name x pos) X.env) Q E s:=
 aes I.ok.kind hg (Calls.loadGlobal_global (by rw[I.ok.glob];exact I.mod.glob.keeps I.bk) hm h) hd
theorem j9{E:Value->Zt->Prop}{f8:List (Addr×Obj)}{s:Zt}{σ:St}{H:Hp}{x:Str}{u:Value}{pos:Pos}{Q:Value->Zt->Prop}(I:Inv X f8 σ H s)(hg:Gl X x)(hm:X.mg x=none)(hv:aab x=some u)(h:Q u s)
 (hn:x≠"__name__":=by decide)(hd:dL x:=by decide):wpAny (model X.prog X.w) X.A (eval (.Name x pos) X.env) Q E s:=by
 obtain⟨mb,h1,h2⟩:=I.mod.blt;exact aes I.ok.kind hg (Calls.loadGlobal_builtin (by rw[I.ok.glob];exact I.mod.glob.keeps I.bk) hm (by rw[I.ok.blt];exact h1.keeps I.bk) ((h2 x hn).trans hv) h) hd
theorem xy{x:Str}{v:V}{u:Value}{pos:Pos}(hg:Gl X x)(hm:X.mg x=some u)(r:RelV v u)(hd:dL x:=by decide):PE X (.Name x pos) (tC v):=
 λ_ _ _ H _ I h=>kX I hg hm ⟨v,H,I,r,h⟩ hd
theorem K7{x:Str}{v:V}{u:Value}{pos:Pos}(hg:Gl X x)(hm:X.mg x=none)(hv:aab x=some u)(r:RelV v u)(hn:x≠"__name__":=by decide)(hd:dL x:=by decide):PE X (.Name x pos) (tC v):=
 λ_ _ _ H _ I h=>j9 I hg hm hv ⟨v,H,I,r,h⟩ hn hd
variable{a b:Expr}{ta tb:TE}{pos:Pos}
def PC(X:Cx)(op:CmpOp)(a b:Expr)(t:TE):Prop:=
 ∀(f8:List (Addr×Obj)) (s:Zt) (σ:St) (H:Hp) (Q:VK),Inv X f8 σ H s->t σ H Q->
  wpAny (model X.prog X.w) X.A (eval a X.env) (λv v6=>wpAny (model X.prog X.w) X.A (eval b X.env) (λu v4=>wpAny (model X.prog X.w) X.A (aas op v u) (EP X f8 σ Q) X.xe v4) X.xe v6) X.xe s
theorem Hz(b:Expr){op:CmpOp}(h:op≠ .In)(h2:op≠ .NotIn):aaB op b=false:=by
 have e1:(op==CmpOp.In)=false:=by cases op<;>first | rfl | exact agj rfl h
 have e2:(op==CmpOp.NotIn)=false:=by cases op<;>first | rfl | exact agj rfl h2
 cases b<;>simp[aaB,e1,e2]
theorem OH{op:CmpOp}{t:TE}(h:PC X op a b t)(h1:aaB op b=false:=by first | exact Hz _ (by decide) (by decide) | rfl):PE X (.Compare a [op] [b] pos) t:=λf8 s σ H Q I hw=>wpAny_Compare1 (h f8 s σ H Q I hw) h1
variable{tA cI:TT}{W1:List Expr}
def U2(t u:TT):TT:=λσ H Q=>t σ H λc H1=>if c=true then u σ H1 Q else Q false H1
def YW(t u:TT):TT:=λσ H Q=>t σ H λc H1=>if c=true then Q true H1 else u σ H1 Q
def Va(t:TT):TT:=λσ H Q=>t σ H λc H1=>Q (!c) H1
theorem Lm(ha:PT X a tA):PW X (.BoolOp .And [a] pos) tA:=by
 intro wh f8 s σ H Q I h;refine isTrue_and (cE (ha f8 s σ H Q I h) λc s1 e=>?_);cases c with
 |true=>exact isTrue_and_nil e
 |false=>exact e
theorem OZ(ha:PT X a tA):PW X (.BoolOp .Or [a] pos) tA:=by
 intro wh f8 s σ H Q I h;refine isTrue_or (cE (ha f8 s σ H Q I h) λc s1 e=>?_);cases c with
 |false=>exact isTrue_or_nil e
 |true=>exact e
theorem OY(ha:PT X a tA)(hb:PW X (.BoolOp .And (b::W1) pos) cI):PW X (.BoolOp .And (a::b::W1) pos) (U2 tA cI):=by
 intro wh f8 s σ H Q I h;refine isTrue_and (cE (ha f8 s σ H _ I h) λc s1 ⟨H1,I1,q1⟩=>?_);cases c with
 |true=>exact hb wh f8 s1 σ H1 Q I1 q1
 |false=>exact⟨H1,I1,q1⟩
theorem Ry(ha:PT X a tA)(hb:PW X (.BoolOp .Or (b::W1) pos) cI):PW X (.BoolOp .Or (a::b::W1) pos) (YW tA cI):=by
 intro wh f8 s σ H Q I h;refine isTrue_or (cE (ha f8 s σ H _ I h) λc s1 ⟨H1,I1,q1⟩=>?_);cases c with
 |true=>exact⟨H1,I1,q1⟩
 |false=>exact hb wh f8 s1 σ H1 Q I1 q1
theorem OV(ha:PT X a tA):PT X (.UnaryOp .Not a pos) (Va tA):=by
 intro f8 s σ H Q I h;exact isTrue_not (ha f8 s σ H (λc H1=>Q (!c) H1) I h)
def RV(ta tb:TE):TE:=λσ H Q=>ta σ H λx H1=>∃c,x= .bl c/\if c=true then tb σ H1 Q else Q (.bl false) H1
def Vb(ta tb:TE):TE:=λσ H Q=>ta σ H λx H1=>∃c,x= .bl c/\if c=true then Q (.bl true) H1 else tb σ H1 Q
def RY(ta:TE):TE:=λσ H Q=>ta σ H λx H1=>∃c,x= .bl c/\Q (.bl (!c)) H1
theorem OL{op}{t:TE}(h:PE X a t):PE X (.BoolOp op [a] pos) t:=λf8 s σ H Q I hw=>BoolOp_one (h f8 s σ H Q I hw)
theorem OG(ha:PE X a ta)(hb:PE X (.BoolOp .And (b::W1) pos) tb):PE X (.BoolOp .And (a::b::W1) pos) (RV ta tb):=by
 intro f8 s σ H Q I h;refine BoolOp_and (cE (ha f8 s σ H _ I h) λv s1 ⟨x,H1,I1,r1,q1⟩=>?_);obtain⟨c,rfl,q1⟩:=q1;cases r1;refine aaH ?_;cases c with
 |true=>exact hb f8 s1 σ H1 Q I1 q1
 |false=>exact⟨.bl false,H1,I1,rfl,q1⟩
theorem Rt(ha:PE X a ta)(hb:PE X (.BoolOp .Or (b::W1) pos) tb):PE X (.BoolOp .Or (a::b::W1) pos) (Vb ta tb):=by
 intro f8 s σ H Q I h;refine BoolOp_or (cE (ha f8 s σ H _ I h) λv s1 ⟨x,H1,I1,r1,q1⟩=>?_);obtain⟨c,rfl,q1⟩:=q1;cases r1;refine aaH ?_;cases c with
 |false=>exact hb f8 s1 σ H1 Q I1 q1
 |true=>exact⟨.bl true,H1,I1,rfl,q1⟩
theorem OK(ha:PE X a ta):PE X (.UnaryOp .Not a pos) (RY ta):=by
 intro f8 s σ H Q I h;refine UnaryOp_ (cE (ha f8 s σ H _ I h) λv s1 ⟨x,H1,I1,r1,q1⟩=>?_);obtain⟨c,rfl,q1⟩:=q1;cases r1;exact not_of (aaH ⟨.bl (!c),H1,I1,rfl,q1⟩)
def YV(t:TT)(ta tb:TE):TE:=λσ H Q=>t σ H λc H1=>if c=true then ta σ H1 Q else tb σ H1 Q
theorem Io{c:Expr}(hc:PT X c tA)(ha:PE X a ta)(hb:PE X b tb):PE X (.IfExp c a b pos) (YV tA ta tb):=by
 intro f8 s σ H Q I h;refine wpAny_IfExp (cE (hc f8 s σ H _ I h) λd s1 ⟨H1,I1,q1⟩=>?_);cases d with
 |true=>exact ha f8 s1 σ H1 Q I1 q1
 |false=>exact hb f8 s1 σ H1 Q I1 q1
end
def SqL(K:ZE)(H:Hp)(a:Addr)(xs:List V):Prop:=
 Rd H a (.lst xs)\/
  ∃(o:Obj) (aL:Array Value) (n:Nat),K.lookup a=some o/\o.cls= .type "list"/\o.dict=none/\o.data= .seq aL n/\aL.size<=ZQ/\Vals xs aL.toList
def SqT(K:ZE)(H:Hp)(a:Addr)(xs:List V):Prop:=
 Rd H a (.tup xs)\/
  ∃(o:Obj) (aL:Array Value) (n:Nat),K.lookup a=some o/\o.cls= .type "tuple"/\o.data= .seq aL n/\aL.size<=ZQ/\Vals xs aL.toList
def S_:Value->Option V
 | .none=>some .non
 | .bool b=>some (.bl b)
 | .int i _=>some (.int i)
 | .str x _=>some (.str x)
 | .bytes b _=>some (.byt b)
 | .float b _=>some (.flt b)
 | .ref a=>some (.ref a)
 | .type n=>some (.ty n)
 |_=>none
theorem RelV.abs{x:V}{u:Value}(r:RelV x u):S_ u=some x:=by
 cases x with
 |non=>cases r;rfl
 |bl _=>cases r;rfl
 |int _=>obtain⟨t,rfl⟩:=r;rfl
 |str _=>obtain⟨t,rfl⟩:=r;rfl
 |byt _=>obtain⟨t,rfl⟩:=r;rfl
 |flt _=>obtain⟨t,rfl⟩:=r;rfl
 |ref _=>cases r;rfl
 |ty _=>cases r;rfl
theorem RelV.inj{x y:V}{u:Value}(r:RelV x u)(q:RelV y u):x=y:=Z4 (r.abs.symm.trans q.abs)
theorem Vals.inj:∀{xs ys:List V}{us:List Value},Vals xs us->Vals ys us->xs=ys
 |_,_,_, .nil, .nil=>rfl
 |_,_,_, .cons r t, .cons r' t'=>by rw[r.inj r',Vals.inj t t']
section
variable{X:Cx}{f8:List (Addr×Obj)}{σ:St}{H:Hp}{s:Zt}{a:Addr}{xs ys:List V}
theorem SqL.of{K:ZE}(h:H a=some (.lst xs)):SqL K H a xs:= .inl (.inl h)
theorem SqT.of{K:ZE}(h:H a=some (.tup xs)):SqT K H a xs:= .inl (.inl h)
theorem Inv.list(I:Inv X f8 σ H s)(h:SqL X.K H a xs):∃aL:List Value,Vals xs aL/\PlainL s.heap a aL.toArray/\xs.length<=ZQ:=by
 rcases h with h | ⟨o,aL,n,hk,hc,hd,hs,hz,r⟩
 ·obtain⟨z,aL,n,r,e⟩:=h.ok I.hok;exact⟨aL,r,⟨_,n,e,rfl,rfl,rfl⟩,z⟩
 ·refine⟨aL.toList,r,⟨o,n,I.kIn a o hk,hc,hd,by simpa using hs⟩,?_⟩;have e:=r.length;simp only[ZC] at e;omega
theorem Inv.tuple(I:Inv X f8 σ H s)(h:SqT X.K H a xs):∃aL:List Value,Vals xs aL/\IsTup s.heap a aL.toArray/\xs.length<=ZQ:=by
 rcases h with h | ⟨o,aL,n,hk,hc,hs,hz,r⟩
 ·obtain⟨z,aL,r,p⟩:=h.ok I.hok;exact⟨aL,r,p,z⟩
 ·refine⟨aL.toList,r,⟨o,I.kIn a o hk,hc,n,by simpa using hs⟩,?_⟩;have e:=r.length;simp only[ZC] at e;omega
theorem Inv.list_inj(I:Inv X f8 σ H s)(h:SqL X.K H a xs)(h':SqL X.K H a ys):xs=ys:=by
 obtain⟨aL,r,⟨o,n,e,_,_,d⟩,_⟩:=I.list h;obtain⟨its',r',⟨o',n',e',_,_,d'⟩,_⟩:=I.list h';rw[e] at e';cases e';rw[d] at d';injection d' with d1 _
 have:aL=its':=by simpa using agl Array.toList d1
 subst this;exact r.inj r'
theorem Inv.tuple_inj(I:Inv X f8 σ H s)(h:SqT X.K H a xs)(h':SqT X.K H a ys):xs=ys:=by
 obtain⟨aL,r,⟨o,e,_,n,d⟩,_⟩:=I.tuple h;obtain⟨its',r',⟨o',e',_,n',d'⟩,_⟩:=I.tuple h';rw[e] at e';cases e';rw[d] at d';injection d' with d1 _
 have:aL=its':=by simpa using agl Array.toList d1
 subst this;exact r.inj r'
end
abbrev Cx.wish(X:Cx)(E:Value->Zt->Prop):Cx:={X with xe:=E}
abbrev Cx.nox(X:Cx):Cx:=X.wish λ_ _=>False
theorem Cx.Ok.wish{X:Cx}(ok:X.Ok)(E:Value->Zt->Prop):(X.wish E).Ok:=
 ⟨ok.mod,ok.kind,ok.glob,ok.blt,ok.above,ok.inj,ok.has,ok.cab,ok.hd,ok.frames,ok.stk,ok.exf,ok.bs,ok.bsz,ok.noex,ok.exfs,ok.funs,ok.frf⟩
theorem Cx.Ok.unwish{X:Cx}{E:Value->Zt->Prop}(ok:(X.wish E).Ok):X.Ok:=
 ⟨ok.mod,ok.kind,ok.glob,ok.blt,ok.above,ok.inj,ok.has,ok.cab,ok.hd,ok.frames,ok.stk,ok.exf,ok.bs,ok.bsz,ok.noex,ok.exfs,ok.funs,ok.frf⟩
section
variable{X:Cx}{f8:List (Addr×Obj)}{σ:St}{H:Hp}{s:Zt}{E:Value->Zt->Prop}
theorem Inv.wish(I:Inv X f8 σ H s)(E:Value->Zt->Prop):Inv (X.wish E) f8 σ H s:=⟨I.ok.wish E,I.os,I.bare,I.base,I.loc,I.cell,I.free,I.freeC,I.pin,I.hok,I.len⟩
theorem Inv.unwish(I:Inv (X.wish E) f8 σ H s):Inv X f8 σ H s:=⟨I.ok.unwish,I.os,I.bare,I.base,I.loc,I.cell,I.free,I.freeC,I.pin,I.hok,I.len⟩
theorem SP.unwish{D:Ends}{f:Flow}{s':Zt}(h:SP (X.wish E) f8 D f s'):SP X f8 D f s':=by
 cases f with
 |next=>obtain⟨σ',H',I,q⟩:=h;exact⟨σ',H',I.unwish,q⟩
 |brk=>obtain⟨σ',H',I,q⟩:=h;exact⟨σ',H',I.unwish,q⟩
 |cont=>obtain⟨σ',H',I,q⟩:=h;exact⟨σ',H',I.unwish,q⟩
 |ret u=>obtain⟨v,σ',H',I,r,q⟩:=h;exact⟨v,σ',H',I.unwish,r,q⟩
theorem PE.nox{e:Expr}{t:TE}(h:PE X.nox e t):PE X e t:=λf8 s σ H Q I hw=>
 aaF (h f8 s σ H Q (I.wish _) hw) (λ_ _ ⟨v,H',I',r,q⟩=>⟨v,H',I'.unwish,r,q⟩) λ_ _ z=>aaW z
theorem PT.nox{e:Expr}{t:TT}(h:PT X.nox e t):PT X e t:=λf8 s σ H Q I hw=>
 aaF (h f8 s σ H Q (I.wish _) hw) (λ_ _ ⟨H',I',q⟩=>⟨H',I'.unwish,q⟩) λ_ _ z=>aaW z
theorem PSs.nox{st:List Stmt}{t:TS}(h:PSs X.nox st t):PSs X st t:=λf8 s σ H D I hw=>
 aaF (h f8 s σ H D (I.wish _) hw) (λ_ _ q=>q.unwish) λ_ _ z=>aaW z
end
section
variable{X:Cx}{st:Stmt}{W1:List Stmt}{t u:TS}{e:Expr}{te:TE}{pos:Pos}
def RX:TS:=λD σ H=>D.nx σ H
def Vd(t u:TS):TS:=λD σ H=>t {D with nx:=u D} σ H
theorem Lh:PSs X [] RX:=λ_ _ σ H _ I h=>acX ⟨σ,H,I,h⟩
theorem Ir(h1:PS X st t)(h2:PSs X W1 u):PSs X (st::W1) (Vd t u):=by
 intro f8 s σ H D I h;refine wpAny_execs_cons (cE (h1 f8 s σ H {D with nx:=u D} I h) λf s1 q=>?_);cases f with
 |next=>
  obtain⟨σ',H',I',q⟩:=q;exact h2 f8 s1 σ' H' D I' q
 |ret v=>exact q
 |brk=>exact q
 |cont=>exact q
theorem Li(h1:PS X st t):PSs X [st] t:=by
 intro f8 s σ H D I h;refine wpAny_execs_cons (cE (h1 f8 s σ H D I h) λf s1 q=>?_);cases f with
 |next=>exact acX q
 |ret v=>exact q
 |brk=>exact q
 |cont=>exact q
theorem Inv.quiet{f8:List (Addr×Obj)}{σ:St}{H:Hp}{s:Zt}(I:Inv X f8 σ H s):interactive X.env=false:=by simp[interactive,I.ok.kind]
def Ji(te:TE):TS:=λD σ H=>te σ H λ_ H1=>D.nx σ H1
theorem qF(he:PE X e te)(hs:adq e none pos.line X.env=pure false:=by rfl):PS X (.Expr e pos) (Ji te):=by
 intro f8 s σ H D I h;exact wpAny_Expr_any (cE (he f8 s σ H _ I h) λv s1 ⟨x,H1,I1,r1,q1⟩=>⟨σ,H1,I1,q1⟩) I.quiet hs
def Vc(te:TE):TS:=λD σ H=>te σ H D.rt
theorem OT(he:PE X e te):PS X (.Return (some e) pos) (Vc te):=by
 intro f8 s σ H D I h;exact wpAny_Return_some (cE (he f8 s σ H _ I h) λv s1 ⟨x,H1,I1,r1,q1⟩=>⟨x,σ,H1,I1,r1,q1⟩)
def U9(c:TT)(t u:TS):TS:=λD σ H=>c σ H λb H1=>if b=true then t D σ H1 else u D σ H1
theorem Rw{c:Expr}{a b:List Stmt}{tc:TT}(hc:PT X c tc)(ha:PSs X a t)(hb:PSs X b u):PS X (.If c a b pos) (U9 tc t u):=by
 intro f8 s σ H D I h;refine wpAny_If (cE (hc f8 s σ H _ I h) λd s1 ⟨H1,I1,q1⟩=>?_);cases d with
 |true=>exact ha f8 s1 σ H1 D I1 q1
 |false=>exact hb f8 s1 σ H1 D I1 q1
end
abbrev TG:=V->St->Hp->(St->Hp->Prop)->Prop
abbrev LX:=List V->St->Hp->(St->Hp->Prop)->Prop
def PG(X:Cx)(target:Expr)(t:TG):Prop:=
 ∀(f8:List (Addr×Obj)) (s:Zt) (σ:St) (H:Hp) (v:V) (u:Value) (Q:St->Hp->Prop),Inv X f8 σ H s->RelV v u->t v σ H Q->
  wpAny (model X.prog X.w) X.A (assign target X.env u) (λ_ s'=>∃σ' H',Inv X f8 σ' H' s'/\Q σ' H') X.xe s
def Sa(X:Cx)(ts:List Expr)(t:LX):Prop:=
 ∀(f8:List (Addr×Obj)) (s:Zt) (σ:St) (H:Hp) (vs:List V) (us:List Value) (Q:St->Hp->Prop),Inv X f8 σ H s->Vals vs us->t vs σ H Q->
  wpAny (model X.prog X.w) X.A (assignInOrder ((ad2 ts X.env).map (·.2)) us) (λ_ s'=>∃σ' H',Inv X f8 σ' H' s'/\Q σ' H') X.xe s
abbrev S5:=V->V->V->Hp->(Hp->Prop)->Prop
section
variable{X:Cx}{pos:Pos}
def GL(i:Nat):TG:=λv σ H Q=>Q (σ.set i (some v)) H
theorem aU{i:Nat}{x:Str}(hN:X.N.Nodup)(hi:X.N[i]? =some x)(hx:Loc X.env.scope x)(hf:bn X x:=by first | exact .inl rfl | exact .inr rfl | assumption):PG X (.Name x pos) (GL i):=by
 intro f8 s σ H v u Q I r h;exact aeu (Av I hN hi hx r (λs' I'=>⟨_,H,I',h⟩) hf)
def Qh:LX:=λvs σ H Q=>vs=[]/\Q σ H
def Mf(t:TG)(u:LX):LX:=λvs σ H Q=>∃v r,vs=v::r/\t v σ H λσ' H'=>u r σ' H' Q
theorem xA:Sa X [] Qh:=by
 intro f8 s σ H vs us Q I r h;obtain⟨e,h⟩:=h;subst e;cases r;exact assignInOrder_nil ⟨σ,H,I,h⟩
theorem jb{e:Expr}{es:List Expr}{t:TG}{u:LX}(h1:PG X e t)(h2:Sa X es u)
 (hs:(ad2 (e::es) X.env).map (·.2)=assign e X.env::(ad2 es X.env).map (·.2):=by rfl):Sa X (e::es) (Mf t u):=by
 intro f8 s σ H vs us Q I r h;obtain⟨v,vr,e1,h⟩:=h;subst e1;cases r with
 |cons r rr=>
  rw[hs];refine assignInOrder_cons (cE (h1 f8 s σ H _ _ _ I r h) λ_ s1 ⟨σ1,H1,I1,q1⟩=>?_);exact h2 f8 s1 σ1 H1 _ _ Q I1 rr q1
def Qi(K:ZE)(n:Nat)(t:LX):TG:=λv σ H Q=>∃a xs,v= .ref a/\SqT K H a xs/\xs.length=n/\t xs σ H Q
theorem BZ{es:List Expr}{k:Nat}{t:LX}{n:Nat}(hc:X.calm=true)(h:Sa X es t)
 (hn:(ad2 es X.env).length=n:=by rfl)(qA:(ad2 es X.env).findIdx? (·.1)=none:=by rfl):PG X (.Tuple es k pos) (Qi X.K n t):=by
 intro f8 s σ H v u Q I r hw;obtain⟨a,xs,e1,hq,hl,hw⟩:=hw;subst e1;cases r;obtain⟨aL,rv,ht,hz⟩:=I.tuple hq;refine assign_Tuple_tuple (I.ok.hd hc) ht (by simp[hn,<-hl,rv.length]) qA λh' hx=>?_;have I1:Inv X f8 σ H {s with heap:=h'}:=I.kept (t':=s.toks) λb o e=>hx b o (ZW (ZG e)) e;exact h f8 _ σ H xs _ Q I1 (by simpa using rv) hw
def lq(to ti:TE)(t:S5):TG:=λv σ H Q=>to σ H λo H1=>ti σ H1 λi H2=>t o i v H2 λH3=>Q σ H3
def U3(te:TE)(g:TG):TS:=λD σ H=>te σ H λx H1=>g x σ H1 D.nx
theorem xB{tg e:Expr}{te:TE}{g:TG}(he:PE X e te)(hg:PG X tg g)(hs:adF [tg] e pos.line X.env=pure false:=by rfl)(hw:swappedStores [tg] e X.env=pure none:=by rfl)
 (h1:(ad2 [tg] X.env).map (·.2)=[assign tg X.env]:=by rfl):PS X (.Assign [tg] e pos) (U3 te g):=by
 intro f8 s σ H D I h;refine wpAny_Assign_stores (cE (he f8 s σ H _ I h) λv s1 ⟨x,H1,I1,r1,q1⟩=>?_) hs hw;rw[h1];exact cE (hg f8 s1 σ H1 x v _ I1 r1 q1) λ_ s2 q=>q
end
section
variable{X:Cx}{pos:Pos}
def Pf(c:TT)(tb:TS):TS:=λD σ H=>∃W:Nat->St->Hp->Prop,(∃m,W m σ H)/\∀m σ H,W m σ H->
 c σ H λb H1=>if b=true then∃N:St->Hp->Prop,(∀σ' H',N σ' H'->∃m',m'<m/\W m' σ' H')/\tb {D with nx:=N,ct:=N,bk:=D.nx} σ H1 else D.nx σ H1
theorem Iq{c:Expr}{body:List Stmt}{tc:TT}{tb:TS}(hp:PassesOwn (model X.prog X.w) X.A X.env X.xe)(hc:PT X c tc)(hb:PSs X body tb):PS X (.While c body [] pos) (Pf tc tb):=by
 intro f8 s σ H D I h;obtain⟨W,⟨m0,w0⟩,turn⟩:=h;refine wpAny_While (codeAny_whileLoop (λn s'=>∃σ' H',Inv X f8 σ' H' s'/\W n σ' H') ?_ m0 ⟨σ,H,I,w0⟩);rintro n s1 ⟨σ1,H1,I1,w1⟩;refine ab0 hp (cE (hc f8 s1 σ1 H1 _ I1 (turn n σ1 H1 w1)) λb s2 ⟨H2,I2,q2⟩=>?_);cases b with
 |true=>
  obtain⟨N,hN,q2⟩:=q2;rw[agd rfl];refine ab0 hp (cE (hb f8 s2 σ1 H2 _ I2 q2) λf s3 q3=>?_);cases f with
  |next=>
   obtain⟨σ3,H3,I3,n3⟩:=q3;obtain⟨m',hm,w3⟩:=hN σ3 H3 n3;exact⟨m',hm,σ3,H3,I3,w3⟩
  |cont=>
   obtain⟨σ3,H3,I3,n3⟩:=q3;obtain⟨m',hm,w3⟩:=hN σ3 H3 n3;exact⟨m',hm,σ3,H3,I3,w3⟩
  |brk=>exact q3
  |ret v=>exact q3
 |false=>
  rw[age Z1];exact acX ⟨σ1,H2,I2,q2⟩
end
structure It where
 go:Nat->Hp->Prop
 yld:Nat->Hp->V->Hp->Prop
 stop:Nat->Hp->Prop
def tN(X:Cx)(f8:List (Addr×Obj))(H:Hp)(b:Addr):Prop:=
 H b=none/\b≠X.env.locals/\b∉X.fs/\(b∈X.ex\/X.ago.heap.objs.size<=b)/\(∀x c,X.env.cells.lookup x=some c->c≠b)/\∀p∈X.pn++f8,p.1≠b
theorem Inv.fpOk{X:Cx}{f8:List (Addr×Obj)}{σ:St}{H H':Hp}{s:Zt}{b:Addr}(I:Inv X f8 σ H s)(hb:s.heap.objs.size<=b)(hn:H' b=none):tN X f8 H' b:=by
 refine⟨hn,abQ (aaa I.lt hb),I.nofs hb, .inr (Z2 I.sz hb),λx c e z=>?_,λp hp z=>?_⟩
 ·obtain⟨v,q⟩:=I.cell x c e;exact agj (aaa q.lt (by rw[z];exact hb)) (aaq _)
 ·exact agj (aaa (ZG (I.pin p hp).1) (by rw[z];exact hb)) (aaq _)
structure Turn (P:Z5) (w:World) (K:ZE) (tg:Expr) (J:It) (fp:List Addr) (it:Addr) (tn:Nat->Heap->Prop):Prop where
 mem:it∈fp
 obj:∀i h,tn i h->∀b∈fp,∃o,h.get? b=some o/\∀v,o.data≠ .cell v
 keep:∀i h h',tn i h->(∀b∈fp,∀o,h.get? b=some o->h'.get? b=some o)->tn i h'
 item:∀(X:Cx),X.prog=P->X.w=w->X.K=K->X.calm=true->∀(i:Nat) (f8:List (Addr×Obj)) (s:Zt) (σ:St) (H:Hp) (E:Value->Zt->Prop),Inv X f8 σ H s->(∀b∈fp,tN X f8 H b)->tn i s.heap->J.go i H->
  wpAny (model P w) X.A (ads (.ref it)) (λr s1=>∃u,r=some u/\
   wpAny (model P w) X.A (adS tg (.ref it) u) (λ_ s2=>∃x H',Inv X f8 σ H' s2/\RelV x u/\J.yld i H x H'/\tn (i+1) s2.heap/\∀b∈fp,H' b=none) E s1) E s
 done:∀(X:Cx),X.prog=P->X.w=w->X.K=K->X.calm=true->∀(i:Nat) (f8:List (Addr×Obj)) (s:Zt) (σ:St) (H:Hp) (E:Value->Zt->Prop),Inv X f8 σ H s->(∀b∈fp,tN X f8 H b)->tn i s.heap->J.stop i H->
  wpAny (model P w) X.A (ads (.ref it)) (λr s1=>r=none/\Inv X f8 σ H s1) E s
 self:∀(A:aao) (i:Nat) (s:Zt) (Q:Value->Zt->Prop) (E:Value->Zt->Prop),tn i s.heap->Q (.ref it) s->wpAny (model P w) A (pyIter (.ref it)) Q E s
abbrev TI:=St->Hp->(It->Hp->Prop)->Prop
def Vn(X:Cx)(f8:List (Addr×Obj))(σ:St)(tg:Expr)(R:It->Hp->Prop)(Wj:Value)(s2:Zt):Prop:=
 ∃(it:Addr) (fp:List Addr) (tn:Nat->Heap->Prop) (J:It) (H':Hp),Wj= .ref it/\Inv X f8 σ H' s2/\Turn X.prog X.w X.K tg J fp it tn/\tn 0 s2.heap/\(∀b∈fp,tN X f8 H' b)/\R J H'
def PI(X:Cx)(tg iter:Expr)(wi:TI):Prop:=
 ∀(f8:List (Addr×Obj)) (s:Zt) (σ:St) (H:Hp) (R:It->Hp->Prop),Inv X f8 σ H s->wi σ H R->
  wpAny (model X.prog X.w) X.A (eval iter X.env) (λv s1=>wpAny (model X.prog X.w) X.A (pyIter v) (Vn X f8 σ tg R) X.xe s1) X.xe s
theorem u5{M:Model}{A:aao}{E:Value->Zt->Prop}{s:Zt}{tg:Expr}{it:Addr}{u:Value}{o:Obj}{n:String}{vs:Array Value}{Q:Unit->Zt->Prop}(ho:s.heap.get? it=some o)(hc:o.cls= .type n)(hd:o.data= .fields vs)
 (hn:["enumerate","zip","dict_itemiterator","dict_reverseitemiterator","odict_iterator","itertools.zip_longest","itertools.pairwise"].contains n=false)(hQ:Q () s):wpAny M A (adS tg (.ref it) u) Q E s:=by
 unfold adS;cases tg<;>first
  |exact Zs hQ
  |(cases u<;>first
    |exact Zs hQ
    |(refine Zn (wpAny_load ho ?_)
      rw[hc,hd];show wpAny M A (if (["enumerate","zip","dict_itemiterator","dict_reverseitemiterator","odict_iterator","itertools.zip_longest","itertools.pairwise"].contains n&&vs[0]? ==some (aei _))=true then _ else _) Q E s;rw[age (by intro h;rw[hn,Bool.false_and] at h;cases h)];exact Zs hQ))
def SX(K:ZE)(a:Addr):It:=
 ⟨λi H=>∃xs x,SqL K H a xs/\xs[i]? =some x,λi H x H'=>H'=H/\∀xs,SqL K H a xs->xs[i]? =some x,λi H=>∃xs,SqL K H a xs/\xs.length<=i⟩
def SY(K:ZE)(a:Addr):It:=
 ⟨λi H=>∃xs x,SqT K H a xs/\xs[i]? =some x,λi H x H'=>H'=H/\∀xs,SqT K H a xs->xs[i]? =some x,λi H=>∃xs,SqT K H a xs/\xs.length<=i⟩
def PL(lo:Int)(n:Nat):It:=⟨λi _=>i<n,λi H x H'=>H'=H/\x= .int (lo+i),λi _=>n<=i⟩
theorem FH{P:Z5}{w:World}{K:ZE}{tg:Expr}(a it:Addr):Turn P w K tg (SX K a) [it] it (λi h=>h.IsListIter it a i) where
 mem:=by simp
 obj:=λi h st b hb=>by
  have e:b=it:=by simpa using hb
  subst e;obtain⟨o,e,c,d⟩:=st;exact⟨o,e,λv z=>by rw[d] at z;cases z⟩
 keep:=λi h h' st k=>st.at λo e=>k it (by simp) o e
 item:=by
  intro X hP hw hK hc i f8 s σ H E I hf st hg;subst hP hw hK;obtain⟨xs,x,hq,hx⟩:=hg;obtain⟨aL,rv,p,hz⟩:=I.list hq;obtain⟨u,hu,ru⟩:=rv.get hx;obtain⟨f0,f1,f2,f3,f4,f5⟩:=hf it (by simp);refine wpAny_pyNext_list_item st p.isList (x:=u) (by simpa using hu) λh' th sb=>?_;have I1:Inv X f8 σ H {s with heap:=h'}:=I.turned (t':=s.toks) (λb o hb e=>(sb.2 b hb).trans e) f0 f1 f3 f4 f5;obtain⟨o,e,c,d⟩:=id th;exact⟨u,rfl,u5 (s:={s with heap:=h'}) e c d (by decide) ⟨x,H,I1,ru,⟨rfl,λys hy=>by rw[I.list_inj hy hq];exact hx⟩,th,λb hb=>(hf b hb).1⟩⟩
 done:=by
  intro X hP hw hK hc i f8 s σ H E I hf st hg;subst hP hw hK;obtain⟨xs,hq,hx⟩:=hg;obtain⟨aL,rv,p,hz⟩:=I.list hq;obtain⟨f0,f1,f2,f3,f4,f5⟩:=hf it (by simp);have hl:=rv.length;exact wpAny_pyNext_list_end (I.ok.hd hc) st p.isList (by simp;omega) λh' eb=>⟨rfl,I.turned (t':=s.toks) (λb o hb e=>eb b o hb e) f0 f1 f3 f4 f5⟩
 self:=λ_ _ _ _ _ st h=>wpAny_pyIter_listiter st h
theorem Cg{P:Z5}{w:World}{K:ZE}{tg:Expr}(a it:Addr):Turn P w K tg (SY K a) [it] it (λi h=>h.IsTupleIter it a i) where
 mem:=by simp
 obj:=λi h st b hb=>by
  have e:b=it:=by simpa using hb
  subst e;obtain⟨o,e,c,d⟩:=st;exact⟨o,e,λv z=>by rw[d] at z;cases z⟩
 keep:=λi h h' st k=>st.at λo e=>k it (by simp) o e
 item:=by
  intro X hP hw hK hc i f8 s σ H E I hf st hg;subst hP hw hK;obtain⟨xs,x,hq,hx⟩:=hg;obtain⟨aL,rv,p,hz⟩:=I.tuple hq;obtain⟨u,hu,ru⟩:=rv.get hx;obtain⟨f0,f1,f2,f3,f4,f5⟩:=hf it (by simp);refine wpAny_pyNext_tuple_item st (show s.heap.IsTuple a aL.toArray from p) (x:=u) (by simpa using hu) λh' th sb=>?_;have I1:Inv X f8 σ H {s with heap:=h'}:=I.turned (t':=s.toks) (λb o hb e=>(sb.2 b hb).trans e) f0 f1 f3 f4 f5;obtain⟨o,e,c,d⟩:=id th;exact⟨u,rfl,u5 (s:={s with heap:=h'}) e c d (by decide) ⟨x,H,I1,ru,⟨rfl,λys hy=>by rw[I.tuple_inj hy hq];exact hx⟩,th,λb hb=>(hf b hb).1⟩⟩
 done:=by
  intro X hP hw hK hc i f8 s σ H E I hf st hg;subst hP hw hK;obtain⟨xs,hq,hx⟩:=hg;obtain⟨aL,rv,p,hz⟩:=I.tuple hq;obtain⟨f0,f1,f2,f3,f4,f5⟩:=hf it (by simp);have hl:=rv.length;exact wpAny_pyNext_tuple_end (I.ok.hd hc) st (show s.heap.IsTuple a aL.toArray from p) (by simp;omega) λh' eb=>⟨rfl,I.turned (t':=s.toks) (λb o hb e=>eb b o hb e) f0 f1 f3 f4 f5⟩
 self:=λ_ _ _ _ _ st h=>wpAny_pyIter_tupleiter st h
theorem Cf{P:Z5}{w:World}{K:ZE}{tg:Expr}(it:Addr)(lo:Int)(n:Nat):Turn P w K tg (PL lo n) [it] it (λi h=>IsRangeIter h it (lo+(i:Nat)*1) ((n:Int) - (i:Nat)) 1) where
 mem:=by simp
 obj:=λi h st b hb=>by
  have e:b=it:=by simpa using hb
  subst e;exact⟨_,st,λv z=>by
   have z':afG _=Data.cell v:=z;cases z'⟩
 keep:=λi h h' st k=>k it (by simp) _ st
 item:=by
  intro X hP hw hK hc i f8 s σ H E I hf st hg;subst hP hw hK;obtain⟨f0,f1,f2,f3,f4,f5⟩:=hf it (by simp);have W:=Walks.range (prog:=X.prog) (w:=X.w) (I.ok.hd hc) it lo 1 n;refine W.item i s _ _ hg st λv h' tk hv th kk=>?_;obtain⟨t,rfl⟩:=hv;have I1:Inv X f8 σ H {s with heap:=h',toks:=tk}:=I.turned (λb o hb e=>kk b o (by simpa using hb) e) f0 f1 f3 f4 f5;refine⟨_,rfl,u5 (s:={s with heap:=h',toks:=tk}) (n:="range_iterator") th rfl rfl (by decide) ⟨.int (lo+i),H,I1,⟨t,?_⟩,⟨rfl,rfl⟩,th,λb hb=>(hf b hb).1⟩⟩;rw[Int.mul_one]
 done:=by
  intro X hP hw hK hc i f8 s σ H E I hf st hg;subst hP hw hK;obtain⟨f0,f1,f2,f3,f4,f5⟩:=hf it (by simp);exact wpAny_pyNext_range_end (I.ok.hd hc) st (by have:n<=i:=hg;omega) λh' eb=>⟨rfl,I.turned (t':=s.toks) (λb o hb e=>eb b o hb e) f0 f1 f3 f4 f5⟩
 self:=λ_ _ _ _ _ st h=>wpAny_pyIter_rangeiter st h
section
variable{X:Cx}{tg:Expr}
def QS(K:ZE)(tl:TE):TI:=λσ H R=>tl σ H λx H1=>∃a,x= .ref a/\(∃xs,SqL K H1 a xs)/\R (SX K a) H1
def Ut(K:ZE)(tl:TE):TI:=λσ H R=>tl σ H λx H1=>∃a,x= .ref a/\(∃xs,SqT K H1 a xs)/\R (SY K a) H1
theorem La{l:Expr}{tl:TE}(hl:PE X l tl):PI X tg l (QS X.K tl):=by
 intro f8 s σ H R I h;refine cE (hl f8 s σ H _ I h) λv s1 ⟨x,H1,I1,r1,q1⟩=>?_;obtain⟨a,e,⟨xs,hq⟩,q⟩:=q1;subst e;cases r1;obtain⟨aL,rv,p,hz⟩:=I1.list hq;refine acE p.isList ?_;refine⟨s1.heap.objs.size,[s1.heap.objs.size],_,_,H1,rfl,I1.kept (t':=s1.toks) λb o e=>Zr _ e,FH a _,⟨_,ZL _ rfl,rfl,rfl⟩,λb hb=>?_,q⟩;have e:b=s1.heap.objs.size:=by simpa using hb
 subst e;exact I1.fpOk (Zv _) (I1.hok.fresh (Zv _))
theorem OR{l:Expr}{tl:TE}(hl:PE X l tl):PI X tg l (Ut X.K tl):=by
 intro f8 s σ H R I h;refine cE (hl f8 s σ H _ I h) λv s1 ⟨x,H1,I1,r1,q1⟩=>?_;obtain⟨a,e,⟨xs,hq⟩,q⟩:=q1;subst e;cases r1;obtain⟨aL,rv,p,hz⟩:=I1.tuple hq;refine wpAny_pyIter_tuple (show s1.heap.IsTuple a aL.toArray from p) ?_;refine⟨s1.heap.objs.size,[s1.heap.objs.size],_,_,H1,rfl,I1.kept (t':=s1.toks) λb o e=>Zr _ e,Cg a _,⟨_,ZL _ rfl,rfl,rfl⟩,λb hb=>?_,q⟩;have e:b=s1.heap.objs.size:=by simpa using hb
 subst e;exact I1.fpOk (Zv _) (I1.hok.fresh (Zv _))
theorem Ad{f8:List (Addr×Obj)}{σ:St}{H:Hp}{s:Zt}{R:It->Hp->Prop}{E:Value->Zt->Prop}{lo hi:Int}{t u v:Tok}{tk:Nat}(I:Inv X f8 σ H s)(h1: -(2 ^ 62)<=lo)(h2:lo<2 ^ 62)(h3: -(2 ^ 62)<=hi)(h4:hi<2 ^ 62)
 (q:R (PL lo (hi - lo).toNat) H):wpAny (model X.prog X.w) X.A (pyIter (.ref s.heap.objs.size)) (Vn X f8 σ tg R) E {s with heap:=s.heap.push {cls:= .type "range",data:= .fields #[.int lo t, .int hi u, .int 1 v]},toks:=tk}:=by
 refine wpAny_pyIter_range (IsRange.new ..) (small_one h1 h2 h3 h4) ?_;have I1:Inv X f8 σ H {s with heap:=s.heap.push {cls:= .type "range",data:= .fields #[.int lo t, .int hi u, .int 1 v]},toks:=tk}:=I.kept λb o e=>Zr _ e;refine⟨(s.heap.push {cls:= .type "range",data:= .fields #[.int lo t, .int hi u, .int 1 v]}).objs.size,[(s.heap.push {cls:= .type "range",data:= .fields #[.int lo t, .int hi u, .int 1 v]}).objs.size],_,_,H,rfl,
  I1.kept (t':=tk) λb o e=>Zr _ e,Cf _ lo (hi - lo).toNat,?_,λb hb=>?_,q⟩
 ·have e1:lo+((0:Nat):Int)*1=lo:=by simp
  have e2:(((hi - lo).toNat:Nat):Int) - ((0:Nat):Int)=Builtin.Range.rangeSize lo hi 1:=by rw[rangeSize_one];split<;>omega
  show IsRangeIter _ _ (lo+((0:Nat):Int)*1) ((((hi - lo).toNat:Nat):Int) - ((0:Nat):Int)) 1;rw[e1,e2];exact ZL _ rfl
 ·have e:b=(s.heap.push {cls:= .type "range",data:= .fields #[.int lo t, .int hi u, .int 1 v]}).objs.size:=by simpa using hb
  subst e;exact I1.fpOk (Zv _) (I1.hok.fresh (Zv _))
def QT(ta:TA):TI:=λσ H R=>ta σ H λvs H1=>∃j:Int,vs=[.int j]/\ -(2 ^ 62)<=j/\j<2 ^ 62/\R (PL 0 j.toNat) H1
def QU(ta:TA):TI:=λσ H R=>ta σ H λvs H1=>∃i j:Int,vs=[.int i, .int j]/\(-(2 ^ 62)<=i/\i<2 ^ 62/\ -(2 ^ 62)<=j/\j<2 ^ 62)/\R (PL i (j - i).toNat) H1
theorem Fm{a:Expr}{ta:TA}{p pos:Pos}(hg:Gl X "range")(hm:X.mg "range"=none)(ha:PA X [a] ta)(hs:ZF [a] X.env=[(false,eval a X.env)]:=by rfl):PI X tg (.Call (.Name "range" p) [a] [] pos) (QT ta):=by
 intro f8 s σ H R I h;refine Call_ (j9 I hg hm boot_range (aa8 (cE (ha pos f8 s σ H _ I h) λus s1 ⟨vs,H1,I1,r1,q1⟩=>?_) hs rfl));obtain⟨j,e,q1,q2,q⟩:=q1;subst e;cases r1 with
 |cons r rr=>
  cases rr;obtain⟨t,rfl⟩:=r;exact call_range_1 (Ad I1 (by omega) (by omega) q1 q2 (by simpa using q))
theorem Fo{a b:Expr}{ta:TA}{p pos:Pos}(hg:Gl X "range")(hm:X.mg "range"=none)(ha:PA X [a,b] ta)(hs:ZF [a,b] X.env=[(false,eval a X.env),(false,eval b X.env)]:=by rfl)(NO:ZF [b] X.env=[(false,eval b X.env)]:=by rfl):
 PI X tg (.Call (.Name "range" p) [a,b] [] pos) (QU ta):=by
 intro f8 s σ H R I h;refine Call_ (j9 I hg hm boot_range (aa8 (cE (ha pos f8 s σ H _ I h) λus s1 ⟨vs,H1,I1,r1,q1⟩=>?_) (by rw[hs,NO]) (by rw[NO];rfl)));obtain⟨i,j,e,⟨q1,q2,q3,q4⟩,q⟩:=q1;subst e;cases r1 with
 |cons r rr=>
  cases rr with
  |cons r' rr=>
   cases rr;obtain⟨t,rfl⟩:=r;obtain⟨t',rfl⟩:=r';exact call_range_2 (Ad I1 q1 q2 q3 q4 q)
def U8(wi:TI)(g:TG)(tb:TS):TS:=λD σ H=>wi σ H λJ H1=>∃W:Nat->Nat->St->Hp->Prop,(∃m,W 0 m σ H1)/\∀i m σ H,W i m σ H->
 (J.stop i H/\D.nx σ H)\/(J.go i H/\∃N:St->Hp->Prop,(∀σ' H',N σ' H'->∃m',m'<m/\W (i+1) m' σ' H')/\∀x H',J.yld i H x H'->g x σ H' λσ2 H2=>tb {D with nx:=N,ct:=N,bk:=D.nx} σ2 H2)
def sM(fp:List Addr)(h:Heap):List (Addr×Obj):=fp.filterMap λb=>(h.get? b).map λo=>(b,o)
theorem jC{fp:List Addr}{h:Heap}{b:Addr}{o:Obj}(hb:b∈fp)(e:h.get? b=some o):(b,o)∈sM fp h:=aci.mpr ⟨b,hb,by rw[e];rfl⟩
theorem E9{fp:List Addr}{h:Heap}{p:Addr×Obj}(hp:p∈sM fp h):p.1∈fp/\h.get? p.1=some p.2:=by
 obtain⟨b,hb,e⟩:=aci.mp hp;cases q:h.get? b with
 |none=>rw[q] at e;cases e
 |some o=>
  rw[q] at e;have e':(b,o)=p:=Z4 e;subst e';exact⟨hb,q⟩
theorem Inv.pinned{f8:List (Addr×Obj)}{σ:St}{H:Hp}{s:Zt}{fp:List Addr}(I:Inv X f8 σ H s)(hf:∀b∈fp,tN X f8 H b)(ho:∀b∈fp,∃o,s.heap.get? b=some o/\∀v,o.data≠ .cell v):Inv X (f8++sM fp s.heap) σ H s:=
 I.pins_of λp hp=>(Z9.mp hp).elim (λz=>I.pin p (aai _ z)) λz=>by
  obtain⟨hb,e⟩:=E9 z;obtain⟨f0,f1,f2,_⟩:=hf p.1 hb;obtain⟨o,e',d⟩:=ho p.1 hb;rw[e] at e';cases e';exact⟨e,f0,f1,f2,d⟩
theorem Inv.unpinned{f8 pl:List (Addr×Obj)}{σ:St}{H:Hp}{s:Zt}(I:Inv X (f8++pl) σ H s):Inv X f8 σ H s:=I.pins_of λp hp=>I.pin p (aai _ (abb _ hp))
theorem OS{iter:Expr}{body:List Stmt}{wi:TI}{g:TG}{tb:TS}{pos:Pos}(hp:PassesOwn (model X.prog X.w) X.A X.env X.xe)(hc:X.calm=true)(hi:PI X tg iter wi)(hg:PG X tg g)(hb:PSs X body tb)
 (hs:∀x,adt iter X.env x=pure x:=by intro _;rfl):PS X (.For tg iter body [] pos) (U8 wi g tb):=by
 intro f8 s σ H D I h;refine wpAny_For (cE (hi f8 s σ H _ I h) λv s1 h1=>cE h1 λWj s2 h2=>?_) hs;obtain⟨it,fp,tn,J,H2,e,I2,T,yx,f2,W,⟨m0,w0⟩,turn⟩:=h2;subst e;have Pb:∀{H':Hp},(∀b∈fp,H' b=none)->∀b∈fp,tN X f8 H' b:=λhn b hb=>⟨hn b hb,(f2 b hb).2⟩
 refine codeAny_forLoop_any (λn s'=>∃i σ' H',Inv X f8 σ' H' s'/\tn i s'.heap/\(∀b∈fp,H' b=none)/\W i n σ' H') ?_ m0 ⟨0,σ,H2,I2,yx,λb hb=>(f2 b hb).1,w0⟩;rintro n s3 ⟨i,σ3,H3,I3,MF,Sj,w3⟩;rcases turn i n σ3 H3 w3 with⟨stop,qn⟩ | ⟨go,N,hN,step⟩
 ·refine ab0 hp (cE (T.done X rfl rfl rfl hc i f8 s3 σ3 H3 X.xe I3 (Pb Sj) MF stop) λr s4 ⟨hr,I4⟩=>?_);subst hr;exact acX ⟨σ3,H3,I4,qn⟩
 ·refine ab0 hp (cE (T.item X rfl rfl rfl hc i f8 s3 σ3 H3 X.xe I3 (Pb Sj) MF go) λr s4 ⟨u,hr,h4⟩=>?_);subst hr;refine ab0 hp (cE h4 λ_ s5 ⟨x,H5,I5,r5,y5,U1,WY⟩=>?_);have I5':=I5.pinned (Pb WY) (T.obj _ _ U1);refine ab0 hp (cE (hg _ s5 σ3 H5 x u _ I5' r5 (step x H5 y5)) λ_ s6 ⟨σ6,H6,I6,q6⟩=>?_);refine ab0 hp (cE (hb _ s6 σ6 H6 _ I6 q6) λf s7 q7=>?_);have again:∀{σ7:St}{H7:Hp},Inv X (f8++sM fp s5.heap) σ7 H7 s7->N σ7 H7->∃m,m<n/\∃i σ' H',Inv X f8 σ' H' s7/\tn i s7.heap/\(∀b∈fp,H' b=none)/\W i m σ' H':=λ{σ7 H7} I7 n7=>by
   obtain⟨m',hm,w7⟩:=hN σ7 H7 n7;refine⟨m',hm,i+1,σ7,H7,I7.unpinned,T.keep _ _ _ U1 λb hb o e=>(I7.pin (b,o) (aai _ (aai _ (jC hb e)))).1,λb hb=>?_,w7⟩;obtain⟨o,e,d⟩:=T.obj _ _ U1 b hb;exact(I7.pin (b,o) (aai _ (aai _ (jC hb e)))).2.1
  cases f with
  |next=>obtain⟨σ7,H7,I7,n7⟩:=q7;exact again I7 n7
  |cont=>obtain⟨σ7,H7,I7,n7⟩:=q7;exact again I7 n7
  |brk=>obtain⟨σ7,H7,I7,q7⟩:=q7;exact⟨σ7,H7,I7.unpinned,q7⟩
  |ret v=>obtain⟨x7,σ7,H7,I7,r7,q7⟩:=q7;exact⟨x7,σ7,H7,I7.unpinned,r7,q7⟩
end
abbrev R2:=V->V->Hp->VK->Prop
def OpR(X:Cx)(f:Value->Value->Sem Value)(r:R2):Prop:=
 ∀(f8:List (Addr×Obj)) (s:Zt) (σ:St) (H:Hp) (x y:V) (v u:Value) (Q:VK),Inv X f8 σ H s->RelV x v->RelV y u->r x y H Q->
  wpAny (model X.prog X.w) X.A (f v u) (EP X f8 σ Q) X.xe s
def S7(X:Cx)(f:Value->Sem Value)(r:V->Hp->VK->Prop):Prop:=
 ∀(f8:List (Addr×Obj)) (s:Zt) (σ:St) (H:Hp) (x:V) (v:Value) (Q:VK),Inv X f8 σ H s->RelV x v->r x H Q->
  wpAny (model X.prog X.w) X.A (f v) (EP X f8 σ Q) X.xe s
def CallR(X:Cx)(f:Value)(r:List V->Hp->VK->Prop):Prop:=
 ∀(f8:List (Addr×Obj)) (s:Zt) (σ:St) (H:Hp) (xs:List V) (us:List Value) (Q:VK),Inv X f8 σ H s->Vals xs us->r xs H Q->
  wpAny (model X.prog X.w) X.A (call f us) (EP X f8 σ Q) X.xe s
def S6(X:Cx)(r:V->Hp->(Bool->Hp->Prop)->Prop):Prop:=
 ∀(f8:List (Addr×Obj)) (s:Zt) (σ:St) (H:Hp) (x:V) (v:Value) (Q:Bool->Hp->Prop),Inv X f8 σ H s->RelV x v->r x H Q->
  wpAny (model X.prog X.w) X.A (truthy v) (TP X f8 σ Q) X.xe s
def RZ(r:R2)(ta tb:TE):TE:=λσ H Q=>ta σ H λx H1=>tb σ H1 λy H2=>r x y H2 Q
def YY(r:V->Hp->VK->Prop)(ta:TE):TE:=λσ H Q=>ta σ H λx H1=>r x H1 Q
def rI(C:Int->Int->Prop)(g:Int->Int->V):R2:=λx y H Q=>∃i j,x= .int i/\y= .int j/\C i j/\Q (g i j) H
def DU(g:Int->Int->V):R2:=λx y H Q=>∃i j,x= .int i/\y= .int j/\Q (g i j) H
def rU(g:Int->V):V->Hp->VK->Prop:=λx H Q=>∃i,x= .int i/\Q (g i) H
section
variable{X:Cx}{a b:Expr}{ta tb:TE}{pos:Pos}
theorem MV(ha:PE X a ta)(hb:PE X b tb){f8:List (Addr×Obj)}{s:Zt}{σ:St}{H:Hp}{R:V->V->Hp->Prop}(I:Inv X f8 σ H s)
 (h:ta σ H λx H1=>tb σ H1 λy H2=>R x y H2){Q:Value->Zt->Prop}{f:Value->Value->Sem Value}
 (hf:∀v u s2 x y H2,Inv X f8 σ H2 s2->RelV x v->RelV y u->R x y H2->wpAny (model X.prog X.w) X.A (f v u) Q X.xe s2):
 wpAny (model X.prog X.w) X.A (eval a X.env) (λv v6=>wpAny (model X.prog X.w) X.A (eval b X.env) (λu v4=>wpAny (model X.prog X.w) X.A (f v u) Q X.xe v4) X.xe v6) X.xe s:=by
 refine cE (ha f8 s σ H _ I h) λv s1 ⟨x,H1,I1,r1,q1⟩=>?_;refine cE (hb f8 s1 σ H1 _ I1 q1) λu s2 ⟨y,H2,I2,r2,q2⟩=>?_;exact hf v u s2 x y H2 I2 r1 r2 q2
theorem Rr{op:Operator}{r:R2}(ho:OpR X (acv op) r)(ha:PE X a ta)(hb:PE X b tb):PE X (.BinOp a op b pos) (RZ r ta tb):=by
 intro f8 s σ H Q I h;exact wpAny_BinOp (MV ha hb I h λv u s2 x y H2 I2 rx ry q=>ho f8 s2 σ H2 x y v u Q I2 rx ry q)
theorem Ru{op:UnaryOp}{r:V->Hp->VK->Prop}(ho:S7 X (unaryOp op) r)(ha:PE X a ta):PE X (.UnaryOp op a pos) (YY r ta):=by
 intro f8 s σ H Q I h;exact UnaryOp_ (cE (ha f8 s σ H _ I h) λv s1 ⟨x,H1,I1,r1,q1⟩=>ho f8 s1 σ H1 x v Q I1 r1 q1)
theorem UJ{f:Value->Value->Sem Value}{C:Int->Int->Prop}{g:Int->Int->Int}
 (rule:∀(i j:Int) (t u:Tok) (s:Zt) (Q:Value->Zt->Prop) (E:Value->Zt->Prop),C i j->Q (.int (g i j) s.toks) {s with toks:=s.toks+1}->wpAny (model X.prog X.w) X.A (f (.int i t) (.int j u)) Q E s):
 OpR X f (rI C λi j=> .int (g i j)):=by
 intro f8 s σ H x y v u Q I rx ry h;obtain⟨i,j,rfl,rfl,hc,q⟩:=h;obtain⟨t,rfl⟩:=rx;obtain⟨t',rfl⟩:=ry;exact rule i j t t' s _ _ hc ⟨.int (g i j),H,I.tok _,⟨_,rfl⟩,q⟩
theorem Rg{f:Value->Value->Sem Value}{g:Int->Int->Int}
 (rule:∀(i j:Int) (t u:Tok) (s:Zt) (Q:Value->Zt->Prop) (E:Value->Zt->Prop),Q (.int (g i j) s.toks) {s with toks:=s.toks+1}->wpAny (model X.prog X.w) X.A (f (.int i t) (.int j u)) Q E s):
 OpR X f (DU λi j=> .int (g i j)):=by
 intro f8 s σ H x y v u Q I rx ry h;obtain⟨i,j,rfl,rfl,q⟩:=h;obtain⟨t,rfl⟩:=rx;obtain⟨t',rfl⟩:=ry;exact rule i j t t' s _ _ ⟨.int (g i j),H,I.tok _,⟨_,rfl⟩,q⟩
theorem Oi{f:Value->Value->Sem Value}{g:Int->Int->Bool}
 (rule:∀(i j:Int) (t u:Tok) (s:Zt) (Q:Value->Zt->Prop) (E:Value->Zt->Prop),Q (.bool (g i j)) s->wpAny (model X.prog X.w) X.A (f (.int i t) (.int j u)) Q E s):
 OpR X f (DU λi j=> .bl (g i j)):=by
 intro f8 s σ H x y v u Q I rx ry h;obtain⟨i,j,rfl,rfl,q⟩:=h;obtain⟨t,rfl⟩:=rx;obtain⟨t',rfl⟩:=ry;exact rule i j t t' s _ _ ⟨.bl (g i j),H,I,rfl,q⟩
def PH(i j:Int):Prop:=0<j/\j<1073741824
def CMul(i j:Int):Prop:=(-(2 ^ 64)<i/\i<2 ^ 64)\/(-(2 ^ 64)<j/\j<2 ^ 64)
theorem CMul.ok{i j:Int}(h:CMul i j):IntMulOk i j:=by
 rcases h with⟨h1,h2⟩ | ⟨h1,h2⟩
 ·exact .of_left (intBits_le_64 h1 h2)
 ·exact .of_right (intBits_le_64 h1 h2)
theorem Oj:OpR X (acv .Add) (DU λi j=> .int (i+j)):=Rg λ_ _ _ _ _ _ _ q=>add_int q
theorem Ow:OpR X (acv .Sub) (DU λi j=> .int (i - j)):=Rg λ_ _ _ _ _ _ _ q=>sub_int q
theorem Ot:OpR X (acv .Mult) (rI CMul λi j=> .int (i*j)):=UJ λ_ _ _ _ _ _ _ hc q=>mul_int q hc.ok
theorem KP:OpR X (acv .FloorDiv) (rI PH λi j=> .int (i / j)):=UJ λi j _ _ _ _ _ hc q=>by
 have h1:(0:Int)<j:=hc.1;have h2:j<1073741824:=hc.2;exact floordiv_int (by omega) (by rw[Int.fdiv_eq_ediv_of_nonneg i (by omega)];exact q) (.inl (PyProof.noPylong_small (by omega)))
theorem Oq:OpR X (acv .Mod) (rI (λ_ j=>0<j) λi j=> .int (i % j)):=UJ λi j _ _ _ _ _ hc q=>by
 have h1:(0:Int)<j:=hc;exact mod_int' (by omega) (by rw[Int.fmod_eq_emod_of_nonneg i (by omega)];exact q)
theorem Y1{f:Value->Sem Value}{g:Int->Int}
 (rule:∀(i:Int) (t:Tok) (s:Zt) (Q:Value->Zt->Prop) (E:Value->Zt->Prop),Q (.int (g i) s.toks) {s with toks:=s.toks+1}->wpAny (model X.prog X.w) X.A (f (.int i t)) Q E s):
 S7 X f (rU λi=> .int (g i)):=by
 intro f8 s σ H x v Q I rx h;obtain⟨i,rfl,q⟩:=h;obtain⟨t,rfl⟩:=rx;exact rule i t s _ _ ⟨.int (g i),H,I.tok _,⟨_,rfl⟩,q⟩
theorem Pj:S7 X (unaryOp .USub) (rU λi=> .int (-i)):=Y1 λ_ _ _ _ _ q=>neg_int q
end
section
variable{X:Cx}{a b c:Expr}{ta tb tc:TE}{pos:Pos}
theorem Ni{f8:List (Addr×Obj)}{σ:St}{H:Hp}{s:Zt}{Q:VK}{k k':Bool}(I:Inv X f8 σ H s)(q:Q (.bl k) H)(e:k=k'):EP X f8 σ Q (.bool k') s:=by
 subst e;exact⟨.bl k,H,I,rfl,q⟩
theorem HN:OpR X (aas .Lt) (DU λi j=> .bl (decide (i<j))):=Oi λ_ _ _ _ _ _ _ q=>lt_int q
theorem sA:OpR X (aas .LtE) (DU λi j=> .bl (decide (i<=j))):=Oi λ_ _ _ _ _ _ _ q=>le_int q
theorem Rh:OpR X (aas .Gt) (DU λi j=> .bl (decide (j<i))):=Oi λ_ _ _ _ _ _ _ q=>gt_int q
theorem Fe:OpR X (aas .In) (λx y H Q=>∃i j,x= .str i/\y= .str j/\Q (.bl (!(ab3 j i 0 j.length 1).isEmpty)) H):=by
 intro f8 s σ H x y v u Q I rx ry h;obtain⟨i,j,rfl,rfl,q⟩:=h;obtain⟨t,rfl⟩:=rx;obtain⟨t',rfl⟩:=ry;exact in_str (Ni I q rfl)
theorem OpR.or{f:Value->Value->Sem Value}{r r':R2}(h:OpR X f r)(h':OpR X f r'):OpR X f (λx y H Q=>r x y H Q\/r' x y H Q):=by
 intro f8 s σ H x y v u Q I rx ry q;rcases q with q | q
 ·exact h f8 s σ H x y v u Q I rx ry q
 ·exact h' f8 s σ H x y v u Q I rx ry q
theorem HC(b:Expr){op:CmpOp}(h:op≠ .In:=by decide)(h2:op≠ .NotIn:=by decide):aaB op b=false:=by
 have e1:(op==CmpOp.In)=false:=by cases op<;>first | rfl | exact agj rfl h
 have e2:(op==CmpOp.NotIn)=false:=by cases op<;>first | rfl | exact agj rfl h2
 cases b<;>simp[aaB,e1,e2]
theorem K9{op:CmpOp}{r:R2}(ho:OpR X (aas op) r)(ha:PE X a ta)(hb:PE X b tb)(hm:aaB op b=false):PE X (.Compare a [op] [b] pos) (RZ r ta tb):=by
 intro f8 s σ H Q I h;exact wpAny_Compare1 (MV ha hb I h λv u s2 x y H2 I2 rx ry q=>ho f8 s2 σ H2 x y v u Q I2 rx ry q) hm
def MJ(t:TE):TT:=λσ H Q=>t σ H λx H'=>∃k,x= .bl k/\Q k H'
theorem Lj{op:CmpOp}{r:R2}(ho:OpR X (aas op) r)(ha:PE X a ta)(hb:PE X b tb)(hm:aaB op b=false):PT X (.Compare a [op] [b] pos) (MJ (RZ r ta tb)):=by
 intro f8 s σ H Q I h;refine wpAny_isTrue_Compare1 (cE (ha f8 s σ H _ I h) λv s1 ⟨x,H1,I1,r1,q1⟩=>cE (hb f8 s1 σ H1 _ I1 q1) λu s2 ⟨y,H2,I2,r2,q2⟩=>
  cE (ho f8 s2 σ H2 x y v u _ I2 r1 r2 q2) λc s3 ⟨z,H3,I3,r3,k,e,q3⟩=>?_) hm
 subst e;cases r3;exact aaH ⟨H3,I3,q3⟩
def Cd(r r':R2)(ta tb tc:TE):TE:=λσ H Q=>ta σ H λx H1=>tb σ H1 λy H2=>r x y H2 λz H3=>∃k,z= .bl k/\
 (if k=true then tc σ H3 λw' H4=>r' y w' H4 Q else Q (.bl false) H3)
theorem Ij{op Fc:CmpOp}{r r':R2}(ho:OpR X (aas op) r)(mJ:OpR X (aas Fc) r')(ha:PE X a ta)(hb:PE X b tb)(hc:PE X c tc)
 (hm:lastMarks [op,Fc] [b,c]=false:=by with_unfolding_all rfl):PE X (.Compare a [op,Fc] [b,c] pos) (Cd r r' ta tb tc):=by
 intro f8 s σ H Q I h;refine Compare_chain (cE (ha f8 s σ H _ I h) λv s1 ⟨x,H1,I1,r1,q1⟩=>chain_link (cE (hb f8 s1 σ H1 _ I1 q1) λu s2 ⟨y,H2,I2,r2,q2⟩=>
  cE (ho f8 s2 σ H2 x y v u _ I2 r1 r2 q2) λd s3 ⟨z,H3,I3,r3,k,e,q3⟩=>?_)) hm
 subst e;cases r3;refine aaH ?_;cases k with
 |false=>exact ite_ff ⟨.bl false,H3,I3,rfl,q3⟩
 |true=>exact ite_tt (chain_last (cE (hc f8 s3 σ H3 _ I3 q3) λw' s4 ⟨z',H4,I4,r4,q4⟩=>mJ f8 s4 σ H4 y z' u w' Q I4 r2 r4 q4))
theorem Iu{op Fc:CmpOp}{r r':R2}(ho:OpR X (aas op) r)(mJ:OpR X (aas Fc) r')(ha:PE X a ta)(hb:PE X b tb)(hc:PE X c tc)
 (hm:lastMarks [op,Fc] [b,c]=false:=by with_unfolding_all rfl):PT X (.Compare a [op,Fc] [b,c] pos) (MJ (Cd r r' ta tb tc)):=by
 intro f8 s σ H Q I h;refine isTrue_chain (cE (ha f8 s σ H _ I h) λv s1 ⟨x,H1,I1,r1,q1⟩=>test_link (cE (hb f8 s1 σ H1 _ I1 q1) λu s2 ⟨y,H2,I2,r2,q2⟩=>
  cE (ho f8 s2 σ H2 x y v u _ I2 r1 r2 q2) λd s3 ⟨z,H3,I3,r3,k,e,q3⟩=>?_)) hm
 subst e;cases r3;refine aaH ?_;cases k with
 |false=>
  obtain⟨k',e',q'⟩:=q3;cases e';exact ite_ff ⟨H3,I3,q'⟩
 |true=>
  refine ite_tt (test_last (cE (hc f8 s3 σ H3 _ I3 q3) λw' s4 ⟨z',H4,I4,r4,q4⟩=>cE (mJ f8 s4 σ H4 y z' u w' _ I4 r2 r4 q4) λd' s5 ⟨z2,H5,I5,r5,k2,e2,q5⟩=>?_));subst e2;cases r5;exact aaH ⟨H5,I5,q5⟩
def PR(K:ZE)(x:V)(H:Hp)(k:Bool):Prop:=
 match x with
 | .non=>k=false
 | .bl b=>k=b
 | .int i=>k=(i !=0)
 | .str y=>y.length<=ZQ/\k=((y.length:Int) !=0)
 | .byt y=>y.size<=ZQ/\k=((y.size:Int) !=0)
 | .ref p=>(∃xs,SqL K H p xs/\k=!xs.isEmpty)\/(∃xs,SqT K H p xs/\k=!xs.isEmpty)\/∃aB,H p=some (.dK aB)/\k=!aB.isEmpty
 |_=>False
theorem Bw{κ:Type}{aB:List (κ×V)}{vs:List (κ×Value)}(r:KV aB vs):(!vs.isEmpty)=!aB.isEmpty:=by
 cases r<;>rfl
theorem rE{xs:List V}{aL:List Value}(r:Vals xs aL):(!aL.toArray.isEmpty)=!xs.isEmpty:=by
 cases r<;>simp
theorem oF:(ZQ:Nat)<2 ^ 63:=by rw[aa4];decide
theorem Pg:S6 X (λx H Q=>∃k,PR X.K x H k/\Q k H):=by
 intro f8 s σ H x v Q I rx h;obtain⟨k,e,q⟩:=h;have hl:=oF;have hs:ZQ=16777216:=aa4;cases x with
 |non=>
  cases rx;have e':k=false:=e;subst e';exact truthy_none ⟨H,I,q⟩
 |bl b=>
  cases rx;have e':k=b:=e;subst e';exact aaH ⟨H,I,q⟩
 |int i=>
  obtain⟨t,rfl⟩:=rx;have e':k=(i !=0):=e;subst e';exact PySem.P.truthy_int ⟨H,I,q⟩
 |str y=>
  obtain⟨t,rfl⟩:=rx;obtain⟨hy,e'⟩:y.length<=ZQ/\k=((y.length:Int) !=0):=e;subst e';exact PySem.P.truthy_str (by omega) ⟨H,I.tok _,q⟩
 |byt y=>
  obtain⟨t,rfl⟩:=rx;obtain⟨hy,e'⟩:y.size<=ZQ/\k=((y.size:Int) !=0):=e;subst e';exact PySem.W.truthy_bytes (by omega) ⟨H,I.tok _,q⟩
 |ref p=>
  cases rx;have e':(∃xs,SqL X.K H p xs/\k=!xs.isEmpty)\/(∃xs,SqT X.K H p xs/\k=!xs.isEmpty)\/∃aB,H p=some (.dK aB)/\k=!aB.isEmpty:=e;rcases e' with⟨xs,hx,e'⟩ | ⟨xs,hx,e'⟩ | ⟨aB,hx,e'⟩
  ·subst e';obtain⟨aL,r,pl,hz⟩:=I.list hx;have T0:=r.length;exact wpAny_truthy_list pl.isList (by simp only[ZD];omega) ⟨H,I.tok _,by rw[rE r];exact q⟩
  ·subst e';obtain⟨aL,r,pl,hz⟩:=I.tuple hx;have T0:=r.length;exact truthy_tuple pl (by simp only[ZD];omega) ⟨H,I.tok _,by rw[rE r];exact q⟩
  ·subst e';obtain⟨hz,hS,vs,r,m⟩:aB.length<=ZQ/\(p==aa3)=false/\∃vs,KV aB vs/\s.heap.DictOf (bo X.prog X.w) p vs:=I.hok p _ hx;have T0:aB.length=vs.length:=abB r;exact wpAny_truthy_dict hS m (by omega) ⟨H,I.tok _,by rw[Bw r];exact q⟩
 |_=>exact(show False from e).elim
theorem Iz(ha:PE X a ta)(he:∀whole,isTrue a X.env whole=(do let v<-whole;standAt a.pos;holding [v] (truthy v))):
 PT X a (λσ H Q=>ta σ H λx H'=>∃k,PR X.K x H' k/\Q k H'):=by
 intro f8 s σ H Q I h;exact isTrue_plain (cE (ha f8 s σ H _ I h) λv s1 ⟨x,H1,I1,r1,q1⟩=>Pg f8 s1 σ H1 x v Q I1 r1 q1) (he _)
theorem BN:OpR X (acv .Add) (λx y H Q=>∃i j,x= .str i/\y= .str j/\i.length+j.length<=ZQ/\Q (.str (i++j)) H):=by
 intro f8 s σ H x y v u Q I rx ry h;obtain⟨i,j,rfl,rfl,hz,q⟩:=h;obtain⟨t,rfl⟩:=rx;obtain⟨t',rfl⟩:=ry;exact add_str (λt' tk=>⟨.str (i++j),H,I.tok _,⟨_,rfl⟩,q⟩) hz
theorem vals1{x:V}{us:List Value}(r:Vals [x] us):∃u,us=[u]/\RelV x u:=by
 cases r with
 |cons r1 r2=>cases r2;exact⟨_,rfl,r1⟩
theorem vals2{x y:V}{us:List Value}(r:Vals [x,y] us):∃u w',us=[u,w']/\RelV x u/\RelV y w':=by
 cases r with
 |cons r1 r2=>
  cases r2 with
  |cons r3 r4=>cases r4;exact⟨_,_,rfl,r1,r3⟩
theorem Gd:CallR X (.builtin "abs") (λxs H Q=>∃i,xs=[.int i]/\Q (.int (if i<0 then -i else i)) H):=by
 intro f8 s σ H xs us Q I r h;obtain⟨i,rfl,q⟩:=h;obtain⟨u,rfl,t,rfl⟩:=vals1 r;exact call_abs_int λu tk=>⟨.int (if i<0 then -i else i),H,I.tok _,⟨_,rfl⟩,q⟩
theorem Ej(hc:X.calm=true):CallR X (.builtin "max") (λxs H Q=>∃i j,xs=[.int i, .int j]/\Q (.int (if j>i then j else i)) H):=by
 intro f8 s σ H xs us Q I r h;obtain⟨i,j,rfl,q⟩:=h;obtain⟨u,w',rfl,⟨t,rfl⟩,⟨t',rfl⟩⟩:=vals2 r;refine max_two_ints (I.ok.hd hc) λh' tk k=>⟨_,H,I.kept k,?_,q⟩
 by_cases hj:j>i
 ·rw[agd hj,agd hj];exact⟨_,rfl⟩
 ·rw[age hj,age hj];exact⟨_,rfl⟩
theorem Ek(hc:X.calm=true):CallR X (.builtin "min") (λxs H Q=>∃i j,xs=[.int i, .int j]/\Q (.int (if j<i then j else i)) H):=by
 intro f8 s σ H xs us Q I r h;obtain⟨i,j,rfl,q⟩:=h;obtain⟨u,w',rfl,⟨t,rfl⟩,⟨t',rfl⟩⟩:=vals2 r;refine min_two_ints (I.ok.hd hc) λh' tk k=>⟨_,H,I.kept k,?_,q⟩
 by_cases hj:j<i
 ·rw[agd hj,agd hj];exact⟨_,rfl⟩
 ·rw[age hj,age hj];exact⟨_,rfl⟩
end
structure ObjM (h:Heap) (x dx C:Addr) (mA:Str->Option Value):Prop where
 obj:h.get? x=some (aec C dx)
 ns:h.Ns1 dx mA
 ne:dx≠x
theorem E3{h:Heap}{dx:Addr}{mA:Str->Option Value}(n:h.Ns1 dx mA):∃od,h.get? dx=some od/\∀name,ael name od=some (mA name):=by
 obtain⟨o,es,ep,ho,hd,hk,_,hm⟩:=n;refine⟨o,ho,λname=>?_⟩;have e:=hm name;unfold nsFind findBy at e;rw[<-Array.find?_toList] at e;unfold ael;rw[hd]
 dsimp only
 split
 ·rename_i y q;rw[q] at e;exact agl some e
 ·rename_i q;rw[q] at e;have a:es.toList.any (·.refKey)=false:=by
   rw[agb];intro y hy;obtain⟨z,t,EF⟩:=hk y (Array.mem_toList_iff.mp hy);simp[DictEntry.refKey,EF]
  have a':¬es.toList.any (·.refKey)=true:=by rw[a];exact Z1
  rw[age a'];exact agl some e
theorem ObjM.look{h:Heap}{x dx C:Addr}{mA:Str->Option Value}(I:ObjM h x dx C mA):∃od,PySem.W.InstAt h x (aec C dx) C (some od)/\∀name,ael name od=some (mA name):=
 let ⟨od,ho,hl⟩:=E3 I.ns
 ⟨od,⟨I.obj,rfl,rfl,ho⟩,hl⟩
theorem RelO.some_of{v:V}{o:Option Value}(r:RelO (some v) o):∃u,o=some u/\RelV v u:=by
 cases o with
 |none=>exact(show False from r).elim
 |some u=>exact⟨u,rfl,r⟩
section
variable{P:Z5}{w:World}{H:Hp}{h:Heap}{a C dx:Addr}{fs:List (Str×V)}
theorem Km(hok:HOk P w H h)(e:H a=some (.ins C dx fs)):∃mA,ObjM h a dx C mA/\(∀f,RelO (fs.lookup f) (mA f))/\PySem.Within mA (fs.map (·.1))/\fs.length<=1000/\H dx=some (.own a):=by
 obtain⟨d,z,ne,ob,mA,n,r,q⟩:=(show ObjOk P w H h a (.ins C dx fs) from hok a _ e)
 exact⟨mA,⟨ob,n,ne⟩,r,q,z,d⟩
end
structure Cls (K:ZE) (C:Addr):Prop where
 pg:afC K C Str.empty=true
 hd:PySem.W.hasDictIn K C=true
 po:PySem.W.plainOver K C=true
 sa:aaV K (.ref C) "__setattr__"=some (some (.builtin "object.__setattr__"))
theorem Cls.get{K:ZE}{C:Addr}(c:Cls K C)(f:Str):afC K C f=true:=c.pg
section
variable{X:Cx}{f8:List (Addr×Obj)}{σ:St}{H:Hp}{s:Zt}{A:aao}{E:Value->Zt->Prop}{Q:Value->Zt->Prop}{c:Value}{b:Bool}
inductive TyOf (K:ZE) (H:Hp):V->Value->Prop where
 |non:TyOf K H .non (.type "NoneType")
 |bl (x:Bool):TyOf K H (.bl x) (.type "bool")
 |int (i:Int):TyOf K H (.int i) (.type "int")
 |str (x:Str):TyOf K H (.str x) (.type "str")
 |flt (x:UInt64):TyOf K H (.flt x) (.type "float")
 |lst {a:Addr}{xs:List V}(e:H a=some (.lst xs)):TyOf K H (.ref a) (.type "list")
 |frz {a:Addr}{o:Obj}{xs:List V}(e:H a=some (.frz o (.lst xs))):TyOf K H (.ref a) (.type "list")
 |tup {a:Addr}{xs:List V}(e:H a=some (.tup xs)):TyOf K H (.ref a) (.type "tuple")
 |dK {a:Addr}{aB:List (Key×V)}(e:H a=some (.dK aB)):TyOf K H (.ref a) (.type "dict")
 |dT {a:Addr}{aB:List (List Key×V)}(e:H a=some (.dT aB)):TyOf K H (.ref a) (.type "dict")
 |ins {a C dx:Addr}{fs:List (Str×V)}(e:H a=some (.ins C dx fs)) (cl:Cls K C) (ha:aaV K (.ref C) "__class__"=some (some (.builtin "object.__class__")))
   (hn:PySem.W.specialIn K (.builtin "object.__class__") "__get__"=some (some (.builtin "getset_descriptor.__get__"))) (V_:PySem.W.takesIn K (.builtin "object.__class__")=some true)
   (hm:ab8 K C (.type "object")=some true):TyOf K H (.ref a) (.ref C)
theorem EN{x:V}{u t:Value}(I:Inv X f8 σ H s)(rx:RelV x u)(ty:TyOf X.K H x t)(e:ZK X.K t c=some b)(h:∀tk,Q (.bool b) {s with toks:=tk}):
 wpAny (model X.prog X.w) A (call (.builtin "isinstance") [u,c]) Q E s:=by
 cases ty with
 |non=>cases (show u=aaN from rx);exact aay PySem.W.kitx_none I.kIn abz e (λz=>nomatch z) h
 |bl y=>cases (show u=abc y from rx);exact aay PySem.W.kitx_bool I.kIn abz e (λz=>nomatch z) h
 |int i=>obtain⟨t,q⟩:=(show∃t,u=ae6 i t from rx);cases q;exact aay PySem.W.kitx_int I.kIn abz e (λz=>nomatch z) h
 |str y=>obtain⟨t,q⟩:=(show∃t,u=ae5 y t from rx);cases q;exact aay PySem.W.kitx_str I.kIn abz e (λz=>nomatch z) h
 |flt y=>obtain⟨t,q⟩:=(show∃t,u=Value.float y t from rx);cases q;exact aay PySem.W.kitx_float I.kIn abz e (λz=>nomatch z) h
 | @lst a xs ea=>
   cases (show u=Z6 a from rx);obtain⟨_,_,n,_,h1⟩:=(show ObjOk X.prog X.w H s.heap a (.lst xs) from I.hok a _ ea)
   exact aay afo I.kIn ⟨_,h1,rfl⟩ e (λz=>nomatch z) h
 | @frz a ob xs ea=>
   cases (show u=Z6 a from rx);obtain⟨_,_,_,n,_,h1⟩:=(show ObjOk X.prog X.w H s.heap a (.frz ob (.lst xs)) from I.hok a _ ea)
   exact aay afo I.kIn ⟨_,h1,rfl⟩ e (λz=>nomatch z) h
 | @tup a xs ea=>
   cases (show u=Z6 a from rx);obtain⟨_,_,_,p⟩:=(show ObjOk X.prog X.w H s.heap a (.tup xs) from I.hok a _ ea)
   obtain⟨o,h1,h2,_⟩:=p;exact aay PySem.W.kitx_tuple I.kIn ⟨o,h1,h2⟩ e (λz=>nomatch z) h
 | @dK a aB ea=>
   cases (show u=Z6 a from rx);obtain⟨_,_,vs,_,p⟩:=(show ObjOk X.prog X.w H s.heap a (.dK aB) from I.hok a _ ea)
   obtain⟨o,es,ep,h1,h2,_⟩:=p;exact aay afp I.kIn ⟨o,h1,h2.1⟩ e (λz=>nomatch z) h
 | @dT a aB ea=>
   cases (show u=Z6 a from rx);obtain⟨_,_,xs,_,o,es,ep,h1,h2,_⟩:=(show ObjOk X.prog X.w H s.heap a (.dT aB) from I.hok a _ ea)
   exact aay afp I.kIn ⟨o,h1,h2.1⟩ e (λz=>nomatch z) h
 | @ins a C dx fs ea cl ha hn V_ hm=>
   cases (show u=Z6 a from rx);obtain⟨mA,O,_⟩:=Km I.hok ea;obtain⟨od,J,_⟩:=O.look;exact aay (PySem.W.kitx_own (cl.get _) cl.hd ha hn V_ hm) I.kIn J e (λz=>nomatch z) h
end
structure Room (k:Nat) (A:aao):Prop where
 hd:A.handled=none
 dp:A.depth+3*k+5<ad_
 un:A.units+16*k+200<cLine
theorem Room.mono{j k:Nat}{A:aao}(r:Room k A)(h:j<=k):Room j A:=⟨r.hd,by have:=r.dp;omega,by have:=r.un;omega⟩
theorem Room.deeper{k:Nat}{A:aao}(r:Room (k+1) A)(env:Env):Room k (A.deeper env):=
 ⟨r.hd,by have:=r.dp;show A.depth+1+3*k+5<_;omega,by have:=r.un;show A.units+3+16*k+200<_;omega⟩
theorem Room.depth{k:Nat}{A:aao}(r:Room k A):A.depth<ad_:=by have:=r.dp;omega
theorem Room.units{k:Nat}{A:aao}(r:Room k A):A.units+64<cLine:=by have:=r.un;omega
def LN:TA:=λ_ H Q=>Q [] H
def Jh(ta:TE)(tr:TA):TA:=λσ H Q=>ta σ H λx H1=>tr σ H1 λxs H2=>Q (x::xs) H2
section
variable{X:Cx}{e:Expr}{es:List Expr}{te:TE}{t:TA}{pos:Pos}
theorem sH:PA X [] LN:=λ_ _ _ _ H Q I h=>abS ⟨[],H,I, .nil,h⟩
theorem nB(ha:PE X e te)(hr:PA X es t)(hs:jp e es X.env:=by rfl):PA X (e::es) (Jh te t):=by
 intro pos f8 s σ H Q I h;rw[hs];show wpAny _ _ (spliced ((false,eval e X.env)::abk pos (ZF es X.env))) _ _ s;refine abr (cE (ha f8 s σ H _ I h) λu s1 ⟨x,H1,I1,r1,q1⟩=>?_);exact cE (hr pos f8 s1 σ H1 _ I1 q1) λus s2 ⟨xs,H2,I2,r2,q2⟩=>⟨x::xs,H2,I2, .cons r1 r2,q2⟩
def Ve(t:TA):TE:=λσ H Q=>t σ H λxs H1=>xs.length<=ZQ/\∀p,H1 p=none->Q (.ref p) (upd H1 p (.tup xs))
def U_(t:TA):TE:=λσ H Q=>t σ H λxs H1=>xs.length<=ZQ/\∀p,H1 p=none->Q (.ref p) (upd H1 p (.lst xs))
theorem ON{x1}(h:PA X es t):PE X (.Tuple es x1 pos) (Ve t):=by
 intro f8 s σ H Q I hq;refine wpAny_Tuple_spliced (cE (h pos f8 s σ H _ I hq) λus s1 ⟨xs,H1,I1,r,z,q⟩=>⟨by rw[<-r.length];exact z,?_⟩);have hf:H1 s1.heap.objs.size=none:=I1.hok.fresh (Zv _);refine⟨.ref s1.heap.objs.size,upd H1 s1.heap.objs.size (.tup xs),I1.laid (t':=s1.toks) (λb u e=>Zr _ e) (Zv _) ?_,rfl,q _ hf⟩;exact⟨z,us,r,⟨_,ZL _ rfl,rfl,_,rfl⟩⟩
theorem BY(h:PA X es t):PE X (.List es pos) (U_ t):=by
 intro f8 s σ H Q I hq;refine wpAny_List_spliced (cE (h pos f8 s σ H _ I hq) λus s1 ⟨xs,H1,I1,r,z,q⟩=>⟨by rw[<-r.length];exact z,?_⟩);have hf:H1 s1.heap.objs.size=none:=I1.hok.fresh (Zv _);refine⟨.ref s1.heap.objs.size,upd H1 s1.heap.objs.size (.lst xs),I1.laid (t':=s1.toks) (λb u e=>Zr _ e) (Zv _) ?_,rfl,q _ hf⟩;exact⟨z,us,0,r,ZL _ rfl⟩
end
abbrev Sp:=List V->Hp->VK->XK->Prop
abbrev Cs:=List Env->Hp->Zt->XK->Value->Zt->Prop
structure Env0 (P:Z5) (w:World) (K:ZE) (mg:Str->Option Value) (base:Heap) (A:aao) (outer:List Env) (s:Zt) (H:Hp):Prop where
 frames:A.frames=some outer
 mod:Mod K mg base
 bs:∀b o,base.get? b=some o->s.heap.get? b=some o/\H b=none
 bsz:base.objs.size<=s.heap.objs.size
 funs:s.heap.FunFrames base outer
 frf:∀b∈iG outer,H b=none
 hok:HOk P w H s.heap
 bare:adZ s.gens
def CE(outer:List Env)(P:Z5)(w:World)(H:Hp)(s:Zt)(Q:VK)(u:Value)(s':Zt):Prop:=
 ∃v H',s'.os=s.os/\adZ s'.gens/\Un (iG outer) [] H H' s.heap s'.heap/\HOk P w H' s'.heap/\RelV v u/\Q v H'
def CR(CX:Cs)(outer:List Env)(P:Z5)(w:World)(H:Hp)(s:Zt)(Q:VK)(E:XK)(r:Result)(s':Zt):Prop:=
 match r with
 | .ok (.ret u)=>CE outer P w H s Q u s'
 | .ok _=>False
 | .error e=>CX outer H s E e s'
structure FnOk (P:Z5) (w:World) (K:ZE) (mg:Str->Option Value) (base:Heap) (CX:Cs) (k:Nat) (f:Addr) (fd:abW) (ps:List Str) (sp:Sp):Prop where
 len:∀vs H Q E,sp vs H Q E->vs.length=ps.length
 run:∀(A:aao) (outer:List Env) (s:Zt) (H:Hp) (args:Args) (us:List Value) (vs:List V) (Q:VK) (E:XK),Room k A->Env0 P w K mg base A outer s H->afc s fd args (ps.zip us)->Vals vs us->sp vs H Q E->
  acF (model P w) A (.call (.ref f) args) (CR CX outer P w H s Q E) s
theorem FnOk.mono{P:Z5}{w:World}{K:ZE}{mg:Str->Option Value}{base:Heap}{CX:Cs}{j k:Nat}{f:Addr}{fd:abW}{ps:List Str}{sp:Sp}(F:FnOk P w K mg base CX j f fd ps sp)(h:j<=k):
 FnOk P w K mg base CX k f fd ps sp:=⟨F.len,λA outer s H args us vs Q E hr=>F.run A outer s H args us vs Q E (hr.mono h)⟩
section
variable{X:Cx}{f8:List (Addr×Obj)}{σ:St}{H:Hp}{s s':Zt}
theorem Inv.env0(I:Inv X f8 σ H s):Env0 X.prog X.w X.K X.mg X.base X.A X.stack s H:=
 ⟨I.ok.frames,I.ok.mod,I.bs,Z2 I.ok.bsz I.sz,I.stack,I.stkFree,I.hok,I.bare⟩
theorem Inv.after{Q:VK}{u:Value}(I:Inv X f8 σ H s)(h:CE X.stack X.prog X.w H s Q u s'):EP X f8 σ Q u s':=by
 obtain⟨v,H',os,bare,un,hok,r,q⟩:=h;obtain⟨hh,g,d,t,UM⟩:=s';obtain rfl:UM=s.os:=os;exact⟨v,H',I.call (h':=hh) (g':=g) (d':=d) (t':=t) (ch:=[]) un hok bare (λb z=>agj z (by simp)),r,q⟩
end
def MI(sp:Sp)(Jr:List V)(E:XK)(t:TA):TE:=λσ H Q=>t σ H λvs H1=>sp (vs++Jr) H1 Q E
def Binds(K:ZE)(fd:abW)(ps:List Str)(ds:List Value):Prop:=
 ∀(s:Zt) (us:List Value),K.In s.heap->(us++ds).length=ps.length->afc s fd ⟨us,[]⟩ (ps.zip (us++ds))
theorem Binds.all{K:ZE}{fd:abW}{ps:List Str}(h:∀us:List Value,us.length=ps.length->bindArgs fd ⟨us,[]⟩=pure (ps.zip us)):Binds K fd ps []:=λs us _ hl=>by
 rw[Z_] at hl⊢;exact .of_eq (h us hl)
def Passes(CX:Cs)(X:Cx)(E:XK):Prop:=∀(f8:List (Addr×Obj)) (σ:St) (H:Hp) (s:Zt) (e:Value) (s':Zt),Inv X f8 σ H s->CX X.stack H s E e s'->X.xe e s'
section
variable{X:Cx}{CX:Cs}{k:Nat}{f:Addr}{fd:abW}{ps:List Str}{sp:Sp}{Jr:List V}{ds:List Value}{E:XK}{x:Str}{p pos:Pos}{e:Expr}{es:List Expr}{t:TA}
theorem B5{f8:List (Addr×Obj)}{σ:St}{H:Hp}{s:Zt}{Q:VK}{us:List Value}{vs:List V}(F:FnOk X.prog X.w X.K X.mg X.base CX k f fd ps sp)(hr:Room k X.A)(hb:Binds X.K fd ps ds)(hd:Vals Jr ds)(hx:Passes CX X E)
 (I:Inv X f8 σ H s)(r:Vals vs us)(h:sp (vs++Jr) H Q E):wpAny (model X.prog X.w) X.A (call (.ref f) us) (EP X f8 σ Q) X.xe s:=by
 have r2:Vals (vs++Jr) (us++ds):=r.append hd;have hl:(us++ds).length=ps.length:=by rw[<-r2.length];exact F.len _ _ _ _ h
 refine wpAny_call (adb (F.run X.A X.stack s H ⟨us,[]⟩ (us++ds) (vs++Jr) Q E hr I.env0 (hb s us I.kIn hl) r2 h) λr s' hq=>?_);cases r with
 |error e=>exact hx f8 σ H s e s' I hq
 |ok fl=>
  cases fl with
  |ret u=>exact I.after hq
  |next=>exact aaW hq
  |brk=>exact aaW hq
  |cont=>exact aaW hq
theorem K8(F:FnOk X.prog X.w X.K X.mg X.base CX k f fd ps sp)(hr:Room k X.A)(hg:Gl X x)(hm:X.mg x=some (.ref f))(hk:aaO X.K (.ref f)=true)(hb:Binds X.K fd ps ds)(hd:Vals Jr ds)(hx:Passes CX X E)
 (ha:PA X (e::es) t)(lr:dL x:=by decide)(he:jp e es X.env:=by rfl)(j1:bv pos es X.env:=by rfl):
 PE X (.Call (.Name x p) (e::es) [] pos) (MI sp Jr E t):=by
 intro f8 s σ H Q I h;refine abv (kX I hg hm ?_ lr);refine adL (h₀:=X.base) I.ok.mod.kin hk (cE (ha pos f8 s σ H _ I h) λus s1 ⟨vs,H1,I1,r,q⟩=>⟨I1.kIn,?_⟩) he j1;exact B5 F hr hb hd hx I1 r q
theorem Ih(F:FnOk X.prog X.w X.K X.mg X.base CX k f fd ps sp)(hr:Room k X.A)(hg:Gl X x)(hm:X.mg x=some (.ref f))(hk:aaO X.K (.ref f)=true)(hb:Binds X.K fd ps ds)(hd:Vals Jr ds)(hx:Passes CX X E)
 (lr:dL x:=by decide):PE X (.Call (.Name x p) [] [] pos) (MI sp Jr E LN):=by
 intro f8 s σ H Q I h;refine abv (kX I hg hm ?_ lr);exact PySem.W.callWith_K0 I.kIn hk (B5 (us:=[]) F hr hb hd hx I .nil h)
end
section
variable{ks:List Str}
end
structure FnScope (N P:List Str) (sc:Scope):Prop where
 kind:sc.kind= .function
 co:sc.isCoroutine=false
 gen:sc.isGenerator=false
 nd:N.Nodup
 pre:N.take P.length=P
 par:∀x∈P,sc.names.lookup x=some .local\/sc.names.lookup x=some .cell
 nofree:∀y∈sc.names,y.2≠ .free
theorem uM{adK:Str->Option adg}{x:Str}:∀{binds:List (Str×Value)}{m:Str->Option Value},(∀v,(x,v)∉binds)->bindL adK binds m x=m x
 |[],_,_=>rfl
 |(n,v)::r,m,h=>by
  unfold bindL;rw[uM λw hw=>h w (Zp _ hw)];split
  ·have:x≠n:=by rintro rfl;exact h v Zq
   simp[this]
  ·rfl
theorem uK{adK:Str->Option adg}{x:Str}:∀{binds:List (Str×Value)}{m:Str->Option Value},(∀v,(x,v)∉binds)->bindC adK binds m x=m x
 |[],_,_=>rfl
 |(n,v)::r,m,h=>by
  unfold bindC;rw[uK λw hw=>h w (Zp _ hw)];split
  ·rfl
  ·have:x≠n:=by rintro rfl;exact h v Zq
   simp[this]
theorem uL{adK:Str->Option adg}{x:Str}{v:Value}:∀{P:List Str}{vs:List Value}{i:Nat}{m:Str->Option Value},P.Nodup->P[i]? =some x->vs[i]? =some v->adK x=some .local->
 bindL adK (P.zip vs) m x=some v
 |[],_,_,_,_,h,_,_=>by simp at h
 |_::_,[],_,_,_,_,h,_=>by simp at h
 |p::P,w::vs,0,m,nd,h1,h2,hk=>by
  simp at h1 h2;subst h1;subst h2;show bindL adK ((p,w)::P.zip vs) m p=_;unfold bindL;rw[uM λv hv=>(aaK.mp nd).1 (acM hv).1,agd hk];simp
 |p::P,w::vs,i+1,m,nd,h1,h2,hk=>by
  show bindL adK ((p,w)::P.zip vs) m x=_;unfold bindL;exact uL (i:=i) (aaK.mp nd).2 (by simpa using h1) (by simpa using h2) hk
theorem uJ{adK:Str->Option adg}{x:Str}{v:Value}:∀{P:List Str}{vs:List Value}{i:Nat}{m:Str->Option Value},P.Nodup->P[i]? =some x->vs[i]? =some v->adK x≠some .local->
 bindC adK (P.zip vs) m x=some v
 |[],_,_,_,_,h,_,_=>by simp at h
 |_::_,[],_,_,_,_,h,_=>by simp at h
 |p::P,w::vs,0,m,nd,h1,h2,hk=>by
  simp at h1 h2;subst h1;subst h2;show bindC adK ((p,w)::P.zip vs) m p=_;unfold bindC;rw[uK λv hv=>(aaK.mp nd).1 (acM hv).1,age hk];simp
 |p::P,w::vs,i+1,m,nd,h1,h2,hk=>by
  show bindC adK ((p,w)::P.zip vs) m x=_;unfold bindC;exact uJ (i:=i) (aaK.mp nd).2 (by simpa using h1) (by simpa using h2) hk
def start(N:List Str)(vs:List V):St:=vs.map some++ZH (N.length - vs.length) none
def a6(CX:Cs)(P:Z5)(w:World)(K:ZE)(mg:Str->Option Value)(base:Heap)(N:List Str)(qual:Str)(scope:Scope)(f:Addr)(cd:Value)(A:aao)(outer:List Env)(s:Zt)(H:Hp)(E:XK):Cx where
 prog:=P
 w:=w
 K:=K
 mg:=mg
 base:=base
 A:=A.deeper (abw qual scope s.heap.objs.size f cd)
 N:=N
 ago:=s
 agn:=H
 env:=abw qual scope s.heap.objs.size f cd
 outer:=outer
 stack:=abw qual scope s.heap.objs.size f cd::outer
 ex:=[]
 calm:=true
 fn:=λ_=>true
 pn:=[]
 xe:=λe s'=>wpAny (model P w) (A.deeper (abw qual scope s.heap.objs.size f cd)) (leaving (abw qual scope s.heap.objs.size f cd) e) (λ_ O7=>CX outer H s E e O7) (λe' O7=>CX outer H s E e' O7) s'
theorem yP{sc:Scope}{n:Nat}{x:Str}(h:sc.names.lookup x=some .cell):∃c,(ae4 n sc.names []).lookup x=some c:=by
 have q:=ac8 sc.names n [] (.inl h);exact aar.mp q
theorem vb{CX:Cs}{P:Z5}{w:World}{K:ZE}{mg:Str->Option Value}{base:Heap}{N ps:List Str}{qual:Str}{scope:Scope}{f:Addr}{cd:Value}{A:aao}{outer:List Env}{s s1:Zt}{H:Hp}{E:XK}{us:List Value}{vs:List V}
 (S:FnScope N ps scope)(hd:A.handled=none)(e0:Env0 P w K mg base A outer s H)(hl:vs.length=ps.length)(r:Vals vs us)
 (x:InCallC s s.heap.objs.size (bindL (abw qual scope s.heap.objs.size f cd).kindOf (ps.zip us) λ_=>none) (ae4 (s.heap.objs.size+1) scope.names []) (bindC (abw qual scope s.heap.objs.size f cd).kindOf (ps.zip us) λ_=>none) s1):
 Inv (a6 CX P w K mg base N qual scope f cd A outer s H E) [] (start N vs) H s1:=by
 have j1:ps.length<=N.length:=by have:=agl afE S.pre;rw[ab6] at this;omega
 obtain⟨h1,tk,rfl,hk⟩:=x.done;have Q8:∀b:Addr,b∉(a6 CX P w K mg base N qual scope f cd A outer s H E).ex:=λb z=>agj (show b∈([]:List Addr) from z) (by simp);refine⟨⟨e0.mod,S.kind,rfl,rfl,Zv _,λy z c h1 h2=>?_,λy hy=>?_,λy c _ h=>?_,λ_=>hd,afd e0.frames, .inr ⟨rfl,rfl⟩,λb z=>agj z (Q8 b),e0.bs,e0.bsz,λb _ _=>Q8 b,λb z=>agj z (Q8 b),e0.funs,e0.frf⟩,
  rfl,e0.bare,Un.kept hk,⟨_,x.toInCall.ns,λi y v h1 h2 h3=>?_⟩,λy c h=>⟨_,x.cell y c h⟩,e0.hok.fresh (Zv _),λy c h=>?_,λp hp=>agj (show p∈([]:List (Addr×Obj)) from hp) (by simp),e0.hok.kept hk,?_⟩
 ·exact name_of_addr x.apart (abg h1) (abg h2)
 ·have hy:scope.names.lookup y=some .cell\/scope.names.lookup y=some .free:=hy;rcases hy with hy | hy
  ·exact yP hy
  ·exact agj rfl (S.nofree _ (abg hy))
 ·exact aa5 (x.above y c (abg h))
 ·have hi:i<vs.length:=by
   unfold start at h2;by_cases hi:i<vs.length
   ·exact hi
   ·rw[aam (by simpa using hi)] at h2;rw[aaT] at h2;split at h2<;>cases h2
  have ha:vs[i]? =some v:=by
   unfold start at h2;rw[aac (by simpa using hi),ZJ] at h2;cases e:vs[i]? with
   |none=>rw[e] at h2;cases h2
   |some a=>rw[e] at h2;cases h2;rfl
  obtain⟨u,hu,rv⟩:=r.get ha;have hp:ps[i]? =some y:=by
   rw[<-S.pre,List.getElem?_take_of_lt (by omega)];exact h1
  have Wu:ps.Nodup:=by rw[<-S.pre];exact S.nd.sublist (List.take_sublist _ _)
  refine⟨u,rv,?_⟩;rcases S.par y (aak hp) with k | k
  ·exact .inl ⟨k,uL Wu hp hu k⟩
  ·obtain⟨c,e⟩:=yP (n:=s.heap.objs.size+1) k;refine .inr ⟨.inl k,c,e,?_⟩;have q:=x.cell y c e;rw[uJ Wu hp hu (by show scope.names.lookup y≠_;rw[k];decide)] at q;exact q
 ·exact e0.hok.fresh (aa5 (x.above y c (abg h)))
 ·unfold start;show _=N.length;rw[ZA,Zo,adA];omega
theorem Me{CX:Cs}{P:Z5}{w:World}{K:ZE}{mg:Str->Option Value}{base:Heap}{k:Nat}{f:Addr}{name qual:Str}{params:Arguments}{body:List Stmt}{scope:Scope}{dV kV doc pm b7 ct oc:Value}{an od:Option Addr}
 {HQ:Array (Option Value)}{N ps:List Str}{sp:Sp}(lk:K.lookup f=some ⟨oc,od, .func (aaQ name qual params body scope dV kV doc pm an b7 ct),HQ⟩)(u6:abX K b7 qual=true)(S:FnScope N ps scope)
 (len:∀vs H Q E,sp vs H Q E->vs.length=ps.length)
 (iT:∀(A:aao) (outer:List Env) (s:Zt) (H:Hp) (vs:List V) (Q:VK) (E:XK),Room k (A.deeper (abw qual scope s.heap.objs.size f b7))->sp vs H Q E->
  ∃t,PSs (a6 CX P w K mg base N qual scope f b7 A outer s H E) body t/\t {nx:=λ_ H'=>Q .non H',rt:=Q} (start N vs) H):
 FnOk P w K mg base CX (k+1) f (aaQ name qual params body scope dV kV doc pm an b7 ct) ps sp:=by
 refine⟨len,λA outer s H args us vs Q E hr e0 hb r yw=>?_⟩;have hl:=len _ _ _ _ yw;have KX:K.In s.heap:=e0.mod.kin.keeps λb o e=>(e0.bs b o e).1;have lim:s.heap.NoLimit:=e0.mod.nolimit.keeps λb o e=>(e0.bs b o e).1;have GZ:∀y∈ps.zip us,scope.names.lookup y.1=some .local\/(scope.names.lookup y.1=some .cell/\((ae4 (s.heap.objs.size+1) scope.names []).lookup y.1).isSome=true):=λ⟨n,v⟩ hy=>by
  rcases S.par n (acM hy).1 with q | q
  ·exact .inl q
  ·exact .inr ⟨q,ac8 _ _ _ (.inl q)⟩
 refine codeAny_call_function hr.depth (KX _ _ lk) rfl S.co S.gen rfl (afg KX u6) (hb _ _ _ _ ?_);refine afe S.kind GZ λenv he s1 x=>?_;subst he;refine⟨lim.keeps x.toInCall.keep,codeAny_func ?_⟩;obtain⟨t,ht,hq⟩:=iT A outer s H vs Q E (hr.deeper _) yw;have I:Inv (a6 CX P w K mg base N qual scope f b7 A outer s H E) [] (start N vs) H s1:=vb S hr.hd e0 hl r x;refine aaF (ht [] s1 (start N vs) H _ I hq) (λfl s' hs=>?_) λe s' hs=>hs;have fin:∀{σ':St}{H':Hp}{v:V}{u:Value},Inv (a6 CX P w K mg base N qual scope f b7 A outer s H E) [] σ' H' s'->RelV v u->Q v H'->CE outer P w H s Q u s':=
  λ{σ' H' v u} J rv q=>⟨v,H',J.os,J.bare,J.base,J.hok,rv,q⟩
 cases fl with
 |ret u=>
  obtain⟨v,σ',H',J,rv,q⟩:=hs;exact fin J rv q
 |next=>
  obtain⟨σ',H',J,q⟩:=hs;exact fin (v:=V.non) (u:=aaN) J rfl q
 |brk=>
  obtain⟨_,_,_,q⟩:=hs;exact aaW q
 |cont=>
  obtain⟨_,_,_,q⟩:=hs;exact aaW q
section
variable{X:Cx}{x:Str}{p pos:Pos}{e:Expr}{es:List Expr}{t:TA}{id T:String}{r:List V->Hp->VK->Prop}
def U5(r:List V->Hp->VK->Prop)(t:TA):TE:=λσ H Q=>t σ H λvs H1=>r vs H1 Q
theorem Ii(hc:CallR X (.builtin id) r)(hg:Gl X x)(hm:X.mg x=none)(hv:aab x=some (.builtin id))(ha:PA X (e::es) t)(hn:x≠"__name__":=by decide)(lr:dL x:=by decide)
 (he:jp e es X.env:=by rfl)(j1:bv pos es X.env:=by rfl):PE X (.Call (.Name x p) (e::es) [] pos) (U5 r t):=by
 intro f8 s σ H Q I h;refine abv (j9 I hg hm hv ?_ hn lr);exact adG (cE (ha pos f8 s σ H _ I h) λus s1 ⟨vs,H1,I1,r1,q1⟩=>hc f8 s1 σ H1 vs us Q I1 r1 q1) he j1
theorem vy(hc:CallR X (.type T) r)(hg:Gl X x)(hm:X.mg x=none)(hv:aab x=some (.type T))(ha:PA X (e::es) t)(hn:x≠"__name__":=by decide)(lr:dL x:=by decide)
 (he:jp e es X.env:=by rfl)(j1:bv pos es X.env:=by rfl):PE X (.Call (.Name x p) (e::es) [] pos) (U5 r t):=by
 intro f8 s σ H Q I h;refine abv (j9 I hg hm hv ?_ hn lr);exact aa8 (cE (ha pos f8 s σ H _ I h) λus s1 ⟨vs,H1,I1,r1,q1⟩=>hc f8 s1 σ H1 vs us Q I1 r1 q1) he j1
end
end L2
namespace HT
open PySem PyProof.Rows
def lexLt:List Int->List Int->Bool
 |[],[]=>false
 |[],_::_=>true
 |_::_,[]=>false
 |x::xs,y::ys=>if x=y then lexLt xs ys else decide (x<y)
theorem lexLt_cons(x y:Int)(xs ys:List Int):lexLt (x::xs) (y::ys)=if x=y then lexLt xs ys else decide (x<y):=rfl
theorem lexLt_nil_nil:lexLt [] []=false:=rfl
theorem lexLt_nil_cons(y:Int)(ys:List Int):lexLt [] (y::ys)=true:=rfl
theorem lexLt_cons_nil(x:Int)(xs:List Int):lexLt (x::xs) []=false:=rfl
theorem eqAt_int(A:aao)(s:Zt)(a:Int)(t:Tok)(c:Int)(u:Tok):∃e,afP A s (.int a t) (.int c u) e/\(e=true↔a=c):=
 ⟨(a==c),aeS a t c u,by simp⟩
theorem rcLt_int(A:aao)(s:Zt)(a:Int)(t:Tok)(c:Int)(u:Tok)(prog:Z5)(w:World)(E:Value->Zt->Prop)(Q:Value->Zt->Prop)(h:Q (.bool (decide (a<c))) s):
 wpAny (model prog w) A (ae2 .Lt (.int a t) (.int c u)) Q E s:=
 (aep h:wpAny (model prog w) A (aas .Lt (.int a t) (.int c u)) Q E s)
section
open PySem.SeqAt
open PySem.AutoSeq1 (wpAny_loadPart')
open PySem.MeetsSeq PySem.MeetsSeq2 PySem.MeetsSeq3
theorem tuple_lt_ints(l b:Addr)(items ip:Array Value)(n n2:Nat)(dd AU:Option Addr)(sl ME:Array (Option Value))(ns ms:List Int)(hi:abF items.toList ns)(hj:abF ip.toList ms):
 Meets (ac5.«tuple.__lt__» ⟨[.ref l, .ref b],[]⟩)
  (λ_ R s=>s.heap.get? l=some {cls:= .type "tuple",dict:=dd,data:= .seq items n,slots:=sl}/\s.heap.get? b=some {cls:= .type "tuple",dict:=AU,data:= .seq ip n2,slots:=ME}/\
   R (.ok (.ret (.bool (lexLt ns ms)))) s):=
 .of_wp λprog w A R s h=>by
  obtain⟨hp,g,d,tk,os⟩:=s;obtain⟨hl,hb,h⟩:=h;have f2:=AutoSeq1.sub_tuple_tuple;have z1:items.size=ns.length:=by rw[<-hi.length];simp
  have z2:ip.size=ms.length:=by rw[<-hj.length];simp
  wp_walk using wpAny_loadPart' hl,wpAny_loadPart' hb,acf _ (λW1 b s'=>b.1=none/\s'=⟨hp,g,d,tk,os⟩/\∃(vs ws:List Value) (Pz Px:List Int),W1=vs.zip ws/\
   abF vs Pz/\abF ws Px/\Pz.length+ip.size=Px.length+items.size/\R (.ok (.ret (.bool (lexLt Pz Px)))) ⟨hp,g,d,tk,os⟩) _
  case turn=>
   rintro⟨y,x⟩ W1 b s' ⟨zj,rfl,vs,ws,Pz,Px,hz,Uk,SE,T0,hR⟩;cases Uk with
   |nil=>rw[List.zip_nil_left] at hz;cases hz
   |cons a t Ul=>
    cases SE with
    |nil=>rw[List.zip_nil_right] at hz;cases hz
    |cons c u Um=>
     rw[aaR] at hz;injection hz with Yz QI
     injection Yz with hy hx
     subst hy hx;rw[lexLt_cons] at hR;simp only[Zz] at T0;obtain⟨e,he,Qw⟩:=eqAt_int A.in1 ⟨hp,g,d,tk,os⟩ a t c u;refine Zn (he prog w _ _ ?_);cases e with
     |true=>
      rw[agd (Qw.mp rfl)] at hR
      wp_walk
      exact⟨rfl,rfl,_,_,_,_,QI,Ul,Um,by omega,hR⟩
     |false=>
      rw[age (λq=>agj (Qw.mpr q) Z1)] at hR;have Ye:=rcLt_int A.in1 ⟨hp,g,d,tk,os⟩ a t c u prog w
      wp_walk using Ye
      exact⟨_,rfl,by simpa using hR⟩
  case fin=>
   rintro⟨b1,b2⟩ s' ⟨zj,rfl,vs,ws,Pz,Px,hz,Uk,SE,T0,hR⟩;simp only at zj;subst zj;have hv:lexLt Pz Px=decide (items.size<ip.size):=by
    cases Uk with
    |nil=>
     cases SE with
     |nil=>
      simp only[aat] at T0;rw[lexLt_nil_nil];exact(agh (by omega)).symm
     |cons c u hw=>
      simp only[aat,Zz] at T0;rw[lexLt_nil_cons];exact(agg (by omega)).symm
    |cons a t hv=>
     cases SE with
     |nil=>
      simp only[aat,Zz] at T0;rw[lexLt_cons_nil];exact(agh (by omega)).symm
     |cons c u hw=>
      rw[aaR] at hz;cases hz
   rw[hv] at hR
   wp_walk
   exact⟨_,rfl,by simpa[Builtin.Tuple.tupleCompareSizes] using hR⟩
  case h=>
   exact⟨rfl,rfl,items.toList,ip.toList,ns,ms,rfl,hi,hj,by omega,h⟩
end
section
variable{prog:Z5}{w:World}{A:aao}{E:Value->Zt->Prop}{s:Zt}
theorem lt_tupInts{l b:Addr}{items ip:Array Value}{ns ms:List Int}{Q:Value->Zt->Prop}(hl:IsTup s.heap l items)(hb:IsTup s.heap b ip)(hi:abF items.toList ns)(hj:abF ip.toList ms)
 (hu:A.units<cLine)(h:Q (.bool (lexLt ns ms)) s):wpAny (model prog w) A (aas .Lt (.ref l) (.ref b)) Q E s:=by
 obtain⟨⟨cls,dd,data,sl⟩,ho,hc,n,hd⟩:=id hl;obtain⟨⟨PZ,AU,data2,ME⟩,JA,GU,n2,hd2⟩:=id hb;simp only at hc hd GU hd2;subst hc hd GU hd2;exact richCompare_meets_room (op:= .Lt) ⟨_,ho,rfl⟩ ⟨_,JA,rfl⟩ PySem.F.slot_tuple_lt PySem.F.entry_tuple_lt (PySem.F.args_tuple_lt_2 _ _) (tuple_lt_ints l b items ip n n2 dd AU sl ME ns ms hi hj)
  ⟨ho,JA,show abc (lexLt ns ms)≠Value.notImplemented/\Q (.bool (lexLt ns ms)) s from⟨(λx=>nomatch x),h⟩⟩ hu
theorem cat_tup{t b:Addr}{vs ws:List Value}{Q:Value->Zt->Prop}(ht:IsTup s.heap t vs.toArray)(hb:IsTup s.heap b ws.toArray)(hv:vs≠[])
 (h1:ws=[]->Q (.ref t) s)(h2:ws≠[]->Q (.ref s.heap.objs.size) {s with heap:=s.heap.push {cls:= .type "tuple",data:= .seq (vs++ws).toArray} })
 (hsz:vs.length+ws.length<=ZQ):wpAny (model prog w) A (acv .Add (.ref t) (.ref b)) Q E s:=by
 obtain⟨⟨cls,dd,data,sl⟩,ho,hc,n,hd⟩:=id ht;obtain⟨⟨PZ,AU,data2,ME⟩,JA,GU,n2,hd2⟩:=id hb;simp only at hc hd GU hd2;subst hc hd GU hd2;have e:vs.toArray++ws.toArray=(vs++ws).toArray:=by simp
 by_cases hw:ws=[]
 ·exact concat_meets ⟨_,ho,rfl⟩ ⟨_,JA,rfl⟩ aeO afL ac9 ac3 (acQ _ _)
   (tuple_addW1 t b vs.toArray ws.toArray n n2 dd AU sl ME (by simpa using hv) (by simp[hw])) ⟨ho,JA,h1 hw⟩
 ·refine concat_meets ⟨_,ho,rfl⟩ ⟨_,JA,rfl⟩ aeO afL ac9 ac3 (acQ _ _)
   (tuple_addW2 t b vs.toArray ws.toArray n n2 dd AU sl ME (by simpa using hv) (by simpa using hw) (by rw[ZD,ZD];exact hsz)) ⟨ho,JA,?_⟩
  rw[e];exact h2 hw
def sIx(n d:Nat):Option Int->Nat
 |none=>d
 |some v=>if v<0 then(v+(n:Int)).toNat else min v.toNat n
end
end HT
namespace L2
open PySem PySem.Spec PyProof.Rows
abbrev TO:=St->Hp->(Option Int->Hp->Prop)->Prop
theorem intsAre_of{ns:List Int}:∀{us:List Value},Vals (ns.map V.int) us->abF us ns:=by
 induction ns with
 |nil=>intro us r;rw[abt] at r;cases r;exact .nil
 |cons n ns ih=>
  intro us r;rw[Zu] at r;cases r with
  |cons r1 r2=>
   obtain⟨t,e⟩:=r1;subst e;exact .cons n t (ih r2)
section
variable{X:Cx}{lo hi:Option Expr}{p2:Pos}
def WH(X:Cx)(r:V->Option Int->Option Int->Hp->VK->Prop):Prop:=
 ∀(f8:List (Addr×Obj)) (s:Zt) (σ:St) (H:Hp) (x:V) (v vl vu:Value) (lo hi:Option Int) (sl:Addr) (Q:VK),Inv X f8 σ H s->RelV x v->s.heap.IsSliceOf sl vl vu .none->IsPart vl lo->IsPart vu hi->r x lo hi H Q->
  ∃T id,ad0 (.type T) "__getitem__"=pure (some (.builtin id))/\s.TypeIs v T/\wpAny (model X.prog X.w) X.A (afN v (.ref sl)) (EP X f8 σ Q) X.xe s
def JQ(xs:List V)(lo hi:Option Int):List V:=(xs.drop (HT.sIx xs.length 0 lo)).take (HT.sIx xs.length xs.length hi - HT.sIx xs.length 0 lo)
theorem yS(xs:List V)(lo hi:Option Int):(JQ xs lo hi).length<=xs.length:=by
 unfold JQ;rw[ab6,List.length_drop];omega
def RI(K:ZE):R2:=λx y H Q=>∃a b ns ms,x= .ref a/\y= .ref b/\SqT K H a (ns.map V.int)/\SqT K H b (ms.map V.int)/\Q (.bl (HT.lexLt ns ms)) H
theorem Oo(hu:X.A.units<cLine):OpR X (aas .Lt) (RI X.K):=by
 intro f8 s σ H x y v u Q I rx ry h;obtain⟨a,b,ns,ms,rfl,rfl,ha,hb,q⟩:=h;cases rx;cases ry;obtain⟨aL,r1,p1,_⟩:=I.tuple ha;obtain⟨gb,r2,p2,_⟩:=I.tuple hb;have i1:abF aL.toArray.toList ns:=intsAre_of r1;have i2:abF gb.toArray.toList ms:=intsAre_of r2;exact HT.lt_tupInts p1 p2 i1 i2 hu ⟨.bl (HT.lexLt ns ms),H,I,rfl,q⟩
def RB(K:ZE):R2:=λx y H Q=>∃a b xs ys,x= .ref a/\y= .ref b/\SqT K H a xs/\SqT K H b ys/\xs≠[]/\xs.length+ys.length<=ZQ/\
 (ys=[]->Q (.ref a) H)/\(ys≠[]->∀p,H p=none->Q (.ref p) (upd H p (.tup (xs++ys))))
theorem Vals.nil_iff{xs:List V}{us:List Value}(r:Vals xs us):us=[]↔xs=[]:=by
 cases r with
 |nil=>simp
 |cons _ _=>simp
theorem KO:OpR X (acv .Add) (RB X.K):=by
 intro f8 s σ H x y v u Q I rx ry h;obtain⟨a,b,xs,ys,rfl,rfl,ha,hb,hx,hz,q1,q2⟩:=h;cases rx;cases ry;obtain⟨aL,r1,p1,_⟩:=I.tuple ha;obtain⟨gb,r2,p2,_⟩:=I.tuple hb;refine HT.cat_tup p1 p2 (λz=>hx (r1.nil_iff.mp z)) (λz=>⟨.ref a,H,I,rfl,q1 (r2.nil_iff.mp z)⟩) (λz=>?_) (by rw[<-r1.length,<-r2.length];exact hz);refine⟨.ref s.heap.objs.size,_,I.laid (t':=s.toks) (o:= .tup (xs++ys)) (λb ob q=>Zr _ q) (Zv _) ?_,rfl,q2 (λw=>z (r2.nil_iff.mpr w)) _ (I.hok.fresh (Zv _))⟩;exact⟨by rw[ZA];exact hz,_,r1.append r2,IsTup.new _ _⟩
end
def Hf(n:Nat)(i:Int):Option Nat:=if 0<=i then(if i<n then some i.toNat else none) else if -(n:Int)<=i then some (i+n).toNat else none
def atI{α:Type}(xs:List α)(i:Int):Option α:=(Hf xs.length i).bind λj=>xs[j]?
theorem Kr{n:Nat}{i:Int}{j:Nat}(h:Hf n i=some j):seqIndex? i n=some j/\j<n/\ -(n:Int)<=i/\i<n:=by
 unfold Hf at h;by_cases h0:0<=i
 ·rw[agd h0] at h;by_cases h1:i<n
  ·rw[agd h1] at h;have e:i.toNat=j:=Z4 h;exact⟨by rw[seqIndex_of h0 h1,e],by omega,by omega,h1⟩
  ·rw[age h1] at h;cases h
 ·rw[age h0] at h;by_cases h1: -(n:Int)<=i
  ·rw[agd h1] at h;have e:(i+n).toNat=j:=Z4 h;exact⟨by rw[seqIndex_neg (by omega) h1,e],by omega,h1,by omega⟩
  ·rw[age h1] at h;cases h
theorem vT{α:Type}{xs:List α}{i:Int}{v:α}(h:atI xs i=some v):∃j,seqIndex? i xs.length=some j/\xs[j]? =some v/\j<xs.length/\ -(xs.length:Int)<=i/\i<xs.length:=by
 unfold atI at h;cases e:Hf xs.length i with
 |none=>rw[e] at h;cases h
 |some j=>
  rw[e] at h;obtain⟨h1,h2,h3,h4⟩:=Kr e;exact⟨j,h1,h,h2,h3,h4⟩
def jo(b:Expr):Prop:=∀o i,subscripted b false o i=operate [o,i] (afN o i)
def PM(X:Cx)(r:R2):Prop:=
 ∀(value slice:Expr) (f8:List (Addr×Obj)) (s:Zt) (σ:St) (H:Hp) (x y:V) (v u:Value) (Q:VK),Inv X f8 σ H s->RelV x v->RelV y u->r x y H Q->
  subscripted slice false v u=operate [v,u] (afN v u)->wpAny (model X.prog X.w) X.A (subscriptTail value slice v u) (EP X f8 σ Q) X.xe s
def PO(X:Cx)(id:String)(r:V->List V->Hp->VK->Prop):Prop:=
 ∀(f8:List (Addr×Obj)) (s:Zt) (σ:St) (H:Hp) (x:V) (xs:List V) (v:Value) (us:List Value) (Q:VK),Inv X f8 σ H s->RelV x v->Vals xs us->r x xs H Q->
  wpAny (model X.prog X.w) X.A (call (.builtin id) (v::us)) (EP X f8 σ Q) X.xe s
section
variable{X:Cx}{a b:Expr}{ta tb:TE}{pos:Pos}
theorem MA{r:R2}(hr:PM X r)(ha:PE X a ta)(hb:PE X b tb)(hs:jo b):PE X (.Subscript a b pos) (RZ r ta tb):=by
 intro f8 s σ H Q I h;exact Subscript_ (MV ha hb I h λv u s2 x y H2 I2 rx ry q=>hr a b f8 s2 σ H2 x y v u Q I2 rx ry q (hs _ _))
def O3(K:ZE):R2:=λx y H Q=>∃p xs i v,x= .ref p/\y= .int i/\SqL K H p xs/\atI xs i=some v/\Q v H
def RG(K:ZE):R2:=λx y H Q=>∃p xs i v,x= .ref p/\y= .int i/\SqT K H p xs/\atI xs i=some v/\Q v H
def RF:R2:=λx y H Q=>∃z i c,x= .str z/\y= .int i/\z.length<=ZQ/\atI z.cps.toList i=some c/\Q (.str ⟨#[c]⟩) H
theorem wM:PM X (O3 X.K):=by
 intro value slice f8 s σ H x y v u Q I rx ry h hs;obtain⟨p,xs,i,z,rfl,rfl,hq,he,q⟩:=h;cases rx;obtain⟨t,rfl⟩:=ry;obtain⟨aL,r,pl,hz⟩:=I.list hq;obtain⟨j,h1,h2,h3,h4,h5⟩:=vT he;obtain⟨w,ew,AW⟩:=r.get h2;have hl:=r.length;have hn:=oF;have fin:EP X f8 σ Q w s:=⟨z,H,I,AW,q⟩
 by_cases h0:0<=i
 ·have hj:i.toNat=j:=by
   rw[seqIndex_of h0 h5] at h1;exact Z4 h1
  exact item_listR pl.isList h0 (by omega) (by rw[hj];simpa using ew) fin hs
 ·have hj:(i+(aL.toArray.size:Int)).toNat=j:=by
   rw[seqIndex_neg (by omega) h4] at h1;rw[ZD,<-hl];exact Z4 h1
  exact af4 (x:=w) pl.isList.typeIs slot_list_getitem.lookup
   (wpAny_getItem_list_neg (Q:=λr s'=>r=w/\EP X f8 σ Q r s') pl.isList (by omega) (by rw[ZD]<;>omega) (by omega) (by rw[hj];simpa using ew) ⟨rfl,fin⟩) hs
theorem N2:PM X (RG X.K):=by
 intro value slice f8 s σ H x y v u Q I rx ry h hs;obtain⟨p,xs,i,z,rfl,rfl,hq,he,q⟩:=h;cases rx;obtain⟨t,rfl⟩:=ry;obtain⟨aL,r,pl,hz⟩:=I.tuple hq;obtain⟨j,h1,h2,h3,h4,h5⟩:=vT he;obtain⟨w,ew,AW⟩:=r.get h2;have hl:=r.length;have hn:=oF;have fin:EP X f8 σ Q w s:=⟨z,H,I,AW,q⟩
 exact af4 (x:=w) pl.typeIs slot_tuple_getitem.lookup
  (getItem_tuple (j:=j) (Q:=λr s'=>r=w/\EP X f8 σ Q r s') pl (by omega) (by omega) (by rw[ZD,<-hl];exact h1) (by simpa using ew) ⟨rfl,fin⟩) hs
theorem N1:PM X RF:=by
 intro value slice f8 s σ H x y v u Q I rx ry h hs;obtain⟨z,i,c,rfl,rfl,hz,he,q⟩:=h;obtain⟨t,rfl⟩:=rx;obtain⟨t',rfl⟩:=ry;obtain⟨j,h1,h2,h3,h4,h5⟩:=vT he;have hl:z.cps.toList.length=z.length:=by simp[Str.length]
 rw[hl] at h1 h4 h5;have hn:=oF;exact tail_any (typeIs_str s z t) slot_str_getitem.lookup (getItem_str (c:=c) (by
  have e1:decide (i< -(2 ^ 63:Int))=false:=agh (by omega);have e2:decide (i>=2 ^ 63)=false:=agh (by omega);rw[e1,e2,Bool.or_false]) (by rw[h1];simpa using h2) ⟨.str ⟨#[c]⟩,H,I.tok _,⟨_,rfl⟩,q⟩) hs
theorem Inv.lst{f8:List (Addr×Obj)}{σ:St}{H:Hp}{s:Zt}{p:Addr}{xs:List V}(I:Inv X f8 σ H s)(h:H p=some (.lst xs)):
 ∃(aL:List Value) (n:Nat),Vals xs aL/\s.heap.get? p=some {cls:= .type "list",data:= .seq aL.toArray n}/\xs.length<=ZQ:=by
 obtain⟨z,aL,n,r,e⟩:=I.hok p _ h;exact⟨aL,n,r,e,z⟩
theorem xU(lo hi:Option Int)(n:Nat):(acZ lo hi none n).1=((HT.sIx n 0 lo:Nat):Int)/\(acZ lo hi none n).2.1=((HT.sIx n n hi:Nat):Int)/\(acZ lo hi none n).2.2=1:=by
 refine⟨?_,?_,rfl⟩
 ·cases lo with
  |none=>simp[acZ,HT.sIx]
  |some i=>
   simp only[acZ,HT.sIx,afS,show (1:Int)>0 by decide,if_true];by_cases h:i<0
   ·simp only[h,if_true]<;>omega
   ·simp only[h,if_false]<;>omega
 ·cases hi with
  |none=>simp[acZ,HT.sIx]
  |some i=>
   simp only[acZ,HT.sIx,afS,show (1:Int)>0 by decide,if_true];by_cases h:i<0
   ·simp only[h,if_true]<;>omega
   ·simp only[h,if_false]<;>omega
theorem uA(aL:List Value)(lo hi:Option Int):slicePick aL.toArray lo hi none=((aL.drop (HT.sIx aL.length 0 lo)).take (HT.sIx aL.length aL.length hi - HT.sIx aL.length 0 lo)).toArray:=by
 obtain⟨h1,h2,h3⟩:=xU lo hi aL.toArray.size;unfold slicePick;rw[h1,h2,h3];simp only[sliceRange_one,pick_run,ZD]<;>rfl
def UY(K:ZE):V->Option Int->Option Int->Hp->VK->Prop:=λx lo hi H Q=>∃a xs,x= .ref a/\SqL K H a xs/\∀p,H p=none->Q (.ref p) (upd H p (.lst (JQ xs lo hi)))
theorem SQ:WH X (UY X.K):=by
 intro f8 s σ H x v vl vu lo hi sl Q I rx hs pl pu h;obtain⟨a,xs,rfl,hx,q⟩:=h;cases rx;obtain⟨aL,r,ht,hz⟩:=I.list hx;have T0:=r.length;refine⟨"list",_,slot_list_getitem.lookup,ht.isList.typeIs,?_⟩;refine wpAny_getItem_list_slice ht.isList hs pl pu .none (by simp) ?_ (by rw[ZD]<;>omega);rw[uA,<-T0];refine⟨.ref s.heap.objs.size,_,I.laid (t':=s.toks) (o:= .lst (JQ xs lo hi)) (λb ob q=>Zr _ q) (Zv _) ?_,rfl,q _ (I.hok.fresh (Zv _))⟩;exact⟨Z2 (yS xs lo hi) hz,_,0,(r.drop (HT.sIx xs.length 0 lo)).take (HT.sIx xs.length xs.length hi - HT.sIx xs.length 0 lo),ZL _ rfl⟩
def pe:V->Bool
 | .non=>true
 | .bl _=>true
 | .int _=>true
 | .str _=>true
 |_=>false
def Js:V->V->Bool
 | .non, .non=>true
 | .bl a, .bl b=>a==b
 | .bl a, .int b=>(if a then 1 else 0)==b
 | .int a, .bl b=>a==(if b then 1 else 0)
 | .int a, .int b=>a==b
 | .str a, .str b=>a==b
 |_,_=>false
theorem Nc{A:aao}{s:Zt}{y x:V}{u v:Value}(ry:RelV y u)(rx:RelV x v)(fy:pe y=true)(fx:pe x=true):afP A s u v (Js y x):=by
 cases y with
 |non=>
  cases ry;cases x with
  |non=>cases rx;exact SeqAt.EqAt.same _
  |bl b=>cases rx;exact SeqAt.EqAt.none_bool b
  |int b=>obtain⟨t,rfl⟩:=rx;exact SeqAt.EqAt.none_int b t
  |str b=>obtain⟨t,rfl⟩:=rx;exact SeqAt.EqAt.none_str b t
  |_=>exact agj (show false=true from fx) Z1
 |bl a=>
  cases ry;cases x with
  |non=>cases rx;exact SeqAt.EqAt.bool_none a
  |bl b=>cases rx;exact SeqAt.EqAt.bool_bool a b
  |int b=>obtain⟨t,rfl⟩:=rx;exact SeqAt.EqAt.bool_int a b t
  |str b=>obtain⟨t,rfl⟩:=rx;exact SeqAt.EqAt.bool_str a b t
  |_=>exact agj (show false=true from fx) Z1
 |int a=>
  obtain⟨t',rfl⟩:=ry;cases x with
  |non=>cases rx;exact SeqAt.EqAt.int_none a t'
  |bl b=>cases rx;exact SeqAt.EqAt.int_bool a t' b
  |int b=>obtain⟨t,rfl⟩:=rx;exact aeS a t' b t
  |str b=>obtain⟨t,rfl⟩:=rx;exact aeR a t' b t
  |_=>exact agj (show false=true from fx) Z1
 |str a=>
  obtain⟨t',rfl⟩:=ry;cases x with
  |non=>cases rx;exact SeqAt.EqAt.str_none a t'
  |bl b=>cases rx;exact SeqAt.EqAt.str_bool a t' b
  |int b=>obtain⟨t,rfl⟩:=rx;exact aeQ a t' b t
  |str b=>obtain⟨t,rfl⟩:=rx;exact SeqAt.EqAt.str_str a t' b t
  |_=>exact agj (show false=true from fx) Z1
 |_=>exact agj (show false=true from fy) Z1
def Bd(x:V)(u:Value):Bool:=match u with
 | .none=>Js .non x
 | .bool b=>Js (.bl b) x
 | .int i _=>Js (.int i) x
 | .str z _=>Js (.str z) x
 |_=>false
theorem GC{x y:V}{u:Value}(r:RelV y u)(f:pe y=true):Bd x u=Js y x:=by
 cases y with
 |non=>cases r;rfl
 |bl b=>cases r;rfl
 |int i=>obtain⟨t,rfl⟩:=r;rfl
 |str z=>obtain⟨t,rfl⟩:=r;rfl
 |_=>exact agj (show false=true from f) Z1
theorem mz{x:V}:∀{xs:List V}{us:List Value},Vals xs us->xs.all pe=true->us.any (Bd x)=xs.any λy=>Js y x
 |_,_, .nil,_=>rfl
 |y::xs,u::us, .cons r t,f=>by
  rw[acJ,ZM] at f;rw[abC,abC,GC r f.1,mz t f.2]
theorem j_{A:aao}{s:Zt}{x:V}{v:Value}(rx:RelV x v)(fx:pe x=true):∀{xs:List V}{us:List Value},Vals xs us->xs.all pe=true->∀u∈us,afP A s u v (Bd x u)
 |_,_, .nil,_=>λu hu=>by cases hu
 |y::xs,u::us, .cons r t,f=>λu' hu=>by
  rw[acJ,ZM] at f;rcases Zw.mp hu with rfl | hu
  ·rw[GC r f.1];exact Nc r rx f.1 fx
  ·exact j_ rx fx t f.2 u' hu
def SH(x:V)(xs:List V):Bool:=xs.any λy=>Js y x
def UU(K:ZE)(neg:Bool):R2:=λx y H Q=>∃p xs,y= .ref p/\(SqL K H p xs\/SqT K H p xs)/\pe x=true/\xs.all pe=true/\Q (.bl (if neg then !SH x xs else SH x xs)) H
theorem Fd:OpR X (aas .In) (UU X.K false):=by
 intro f8 s σ H x y v u Q I rx ry h;obtain⟨p,xs,rfl,hq,fx,fs,q⟩:=h;cases ry;rcases hq with hq | hq
 ·obtain⟨aL,r,pl,hz⟩:=I.list hq;refine SeqAt.in_listAt (Bd x) pl.isList (λw hw=>j_ rx fx r fs w (by simpa using hw)) ⟨.bl _,H,I,rfl,?_⟩;rw[show aL.toArray.any (Bd x)=aL.any (Bd x) by simp,mz r fs];exact q
 ·obtain⟨aL,r,pl,hz⟩:=I.tuple hq;refine af6 (Bd x) pl (λw hw=>j_ rx fx r fs w (by simpa using hw)) ⟨.bl _,H,I,rfl,?_⟩;rw[show aL.toArray.any (Bd x)=aL.any (Bd x) by simp,mz r fs];exact q
theorem xn:OpR X (aas .NotIn) (UU X.K true):=by
 intro f8 s σ H x y v u Q I rx ry h;obtain⟨p,xs,rfl,hq,fx,fs,q⟩:=h;cases ry;rcases hq with hq | hq
 ·obtain⟨aL,r,pl,hz⟩:=I.list hq;refine afB (Bd x) pl.isList (λw hw=>j_ rx fx r fs w (by simpa using hw)) ⟨.bl _,H,I,rfl,?_⟩;rw[show aL.toArray.any (Bd x)=aL.any (Bd x) by simp,mz r fs];exact q
 ·obtain⟨aL,r,pl,hz⟩:=I.tuple hq;refine afn (Bd x) pl (λw hw=>j_ rx fx r fs w (by simpa using hw)) ⟨.bl _,H,I,rfl,?_⟩;rw[show aL.toArray.any (Bd x)=aL.any (Bd x) by simp,mz r fs];exact q
theorem v9:CallR X (.builtin "len") (λxs H Q=>∃p ys,xs=[.ref p]/\(SqL X.K H p ys\/SqT X.K H p ys)/\Q (.int ys.length) H):=by
 intro f8 s σ H xs us Q I r h;obtain⟨p,ys,rfl,hq,q⟩:=h;obtain⟨u,rfl,rx⟩:=vals1 r;cases rx;have hn:=oF;rcases hq with hq | hq
 ·obtain⟨aL,r',pl,hz⟩:=I.list hq;have T0:=r'.length;exact Calls.call_len_list pl.isList (by simp only[ZD]<;>omega) ⟨.int ys.length,H,I.tok _,⟨s.toks+1,by rw[ZD,T0]⟩,q⟩
 ·obtain⟨aL,r',pl,hz⟩:=I.tuple hq;have T0:=r'.length;exact len_tuple pl (by simp only[ZD]<;>omega) ⟨.int ys.length,H,I.tok _,⟨s.toks+1,by rw[ZD,T0]⟩,q⟩
theorem v_:CallR X (.builtin "len") (λxs H Q=>∃z,xs=[.str z]/\z.length<=ZQ/\Q (.int z.length) H):=by
 intro f8 s σ H xs us Q I r h;obtain⟨z,rfl,hz,q⟩:=h;obtain⟨u,rfl,t,rfl⟩:=vals1 r;have hn:=oF;exact len_str (by omega) ⟨.int z.length,H,I.tok _,⟨_,rfl⟩,q⟩
theorem CallR.or{f:Value}{r r':List V->Hp->VK->Prop}(h:CallR X f r)(h':CallR X f r'):CallR X f (λxs H Q=>r xs H Q\/r' xs H Q):=by
 intro f8 s σ H xs us Q I rs q;rcases q with q | q
 ·exact h f8 s σ H xs us Q I rs q
 ·exact h' f8 s σ H xs us Q I rs q
theorem wa:CallR X (.type "list") (λxs H Q=>∃p ys,xs=[.ref p]/\(SqL X.K H p ys\/SqT X.K H p ys)/\∀l,H l=none->Q (.ref l) (upd H l (.lst ys))):=by
 intro f8 s σ H xs us Q I r h;obtain⟨p,ys,rfl,hq,q⟩:=h;obtain⟨u,rfl,rx⟩:=vals1 r;cases rx;have fin:∀(aL:List Value),Vals ys aL->ys.length<=ZQ->∀(h':Heap) (c':Nat),(∀b o',s.heap.get? b=some o'->h'.get? b=some o')->
  h'.get? s.heap.objs.size=some {cls:= .type "list",dict:=none,data:= .seq aL.toArray c',slots:= #[]}->EP X f8 σ Q (.ref s.heap.objs.size) {s with heap:=h'}:=λaL r' hz h' c' kp e=>
  ⟨.ref s.heap.objs.size,_,I.laid (t':=s.toks) kp (Zv _) (show ObjOk X.prog X.w _ h' _ (.lst ys) from⟨hz,aL,c',r',e⟩),rfl,q _ (I.hok.fresh (Zv _))⟩
 rcases hq with hq | hq
 ·obtain⟨aL,r',pl,hz⟩:=I.list hq;have T0:=r'.length;obtain⟨o,ho,hc,n,hd⟩:=pl.isList;exact call_list_seq p (.inl rfl) ho hc hd (λh' c' kp e=>fin aL r' hz h' c' kp e) (by simp only[ZD]<;>omega)
 ·obtain⟨aL,r',pl,hz⟩:=I.tuple hq;have T0:=r'.length;obtain⟨o,ho,hc,n,hd⟩:=pl;exact call_list_seq p (.inr rfl) ho hc hd (λh' c' kp e=>fin aL r' hz h' c' kp e) (by simp only[ZD]<;>omega)
theorem tT:CallR X (.type "tuple") (λxs H Q=>∃p ys,xs=[.ref p]/\((SqL X.K H p ys/\∀l,H l=none->Q (.ref l) (upd H l (.tup ys)))\/(SqT X.K H p ys/\Q (.ref p) H))):=by
 intro f8 s σ H xs us Q I r h;obtain⟨p,ys,rfl,h⟩:=h;obtain⟨u,rfl,rx⟩:=vals1 r;cases rx;rcases h with⟨hq,q⟩ | ⟨hq,q⟩
 ·obtain⟨aL,r',pl,hz⟩:=I.list hq;have T0:=r'.length;refine call_tuple_list pl.isList (λh' kp=>?_) (by simp only[ZD]<;>omega);have I1:Inv X f8 σ H {s with heap:=h'}:=I.kept (t':=s.toks) kp;have I2:Inv X f8 σ (upd H h'.objs.size (.tup ys)) {s with heap:=h'.push {cls:= .type "tuple",data:= .seq aL.toArray} }:=
   I1.laid (t':=s.toks) (λb o e=>Zr _ e) (Zv _) (show ObjOk X.prog X.w _ _ _ (.tup ys) from⟨hz,aL,r',IsTup.new _ _⟩)
  exact⟨.ref h'.objs.size,_,I2,rfl,q _ (I1.hok.fresh (Zv _))⟩
 ·obtain⟨aL,r',pl,hz⟩:=I.tuple hq;exact call_tuple_same pl ⟨.ref p,H,I,rfl,q⟩
def R1(K:ZE)(T:String)(x:V)(H:Hp):Prop:=match x with
 | .str _=>T="str"
 | .int _=>T="int"
 | .ref p=>(T="list"/\∃xs,SqL K H p xs)\/(T="tuple"/\∃o,K.lookup p=some o/\o.cls= .type "tuple"/\o.dict=none)\/
    (T="dict"/\((∃aB,H p=some (.dK aB))\/∃aB,H p=some (.dT aB)))\/(T="set"/\∃S n,H p=some (.set S n))
 |_=>False
theorem Ph{f8:List (Addr×Obj)}{σ:St}{H:Hp}{s:Zt}{T:String}{x:V}{v:Value}(I:Inv X f8 σ H s)(r:RelV x v)(ty:R1 X.K T x H):
 s.TypeIs v T/\∀a,v= .ref a->∃ob,s.heap.get? a=some ob/\ob.dict=none:=by
 cases x with
 |str z=>
  obtain⟨t,rfl⟩:=r;cases (show T="str" from ty);exact⟨typeIs_str s z t,λ_ e=>nomatch e⟩
 |int i=>
  obtain⟨t,rfl⟩:=r;cases (show T="int" from ty);exact⟨typeIs_int s i t,λ_ e=>nomatch e⟩
 |ref p=>
  cases r;rcases ty with⟨rfl,xs,hq⟩ | ⟨rfl,o,hk,hc,hd⟩ | ⟨rfl,hk⟩ | ⟨rfl,S,n,hk⟩
  ·obtain⟨aL,_,pl,_⟩:=I.list hq;refine⟨pl.isList.typeIs,λa e=>?_⟩;cases e;obtain⟨o,n,e,c,hd,_⟩:=pl;exact⟨o,e,hd⟩
  ·refine⟨⟨o,I.kIn p o hk,hc⟩,λa e=>?_⟩;cases e;exact⟨o,I.kIn _ o hk,hd⟩
  ·have z:∃o,s.heap.get? p=some o/\o.ExactDict:=by
    rcases hk with⟨aB,hk⟩ | ⟨aB,hk⟩
    ·obtain⟨_,_,_,_,o,_,_,e,ex,_⟩:=I.hok p _ hk;exact⟨o,e,ex⟩
    ·obtain⟨_,_,_,_,o,_,_,e,ex,_⟩:=I.hok p _ hk;exact⟨o,e,ex⟩
   obtain⟨o,e,ex⟩:=z;refine⟨⟨o,e,ex.1⟩,λa e2=>?_⟩;cases e2;exact⟨o,e,ex.2.1⟩
  ·obtain⟨o,_,_,_,e,ex,_⟩:=I.hok p _ hk;refine⟨⟨o,e,ex.1⟩,λa e2=>?_⟩;cases e2;exact⟨o,e,ex.2.1⟩
 |_=>exact aaW ty
def U4(K:ZE)(T:String)(r:V->List V->Hp->VK->Prop)(to:TE)(t:TA):TE:=λσ H Q=>to σ H λx H1=>R1 K T x H1/\t σ H1 λxs H2=>r x xs H2 Q
variable{o e:Expr}{es:List Expr}{to:TE}{t:TA}{name:Str}{apos bq:Pos}{T id:String}{r:V->List V->Hp->VK->Prop}
theorem Ig(pa:PlainAttrs T)(slot:Slot T name id)(Ui:typeOf (.builtin id)=pure (.type "method_descriptor"))(hm:PO X id r)(ho:PE X o to)(ha:PA X (e::es) t)
 (iS:abJ o name X.env (eval o X.env)=eval o X.env:=by rfl)
 (oz:((abk bq (ZF (e::es) X.env)).all (λx=>!x.1)&&(ade bq (ab1 [] X.env)).all (λx=>x.1.isSome)
  &&decide ((e::es).length+([]:List aca).length+(if ([]:List aca).isEmpty then 0 else 1)<30))=true:=by rfl)
 (iU:ci apos bq:=by rfl) (hs:jp e es X.env:=by rfl) (Br:(abk bq (ZF es X.env)).any (·.1)=false:=by rfl):
 PE X (.Call (.Attribute o name apos) (e::es) [] bq) (U4 X.K T r to t):=by
 intro f8 s σ H Q I h;refine wpAny_Call_method_late iS oz iU rfl (cE (ho f8 s σ H _ I h) λv s1 ⟨x,H1,I1,r1,ty,q1⟩=>?_);obtain⟨h1,h2⟩:=Ph I1 r1 ty;refine⟨T,id,pa,slot,Ui,h1,h2,?_⟩;have hA:=ha bq f8 s1 σ H1 _ I1 q1;rw[hs] at hA⊢;refine acr (by show (false||(abk bq (ZF es X.env)).any (·.1))=false;rw[Br]<;>rfl) (abY ?_);exact cE hA λus s2 ⟨vs,H2,I2,r2,q2⟩=>hm f8 s2 σ H2 x vs v us Q I2 r1 r2 q2
end
def Vm(X:Cx)(id:String)(r:V->List V->Hp->VK->Prop):Prop:=
 ∀(f8:List (Addr×Obj)) (s:Zt) (σ:St) (H:Hp) (x:V) (xs:List V) (v:Value) (us:List Value) (Q:VK),Inv X f8 σ H s->RelV x v->Vals xs us->r x xs H Q->
  wpAny (model X.prog X.w) X.A (call (.builtin id) (v::us)) (EP X f8 σ Q) X.xe s
theorem Vals.one:∀{x:V}{us:List Value},Vals [x] us->∃u,us=[u]/\RelV x u
 |_,_, .cons r .nil=>⟨_,rfl,r⟩
theorem Vals.rep{xs:List V}{us:List Value}(h:Vals xs us):∀k:Nat,Vals (ZH k xs).flatten (ZH k us).flatten
 |0=> .nil
 |k+1=>by
  rw[abi,abi,abV,abV];exact Vals.append h (Vals.rep h k)
theorem foldl_rep(aL:List Value):∀(k:Nat) (u8:List Value),
 af_ (λx1 x2=>x1++x2) u8.toArray (ZH k aL.toArray)=(u8++(ZH k aL).flatten).toArray
 |0,u8=>by simp
 |k+1,u8=>by
  have e:u8.toArray++aL.toArray=(u8++aL).toArray:=by simp
  have e2:(u8++aL)++(ZH k aL).flatten=u8++(ZH (k+1) aL).flatten:=by
   rw[abi,abV,aa0]
  rw[<-e2,<-foldl_rep aL k (u8++aL),<-e,abi,abj]
section
variable{X:Cx}{f8:List (Addr×Obj)}{σ:St}{H:Hp}{s:Zt}{l:Addr}{xs ys:List V}
theorem Inv.lset{aL its':List Value}{n:Nat}{f:Array Value->Array Value}{t':Nat}(I:Inv X f8 σ H s)(hH:H l=some (.lst xs))
 (e:s.heap.get? l=some {cls:= .type "list",data:= .seq aL.toArray n})(hf:f aL.toArray=its'.toArray)(hv:Vals ys its')(hz:ys.length<=ZQ):
 Inv X f8 σ (upd H l (.lst ys)) {s with heap:=s.heap.update l (aa9 f),toks:=t'}:=by
 have q:=PySem.IsL.update e f;rw[hf] at q;refine I.write (x:=l) (e:=l) (by rw[hH];exact trivial) (.inl rfl) (λb' u hb hu=>(adp s.heap (aa9 f) (aaz hb)).trans hu) ⟨_,q⟩ ?_;exact⟨hz,its',_,hv,q⟩
theorem Inv.lnew{aL:List Value}{t':Nat}(I:Inv X f8 σ H s)(hv:Vals ys aL)(hz:ys.length<=ZQ):
 Inv X f8 σ (upd H s.heap.objs.size (.lst ys)) {s with heap:=s.heap.push {cls:= .type "list",data:= .seq aL.toArray},toks:=t'}:=
 I.laid (λ_ _ q=>Zr _ q) (Zv _) ⟨hz,aL,0,hv,ZL _ rfl⟩
theorem Inv.fresh(I:Inv X f8 σ H s):H s.heap.objs.size=none:=I.hok.fresh (Zv _)
theorem Inv.lstM(I:Inv X f8 σ H s)(hH:H l=some (.lst xs)):xs.length<=ZQ/\∃(aL:List Value) (n:Nat),Vals xs aL/\xs.length=aL.length/\s.heap.get? l=some {cls:= .type "list",data:= .seq aL.toArray n}:=by
 obtain⟨z,aL,n,r,e⟩:=I.hok l _ hH;exact⟨z,aL,n,r,r.length,e⟩
theorem zQ{n:Nat}(h:n<=ZQ):abT n=false:=by
 unfold abT;exact agh (by omega)
end
section
variable{X:Cx}
def DQ:V->List V->Hp->VK->Prop:=λx vs H Q=>∃l xs y,x= .ref l/\vs=[y]/\H l=some (.lst xs)/\xs.length<ZQ/\Q .non (upd H l (.lst (xs++[y])))
theorem vk:Vm X "list.append" DQ:=by
 intro f8 s σ H x vs v us Q I rx rv h;obtain⟨l,xs,y,rfl,rfl,hH,hz,q⟩:=h;cases rx;obtain⟨u,rfl,ru⟩:=rv.one;obtain⟨z,aL,n,r,hl,e⟩:=I.lstM hH;refine adu F.slot_list_append ⟨_,e,rfl⟩ F.entry_list_append (F.args_list_append_2 _ _) (PySem.list_append l aL.toArray n u (by rw[ZD];omega)) ⟨e,?_⟩;refine⟨.non,_,I.lset (its':=aL++[u]) hH e (by simp) (r.append (.cons ru .nil)) ?_,rfl,q⟩;rw[ZA,afj];omega
def DR:V->List V->Hp->VK->Prop:=λx vs H Q=>∃l b xs zs,x= .ref l/\vs=[.ref b]/\H l=some (.lst xs)/\H b=some (.lst zs)/\xs.length+zs.length<=ZQ/\Q .non (upd H l (.lst (xs++zs)))
theorem E6:Vm X "list.extend" DR:=by
 intro f8 s σ H x vs v us Q I rx rv h;obtain⟨l,b,xs,zs,rfl,rfl,hH,hB,hz,q⟩:=h;cases rx;obtain⟨u,rfl,ru⟩:=rv.one;cases ru;obtain⟨z,aL,n,r,hl,e⟩:=I.lstM hH;obtain⟨z2,gb,n2,r2,FR,e2⟩:=I.lstM hB;have hsz:aL.toArray.size+gb.toArray.size<=ZQ:=by rw[ZD,ZD];omega
 have G0:¬(!aL.toArray.isEmpty&&abT (aL.toArray.size+gb.toArray.size))=true:=by
  rw[zQ hsz,aeL];exact Z1
 refine adu F.slot_list_extend ⟨_,e,rfl⟩ F.entry_list_extend (F.args_list_extend_2 _ _)
  (AutoSeq1.list_extend_list_list_0 l aL.toArray n b gb.toArray n2 G0 (by rw[ZD];omega) (by omega)) ⟨e,e2,?_⟩
 refine⟨.non,_,I.lset (its':=aL++gb) hH e (by simp) (r.append r2) ?_,rfl,q⟩;rw[ZA];omega
def UR:R2:=λx y H Q=>∃l b xs zs,x= .ref l/\y= .ref b/\H l=some (.lst xs)/\H b=some (.lst zs)/\xs.length+zs.length<=ZQ/\∀p,H p=none->Q (.ref p) (upd H p (.lst (xs++zs)))
theorem Ol:OpR X (acv .Add) UR:=by
 intro f8 s σ H x y v u Q I rx ry h;obtain⟨l,b,xs,zs,rfl,rfl,hH,hB,hz,q⟩:=h;cases rx;cases ry;obtain⟨z,aL,n,r,hl,e⟩:=I.lstM hH;obtain⟨z2,gb,n2,r2,FR,e2⟩:=I.lstM hB;refine PySem.P.add_list e e2 ?_ (by rw[ZD,ZD];omega);have ea:aL.toArray++gb.toArray=(aL++gb).toArray:=by simp
 rw[ea];exact⟨.ref _,_,I.lnew (t':=s.toks) (r.append r2) (by rw[ZA];omega),rfl,q _ I.fresh⟩
def UX:R2:=λx y H Q=>∃l k xs,x= .ref l/\y= .int k/\H l=some (.lst xs)/\ -(2 ^ 63)<=k/\k<2 ^ 63/\xs.length*k.toNat<=ZQ/\
 ∀p,H p=none->Q (.ref p) (upd H p (.lst (ZH k.toNat xs).flatten))
theorem len_rep{α:Type}(xs:List α)(k:Nat):(ZH k xs).flatten.length=k*xs.length:=by
 induction k with
 |zero=>simp
 |succ k ih=>rw[abi,abV,ZA,ih,afq,adH]
theorem Ov:OpR X (acv .Mult) UX:=by
 intro f8 s σ H x y v u Q I rx ry h;obtain⟨l,k,xs,rfl,rfl,hH,h1,h2,hz,q⟩:=h;cases rx;obtain⟨t,rfl⟩:=ry;obtain⟨z,aL,n,r,hl,e⟩:=I.lstM hH;have T0:aL.toArray.size*k.toNat<=ZQ:=by rw[ZD,<-hl];exact hz
 have Tt:¬aL.toArray.size*k.toNat>(2 ^ 63 - 1) / 8:=by
  have:(ZQ:Nat)<=(2 ^ 63 - 1) / 8:=by decide
  omega
 have TB:¬(!Builtin.List.listFitsIndex k)=true:=by
  rw[fitsIndex_both h1 h2];exact Z1
 have G0:¬abT (aL.toArray.size*k.toNat)=true:=by
  rw[zQ T0];exact Z1
 have l7:af_ (λx1 x2=>x1++x2) #[] (ZH (if aL.toArray.isEmpty=true then 0 else k.toNat) aL.toArray)=(ZH k.toNat aL).flatten.toArray:=by
  have f0:∀m:Nat,af_ (λx1 x2=>x1++x2) #[] (ZH m aL.toArray)=(ZH m aL).flatten.toArray:=λm=>by
   have:=foldl_rep aL m [];rw[ZY] at this;exact this
  rw[f0];cases aL with
  |nil=>simp
  |cons a r'=>rw[age (by simp)]
 refine wpAny_binaryOp_repeat_ref (T:="list") (U:="int") (by decide) ⟨_,e,rfl⟩ (λs'=>typeIs_int s' k t) noFill_list_mul F.fills_int_mul F.slot_int_rmul repeat_list F.slot_int_index.lookup
  (adu F.slot_int_rmul (typeIs_int s k t) F.entry_int_rmul (F.args_int_rmul_2 _ _) (int___rmul___int_list k t l aL.toArray n)
   ⟨e,rfl,⟨_,e,rfl⟩,adu F.slot_list_mul ⟨_,e,rfl⟩ F.entry_list_mul (F.args_list_mul_2 _ _) (AutoListH.list___mul___list_int_3 l aL.toArray n k t TB Tt G0) ⟨e,?_⟩⟩)
 rw[l7];exact⟨.ref _,_,I.lnew (t':=s.toks) (r.rep k.toNat) (by rw[len_rep,afr];exact hz),rfl,q _ I.fresh⟩
end
end L2
namespace Att
open PySem PySem.W PySem.Calls PyProof.Rows
theorem ints_of_wellAll{P:Params}{h:Heap}:∀(ns:List Int) (vs:List Value),WellAll P h vs (ns.map WData.int)->abF vs ns:=by
 intro ns;induction ns with
 |nil=>
  intro vs w;rw[abt] at w;cases w;exact .nil
 |cons n ns ih=>
  intro vs w;rw[Zu] at w;cases w with
  |cons a b=>
   cases a;exact .cons _ _ (ih _ b)
theorem script_of{l:OpenLaw}{n:Nat}(hn:l.most=some n){P:Params}{h:Heap}{args:List WData}{vals:List Value}
 (Ki:l.row.toRowW.claim.pre args=true)(Uo:WellAll P h vals args):
 ∃a vs ns,vals=[Z6 a]/\args=[WData.list (ns.map WData.int)]/\h.get? a=some {cls:= .type "list",data:= .seq vs.toArray}/\abF vs ns/\ns.length<=n:=by
 have Uh:WShape.hasAll [] args [.list .int]=true:=(pre_splitW Ki).1;have hc:l.pre.holds [] {args:=args}=true:=(pre_splitW Ki).2;obtain⟨d,r,rfl,h1,h2⟩:=hasAllW_cons Uh;obtain rfl:=hasAllW_nil h2;obtain⟨xs,rfl,h3⟩:=hasW_list h1;obtain⟨ns,rfl⟩:=items_int h3;have T0:ns.length<=n:=by
  unfold OpenLaw.pre at hc;have h4:(WTm.not (.lt (.lit (.int (n:Int))) (.len (.arg 0)))).holds [] {args:=[.list (ns.map .int)]}=true:=by
   have h4:=(holds_andW hc).1;rw[hn] at h4;exact h4
  have h5:=condW_of h4 (w_not (w_lt w_lit (w_len_list (w_arg rfl))));rw[Zo] at h5;refine Nat.le_of_not_lt λq=>?_;have q':(n:Int)<((ns.length:Nat):Int):=by omega
  first
   |(rw [agg q'] at h5;exact agj h5 (by decide))
   |(simp at h5;omega)
 cases Uo with
 |cons w1 w2=>
  cases w2;cases w1 with
  |list ho wy=>exact⟨_,_,ns,rfl,rfl,ho,ints_of_wellAll ns _ wy,T0⟩
theorem post_true(l:OpenLaw)(args:List WData):l.row.toRowW.claim.post args (.bool true) args=true:=
 postW_of (r:=l.row.toRowW) (X:=(true==true))
  (show WShape.has [] (.bool true) .bool=true by first | rfl | decide | simp[WShape.has,WShape.arms,WShape.armsAll])
  (show (WTm.eq .res (.lit (.bool true))).value [] {args:=args,res:=some (.bool true),after:=args}=some (.bool (true==true)) from w_eq_bool (w_res rfl) w_lit) rfl
theorem attach_call{l:OpenLaw}{n:Nat}{q:Z5}{loose:List Str}{XP:(Str->Option Value)->Heap->Prop}{YP:World->Heap->Prop}{d:DefRec}
 (hn:l.most=some n)(Qp:d.params.defaults=[])
 (call:∀(w:World) (ago v6:Zt) (mg mb:Str->Option Value) (fa:Addr) (o:Obj) (pm cd doc:Value) (a:Addr) (vs:List Value) (ns:List Int),
  Ground q loose [] XP w ago mg mb v6.heap->YP w v6.heap->
  v6.heap.get? fa=some o->o.data= .func (docDef d.name d.params d.body d.scope pm cd doc)->v6.heap.CodeRec cd d.name->mg d.name=some (.ref fa)->
  v6.heap.get? a=some {cls:= .type "list",data:= .seq vs.toArray}->abF vs ns->ns.length<=n->v6.gens= #[]->
  acF (model l.prog w) aex (.call (.ref fa) ⟨[.ref a],[]⟩) (λr s'=>r= .ok (.ret (.bool true))/\OldK v6.heap s'.heap/\s'.os=v6.os/\adZ s'.gens) v6):
 WalkO q loose XP YP l.row.toRowW d [] (λf vs=>afQ f vs):=by
 intro w ago v6 mg mb G Y fa o pm cd doc dV kV ho hd u6 hD NF hg args vals as Ki XX Zg Uo Zc;obtain rfl:dV= .none:=Dflts.none hD Qp;obtain rfl:kV= .none:=Dflts.noKw hD;obtain⟨a,vs,ns,rfl,rfl,G2,hints,T0⟩:=script_of hn Ki Uo;refine enter_call (adb (call w ago v6 mg mb fa o pm cd doc a vs ns G Y ho (fd_plain hd) u6 NF G2 hints T0 hg) λr s' hq=>?_);obtain⟨rfl,h2,h3,h4⟩:=hq;exact⟨.inl ⟨.bool true, .bool true,[],rfl,λ_=>rfl, .bool true,post_true l _,λ_=>⟨adw,λ_ hm=>(nomatch hm)⟩⟩,h2,h3,h4⟩
def ledger(h:Heap)(L d:Addr):List (Addr×Obj):=(ZX h.objs.size).filterMap λa=>if a=L\/a=d then none else(h.get? a).map λo=>(a,o)
end Att
namespace L2
open PySem PySem.Spec PyProof.Rows
theorem vM:∀{vs:List Value}{ns:List Int},abF vs ns->Vals (ns.map V.int) vs
 |_,_, .nil=> .nil
 |_,_, .cons n t h=> .cons ⟨t,rfl⟩ (vM h)
def MR(H:Hp):Prop:=∀b,H b=none\/∃o xs,H b=some (.frz o (.lst xs))
theorem zA{P:Z5}{w:World}{K:ZE}{mg mb:Str->Option Value}{CX:Cs}{k:Nat}{fa a:Addr}{fd:abW}{x:Str}{sp:Sp}{v6:Zt}{vs:List Value}{ns:List Int}
 (KX:K.In v6.heap)(Sy:v6.heap.Ns ZR mg)(hb:v6.heap.Ns builtinsNs mb)(Xh:∀x:Str,x≠"__name__"->mb x=aab x)(Qz:v6.heap.NoLimit)(hg:v6.gens= #[])
 (ha:v6.heap.get? a=some {cls:= .type "list",data:= .seq vs.toArray})(hi:abF vs ns)(hl:ns.length<=ZQ)(hr:Room k aex)
 (F:∀base:Heap,K.In base->base.Ns ZR mg->FnOk P w K mg base CX k fa fd [x] sp)(Ql:∀(s:Zt) (u:Value),afc s fd ⟨[u],[]⟩ [(x,u)])
 (yw:∀H:Hp,MR H->SqL K H a (ns.map V.int)->sp [.ref a] H (λv _=>v= .bl true) λ_ _ _=>False)
 (Tg:∀H e s',CX [] H v6 (λ_ _ _=>False) e s'->False):
 acF (model P w) aex (.call (.ref fa) ⟨[.ref a],[]⟩) (λr s'=>r= .ok (.ret (.bool true))/\OldK v6.heap s'.heap/\s'.os=v6.os/\adZ s'.gens) v6:=by
 have rv:=vM hi;have Uz:=hi.length;have core:∀H:Hp,MR H->SqL K H a (ns.map V.int)->HOk P w H v6.heap->(∀b,H b≠none->b=a)->(H a≠none->K.lookup a=none)->
  acF (model P w) aex (.call (.ref fa) ⟨[.ref a],[]⟩) (λr s'=>r= .ok (.ret (.bool true))/\OldK v6.heap s'.heap/\s'.os=v6.os/\adZ s'.gens) v6:=by
  intro H hO hS hok hA hK;have CA:∀{b:Addr}{o:Obj},v6.heap.get? b=some o->H b=none->(wA v6.heap H).get? b=some o:=λe n=>GX e n;have Q8:∀{b:Addr}{o:Obj}{es:Array adx}{ep:Nat},v6.heap.get? b=some o->o.data= .dict es ep->H b=none:=λ{b o es ep} e d=>by
   cases q:H b with
   |none=>rfl
   |some u=>
    have e':b=a:=hA b (by rw[q];simp);subst e';rw[ha] at e;cases e;have d':Data.seq vs.toArray _=aco es ep:=d;cases d'
  have SM:∀{b:Addr}{m:Str->Option Value},v6.heap.Ns b m->(wA v6.heap H).Ns b m:=λ{b m} ⟨o,es,ep,e,d,r⟩=>⟨o,es,ep,CA e (Q8 e d),d,r⟩
  have VF:K.In (wA v6.heap H):=λb o e=>CA (KX b o e) (by
   cases q:H b with
   |none=>rfl
   |some u=>
    have e':b=a:=hA b (by rw[q];simp);subst e';rw[hK (by rw[q];simp)] at e;cases e)
  have hM:Mod K mg (wA v6.heap H):=⟨VF,SM Sy,⟨mb,SM hb,Xh⟩,let ⟨mc,h1,h2⟩:=Qz;⟨mc,SM h1,h2⟩⟩
  have e0:Env0 P w K mg (wA v6.heap H) aex [] v6 H:=⟨rfl,hM,λb o e=>KL e,afs (EE _ _),trivial,λb hb=>agj (show b∈([]:List Addr) from hb) (by simp),hok, .of_eq hg⟩
  refine adb ((F _ VF (SM Sy)).run aex [] v6 H ⟨[.ref a],[]⟩ [.ref a] [.ref a] _ _ hr e0 (Ql v6 (.ref a)) (.cons rfl .nil) (yw H hO hS)) λr s' h=>?_;cases r with
  |error e=>exact(Tg H e s' h).elim
  |ok fl=>
   cases fl with
   |next=>exact aaW h
   |brk=>exact aaW h
   |cont=>exact aaW h
   |ret u=>
    obtain⟨v,H',os,bare,un,T6,r',q⟩:=h;have q':v= .bl true:=q;subst q';obtain rfl:u=abc true:=r';refine⟨rfl,OldK.of_keep λb o e=>?_,os,bare⟩;cases q:H b with
    |none=>exact un.keep b o e q (by intro z;exact agj (show b∈([]:List Addr) from z) (by simp)) (by simp)
    |some u=>
     rcases hO b with z | ⟨ob,xs,z⟩
     ·rw[q] at z;cases z
     ·have z2:=un.frzs b ob _ z;obtain⟨e1,_⟩:=hok b _ z;obtain⟨e2,_⟩:=T6 b _ z2;rw[e] at e1;cases e1;exact e2
 cases hk:K.lookup a with
 |some o=>
  have e:=KX a o hk;rw[ha] at e;cases e;refine core (λ_=>none) (λ_=> .inl rfl) (.inr ⟨_,vs.toArray,_,hk,rfl,rfl,rfl,by rw[ZD,Uz];exact hl,by simpa using rv⟩) (λb u z=>by have z':(none:Option HO)=some u:=z;cases z') (λb z=>agj rfl z) λz=>agj rfl z
 |none=>
  refine core (λb=>if b=a then some (.frz {cls:= .type "list",data:= .seq vs.toArray} (.lst (ns.map V.int))) else none) (λb=>?_) (.inl (.inr ⟨{cls:= .type "list",data:= .seq vs.toArray},agd rfl⟩)) (λb u z=>?_) (λb z=>?_) λ_=>hk
  ·by_cases hb:b=a
   ·exact .inr ⟨_,_,agd hb⟩
   ·exact .inl (age hb)
  ·by_cases hb:b=a
   ·have z':=(agd hb).symm.trans z;cases z';subst hb;exact⟨ha,by rw[Zo];exact hl,vs,_,rv,ha⟩
   ·have z':=(age hb).symm.trans z;cases z'
  ·by_cases hb:b=a
   ·exact hb
   ·exact agj (age hb) z
abbrev Y3{K:ZE}{h:Heap}(_:K.In h):ZE:=K
theorem SW{l:afR}{n k:Nat}{q:Z5}{loose:List Str}{XP:(Str->Option Value)->Heap->Prop}{YP:World->Heap->Prop}{d:DefRec}{K:Params->ZE}{CX:World->Cs}{sp:World->Sp}{x:Str}
 (hn:l.most=some n)(Sw:n<=ZQ)(Qp:d.params.defaults=[])(hr:Room k aex)
 (hY:∀(w:World) (h:Heap),YP w h->(K w.params).In h)
 (F:∀(w:World) (mg:Str->Option Value) (fa:Addr) (h:Heap),(K w.params).In h->h.Ns ZR mg->mg d.name=some (.ref fa)->
  ∃fd:abW,(∀(s:Zt) (u:Value),afc s fd ⟨[u],[]⟩ [(x,u)])/\
   ∀base:Heap,(K w.params).In base->base.Ns ZR mg->FnOk l.prog w (K w.params) mg base (CX w) k fa fd [x] (sp w))
 (yw:∀(w:World) (H:Hp) (a:Addr) (ns:List Int),ns.length<=n->MR H->SqL (K w.params) H a (ns.map V.int)->sp w [.ref a] H (λv _=>v= .bl true) λ_ _ _=>False)
 (Tg:∀(w:World) (H:Hp) (s:Zt) (e:Value) (s':Zt),CX w [] H s (λ_ _ _=>False) e s'->False):
 PySem.W.WalkO q loose XP YP l.row.toRowW d [] (λf vs=>afQ f vs):=by
 refine Att.attach_call hn Qp λw ago v6 mg mb fa o pm cd doc a vs ns G Y ho hd u6 NF G2 hints T0 hg=>?_;have KX:=hY w _ Y;obtain⟨fd,hb,hF⟩:=F w mg fa _ KX G.T.g NF;exact zA KX G.T.g G.T.b G.T.builtins G.T.nolimit hg G2 hints (Z2 T0 Sw) hr hF hb (λH hO hS=>yw w H a ns T0 hO hS) λH e s'=>Tg w H v6 e s'
abbrev PJ:Cs:=λ_ _ _ _ _ _=>False
abbrev E0:XK:=λ_ _ _=>False
structure Fun (K:ZE) (x qual:Str) (st:Stmt) (f:Addr) (fd:abW):Prop where
 ex:∃(oc:Value) (od:Option Addr) (kV doc pm:Value) (an:Option Addr) (b7 ct:Value) (HQ:Array (Option Value)),
  fd=aaQ x qual (eZ st) (aY st) (ai st) .none kV doc pm an b7 ct/\K.lookup f=some ⟨oc,od, .func fd,HQ⟩/\abX K b7 qual=true
 kp:aaO K (.ref f)=true
section
variable{P:Z5}{w:World}{K:ZE}{mg:Str->Option Value}{base:Heap}
theorem Fun.ok{x qual:Str}{st:Stmt}{f:Addr}{fd:abW}{N ps:List Str}{k:Nat}{sp:Sp}(F:Fun K x qual st f fd)(S:FnScope N ps (ai st))(len:∀vs H Q E,sp vs H Q E->vs.length=ps.length)
 (iT:∀(b7:Value) (A:aao) (outer:List Env) (s:Zt) (H:Hp) (vs:List V) (Q:VK) (E:XK),Room k (A.deeper (abw qual (ai st) s.heap.objs.size f b7))->sp vs H Q E->
  ∃t,PSs (a6 PJ P w K mg base N qual (ai st) f b7 A outer s H E).nox (aY st) t/\t {nx:=λ_ H'=>Q .non H',rt:=Q} (start N vs) H):FnOk P w K mg base PJ (k+1) f fd ps sp:=by
 obtain⟨oc,od,kV,doc,pm,an,b7,ct,HQ,rfl,lk,u6⟩:=F.ex;refine Me lk u6 S len λA outer s H vs Q E hr yw=>?_;obtain⟨t,h,q⟩:=iT b7 A outer s H vs Q E hr yw;exact⟨t,h.nox,q⟩
theorem Fun.binds{x qual:Str}{st:Stmt}{f:Addr}{fd:abW}{ps:List Str}(F:Fun K x qual st f fd)
 (h:∀(kV doc pm:Value) (an:Option Addr) (b7 ct:Value) (us:List Value),us.length=ps.length->bindArgs (aaQ x qual (eZ st) (aY st) (ai st) .none kV doc pm an b7 ct) ⟨us,[]⟩=pure (ps.zip us)):Binds K fd ps []:=by
 obtain⟨oc,od,kV,doc,pm,an,b7,ct,HQ,rfl,lk,u6⟩:=F.ex;exact .all (h kV doc pm an b7 ct)
theorem GI{x qual:Str}{st:Stmt}{f:Addr}{oc:Value}{od an:Option Addr}{HQ:Array (Option Value)}{kV doc pm b7 ct:Value}(l:K.lookup f=some ⟨oc,od, .func (aaQ x qual (eZ st) (aY st) (ai st) .none kV doc pm an b7 ct),HQ⟩)
 (c:abX K b7 qual=true)(k:aaO K (.ref f)=true):Fun K x qual st f (aaQ x qual (eZ st) (aY st) (ai st) .none kV doc pm an b7 ct):=⟨⟨oc,od,kV,doc,pm,an,b7,ct,HQ,rfl,l,c⟩,k⟩
end
section
variable{X:Cx}
theorem pv(i:Nat){x:Str}{pos:Pos}(hN:X.N[i]? =some x:=by rfl)(hv:S9 X.env.scope x:=by first | exact Or.inl rfl | exact Or.inr (Or.inl rfl) | exact Or.inr (Or.inr rfl))(hd:dL x:=by decide)
 (u6:(x==("__classdict__":Str))=false:=by decide):PE X (.Name x pos) (tu i):=OP hN hv hd u6
end
def Same(H H':Hp):Prop:=∀b o,H b=some o->H' b=some o
theorem Same.refl(H:Hp):Same H H:=λ_ _ h=>h
theorem Same.trans{H H1 H2:Hp}(a:Same H H1)(b:Same H1 H2):Same H H2:=λc o h=>b c o (a c o h)
theorem Same.free{H H':Hp}(e:Same H H'){l:Addr}(h:H' l=Option.none):H l=Option.none:=by
 cases q:H l with
 |none=>rfl
 |some o=>
  rw[e l o q] at h;cases h
theorem Same.seq{K:ZE}{H H':Hp}{a:Addr}{xs:List V}(e:Same H H')(h:SqL K H a xs):SqL K H' a xs:=by
 rcases h with(h | ⟨o,h⟩) | h
 ·exact .inl (.inl (e _ _ h))
 ·exact .inl (.inr ⟨o,e _ _ h⟩)
 ·exact .inr h
section
variable{κ:Type}[DecidableEq κ]
def nW(aB:List (κ×V))(k:κ):Option V:=(aB.find? λkv=>decide (kv.1=k)).map (·.2)
def putK(aB:List (κ×V))(k:κ)(v:V):List (κ×V):=
 if (aB.any λkv=>decide (kv.1=k))=true then aB.map (λkv=>if kv.1=k then(kv.1,v) else kv) else aB++[(k,v)]
def Mc(aB:List (κ×V))(k:κ):List (κ×V):=aB.filter λkv=>decide (kv.1≠k)
theorem nY{p:κ×V}{r:List (κ×V)}{k:κ}(e:p.1=k):nW (p::r) k=some p.2:=by simp[nW,acj,e]
theorem nX{p:κ×V}{r:List (κ×V)}{k:κ}(e:¬p.1=k):nW (p::r) k=nW r k:=by simp[nW,acj,e]
theorem tG(k:κ):∀aB:List (κ×V),(aB.any λkv=>decide (kv.1=k))=(nW aB k).isSome
 |[]=>rfl
 |p::r=>by
  rw[abC];by_cases e:p.1=k
  ·simp only[nY e,agg e,Bool.true_or,Option.isSome_some]
  ·rw[nX e,agh e,Bool.false_or];exact tG k r
theorem fS(aB:List (κ×V))(k:κ)(v:V):(putK aB k v).length<=aB.length+1:=by
 unfold putK;split
 ·rw[Zo];omega
 ·rw[ZA,Zz,aat];omega
theorem RelO.isSome_eq{o:Option V}{u:Option Value}(r:RelO o u):o.isSome=u.isSome:=by
 cases o with
 |none=>cases u with
  |none=>rfl
  |some _=>exact(show False from r).elim
 |some _=>cases u with
  |none=>exact(show False from r).elim
  |some _=>rfl
theorem RelO.getD{o:Option V}{u:Option Value}{d:V}{d':Value}(r:RelO o u)(rd:RelV d d'):RelV (o.getD d) (u.getD d'):=by
 cases o with
 |none=>cases u with
  |none=>exact rd
  |some _=>exact(show False from r).elim
 |some _=>cases u with
  |none=>exact(show False from r).elim
  |some _=>exact r
theorem KV.val{aB:List (κ×V)}{vs:List (κ×Value)}(r:KV aB vs)(k:κ):RelO (nW aB k) (ae0 vs k):=by
 unfold KV at r;induction r with
 |nil=>exact abz
 | @cons p q ps qs h t ih=>
   obtain⟨h1,h2⟩:=h;by_cases e:p.1=k
   ·have e':q.1=k:=h1.symm.trans e;have b:ae0 (q::qs) k=some q.2:=by simp[ae0,acj,e']
    rw[nY e,b];exact h2
   ·have e':¬q.1=k:=λz=>e (h1.trans z);have b:ae0 (q::qs) k=ae0 qs k:=by simp[ae0,acj,e']
    rw[nX e,b];exact ih
theorem KV.any{aB:List (κ×V)}{vs:List (κ×Value)}(r:KV aB vs)(k:κ):(aB.any λkv=>decide (kv.1=k))=vs.any λkv=>decide (kv.1=k):=by
 unfold KV at r;induction r with
 |nil=>rfl
 |cons h t ih=>rw[abC,abC,ih,h.1]
theorem KV.repl{aB:List (κ×V)}{vs:List (κ×Value)}(r:KV aB vs)(k:κ){y:V}{u:Value}(ry:RelV y u):
 KV (aB.map λkv=>if kv.1=k then(kv.1,y) else kv) (vs.map λkv=>if kv.1=k then(kv.1,u) else kv):=by
 unfold KV at r⊢;induction r with
 |nil=>exact .nil
 | @cons p q ps qs h t ih=>
   rw[Zu,Zu];refine .cons ?_ ih;obtain⟨h1,h2⟩:=h;by_cases e:p.1=k
   ·rw[agd e,agd (h1.symm.trans e)];exact⟨h1,ry⟩
   ·rw[age e,age (λz=>e (h1.trans z))];exact⟨h1,h2⟩
theorem KV.put{aB:List (κ×V)}{vs:List (κ×Value)}(r:KV aB vs)(k:κ){y:V}{u:Value}(ry:RelV y u):KV (putK aB k y) (stored vs k u):=by
 unfold putK stored;rw[r.any k];by_cases e:(vs.any λkv=>decide (kv.1=k))=true
 ·rw[agd e,agd e];exact r.repl k ry
 ·rw[age e,age e];exact Paired.snoc r ⟨rfl,ry⟩
theorem KV.drop{aB:List (κ×V)}{vs:List (κ×Value)}(r:KV aB vs)(k:κ):KV (Mc aB k) (without vs k):=by
 unfold KV at r⊢;unfold Mc without;induction r with
 |nil=>exact .nil
 | @cons p q ps qs h t ih=>
   obtain⟨h1,h2⟩:=h;rw[acC,acC];by_cases e:p.1=k
   ·have a:¬decide (p.1≠k)=true:=by simp[e]
    have b:¬decide (q.1≠k)=true:=by simp[h1.symm.trans e]
    rw[age a,age b];exact ih
   ·have e':¬q.1=k:=λz=>e (h1.trans z);have a:decide (p.1≠k)=true:=by simp[e]
    have b:decide (q.1≠k)=true:=by simp[e']
    rw[agd a,agd b];exact .cons ⟨h1,h2⟩ ih
theorem KV.length{aB:List (κ×V)}{vs:List (κ×Value)}(r:KV aB vs):aB.length=vs.length:=abB r
end
theorem pj{P:Z5}{w:World}{k:Key}{u:Value}(r:RelV (kV k) u):(bo P w).is k u=true:=by
 cases k with
 |inl i=>obtain⟨t,e⟩:=(show∃t,u=ae6 i t from r);subst e;exact zJ P w i t
 |inr x=>obtain⟨t,e⟩:=(show∃t,u=ae5 x t from r);subst e;exact zK P w x t
theorem N3{a b:Key}(e:kV a=kV b):a=b:=by
 cases a with
 |inl i=>cases b with
  |inl j=>have e':V.int i=V.int j:=e;injection e' with e';rw[e']
  |inr y=>exact nomatch (show V.int i=V.str y from e)
 |inr x=>cases b with
  |inl j=>exact nomatch (show V.str x=V.int j from e)
  |inr y=>have e':V.str x=V.str y:=e;injection e' with e';rw[e']
theorem Dd:∀{a b:List Key},a.map kV=b.map kV->a=b
 |[],[],_=>rfl
 |[],_::_,e=>by simp at e
 |_::_,[],e=>by simp at e
 |x::xs,y::ys,e=>by
  rw[Zu,Zu] at e;injection e with e1 e2
  rw[N3 e1,Dd e2]
theorem ve{P:Z5}{w:World}:∀{ks:List Key}{us:List Value},Vals (ks.map kV) us->ItemsAre (bo P w) ks us
 |[],_,r=>by rw[abt] at r;cases r;exact .nil
 |k::ks,_,r=>by
  rw[Zu] at r;cases r with
  |cons h t=>exact .cons (pj h) (ve t)
abbrev KT(H:Hp):List (List Key×V)->List (List Key×Addr×Value)->Prop:=aea λp q=>p.1=q.1/\H q.2.1=some (.tup (p.1.map kV))/\RelV p.2 q.2.2
theorem KT.val{H:Hp}{aB:List (List Key×V)}{xs:List (List Key×Addr×Value)}(r:KT H aB xs)(k:List Key):RelO (nW aB k) ((atKey xs k).map (·.2)):=by
 induction r with
 |nil=>exact abz
 | @cons p q ps qs h t ih=>
   obtain⟨h1,_,h2⟩:=h;by_cases e:p.1=k
   ·have e':q.1=k:=h1.symm.trans e;have b:atKey (q::qs) k=some q.2:=by simp[atKey,acj,e']
    rw[nY e,b];exact h2
   ·have e':¬q.1=k:=λz=>e (h1.trans z);have b:atKey (q::qs) k=atKey qs k:=by simp[atKey,acj,e']
    rw[nX e,b];exact ih
theorem KT.repl{H:Hp}{aB:List (List Key×V)}{xs:List (List Key×Addr×Value)}(r:KT H aB xs)(k:List Key){y:V}{u:Value}(ry:RelV y u):
 KT H (aB.map λkv=>if kv.1=k then(kv.1,y) else kv) (xs.map (putAt k u)):=by
 induction r with
 |nil=>exact .nil
 | @cons p q ps qs h t ih=>
   rw[Zu,Zu];refine .cons ?_ ih;obtain⟨h1,h2,h3⟩:=h;unfold putAt;by_cases e:p.1=k
   ·rw[agd e,agd (h1.symm.trans e)];exact⟨h1,h2,ry⟩
   ·rw[age e,age (λz=>e (h1.trans z))];exact⟨h1,h2,h3⟩
theorem KT.put{H:Hp}{aB:List (List Key×V)}{xs:List (List Key×Addr×Value)}(r:KT H aB xs)(k:List Key){b:Addr}{y:V}{u:Value}(hb:H b=some (.tup (k.map kV)))(ry:RelV y u):
 KT H (putK aB k y) (acN xs k b u):=by
 have e:(aB.any λkv=>decide (kv.1=k))=(atKey xs k).isSome:=by
  rw[tG,(r.val k).isSome_eq,ad3]
 unfold putK acN;rw[e];by_cases q:(atKey xs k).isSome=true
 ·rw[agd q,agd q];exact r.repl k ry
 ·rw[age q,age q];exact Paired.snoc r ⟨rfl,hb,ry⟩
theorem KT.keeps{H H':Hp}{aB:List (List Key×V)}{xs:List (List Key×Addr×Value)}(r:KT H aB xs)(ht:∀b ys,H b=some (.tup ys)->H' b=some (.tup ys)):KT H' aB xs:=
 Paired.mapP r λ_ _ z=>⟨z.1,ht _ _ z.2.1,z.2.2⟩
section
variable{P:Z5}{w:World}{H:Hp}{h:Heap}{a:Addr}
theorem MD{u:HO}(ok:HOk P w H h)(e:Rd H a u):ObjOk P w H h a u:=e.ok ok
theorem pd{aB:List (Key×V)}(ok:HOk P w H h)(e:Rd H a (.dK aB)):aB.length<=ZQ/\(a==aa3)=false/\∃vs,KV aB vs/\h.DictOf (bo P w) a vs:=
 show ObjOk P w H h a (.dK aB) from MD ok e
theorem Mb{aB:List (Key×V)}(ok:HOk P w H h)(e:H a=some (.dK aB)):aB.length<=ZQ/\(a==aa3)=false/\∃vs,KV aB vs/\h.DictOf (bo P w) a vs:=pd ok (.inl e)
theorem jA{ks:List Key}(ok:HOk P w H h)(e:H a=some (.tup (ks.map kV))):(abO (bo P w)).is h ks a:=by
 obtain⟨_,aL,r,o,h1,h2,n,h3⟩:=(show ObjOk P w H h a (.tup (ks.map kV)) from ok a _ e)
 exact⟨o,aL.toArray,n,h1,h2,h3,by simpa using ve r⟩
theorem mD{aB:List (List Key×V)}(ok:HOk P w H h)(e:Rd H a (.dT aB)):aB.length<=ZQ/\(a==aa3)=false/\
 ∃xs,KT H aB xs/\h.DictOfH (abO (bo P w)) a xs:=by
 obtain⟨z,y,xs,r,o,es,ep,h1,h2,h3,h4,h5⟩:=(show ObjOk P w H h a (.dT aB) from MD ok e)
 refine⟨z,y,xs,r,o,es,ep,h1,h2,h3,h4,λx hx=>?_,h5⟩;have all:∀{l:List (List Key×V)}{m:List (List Key×Addr×Value)},KT H l m->∀x∈m,(abO (bo P w)).is h x.1 x.2.1:=by
  intro l m q;induction q with
  |nil=>intro x hx;exact nomatch hx
  | @cons p q ps qs hq t ih=>
    intro x hx;rcases Zw.mp hx with e | hx
    ·subst e;exact jA ok (by rw[<-hq.1];exact hq.2.1)
    ·exact ih x hx
 exact all r x hx
theorem Gs{aB:List (List Key×V)}(ok:HOk P w H h)(e:H a=some (.dT aB)):aB.length<=ZQ/\(a==aa3)=false/\
 ∃xs,KT H aB xs/\h.DictOfH (abO (bo P w)) a xs:=mD ok (.inl e)
end
def lR(H:Hp)(a:Addr)(y:V)(r:Option V):Prop:=
 (∃aB k,Rd H a (.dK aB)/\y=kV k/\r=nW aB k)\/∃aB k b,Rd H a (.dT aB)/\y= .ref b/\H b=some (.tup (k.map kV))/\r=nW aB k
def DPut(H:Hp)(a:Addr)(y v:V)(H':Hp):Prop:=
 (∃aB k,H a=some (.dK aB)/\y=kV k/\aB.length<ZQ/\H'=upd H a (.dK (putK aB k v)))\/
 ∃aB k b,H a=some (.dT aB)/\y= .ref b/\H b=some (.tup (k.map kV))/\aB.length<ZQ/\H'=upd H a (.dT (putK aB k v))
theorem DPut.k{H:Hp}{a:Addr}{aB:List (Key×V)}{k:Key}{v:V}(e:H a=some (.dK aB))(hl:aB.length<ZQ):DPut H a (kV k) v (upd H a (.dK (putK aB k v))):= .inl ⟨aB,k,e,rfl,hl,rfl⟩
theorem DPut.t{H:Hp}{a b:Addr}{aB:List (List Key×V)}{k:List Key}{v:V}(e:H a=some (.dT aB))(eb:H b=some (.tup (k.map kV)))(hl:aB.length<ZQ):
 DPut H a (.ref b) v (upd H a (.dT (putK aB k v))):= .inr ⟨aB,k,b,e,rfl,eb,hl,rfl⟩
section
variable{X:Cx}{f8:List (Addr×Obj)}{σ:St}{H:Hp}{s:Zt}{a:Addr}{y v:V}{u r:Value}{o:Option V}{A:aao}{E:Value->Zt->Prop}
theorem Inv.big(I:Inv X f8 σ H s):aa3<s.heap.objs.size:=by
 have h:ZR<s.heap.objs.size:=(I.mod.glob.keeps I.bk).lt;exact abR (by decide) h
theorem Es{Q:Value->Zt->Prop}(hu:A.units+1<cLine)(I:Inv X f8 σ H s)(g:lR H a y (some v))(ry:RelV y u)(h:∀w' s',Inv X f8 σ H s'->RelV v w'->Q w' s'):
 wpAny (model X.prog X.w) A (afN (.ref a) u) Q E s:=by
 rcases g with⟨aB,k,e,ey,l⟩ | ⟨aB,k,b,e,ey,eb,l⟩
 ·subst ey;obtain⟨z,hd,vs,rel,dd⟩:=pd I.hok e;obtain⟨w',hw,AW⟩:=RelO.some_of (v:=v) (o:=ae0 vs k) (by rw[l];exact rel.val k);exact wpAny_getItem_of (pj ry) dd.mapOf hw (h w' _ (I.tok _) AW)
 ·subst ey;cases (show u=Z6 b from ry);obtain⟨z,hd,xs,rel,dd⟩:=mD I.hok e;obtain⟨w',hw,AW⟩:=RelO.some_of (v:=v) (o:=(atKey xs k).map (·.2)) (by rw[l];exact rel.val k);obtain⟨p,hp,QH⟩:=adf.mp hw;refine wpAny_getItem_heap (abU hu) (jA I.hok eb) dd hp ?_;rw[QH];exact h w' _ (I.tok _) AW
theorem P5{Q:Value->Zt->Prop}(hu:A.units+1<cLine)(I:Inv X f8 σ H s)(g:lR H a y o)(ry:RelV y u)(h:∀s',Inv X f8 σ H s'->Q (.bool o.isSome) s'):
 wpAny (model X.prog X.w) A (aas .In u (.ref a)) Q E s:=by
 rcases g with⟨aB,k,e,ey,l⟩ | ⟨aB,k,b,e,ey,eb,l⟩
 ·subst ey;obtain⟨z,hd,vs,rel,dd⟩:=pd I.hok e;refine wpAny_in_of (pj ry) hd dd.mapOf ?_;rw[<-(rel.val k).isSome_eq,<-l];exact h _ (I.tok _)
 ·subst ey;cases (show u=Z6 b from ry);obtain⟨z,hd,xs,rel,dd⟩:=mD I.hok e;refine wpAny_in_heap (abU hu) (jA I.hok eb) hd dd ?_;have q:=(rel.val k).isSome_eq;rw[ad3] at q;rw[<-q,<-l];exact h _ (I.tok _)
theorem JU{Q:Value->Zt->Prop}(hu:A.units+1<cLine)(I:Inv X f8 σ H s)(g:lR H a y o)(ry:RelV y u)(h:∀s',Inv X f8 σ H s'->Q (.bool (!o.isSome)) s'):
 wpAny (model X.prog X.w) A (aas .NotIn u (.ref a)) Q E s:=by
 rcases g with⟨aB,k,e,ey,l⟩ | ⟨aB,k,b,e,ey,eb,l⟩
 ·subst ey;obtain⟨z,hd,vs,rel,dd⟩:=pd I.hok e;refine wpAny_notIn_of (pj ry) hd dd.mapOf ?_;rw[<-(rel.val k).isSome_eq,<-l];exact h _ (I.tok _)
 ·subst ey;cases (show u=Z6 b from ry);obtain⟨z,hd,xs,rel,dd⟩:=mD I.hok e;refine wpAny_notIn_heap (abU hu) (jA I.hok eb) hd dd ?_;have q:=(rel.val k).isSome_eq;rw[ad3] at q;rw[<-q,<-l];exact h _ (I.tok _)
theorem mC{h':Heap}{t':Nat}{ob:HO}(I:Inv X f8 σ H s)(mu:PQ (H a))(hs:abe a s.heap h')(he:∃q,h'.get? a=some q)(new:ObjOk X.prog X.w (upd H a ob) h' a ob):
 Inv X f8 σ (upd H a ob) {s with heap:=h',toks:=t'}:=
 I.write (x:=a) (e:=a) mu (.inl rfl) (λb q hb z=>(hs.2 b hb).trans z) he new
theorem Gr{P:Z5}{w:World}{H':Hp}{h':Heap}{aB:List (Key×V)}{vs:List (Key×Value)}(z:aB.length<=ZQ)(hd:(a==aa3)=false)(rel:KV aB vs)(dd:h'.DictOf (bo P w) a vs):
 ObjOk P w H' h' a (.dK aB):=⟨z,hd,vs,rel,dd⟩
theorem Et{H':Hp}{Q:Unit->Zt->Prop}(hu:A.units+1<cLine)(I:Inv X f8 σ H s)(g:DPut H a y v H')(ry:RelV y u)(rv:RelV v r)(h:∀s',Inv X f8 σ H' s'->Q () s'):
 wpAny (model X.prog X.w) A (setItem (.ref a) u r) Q E s:=by
 rcases g with⟨aB,k,e,ey,l,eH⟩ | ⟨aB,k,b,e,ey,eb,l,eH⟩
 ·subst ey eH;obtain⟨z,hd,vs,rel,dd⟩:=Mb I.hok e;have hz:vs.length<=ZQ:=by rw[<-rel.length];exact z
  have hl:(putK aB k v).length<=ZQ:=by have:=fS aB k v;omega
  refine wpAny_setItem_pairs (hsz:=hz) (pj ry) dd λh' Eu hs=>h _ ?_;have he:∃q,h'.get? a=some q:=let ⟨q,_,_,hq,_⟩:=Eu;⟨q,hq⟩
  exact mC I (by rw[e];exact abz) hs he (Gr hl hd (rel.put k rv) Eu)
 ·subst ey eH;cases (show u=Z6 b from ry);obtain⟨z,hd,xs,rel,dd⟩:=Gs I.hok e;have hz:xs.length<=ZQ:=by rw[<-abB rel];exact z
  have hl:(putK aB k v).length<=ZQ:=by have:=fS aB k v;omega
  refine wpAny_setItem_heap (hsz:=hz) (abU hu) (jA I.hok eb) dd λh' Eu hs=>h _ ?_;obtain⟨q,es,ep,hq,h2,h3,h4,_,h5⟩:=Eu;refine mC I (by rw[e];exact abz) hs ⟨q,hq⟩ ⟨hl,hd,_,(rel.put k eb rv).keeps λc ys ec=>?_,q,es,ep,hq,h2,h3,h4,h5⟩;rw[ax (Hx ec e (λz=>nomatch z))];exact ec
end
def MP(i:Expr):Prop:=∀ov iv,subscripted i false ov iv=operate [ov,iv] (afN ov iv)
theorem LK{prog:Z5}{w:World}{A:aao}{E:Value->Zt->Prop}{s:Zt}{env:Env}{value slice:Expr}{pos:Pos}{T id:String}{Q:Value->Zt->Prop}
 (hl:ad0 (.type T) "__getitem__"=pure (some (.builtin id)))(hs:MP slice)
 (h:wpAny (model prog w) A (eval value env) (λo v6=>wpAny (model prog w) A (eval slice env) (λi v4=>v4.TypeIs o T/\wpAny (model prog w) A (afN o i) Q E v4) E v6) E s):
 wpAny (model prog w) A (eval (.Subscript value slice pos) env) Q E s:=by
 refine Subscript_ (aaF h (λo v6 h₁=>aaF h₁ (λi v4 h₂=>?_) λ_ _ x=>x) λ_ _ x=>x);obtain⟨hT,h₂⟩:=h₂;unfold subscriptTail;refine Zn ?_;rw[getitemInPython_of_ne hT.not_modules];refine Zn (adQ hT hl ?_);have fin:wpAny (model prog w) A (subscripted slice false o i) (λr s₃=>wpAny (model prog w) A (letTemporaryGo value o r>>=λ_=>pure r) Q E s₃) E v4:=by
  rw[hs o i];exact wpAny_operating (aaF h₂ (λr s₃ h₃=>Zn (wpAny_letTemporaryGo (Zs h₃))) λ_ _ x=>x)
 first
  |exact Zs (Zn fin)
  |exact Zn (Zs (Zn fin))
  |exact Zn fin
theorem yV{X:Cx}{f8:List (Addr×Obj)}{σ:St}{H:Hp}{s:Zt}{a:Addr}{y:V}{o:Option V}(I:Inv X f8 σ H s)(g:lR H a y o):s.TypeIs (.ref a) "dict":=by
 rcases g with⟨aB,k,e,_,_⟩ | ⟨aB,k,b,e,_,_,_⟩
 ·obtain⟨_,_,vs,_,dd⟩:=pd I.hok e;exact dd.typeIs
 ·obtain⟨_,_,xs,_,dd⟩:=mD I.hok e;exact dd.typeIs
def RW(td ty:TE):TE:=λσ H Q=>td σ H λx H1=>ty σ H1 λy H2=>∃a v,x= .ref a/\lR H2 a y (some v)/\Q v H2
def U6(ty td:TE):TE:=λσ H Q=>ty σ H λy H1=>td σ H1 λx H2=>∃a o,x= .ref a/\lR H2 a y o/\Q (.bl o.isSome) H2
def RO(td ty tv:TE):TS:=λD σ H=>tv σ H λv H1=>td σ H1 λx H2=>ty σ H2 λy H3=>∃a H4,x= .ref a/\DPut H3 a y v H4/\D.nx σ H4
section
variable{X:Cx}{o i value:Expr}{pos pos':Pos}{td ty tv:TE}
theorem K_(hu:X.A.units+1<cLine)(ho:PE X o td)(hi:PE X i ty)(hs:MP i):PE X (.Subscript o i pos) (RW td ty):=by
 intro f8 s σ H Q I h;refine LK PySem.F.slot_dict_getitem.lookup hs (cE (ho f8 s σ H _ I h) λu s1 ⟨x,H1,I1,rx,q1⟩=>cE (hi f8 s1 σ H1 _ I1 q1) λiv s2 ⟨y,H2,I2,ry,a,v,ex,g,q2⟩=>?_);subst ex;obtain rfl:u=Z6 a:=rx;exact⟨yV I2 g,Es hu I2 g ry λw' s3 I3 AW=>⟨v,H2,I3,AW,q2⟩⟩
theorem Oz(hu:X.A.units+1<cLine)(hi:PE X i ty)(ho:PE X o td):PC X .In i o (U6 ty td):=by
 intro f8 s σ H Q I h;refine cE (hi f8 s σ H _ I h) λiv s1 ⟨y,H1,I1,ry,q1⟩=>cE (ho f8 s1 σ H1 _ I1 q1) λu s2 ⟨x,H2,I2,rx,a,ov,ex,g,q2⟩=>?_;subst ex;obtain rfl:u=Z6 a:=rx;exact P5 hu I2 g ry λs3 I3=>⟨.bl ov.isSome,H2,I3,rfl,q2⟩
theorem Lf(hu:X.A.units+1<cLine)(ho:PE X o td)(hi:PE X i ty)(hv:PE X value tv)(hs:adq value (some (.Subscript o i pos')) pos.line X.env=pure false):
 PS X (.Assign [.Subscript o i pos'] value pos) (RO td ty tv):=by
 intro f8 s σ H D I h;refine wpAny_Assign_Subscript (cE (hv f8 s σ H _ I h) λr s1 ⟨v,H1,I1,rv,q1⟩=>cE (ho f8 s1 σ H1 _ I1 q1) λu s2 ⟨x,H2,I2,rx,q2⟩=>cE (hi f8 s2 σ H2 _ I2 q2) λiv s3 ⟨y,H3,I3,ry,a,H4,ex,g,q3⟩=>?_) hs;subst ex;obtain rfl:u=Z6 a:=rx;exact Et hu I3 g ry rv λs4 I4=>⟨σ,H4,I4,q3⟩
end
theorem Gq{P:Z5}{w:World}{H:Hp}(h:Heap)(hb:aa3<h.objs.size):ObjOk P w H (h.push {cls:= .type "dict",data:= .dict #[]}) h.objs.size (.dK []):=
 ⟨aae _,agk.mpr (aaz (ZW hb)),[], .nil,Heap.DictOf.new h⟩
theorem yY{P:Z5}{w:World}{H:Hp}(h:Heap)(hb:aa3<h.objs.size):ObjOk P w H (h.push {cls:= .type "dict",data:= .dict #[]}) h.objs.size (.dT []):=
 ⟨aae _,agk.mpr (aaz (ZW hb)),[], .nil,_,#[],0,ZL _ rfl,⟨rfl,rfl,rfl⟩,rfl,rfl,abH⟩
def Pe:TE:=λ_ H Q=>∀p,H p=none->Q (.ref p) (upd H p (.dT []))
section
variable{X:Cx}{pos:Pos}
theorem Im:PE X (.Dict [] [] pos) Pe:=λf8 s σ H Q I h=>
 wpAny_Dict_empty ⟨.ref s.heap.objs.size,_,I.laid (a:=s.heap.objs.size) (o:= .dT []) (t':=s.toks) (λ_ _ q=>Zr _ q) (Zv _) (yY s.heap I.big),rfl,h _ (I.hok.fresh (Zv _))⟩
end
def Jj:List (TE×TE)->St->Hp->(List (V×V)->Hp->Prop)->Prop
 |[],_,H,Q=>Q [] H
 |(tk,tv)::r,σ,H,Q=>tk σ H λx H1=>tv σ H1 λy H2=>Jj r σ H2 λps H3=>Q ((x,y)::ps) H3
abbrev VV:List (V×V)->List (Value×Value)->Prop:=aea λp q=>RelV p.1 q.1/\RelV p.2 q.2
def S0(X:Cx)(pos:Pos)(keys:List (Option Expr))(values:List Expr)(SV:List (TE×TE)):Prop:=
 ∀(f8:List (Addr×Obj)) (s:Zt) (σ:St) (H:Hp) (Q:List (V×V)->Hp->Prop),Inv X f8 σ H s->Jj SV σ H Q->
  wpAny (model X.prog X.w) X.A (evalPairs (pairTrees keys values X.env pos)) (λvs s'=>∃ps H',Inv X f8 σ H' s'/\VV ps vs/\Q ps H') X.xe s
theorem Lc{X:Cx}{pos:Pos}:S0 X pos [] [] []:=λf8 s σ H Q I h=>pairTrees_nil_walk ⟨[],H,I, .nil,h⟩
theorem Ip{X:Cx}{pos:Pos}{k v:Expr}{ks:List (Option Expr)}{vs:List Expr}{tk tv:TE}{SV:List (TE×TE)}(hk:PE X k tk)(hv:PE X v tv)(hr:S0 X pos ks vs SV):
 S0 X pos (some k::ks) (v::vs) ((tk,tv)::SV):=λf8 s σ H Q I h=>
 pairTrees_cons_walk (cE (hk f8 s σ H _ I h) λu s1 ⟨x,H1,I1,rx,q1⟩=>cE (hv f8 s1 σ H1 _ I1 q1) λw2 s2 ⟨y,H2,I2,ry,q2⟩=>
  cE (hr f8 s2 σ H2 _ I2 q2) λws s3 ⟨ps,H3,I3,rel,q3⟩=>⟨(x,y)::ps,H3,I3, .cons ⟨rx,ry⟩ rel,q3⟩)
structure M1 (X:Cx) (o:Expr) (m:Str) (apos:Pos) (e:Expr) (bq:Pos):Prop where
 base:abJ o m X.env (eval o X.env)=eval o X.env
 few:((abk bq (ZF [e] X.env)).all (λx=>!x.1)&&(ade bq (ab1 [] X.env)).all (λx=>x.1.isSome)
  &&decide (([e]:List Expr).length+([]:List aca).length+(if ([]:List aca).isEmpty then 0 else 1)<30))=true
 line:(apos.endLine==bq.line)=true
 trees:abk bq (ZF [e] X.env)=[(false,eval e X.env)]
structure M2 (X:Cx) (o:Expr) (m:Str) (apos:Pos) (e f:Expr) (bq:Pos):Prop where
 base:abJ o m X.env (eval o X.env)=eval o X.env
 few:((abk bq (ZF [e,f] X.env)).all (λx=>!x.1)&&(ade bq (ab1 [] X.env)).all (λx=>x.1.isSome)
  &&decide (([e,f]:List Expr).length+([]:List aca).length+(if ([]:List aca).isEmpty then 0 else 1)<30))=true
 line:(apos.endLine==bq.line)=true
 trees:abk bq (ZF [e,f] X.env)=[(false,eval e X.env),(false,eval f X.env)]
def PK(H:Hp)(a:Addr):Prop:=(∃aB,Rd H a (.dK aB))\/∃aB,Rd H a (.dT aB)
theorem Bv{X:Cx}{f8:List (Addr×Obj)}{σ:St}{H:Hp}{s:Zt}{a:Addr}(I:Inv X f8 σ H s)(d:PK H a):
 s.TypeIs (.ref a) "dict"/\(∀b,Z6 a= .ref b->∃ob,s.heap.get? b=some ob/\ob.dict=none)/\(a==aa3)=false:=by
 rcases d with⟨aB,e⟩ | ⟨aB,e⟩
 ·obtain⟨_,hd,vs,_,dd⟩:=pd I.hok e;refine⟨dd.typeIs,λb q=>?_,hd⟩;cases q;obtain⟨ob,_,_,h1,h2,_⟩:=dd;exact⟨ob,h1,h2.2.1⟩
 ·obtain⟨_,hd,xs,_,dd⟩:=mD I.hok e;refine⟨dd.typeIs,λb q=>?_,hd⟩;cases q;obtain⟨ob,_,_,h1,h2,_⟩:=dd;exact⟨ob,h1,h2.2.1⟩
section
variable{X:Cx}{f8:List (Addr×Obj)}{σ:St}{H:Hp}{s:Zt}{a:Addr}{y d:V}{u r:Value}{o:Option V}{A:aao}{E:Value->Zt->Prop}
theorem M7{Q:Value->Zt->Prop}(hu:A.units+1<cLine)(I:Inv X f8 σ H s)(g:lR H a y o)(ry:RelV y u)(h:∀w' s',Inv X f8 σ H s'->RelV (o.getD .non) w'->Q w' s'):
 wpAny (model X.prog X.w) A (call (.builtin "dict.get") [.ref a,u]) Q E s:=by
 rcases g with⟨aB,k,e,ey,l⟩ | ⟨aB,k,b,e,ey,eb,l⟩
 ·subst ey;obtain⟨z,hd,vs,rel,dd⟩:=pd I.hok e;refine aeG abn dd.typeIs ach (aeA _ _) (meets_dict_get (bo X.prog X.w) a (pj ry) hd) ⟨_,dd.mapOf,h _ _ (I.tok _) ?_⟩;rw[l];exact(rel.val k).getD rfl
 ·subst ey;cases (show u=Z6 b from ry);obtain⟨z,hd,xs,rel,dd⟩:=mD I.hok e;refine aeG abn dd.typeIs ach (aeA _ _) (meetsH_dict_get (abO (bo X.prog X.w)) a b hd) ⟨abU hu,k,xs,jA I.hok eb,dd,h _ _ (I.tok _) ?_⟩;rw[l];exact(rel.val k).getD rfl
theorem M8{Q:Value->Zt->Prop}(hu:A.units+1<cLine)(I:Inv X f8 σ H s)(g:lR H a y o)(ry:RelV y u)(rd:RelV d r)(h:∀w' s',Inv X f8 σ H s'->RelV (o.getD d) w'->Q w' s'):
 wpAny (model X.prog X.w) A (call (.builtin "dict.get") [.ref a,u,r]) Q E s:=by
 rcases g with⟨aB,k,e,ey,l⟩ | ⟨aB,k,b,e,ey,eb,l⟩
 ·subst ey;obtain⟨z,hd,vs,rel,dd⟩:=pd I.hok e;refine aeG abn dd.typeIs ach (aez _ _ _) (meets_dict_get_default (bo X.prog X.w) a (pj ry) hd r) ⟨_,dd.mapOf,h _ _ (I.tok _) ?_⟩;rw[l];exact(rel.val k).getD rd
 ·subst ey;cases (show u=Z6 b from ry);obtain⟨z,hd,xs,rel,dd⟩:=mD I.hok e;refine aeG abn dd.typeIs ach (aez _ _ _) (meetsH_dict_get_default (abO (bo X.prog X.w)) a b hd r) ⟨abU hu,k,xs,jA I.hok eb,dd,h _ _ (I.tok _) ?_⟩;rw[l];exact(rel.val k).getD rd
end
def Pc(td ty:TE):TE:=λσ H Q=>td σ H λx H1=>∃a,x= .ref a/\PK H1 a/\ty σ H1 λy H2=>∃o,lR H2 a y o/\Q (o.getD .non) H2
def Pd(td ty tx:TE):TE:=λσ H Q=>td σ H λx H1=>∃a,x= .ref a/\PK H1 a/\ty σ H1 λy H2=>tx σ H2 λz H3=>∃o,lR H3 a y o/\Q (o.getD z) H3
section
variable{X:Cx}{o e f:Expr}{apos bq:Pos}{td ty tx:TE}
theorem Ik(hu:X.A.units+1<cLine)(ho:PE X o td)(he:PE X e ty)(m:M1 X o "get" apos e bq):PE X (.Call (.Attribute o "get" apos) [e] [] bq) (Pc td ty):=by
 intro f8 s σ H Q I h;refine aev m.base m.few m.line ac2 abn aeT (cE (ho f8 s σ H _ I h) λu s1 ⟨x,H1,I1,rx,a,ex,d,q1⟩=>?_);subst ex;obtain rfl:u=Z6 a:=rx;obtain⟨t1,t2,_⟩:=Bv I1 d;refine⟨t1,t2,?_⟩;rw[m.trees];refine acr rfl (abY (abr (cE (he f8 s1 σ H1 _ I1 q1) λiv s2 ⟨y,H2,I2,ry,ov,g,q2⟩=>abS ?_)));exact M7 hu I2 g ry λw' s3 I3 AW=>⟨_,H2,I3,AW,q2⟩
theorem Il(hu:X.A.units+1<cLine)(ho:PE X o td)(he:PE X e ty)(hf:PE X f tx)(m:M2 X o "get" apos e f bq):PE X (.Call (.Attribute o "get" apos) [e,f] [] bq) (Pd td ty tx):=by
 intro f8 s σ H Q I h;refine aev m.base m.few m.line ac2 abn aeT (cE (ho f8 s σ H _ I h) λu s1 ⟨x,H1,I1,rx,a,ex,d,q1⟩=>?_);subst ex;obtain rfl:u=Z6 a:=rx;obtain⟨t1,t2,_⟩:=Bv I1 d;refine⟨t1,t2,?_⟩;rw[m.trees];refine acr rfl (abY (abr (cE (he f8 s1 σ H1 _ I1 q1) λiv s2 ⟨y,H2,I2,ry,q2⟩=>
  abr (cE (hf f8 s2 σ H2 _ I2 q2) λfv s3 ⟨z,H3,I3,rz,ov,g,q3⟩=>abS ?_))))
 exact M8 hu I3 g ry rz λw' s4 I4 AW=>⟨_,H3,I4,AW,q3⟩
end
end L2
namespace L3
open PySem PySem.Spec L2
open PyProof.Rows hiding St
inductive Rs (α:Type) where
 |ok (a:α) | ex (n:Nat)
def M(α:Type):=Option (Rs α)
def ae(a:α):M α:=some (.ok a)
def M.bind(m:M α)(k:α->M β):M β:=match m with
 |none=>none
 |some (.ex n)=>some (.ex n)
 |some (.ok a)=>k a
def ag:M α:=none
def bD(n:Nat):M α:=some (.ex n)
instance:Monad M where
 pure:=ae
 bind:=M.bind
@[simp] theorem av{α β:Type}(a:α)(k:α->M β):(ae a>>=k)=k a:=rfl
@[simp] theorem MW{α β:Type}(a:α)(k:α->M β):((pure a:M α)>>=k)=k a:=rfl
@[simp] theorem MX{α β:Type}(n:Nat)(k:α->M β):(bD n>>=k)=bD n:=rfl
@[simp] theorem MY{α β:Type}(k:α->M β):((ag:M α)>>=k)=ag:=rfl
theorem M.cs(m:M α):m=ag\/(∃n,m=bD n)\/∃a,m=ae a:=by
 match m with
 |none=>exact .inl rfl
 |some (.ex n)=>exact .inr (.inl ⟨n,rfl⟩)
 |some (.ok a)=>exact .inr (.inr ⟨a,rfl⟩)
theorem hZ(h:ae a=ae b):a=b:=by
 have h:some (Rs.ok a)=some (Rs.ok b):=h;cases h;rfl
theorem kK(h:ag=ae a):False:=by
 have h:none=some (Rs.ok a):=h;cases h
theorem IH(h:bD n=ae a):False:=by
 have h:some (Rs.ex n)=some (Rs.ok a):=h;cases h
theorem jq(h:(m>>=k)=ae r):∃a,m=ae a/\k a=ae r:=by
 rcases m.cs with e | ⟨n,e⟩ | ⟨a,e⟩
 ·subst e;exact(kK h).elim
 ·subst e;exact(IH h).elim
 ·subst e;exact⟨a,rfl,h⟩
def Ct(h:Heap)(ea D:Addr):Prop:=∃ox,h.get? ea=some ox/\ox.cls= .ref D
def MO(ea D:Addr):HO:= .ext λh=>Ct h ea D
inductive D where
 |non | bl (b:Bool) | int (i:Int) | str (x:Str) | raw (v:V) | exc (C:Addr) | scr (l:List Int) | tup (l:List D) | lst (l:List D)
 |dct (ks:List (List Key)) (l:List D) | dci (ks:List Key) (l:List D)
instance:Inhabited D:=⟨.non⟩
def lim:Nat:=4096
theorem d_:lim<ZQ:=by rw[aa4];decide
mutual
def Den(K:ZE)(F:Hp):D->V->Prop
 | .non,v=>v= .non
 | .bl b,v=>v= .bl b
 | .int i,v=>v= .int i
 | .str x,v=>v= .str x/\x.length<=lim
 | .raw u,v=>v=u
 | .exc C,v=>∃ea,v= .ref ea/\F ea=some (MO ea C)
 | .scr ns,v=>∃a,v= .ref a/\SqL K F a (ns.map V.int)/\ns.length<=lim
 | .tup ds,v=>∃a vs,v= .ref a/\F a=some (.tup vs)/\DenL K F ds vs/\ds.length<=lim
 | .lst ds,v=>∃a vs,v= .ref a/\F a=some (.lst vs)/\DenL K F ds vs/\ds.length<=lim
 | .dct ks ds,v=>∃a ob vs,v= .ref a/\F a=some (.frz ob (.dT (ks.zip vs)))/\DenL K F ds vs/\ks.length=ds.length/\ds.length<=lim
 | .dci ks ds,v=>∃a ob vs,v= .ref a/\F a=some (.frz ob (.dK (ks.zip vs)))/\DenL K F ds vs/\ks.length=ds.length/\ds.length<=lim
def DenL(K:ZE)(F:Hp):List D->List V->Prop
 |[],vs=>vs=[]
 |d::ds,vs=>∃v r,vs=v::r/\Den K F d v/\DenL K F ds r
end
theorem Same.rd(e:Same H H')(h:Rd H a u):Rd H' a u:=by
 rcases h with h | ⟨o,h⟩
 ·exact .inl (e _ _ h)
 ·exact .inr ⟨o,e _ _ h⟩
theorem Same.tup{K:ZE}(e:Same H H')(h:SqT K H a xs):SqT K H' a xs:=by
 rcases h with h | h
 ·exact .inl (Same.rd e h)
 ·exact .inr h
section
variable{K:ZE}{F F':Hp}
mutual
theorem Den.mono(e:Same F F'):∀{d:D}{v:V},Den K F d v->Den K F' d v
 | .non,_,h=>h
 | .bl _,_,h=>h
 | .int _,_,h=>h
 | .str _,_,h=>h
 | .raw _,_,h=>h
 | .exc _,_,⟨a,h1,h2⟩=>⟨a,h1,e _ _ h2⟩
 | .scr _,_,⟨a,h1,h2,h3⟩=>⟨a,h1,Same.seq e h2,h3⟩
 | .tup _,_,⟨a,vs,h1,h2,h3,h4⟩=>⟨a,vs,h1,e _ _ h2,DenL.mono e h3,h4⟩
 | .lst _,_,⟨a,vs,h1,h2,h3,h4⟩=>⟨a,vs,h1,e _ _ h2,DenL.mono e h3,h4⟩
 | .dct _ _,_,⟨a,ob,vs,h1,h2,h3,h4⟩=>⟨a,ob,vs,h1,e _ _ h2,DenL.mono e h3,h4⟩
 | .dci _ _,_,⟨a,ob,vs,h1,h2,h3,h4⟩=>⟨a,ob,vs,h1,e _ _ h2,DenL.mono e h3,h4⟩
theorem DenL.mono(e:Same F F'):∀{ds:List D}{vs:List V},DenL K F ds vs->DenL K F' ds vs
 |[],_,h=>h
 |_::_,_,⟨v,r,h1,h2,h3⟩=>⟨v,r,h1,Den.mono e h2,DenL.mono e h3⟩
end
theorem DenL.nil:DenL K F [] []:=rfl
theorem DenL.cons(h:Den K F d v)(r:DenL K F ds vs):DenL K F (d::ds) (v::vs):=⟨v,vs,rfl,h,r⟩
theorem DenL.len:∀{ds:List D}{vs:List V},DenL K F ds vs->ds.length=vs.length
 |[],_,h=>by cases (show _=_ from h);rfl
 |_::ds,_,⟨v,r,h1,_,h3⟩=>by subst h1;rw[Zz,Zz,DenL.len h3]
theorem DenL.get:∀{ds:List D}{vs:List V}{i:Nat}{d:D},DenL K F ds vs->ds[i]? =some d->∃v,vs[i]? =some v/\Den K F d v
 |[],_,_,_,_,e=>by simp at e
 |d::ds,_,0,_,⟨v,r,h1,h2,h3⟩,e=>by subst h1;simp at e;subst e;exact⟨v,rfl,h2⟩
 |d::ds,_,i+1,_,⟨v,r,h1,h2,h3⟩,e=>by
  subst h1;obtain⟨w,e1,e2⟩:=DenL.get h3 (by simpa using e);exact⟨w,by simpa using e1,e2⟩
theorem DenL.at:∀{ds:List D}{vs:List V}{i:Nat}{v:V},DenL K F ds vs->vs[i]? =some v->∃d,ds[i]? =some d/\Den K F d v
 |[],_,_,_,h,e=>by cases (show _=_ from h);simp at e
 |d::ds,_,0,_,⟨v,r,h1,h2,h3⟩,e=>by subst h1;simp at e;subst e;exact⟨d,rfl,h2⟩
 |d::ds,_,i+1,_,⟨v,r,h1,h2,h3⟩,e=>by
  subst h1;obtain⟨w,e1,e2⟩:=DenL.at h3 (by simpa using e);exact⟨w,by simpa using e1,e2⟩
theorem DenL.append:∀{ds es:List D}{vs ws:List V},DenL K F ds vs->DenL K F es ws->DenL K F (ds++es) (vs++ws)
 |[],_,_,_,h,h'=>by cases (show _=_ from h);exact h'
 |d::ds,_,_,_,⟨v,r,h1,h2,h3⟩,h'=>by subst h1;exact⟨v,_,rfl,h2,DenL.append h3 h'⟩
theorem DenL.take:∀{ds:List D}{vs:List V}(n:Nat),DenL K F ds vs->DenL K F (ds.take n) (vs.take n)
 |_,_,0,_=>by simp[List.take];rfl
 |[],_,_+1,h=>by cases (show _=_ from h);rfl
 |d::ds,_,n+1,⟨v,r,h1,h2,h3⟩=>by subst h1;exact⟨v,_,rfl,h2,DenL.take n h3⟩
theorem DenL.drop:∀{ds:List D}{vs:List V}(n:Nat),DenL K F ds vs->DenL K F (ds.drop n) (vs.drop n)
 |_,_,0,h=>by simpa using h
 |[],_,_+1,h=>by cases (show _=_ from h);rfl
 |d::ds,_,n+1,⟨v,r,h1,h2,h3⟩=>by subst h1;exact DenL.drop n h3
theorem DenL.ints(ns:List Int):DenL K F (ns.map D.int) (ns.map V.int):=by
 induction ns with
 |nil=>rfl
 |cons n ns ih=>exact .cons rfl ih
end
structure Ext (F H F' H':Hp):Prop where
 hh:Same H H'
 ff:Same F F'
 fh:Same F' H'
 new:∀a,H a≠none->F' a=F a\/∃ts,H a=some (.tup ts)
theorem Ext.old(e:Ext F H F' H')(h:H a=some o)(hn:∀ts,o≠ .tup ts):F' a=F a:=by
 rcases e.new a (by rw[h];exact λz=>nomatch z) with q | ⟨ts,q⟩
 ·exact q
 ·rw[h] at q;cases q;exact agj rfl (hn ts)
theorem Ext.refl(h:Same F H):Ext F H F H:=⟨Same.refl _,Same.refl _,h,λ_ _=> .inl rfl⟩
theorem Ext.trans(a:Ext F H F' H')(b:Ext F' H' F'' H''):Ext F H F'' H'':=
 ⟨a.hh.trans b.hh,a.ff.trans b.ff,b.fh,λc hc=>by
  have:H' c≠none:=by
   cases q:H c with
   |none=>exact agj q hc
   |some o=>rw[a.hh c o q];exact λz=>nomatch z
  rcases a.new c hc with p | p
  ·rcases b.new c this with q | ⟨ts,q⟩
   ·exact .inl (q.trans p)
   ·cases z:H c with
    |none=>exact agj z hc
    |some o=>
     rw[a.hh c o z] at q;exact .inr ⟨ts,q⟩
  ·exact .inr p⟩
theorem Ext.lay(h:Same F H)(n:H a=none):Ext F H (upd F a o) (upd H a o):=by
 have nf:F a=none:=Same.free h n;refine⟨λb u e=>?_,λb u e=>?_,λb u e=>?_,λb hb=>?_⟩
 ·rw[ax (bx e n)];exact e
 ·rw[ax (bx e nf)];exact e
 ·by_cases q:b=a
  ·subst q;rw[aJ] at e⊢;exact e
  ·rw[ax q] at e⊢;exact h b u e
 ·exact .inl (ax λz=>hb (by rw[z];exact n))
theorem Ext.free(h:Same F H)(n:H a=none):Ext F H F (upd H a o):=
 ⟨λb u e=>by rw[ax (bx e n)];exact e,Same.refl _,λb u e=>by rw[ax (bx (h b u e) n)];exact h b u e,λ_ _=> .inl rfl⟩
theorem Ext.tup(h:Same F H)(e:H a=some (.tup ts)):Ext F H (upd F a (.tup ts)) H:=by
 refine⟨Same.refl _,λb u q=>?_,λb u q=>?_,λb hb=>?_⟩
 ·by_cases z:b=a
  ·subst z;rw[aJ,<-e];exact h b u q
  ·rw[ax z];exact q
 ·by_cases z:b=a
  ·subst z;rw[aJ] at q;rw[e];exact q
  ·rw[ax z] at q;exact h b u q
 ·by_cases z:b=a
  ·subst z;exact .inr ⟨ts,e⟩
  ·exact .inl (ax z)
def WP(K:ZE)(Xw:Nat->Hp->Prop)(F H:Hp)(m:M D)(Q:VK):Prop:=
 match m with
 |none=>False
 |some (.ok d)=>∀v H' F',Ext F H F' H'->Den K F' d v->Q v H'
 |some (.ex n)=>∀F' H',Ext F H F' H'->Xw n H'
def WPL(K:ZE)(Xw:Nat->Hp->Prop)(F H:Hp)(m:M (List D))(Q:List V->Hp->Prop):Prop:=
 match m with
 |none=>False
 |some (.ok ds)=>∀vs H' F',Ext F H F' H'->DenL K F' ds vs->Q vs H'
 |some (.ex n)=>∀F' H',Ext F H F' H'->Xw n H'
def WPB(Xw:Nat->Hp->Prop)(F H:Hp)(m:M Bool)(Q:Bool->Hp->Prop):Prop:=
 match m with
 |none=>False
 |some (.ok b)=>∀H' F',Ext F H F' H'->Q b H'
 |some (.ex n)=>∀F' H',Ext F H F' H'->Xw n H'
section
variable{K:ZE}{Xw:Nat->Hp->Prop}{F F' H H':Hp}{Q:VK}
theorem WP.ext(e:Ext F H F' H')(h:WP K Xw F H m Q):WP K Xw F' H' m Q:=by
 match m,h with
 |none,h=>exact h
 |some (.ok d),h=>exact λv H2 F2 e2 q=>h v H2 F2 (e.trans e2) q
 |some (.ex n),h=>exact λF2 H2 e2=>h F2 H2 (e.trans e2)
theorem WPL.ext{Q:List V->Hp->Prop}(e:Ext F H F' H')(h:WPL K Xw F H m Q):WPL K Xw F' H' m Q:=by
 match m,h with
 |none,h=>exact h
 |some (.ok d),h=>exact λv H2 F2 e2 q=>h v H2 F2 (e.trans e2) q
 |some (.ex n),h=>exact λF2 H2 e2=>h F2 H2 (e.trans e2)
theorem WPB.ext{Q:Bool->Hp->Prop}(e:Ext F H F' H')(h:WPB Xw F H m Q):WPB Xw F' H' m Q:=by
 match m,h with
 |none,h=>exact h
 |some (.ok d),h=>exact λH2 F2 e2=>h H2 F2 (e.trans e2)
 |some (.ex n),h=>exact λF2 H2 e2=>h F2 H2 (e.trans e2)
theorem WP.fin(h:WP K Xw F H (ae d) Q)(e:Ext F H F' H')(q:Den K F' d v):Q v H':=h v H' F' e q
theorem WP.now(h:WP K Xw F H (ae d) Q)(s:Same F H)(q:Den K F d v):Q v H:=h v H F (Ext.refl s) q
theorem WP.bind(h:WP K Xw F H (m>>=k) Q):WP K Xw F H m λv H1=>∃F1 d,Ext F H F1 H1/\Den K F1 d v/\WP K Xw F1 H1 (k d) Q:=by
 match m,h with
 |none,h=>exact h
 |some (.ok d),h=>exact λv H2 F2 e2 q=>⟨F2,d,e2,q,WP.ext e2 (show WP K Xw F H (k d) Q from h)⟩
 |some (.ex n),h=>exact h
theorem WP.bindL(h:WP K Xw F H (m>>=k) Q):WPL K Xw F H m λvs H1=>∃F1 ds,Ext F H F1 H1/\DenL K F1 ds vs/\WP K Xw F1 H1 (k ds) Q:=by
 match m,h with
 |none,h=>exact h
 |some (.ok d),h=>exact λv H2 F2 e2 q=>⟨F2,d,e2,q,WP.ext e2 (show WP K Xw F H (k d) Q from h)⟩
 |some (.ex n),h=>exact h
theorem WP.bindB(h:WP K Xw F H (m>>=k) Q):WPB Xw F H m λb H1=>∃F1,Ext F H F1 H1/\WP K Xw F1 H1 (k b) Q:=by
 match m,h with
 |none,h=>exact h
 |some (.ok d),h=>exact λH2 F2 e2=>⟨F2,e2,WP.ext e2 (show WP K Xw F H (k d) Q from h)⟩
 |some (.ex n),h=>exact h
theorem WPB.bind{Q:Bool->Hp->Prop}(h:WPB Xw F H (m>>=k) Q):WP K Xw F H m λv H1=>∃F1 d,Ext F H F1 H1/\Den K F1 d v/\WPB Xw F1 H1 (k d) Q:=by
 match m,h with
 |none,h=>exact h
 |some (.ok d),h=>exact λv H2 F2 e2 q=>⟨F2,d,e2,q,WPB.ext e2 (show WPB Xw F H (k d) Q from h)⟩
 |some (.ex n),h=>exact h
theorem WPB.bindB{Q:Bool->Hp->Prop}(h:WPB Xw F H (m>>=k) Q):WPB Xw F H m λb H1=>∃F1,Ext F H F1 H1/\WPB Xw F1 H1 (k b) Q:=by
 match m,h with
 |none,h=>exact h
 |some (.ok d),h=>exact λH2 F2 e2=>⟨F2,e2,WPB.ext e2 (show WPB Xw F H (k d) Q from h)⟩
 |some (.ex n),h=>exact h
theorem WPL.bind{Q:List V->Hp->Prop}(h:WPL K Xw F H (m>>=k) Q):WP K Xw F H m λv H1=>∃F1 d,Ext F H F1 H1/\Den K F1 d v/\WPL K Xw F1 H1 (k d) Q:=by
 match m,h with
 |none,h=>exact h
 |some (.ok d),h=>exact λv H2 F2 e2 q=>⟨F2,d,e2,q,WPL.ext e2 (show WPL K Xw F H (k d) Q from h)⟩
 |some (.ex n),h=>exact h
theorem WPL.bindL{Q:List V->Hp->Prop}(h:WPL K Xw F H (m>>=k) Q):WPL K Xw F H m λvs H1=>∃F1 ds,Ext F H F1 H1/\DenL K F1 ds vs/\WPL K Xw F1 H1 (k ds) Q:=by
 match m,h with
 |none,h=>exact h
 |some (.ok d),h=>exact λv H2 F2 e2 q=>⟨F2,d,e2,q,WPL.ext e2 (show WPL K Xw F H (k d) Q from h)⟩
 |some (.ex n),h=>exact h
theorem WP.mono(h:WP K Xw F H m Q)(k:∀v H',Q v H'->Q' v H'):WP K Xw F H m Q':=by
 match m,h with
 |none,h=>exact h
 |some (.ok d),h=>exact λv H2 F2 e2 q=>k _ _ (h v H2 F2 e2 q)
 |some (.ex n),h=>exact h
theorem WPL.mono{Q Q':List V->Hp->Prop}(h:WPL K Xw F H m Q)(k:∀v H',Q v H'->Q' v H'):WPL K Xw F H m Q':=by
 match m,h with
 |none,h=>exact h
 |some (.ok d),h=>exact λv H2 F2 e2 q=>k _ _ (h v H2 F2 e2 q)
 |some (.ex n),h=>exact h
theorem WPB.mono{Q Q':Bool->Hp->Prop}(h:WPB Xw F H m Q)(k:∀v H',Q v H'->Q' v H'):WPB Xw F H m Q':=by
 match m,h with
 |none,h=>exact h
 |some (.ok d),h=>exact λH2 F2 e2=>k _ _ (h H2 F2 e2)
 |some (.ex n),h=>exact h
end
inductive C where
 |lst (l:List D) | dct (ks:List (List Key)) (l:List D) | dci (ks:List Key) (l:List D)
def C.d:C->D
 | .lst ds=> .lst ds
 | .dct ks ds=> .dct ks ds
 | .dci ks ds=> .dci ks ds
inductive Sl where
 |fz (d:D) | ow (c:C)
abbrev cJ:=List (Option Sl)
def DenC(K:ZE)(F:Hp):C->HO->Prop
 | .lst ds,o=>∃vs,o= .lst vs/\DenL K F ds vs/\ds.length<=lim
 | .dct ks ds,o=>∃vs,o= .dT (ks.zip vs)/\DenL K F ds vs/\ks.length=ds.length/\ds.length<=lim
 | .dci ks ds,o=>∃vs,o= .dK (ks.zip vs)/\DenL K F ds vs/\ks.length=ds.length/\ds.length<=lim
theorem DenC.mono{K:ZE}(e:Same F F'):∀{c:C}{o:HO},DenC K F c o->DenC K F' c o
 | .lst _,_,⟨vs,h1,h2,h3⟩=>⟨vs,h1,DenL.mono e h2,h3⟩
 | .dct _ _,_,⟨vs,h1,h2,h3⟩=>⟨vs,h1,DenL.mono e h2,h3⟩
 | .dci _ _,_,⟨vs,h1,h2,h3⟩=>⟨vs,h1,DenL.mono e h2,h3⟩
theorem DenC.notup{K:ZE}:∀{c:C}{o:HO},DenC K F c o->∀ts,o≠ .tup ts
 | .lst _,_,⟨_,h1,_⟩,ts,z=>by rw[h1] at z;cases z
 | .dct _ _,_,⟨_,h1,_⟩,ts,z=>by rw[h1] at z;cases z
 | .dci _ _,_,⟨_,h1,_⟩,ts,z=>by rw[h1] at z;cases z
def qe(ob:Obj):HO->HO
 | .dT aB=> .frz ob (.dT aB)
 | .dK aB=> .frz ob (.dK aB)
 |o=>o
theorem DenC.den{K:ZE}:∀{c:C}{o:HO},DenC K F c o->Same F F'->F' a=some (qe ob o)->Den K F' c.d (.ref a)
 | .lst _,_,⟨vs,h1,h2,h3⟩,e,q=>by subst h1;exact⟨a,vs,rfl,q,DenL.mono e h2,h3⟩
 | .dct _ _,_,⟨vs,h1,h2,h3⟩,e,q=>by subst h1;exact⟨a,ob,vs,rfl,q,DenL.mono e h2,h3⟩
 | .dci _ _,_,⟨vs,h1,h2,h3⟩,e,q=>by subst h1;exact⟨a,ob,vs,rfl,q,DenL.mono e h2,h3⟩
def DenO(K:ZE)(F H:Hp):Sl->V->Prop
 | .fz d,v=>Den K F d v
 | .ow c,v=>∃a o,v= .ref a/\H a=some o/\F a=none/\DenC K F c o
structure StE (K:ZE) (F H:Hp) (σ:St) (ρ:cJ):Prop where
 fh:Same F H
 den:∀(i:Nat) (sl:Sl),ρ[i]? =some (some sl)->∃v,σ[i]? =some (some v)/\DenO K F H sl v
theorem DenO.ext{K:ZE}(e:Ext F H F' H'):∀{sl:Sl}{v:V},DenO K F H sl v->DenO K F' H' sl v
 | .fz _,_,h=>Den.mono e.ff h
 | .ow _,_,⟨a,o,h1,h2,h3,h4⟩=>⟨a,o,h1,e.hh _ _ h2,by rw[e.old h2 h4.notup];exact h3,DenC.mono e.ff h4⟩
theorem StE.ext{K:ZE}(s:StE K F H σ ρ)(e:Ext F H F' H'):StE K F' H' σ ρ:=
 ⟨e.fh,λi sl q=>let ⟨v,h1,h2⟩:=s.den i sl q;⟨v,h1,h2.ext e⟩⟩
abbrev DE:=cJ->M D
abbrev DT:=cJ->M Bool
abbrev DA:=cJ->M (List D)
def tD(K:ZE)(Xw:Nat->Hp->Prop)(δ:DE):TE:=λσ H Q=>∃F ρ,StE K F H σ ρ/\WP K Xw F H (δ ρ) Q
def U7(K:ZE)(Xw:Nat->Hp->Prop)(δ:DT):TT:=λσ H Q=>∃F ρ,StE K F H σ ρ/\WPB Xw F H (δ ρ) Q
def WC(K:ZE)(Xw:Nat->Hp->Prop)(δ:DA):TA:=λσ H Q=>∃F ρ,StE K F H σ ρ/\WPL K Xw F H (δ ρ) Q
def PD(X:Cx)(Xw:Nat->Hp->Prop)(e:Expr)(δ:DE):Prop:=PE X e (tD X.K Xw δ)
def qu(X:Cx)(Xw:Nat->Hp->Prop)(e:Expr)(δ:DT):Prop:=PT X e (U7 X.K Xw δ)
def gL(X:Cx)(Xw:Nat->Hp->Prop)(es:List Expr)(δ:DA):Prop:=PA X es (WC X.K Xw δ)
theorem PE.weak(h:PE X e t)(k:∀σ H Q,t' σ H Q->t σ H Q):PE X e t':=λf8 s σ H Q I w=>h f8 s σ H Q I (k σ H Q w)
theorem PT.weak(h:PT X e t)(k:∀σ H Q,t' σ H Q->t σ H Q):PT X e t':=λf8 s σ H Q I w=>h f8 s σ H Q I (k σ H Q w)
theorem PA.weak(h:PA X e t)(k:∀σ H Q,t' σ H Q->t σ H Q):PA X e t':=λpos f8 s σ H Q I w=>h pos f8 s σ H Q I (k σ H Q w)
def dV(i:Nat):DE:=λρ=>match ρ[i]? with
 |some (some (.fz d))=>ae d
 |_=>ag
def dC(d:D):DE:=λ_=>ae d
def d1(g:D->M D)(a:DE):DE:=λρ=>a ρ>>=g
def d2(g:D->D->M D)(a b:DE):DE:=λρ=>a ρ>>=λx=>b ρ>>=λy=>g x y
def aN:DA:=λ_=>ae []
def aC(a:DE)(r:DA):DA:=λρ=>a ρ>>=λx=>r ρ>>=λxs=>ae (x::xs)
def dA(g:List D->M D)(a:DA):DE:=λρ=>a ρ>>=g
def FL:D->M Bool
 | .bl b=>ae b
 |_=>ag
def cI(a:DE):DT:=λρ=>a ρ>>=FL
def lY(a b:DT):DT:=λρ=>a ρ>>=λx=>if x then b ρ else ae false
def oq(a b:DT):DT:=λρ=>a ρ>>=λx=>if x then ae true else b ρ
def eV(a:DT):DT:=λρ=>a ρ>>=λx=>ae (!x)
def Vt(c:DT)(a b:DE):DE:=λρ=>c ρ>>=λx=>if x then a ρ else b ρ
def fY(a b:DE):DE:=λρ=>a ρ>>=λx=>FL x>>=λc=>if c then b ρ else ae (.bl false)
def JS(a b:DE):DE:=λρ=>a ρ>>=λx=>FL x>>=λc=>if c then ae (.bl true) else b ρ
def L8(a:DE):DE:=λρ=>a ρ>>=λx=>FL x>>=λc=>ae (.bl (!c))
section
variable{X:Cx}{Xw:Nat->Hp->Prop}{a b:Expr}{δa δb:DE}{pos:Pos}
theorem af(h:PE X (.Name x pos) (tu i)):PD X Xw (.Name x pos) (dV i):=PE.weak h λσ H Q ⟨F,ρ,s,w⟩=>by
 unfold dV at w;split at w
 ·rename_i d e;obtain⟨v,h1,h2⟩:=s.den i _ e;exact⟨v,h1,WP.now w s.fh h2⟩
 ·exact w.elim
theorem ja(h:PE X e (tC v))(hd:∀F,Den X.K F d v):PD X Xw e (dC d):=PE.weak h λσ H Q ⟨F,ρ,s,w⟩=>WP.now w s.fh (hd F)
theorem ak:PD X Xw (.Constant (.int i) j pos) (dC (.int i)):=ja OI λ_=>rfl
theorem eT:PD X Xw (.Constant (.bool i) j pos) (dC (.bl i)):=ja Rq λ_=>rfl
theorem H_:PD X Xw (.Constant .none j pos) (dC .non):=ja OJ λ_=>rfl
theorem cf(h:x.length<=lim:=by decide):PD X Xw (.Constant (.str x) j pos) (dC (.str x)):=ja OM λ_=>⟨rfl,h⟩
def yz(K:ZE)(r:R2)(g:D->D->M D):Prop:=∀(Xw:Nat->Hp->Prop) (F H:Hp) (x y:V) (dx dy:D) (Q:VK),Same F H->Den K F dx x->Den K F dy y->WP K Xw F H (g dx dy) Q->r x y H Q
theorem yf(hg:yz X.K r g):∀σ H Q,tD X.K Xw (d2 g δa δb) σ H Q->RZ r (tD X.K Xw δa) (tD X.K Xw δb) σ H Q:=λσ H Q ⟨F,ρ,s,w⟩=>by
 refine⟨F,ρ,s,WP.mono (WP.bind w) λv H1 ⟨F1,d,e1,q1,w1⟩=>?_⟩;refine⟨F1,ρ,s.ext e1,WP.mono (WP.bind w1) λu H2 ⟨F2,d',e2,q2,w2⟩=>?_⟩;exact hg Xw F2 H2 v u d d' Q e2.fh (Den.mono e2.ff q1) q2 w2
theorem nG(ho:OpR X (acv op) r)(hg:yz X.K r g)(ha:PD X Xw a δa)(hb:PD X Xw b δb):PD X Xw (.BinOp a op b pos) (d2 g δa δb):=
 PE.weak (Rr ho ha hb) (yf hg)
theorem BU(ho:OpR X (aas op) r)(hg:yz X.K r g)(ha:PD X Xw a δa)(hb:PD X Xw b δb)(hm:aaB op b=false:=by first | exact HC _ | rfl):PD X Xw (.Compare a [op] [b] pos) (d2 g δa δb):=
 PE.weak (K9 ho ha hb hm) (yf hg)
theorem g_(ho:OpR X (aas op) r)(hg:yz X.K r g)(ha:PD X Xw a δa)(hb:PD X Xw b δb)(hm:aaB op b=false:=by first | exact HC _ | rfl):qu X Xw (.Compare a [op] [b] pos) (cI (d2 g δa δb)):=
 PT.weak (Lj ho ha hb hm) λσ H Q ⟨F,ρ,s,w⟩=>by
  refine yf hg σ H _ ⟨F,ρ,s,WP.mono (WPB.bind w) λv H1 ⟨F1,d,e1,q1,w1⟩=>?_⟩;cases d with
  |bl k=>exact⟨k,q1,w1 _ _ (Ext.refl e1.fh)⟩
  |_=>exact w1.elim
theorem DI(hr:PM X r)(hg:yz X.K r g)(ha:PD X Xw a δa)(hb:PD X Xw b δb)(hs:jo b:=by intro _ _;rfl):PD X Xw (.Subscript a b pos) (d2 g δa δb):=
 PE.weak (MA hr ha hb hs) (yf hg)
theorem ah:gL X Xw [] aN:=PA.weak sH λσ H Q ⟨F,ρ,s,w⟩=>w [] H F (Ext.refl s.fh) rfl
theorem aa(ha:PD X Xw a δa)(hr:gL X Xw es δs)(hs:ZF (a::es) X.env=(false,eval a X.env)::ZF es X.env:=by rfl):gL X Xw (a::es) (aC δa δs):=
 PA.weak (nB ha hr hs) λσ H Q ⟨F,ρ,s,w⟩=>by
  refine⟨F,ρ,s,WP.mono (WPL.bind w) λv H1 ⟨F1,d,e1,q1,w1⟩=>?_⟩;refine⟨F1,ρ,s.ext e1,WPL.mono (WPL.bindL w1) λvs H2 ⟨F2,ds,e2,q2,w2⟩=>?_⟩;exact w2 _ _ _ (Ext.refl e2.fh) (.cons (Den.mono e2.ff q1) q2)
def aQ(ds:List D):M D:=if ds.length<=lim then ae (.tup ds) else ag
def bN(ds:List D):M D:=if ds.length<=lim then ae (.lst ds) else ag
theorem BD{f:List D->D}(w:WP X.K Xw F H (if ds.length<=lim then ae (f ds) else ag) Q):ds.length<=lim/\WP X.K Xw F H (ae (f ds)) Q:=by
 split at w
 ·rename_i h;exact⟨h,w⟩
 ·exact w.elim
theorem bB(h:gL X Xw es δs):PD X Xw (.Tuple es x1 pos) (dA aQ δs):=PE.weak (ON h) λσ H Q ⟨F,ρ,s,w⟩=>by
 refine⟨F,ρ,s,WPL.mono (WP.bindL w) λvs H1 ⟨F1,ds,e1,q1,w1⟩=>?_⟩;obtain⟨hl,w1⟩:=BD w1;have hv:=q1.len;refine⟨by have:=d_;omega,λp hp=>WP.fin w1 (Ext.lay e1.fh hp) ⟨p,vs,rfl,aJ,DenL.mono (Ext.lay e1.fh hp).ff q1,hl⟩⟩
theorem dm(h:gL X Xw es δs):PD X Xw (.List es pos) (dA bN δs):=PE.weak (BY h) λσ H Q ⟨F,ρ,s,w⟩=>by
 refine⟨F,ρ,s,WPL.mono (WP.bindL w) λvs H1 ⟨F1,ds,e1,q1,w1⟩=>?_⟩;obtain⟨hl,w1⟩:=BD w1;have hv:=q1.len;refine⟨by have:=d_;omega,λp hp=>WP.fin w1 (Ext.lay e1.fh hp) ⟨p,vs,rfl,aJ,DenL.mono (Ext.lay e1.fh hp).ff q1,hl⟩⟩
end
def ItD(K:ZE)(F:Hp)(J:It)(ds:List D):Prop:=∀(F' H':Hp) (i:Nat),Same F F'->Same F' H'->
 (∀d,ds[i]? =some d->J.go i H'/\∀x H'',J.yld i H' x H''->∃F'',Ext F' H' F'' H''/\Den K F'' d x)/\(ds.length<=i->J.stop i H')
theorem ItD.mono{K:ZE}(h:ItD K F J ds)(e:Same F F1):ItD K F1 J ds:=λF' H' i s1 s2=>h F' H' i (e.trans s1) s2
def WPI(K:ZE)(Xw:Nat->Hp->Prop)(F H:Hp)(m:M (List D))(R:It->Hp->Prop):Prop:=
 match m with
 |none=>False
 |some (.ok ds)=>∀J H' F',Ext F H F' H'->ItD K F' J ds->R J H'
 |some (.ex n)=>∀F' H',Ext F H F' H'->Xw n H'
def YU(K:ZE)(Xw:Nat->Hp->Prop)(δ:DA):TI:=λσ H R=>∃F ρ,StE K F H σ ρ/\WPI K Xw F H (δ ρ) R
def Cu(X:Cx)(Xw:Nat->Hp->Prop)(tg iter:Expr)(δ:DA):Prop:=PI X tg iter (YU X.K Xw δ)
theorem PI.weak{X:Cx}(h:PI X tg e t)(k:∀σ H Q,t' σ H Q->t σ H Q):PI X tg e t':=λf8 s σ H Q I w=>h f8 s σ H Q I (k σ H Q w)
theorem WPI.bind{K:ZE}(h:WPI K Xw F H (m>>=k) R):
 WP K Xw F H m λv H1=>∃F1 d,Ext F H F1 H1/\Den K F1 d v/\WPI K Xw F1 H1 (k d) R:=by
 match m,h with
 |none,h=>exact h
 |some (.ok d),h=>
  refine λv H2 F2 e2 q=>⟨F2,d,e2,q,?_⟩
  have h:WPI K Xw F H (k d) R:=h;show WPI K Xw F2 H2 (k d) R
  match k d,h with
  |none,h=>exact h
  |some (.ok ds),h=>exact λJ H3 F3 e3 q3=>h J H3 F3 (e2.trans e3) q3
  |some (.ex n),h=>exact λF3 H3 e3=>h F3 H3 (e2.trans e3)
 |some (.ex n),h=>exact h
theorem WPI.bindL{K:ZE}(h:WPI K Xw F H (m>>=k) R):
 WPL K Xw F H m λv H1=>∃F1 d,Ext F H F1 H1/\DenL K F1 d v/\WPI K Xw F1 H1 (k d) R:=by
 match m,h with
 |none,h=>exact h
 |some (.ok d),h=>
  refine λv H2 F2 e2 q=>⟨F2,d,e2,q,?_⟩
  have h:WPI K Xw F H (k d) R:=h;show WPI K Xw F2 H2 (k d) R
  match k d,h with
  |none,h=>exact h
  |some (.ok ds),h=>exact λJ H3 F3 e3 q3=>h J H3 F3 (e2.trans e3) q3
  |some (.ex n),h=>exact λF3 H3 e3=>h F3 H3 (e2.trans e3)
 |some (.ex n),h=>exact h
def lstM:D->M (List D)
 | .lst ds=>ae ds
 |_=>ag
def Vg:D->M (List D)
 | .tup ds=>ae ds
 |_=>ag
def cK(a:DE):DA:=λρ=>a ρ>>=lstM
def lj(a:DE):DA:=λρ=>a ρ>>=Vg
theorem Hd{K:ZE}(h:SqL K F a vs)(hd:DenL K F ds vs):ItD K F (SX K a) ds:=λF' H' i s1 s2=>by
 have hs:=Same.seq s2 (Same.seq s1 h);refine⟨λd e=>?_,λhl=>⟨vs,hs,by rw[<-hd.len];exact hl⟩⟩;obtain⟨v,e1,q⟩:=hd.get e;refine⟨⟨vs,v,hs,e1⟩,λx H'' y=>?_⟩;obtain⟨e2,y⟩:=y;subst e2;have:=y vs hs;rw[e1] at this;cases this;exact⟨F',Ext.refl s2,Den.mono s1 q⟩
theorem Kp{K:ZE}(h:SqT K F a vs)(hd:DenL K F ds vs):ItD K F (SY K a) ds:=λF' H' i s1 s2=>by
 have hs:=Same.tup s2 (Same.tup s1 h);refine⟨λd e=>?_,λhl=>⟨vs,hs,by rw[<-hd.len];exact hl⟩⟩;obtain⟨v,e1,q⟩:=hd.get e;refine⟨⟨vs,v,hs,e1⟩,λx H'' y=>?_⟩;obtain⟨e2,y⟩:=y;subst e2;have:=y vs hs;rw[e1] at this;cases this;exact⟨F',Ext.refl s2,Den.mono s1 q⟩
def iz(lo:Int)(n:Nat):List D:=(ZX n).map λ(i:Nat)=>D.int (lo+(i:Int))
theorem vc{K:ZE}{F:Hp}(lo:Int)(n:Nat):ItD K F (PL lo n) (iz lo n):=λF' H' i s1 s2=>by
 refine⟨λd e=>?_,λhl=>show n<=i by simpa[iz] using hl⟩;unfold iz at e;rw[ZJ] at e;have hi:i<n:=by
  by_cases hi:i<n
  ·exact hi
  ·rw[adC (by simpa using hi)] at e;cases e
 rw[afF hi] at e;cases e;refine⟨hi,λx H'' y=>?_⟩;obtain⟨e2,y⟩:=y;subst e2 y;exact⟨F',Ext.refl s2,rfl⟩
section
variable{X:Cx}{Xw:Nat->Hp->Prop}{tg l:Expr}{δ:DE}{pos:Pos}
theorem bc(h:PD X Xw l δ):Cu X Xw tg l (cK δ):=PI.weak (La h) λσ H R ⟨F,ρ,s,w⟩=>by
 refine⟨F,ρ,s,WP.mono (WPI.bind w) λv H1 ⟨F1,d,e1,q1,w1⟩=>?_⟩;cases d with
 |lst ds=>
  obtain⟨a,vs,h1,h2,h3,h4⟩:=q1;exact⟨a,h1,⟨vs,Same.seq e1.fh (SqL.of h2)⟩,w1 _ _ _ (Ext.refl e1.fh) (Hd (SqL.of h2) h3)⟩
 |_=>exact w1.elim
theorem jH(h:PD X Xw l δ):Cu X Xw tg l (lj δ):=PI.weak (OR h) λσ H R ⟨F,ρ,s,w⟩=>by
 refine⟨F,ρ,s,WP.mono (WPI.bind w) λv H1 ⟨F1,d,e1,q1,w1⟩=>?_⟩;cases d with
 |tup ds=>
  obtain⟨a,vs,h1,h2,h3,h4⟩:=q1;exact⟨a,h1,⟨vs,Same.tup e1.fh (SqT.of h2)⟩,w1 _ _ _ (Ext.refl e1.fh) (Kp (SqT.of h2) h3)⟩
 |_=>exact w1.elim
def dD:List D->M (List D)
 |[.int j]=>if -4096<=j/\j<=4096 then ae (iz 0 j.toNat) else ag
 |_=>ag
def kA:List D->M (List D)
 |[.int i, .int j]=>if (-4096<=i/\i<=4096)/\(-4096<=j/\j<=4096) then ae (iz i (j - i).toNat) else ag
 |_=>ag
theorem DenL.one{K:ZE}(h:DenL K F [d] vs):∃v,vs=[v]/\Den K F d v:=by
 obtain⟨v,r,h1,h2,h3⟩:=h;cases (show r=[] from h3);exact⟨v,h1,h2⟩
theorem DenL.two{K:ZE}(h:DenL K F [d,d'] vs):∃v v',vs=[v,v']/\Den K F d v/\Den K F d' v':=by
 obtain⟨v,r,h1,h2,h3⟩:=h;obtain⟨v',h4,h5⟩:=h3.one;subst h4;exact⟨v,v',h1,h2,h5⟩
theorem bJ{a:Expr}(hg:Gl X "range")(hm:X.mg "range"=none)(ha:gL X Xw [a] δs)(hs:ZF [a] X.env=[(false,eval a X.env)]:=by rfl):Cu X Xw tg (.Call (.Name "range" p) [a] [] pos) (λρ=>δs ρ>>=dD):=
 PI.weak (Fm hg hm ha hs) λσ H R ⟨F,ρ,s,w⟩=>by
  refine⟨F,ρ,s,WPL.mono (WPI.bindL w) λvs H1 ⟨F1,ds,e1,q1,w1⟩=>?_⟩;unfold dD at w1;split at w1
  ·rename_i j;obtain⟨v,h1,h2⟩:=q1.one;cases (show v=_ from h2);split at w1
   ·exact⟨j,h1,by omega,by omega,w1 _ _ _ (Ext.refl e1.fh) (vc 0 _)⟩
   ·exact w1.elim
  ·exact w1.elim
theorem jG{a b:Expr}(hg:Gl X "range")(hm:X.mg "range"=none)(ha:gL X Xw [a,b] δs)(hs:ZF [a,b] X.env=[(false,eval a X.env),(false,eval b X.env)]:=by rfl)
 (NO:ZF [b] X.env=[(false,eval b X.env)]:=by rfl):Cu X Xw tg (.Call (.Name "range" p) [a,b] [] pos) (λρ=>δs ρ>>=kA):=
 PI.weak (Fo hg hm ha hs NO) λσ H R ⟨F,ρ,s,w⟩=>by
  refine⟨F,ρ,s,WPL.mono (WPI.bindL w) λvs H1 ⟨F1,ds,e1,q1,w1⟩=>?_⟩;unfold kA at w1;split at w1
  ·rename_i i j;obtain⟨v,v',h1,h2,h3⟩:=q1.two;cases (show v=_ from h2);cases (show v'=_ from h3);split at w1
   ·exact⟨i,j,h1,⟨by omega,by omega,by omega,by omega⟩,w1 _ _ _ (Ext.refl e1.fh) (vc i _)⟩
   ·exact w1.elim
  ·exact w1.elim
end
def b9(tg N:List Str):List Str:=N.map λy=>if tg.contains y then y++(" ":Str) else y
def ly(X:Cx)(scope:Scope)(tn:List Str)(f8:List (Addr×Obj))(cl:List (Str×Addr))(C:Addr)(fp:List Addr)(v4:Zt)(H:Hp):Cx:=
 {X with N:=tn++b9 tn X.N,ago:=v4,agn:=H,env:=compEnvC scope cl C X.env,outer:=X.stack,ex:=fp,fn:=λ_=>false,pn:=X.pn++f8,xe:=λ_ _=>False}
structure CompSc (X:Cx) (scope:Scope) (tn:List Str):Prop where
 kind:scope.kind= .function
 nocell:∀y∈scope.names,y.2≠ .cell
 names:∀y∈scope.names,y.2= .local->scope.names.lookup y.1=some .local
 frees:∀y∈scope.names,y.2= .free->X.env.kindOf y.1=some .cell\/X.env.kindOf y.1=some .free
 vis:∀p∈(b9 tn X.N).zip X.N,scope.names.lookup p.1=none\/(p.1=p.2/\scope.names.lookup p.1=some .free)
theorem lX{env:Env}:∀(names:List (Str×adg)) (u8:List (Str×Addr)),(∀y∈names,y.2= .free->∃c,env.cells.lookup y.1=some c)->
 (∀x c,u8.lookup x=some c->env.cells.lookup x=some c)->
 ∃cl,(forIn names u8 (λ(x:Str×adg) (r:List (Str×Addr))=>do
   let __x:=x
   if (__x.2==af8)=true then do let c<-cellOf env __x.1;pure (aaG ((__x.1,c)::r)) else pure (aaG r)):Sem (List (Str×Addr)))=pure cl/\
  (∀x c,cl.lookup x=some c->env.cells.lookup x=some c)/\(∀x c,u8.lookup x=some c->∃c',cl.lookup x=some c')/\(∀x,names.lookup x=some .free->∃c,cl.lookup x=some c)
 |[],u8,_,h2=>⟨u8,rfl,h2,λx c e=>⟨c,e⟩,λx e=>by simp at e⟩
 |(n,k)::r,u8,h1,h2=>by
  by_cases hk:k= .free
  ·subst hk;obtain⟨c,hc⟩:=h1 (n, .free) Zq rfl;obtain⟨cl,e,a1,a2,a3⟩:=lX r ((n,c)::u8) (λy hy=>h1 y (Zp _ hy)) (λx c' q=>by
    rw[abp] at q;split at q
    ·rename_i hx;cases q;rw[show x=n from by simpa using hx];exact hc
    ·exact h2 x c' q)
   refine⟨cl,?_,a1,λx c' q=>?_,λx q=>?_⟩
   ·rw[aeq];have:cellOf env n=pure c:=by unfold cellOf;rw[hc]
    simp only[beq_self_eq_true,if_true,this,pure_bind];exact e
   ·by_cases hx:x=n
    ·subst hx;exact a2 x c (by simp[abp])
    ·exact a2 x c' (by rw[abp,show (x==n)=false from by simpa using hx];exact q)
   ·rw[abp] at q;split at q
    ·rename_i hx;exact a2 x c (by rw[abp,hx])
    ·exact a3 x q
  ·obtain⟨cl,e,a1,a2,a3⟩:=lX r u8 (λy hy=>h1 y (Zp _ hy)) h2;refine⟨cl,?_,a1,a2,λx q=>?_⟩
   ·rw[aeq];have:((k==af8)=true)=False:=by simpa using hk
    simp only[this,if_false,pure_bind];exact e
   ·rw[abp] at q;split at q
    ·cases q;exact agj rfl hk
    ·exact a3 x q
theorem qU{scope:Scope}(h:∀y∈scope.names,y.2= .free->∃c,env.cells.lookup y.1=some c):
 ∃cl,closureFor scope env=pure cl/\(∀x c,cl.lookup x=some c->env.cells.lookup x=some c)/\(∀x,scope.names.lookup x=some .free->∃c,cl.lookup x=some c):=by
 obtain⟨cl,e,a1,_,a3⟩:=lX scope.names [] h (λx c q=>by simp at q);refine⟨cl,?_,a1,a3⟩;unfold closureFor;show (forIn scope.names [] _>>=λr=>pure r)=_;rw[bind_pure];exact e
def noex:M α->M α
 |some (.ok a)=>some (.ok a)
 |_=>none
def d8(f:D->M (Option D)):List D->M (List D)
 |[]=>ae []
 |d::ds=>f d>>=λo=>d8 f ds>>=λr=>ae (match o with | some y=>y::r | none=>r)
def WD(n:Nat):D->M (List D):=λd=>match n,d with
 |0,d=>ae [d]
 |n, .tup ds=>if ds.length=n then ae ds else ag
 |_,_=>ag
def gx(n:Nat)(δt:DT)(δe:DE)(ρ:cJ):D->M (Option D):=λd=>
 WD n d>>=λts=>δt (ts.map (λt=>some (Sl.fz t))++ρ)>>=λb=>if b then δe (ts.map (λt=>some (Sl.fz t))++ρ)>>=λy=>ae (some y) else ae none
def bb(n:Nat)(δi:DA)(δt:DT)(δe:DE):DE:=λρ=>δi ρ>>=λds=>noex (d8 (gx n δt δe ρ) ds)>>=bN
def bC:DT:=λ_=>ae true
theorem cT(f:D->M (Option D))(d:D)(ds:List D):d8 f (d::ds)=(f d>>=λo=>d8 f ds>>=λr=>ae (match o with | some y=>y::r | none=>r)):=rfl
theorem Ba(hd:ds[i]? =some d)
 (h:d8 f ds=(d8 f (ds.drop i)>>=λr=>ae (ys++r)))(hR:d8 f ds=ae R):
 ∃o,f d=ae o/\d8 f ds=(d8 f (ds.drop (i+1))>>=λr=>ae ((match o with | some y=>ys++[y] | none=>ys)++r)):=by
 have e:ds.drop i=d::ds.drop (i+1):=by
  obtain⟨hi,e⟩:=ZI.mp hd;rw[aeI hi,e]
 rw[e,cT] at h;have h':=h.symm.trans hR;obtain⟨r,h1,h2⟩:=jq h';obtain⟨o,h3,h4⟩:=jq h1;refine⟨o,h3,?_⟩;obtain⟨r',h5,h6⟩:=jq h4;rw[h5,hR];rw[<-h2,<-hZ h6];show ae _=ae _;cases o with
 |none=>rfl
 |some y=>simp
theorem Aj(x:HOk P w H h1)(s:abe a h1 h2)(n:H a=none):HOk P w H h2:=λb o e=>by
 refine(x b o e).stay (λc v hc q=>(s.2 c ?_).trans q) (λ_ q=>q) λ_ _ q=>q;rintro rfl;rcases hc with rfl | hc
 ·rw[n] at e;cases e
 ·rw[n] at hc;cases hc
theorem Ep(I:Nat->Zt->Prop)
 (turn:∀n s,I n s->wpAny (model prog w) A (ads it) (λr v6=>match r with
  |none=>R (.ok .next) v6
  |some v=>wpAny (model prog w) A (adS target it v) (λ_ WB=>wpAny (model prog w) A (assign target env v) (λ_ v4=>
    wpAny (model prog w) A (forIn ifs true λc r=>if r=true then do let ok<-isTrue c env (eval c env);pure (aaG ok) else pure (aaG r)) (λok s₃=>
     if ok=true then wpAny (model prog w) A (eval elt env) (λx s₄=>
      wpAny (model prog w) A (call (.builtin "list.append") [u8,x]) (λ_ s₅=>∃m,m<n/\I m s₅) (afM (model prog w) A env λe s'=>R (.error e) s') s₄) (afM (model prog w) A env λe s'=>R (.error e) s') s₃
     else∃m,m<n/\I m s₃) (afM (model prog w) A env λe s'=>R (.error e) s') v4) (afM (model prog w) A env λe s'=>R (.error e) s') WB) (afM (model prog w) A env λe s'=>R (.error e) s') v6) (afM (model prog w) A env λe s'=>R (.error e) s') s)
 (n:Nat) (h:I n s):
 acF (model prog w) A (.compLoop (.ListComp elt [⟨target,iter,ifs,0⟩] scope pos) 0 it u8 env) R s:=by
 refine codeAny_loop rfl I (λn s hI=>?_) n h;show wpAny _ A ((compTurn (.ListComp elt [⟨target,iter,ifs,0⟩] scope pos) 0 it u8 env).onRaise (λx=>do noteFrame x env;theTreesLotGoes x)) _ _ s;refine wpAny_noted ?_;rw[compTurn_list];refine Zn (wpAny_standAt (Zn (aaF (turn n s hI) (λr v6 h₁=>?_) λ_ _ h'=>h')));cases r with
 |none=>exact Zs h₁
 |some v=>
  refine Zn (aaF h₁ (λ_ WB h₁=>?_) λ_ _ h'=>h');refine Zn (aaF h₁ (λ_ v4 h₂=>Zn (aaF h₂ (λok s₃ h₃=>?_) λ_ _ h'=>h')) λ_ _ h'=>h');cases ok with
  |false=>exact Zs ⟨rfl,h₃⟩
  |true=>
   exact Zn (Zn (aaF h₃ (λx s₄ h₄=>Zn (aaF h₄ (λ_ s₅ h₅=>Zs (Zs ⟨rfl,h₅⟩)) λ_ _ h'=>h')) λ_ _ h'=>h'))
def FW(X:Cx)(tg:Expr)(n:Nat)(σ:St):Prop:=∀(f8:List (Addr×Obj)) (s:Zt) (σ':St) (F H:Hp) (d:D) (ts:List D) (v:V) (u:Value),Inv X f8 σ' H s->Same F H->σ'.drop (max n 1)=σ->RelV v u->Den X.K F d v->WD n d=ae ts->
 wpAny (model X.prog X.w) X.A (assign tg X.env u) (λ_ s'=>∃vs,Inv X f8 (vs.map some++σ) H s'/\DenL X.K F ts vs) X.xe s
def n9(X:Cx)(ifs:List Expr)(δt:DT):Prop:=∀(f8:List (Addr×Obj)) (s:Zt) (σ:St) (H:Hp) (Q:Bool->Hp->Prop),Inv X f8 σ H s->U7 X.K (λ_ _=>False) δt σ H Q->
 wpAny (model X.prog X.w) X.A (forIn ifs true λc r=>if r=true then do let ok<-isTrue c X.env (eval c X.env);pure (aaG ok) else pure (aaG r)) (TP X f8 σ Q) X.xe s
theorem bM:n9 X [] bC:=λf8 s σ H Q I ⟨F,ρ,S,w⟩=>wpAny_tests_nil ⟨H,I,w H F (Ext.refl S.fh)⟩
theorem kL(h:qu X (λ_ _=>False) c δ):n9 X [c] δ:=λf8 s σ H Q I w=>wpAny_tests_one (h f8 s σ H Q I w)
theorem StE.cons{K:ZE}(s:StE K F H σ ρ)(h:DenL K F ts vs):StE K F H (vs.map some++σ) (ts.map (λt=>some (Sl.fz t))++ρ):=by
 refine⟨s.fh,λi sl e=>?_⟩;have hl:=h.len;by_cases hi:i<ts.length
 ·rw[aac (by simpa using hi),ZJ] at e;cases q:ts[i]? with
  |none=>rw[q] at e;cases e
  |some t=>
   rw[q] at e;cases e;obtain⟨v,e1,e2⟩:=h.get q;exact⟨v,by rw[aac (by simp;omega),ZJ,e1];rfl,e2⟩
 ·rw[aam (by simpa using hi)] at e;obtain⟨v,e1,e2⟩:=s.den _ _ e;refine⟨v,?_,e2⟩;rw[aam (by simp;omega)];simpa[hl] using e1
theorem WPB.take:WPB Xw F H (ae b) λb' H'=>b'=b/\∃F',Ext F H F' H':=λH' F' e=>⟨rfl,F',e⟩
theorem WP.take{K:ZE}:WP K Xw F H (ae d) λv H'=>∃F',Ext F H F' H'/\Den K F' d v:=λv H' F' e q=>⟨F',e,q⟩
def oU(env:Env)(p:Str×adg):Str×adg:=if (p.2== .free&&env.scope.kind== .function&&env.kindOf p.1==some .cell) then(p.1, .cell) else(p.1,p.2)
theorem iy(scope:Scope)(env:Env):(relabel scope env).names=scope.names.map (oU env):=rfl
theorem II(env:Env)(p:Str×adg):(oU env p).1=p.1:=by unfold oU;split<;>rfl
theorem jB(env:Env)(x:Str):∀ns:List (Str×adg),(ns.map (oU env)).lookup x=(ns.lookup x).map λk=>(oU env (x,k)).2
 |[]=>rfl
 |(m,k)::r=>by
  rw[Zu,abp,abp];have e:oU env (m,k)=(m,(oU env (m,k)).2):=abx (II env (m,k)) rfl;rw[e]
  dsimp only
  by_cases hx:(x==m)=true
  ·have hm:x=m:=by simpa using hx
   subst hm;rw[hx];rfl
  ·have hx:(x==m)=false:=by simpa using hx
   rw[hx];exact jB env x r
theorem xI(h:scope.names.lookup x=none):(relabel scope env).names.lookup x=none:=by
 rw[iy,jB,h];rfl
theorem xH(hc:∀y∈scope.names,y.2≠ .cell)(h:(relabel scope env).names.lookup x=some .cell\/(relabel scope env).names.lookup x=some .free):scope.names.lookup x=some .free:=by
 rw[iy,jB] at h;cases q:scope.names.lookup x with
 |none=>rw[q] at h;rcases h with h | h<;>cases h
 |some k=>
  rw[q] at h;have hk:k≠ .cell:=hc _ (abg q);have h:(oU env (x,k)).2= .cell\/(oU env (x,k)).2= .free:=by simpa using h
  by_cases hf:k= .free
  ·rw[hf]
  ·have:(oU env (x,k)).2=k:=by
    unfold oU;rw[age];simp[hf]
   rw[this] at h;rcases h with h | h
   ·exact agj h hk
   ·exact agj h hf
theorem oV(h:scope.names.lookup x=some .free):¬(relabel scope env).names.lookup x=some .local:=by
 rw[iy,jB,h];intro z;have z:(oU env (x, .free)).2= .local:=by simpa using z
 unfold oU at z;split at z<;>cases z
structure BlockEnd (X:Cx) (f8:List (Addr×Obj)) (C:Addr) (H':Hp) (s1:Zt):Prop where
 ns:∃m,s1.heap.Ns C m
 free:H' C=none
 nl:C≠X.env.locals
 nw:X.ago.heap.objs.size<=C
 nc:∀x c,X.env.cells.lookup x=some c->c≠C
 np:∀p∈X.pn++f8,p.1≠C
theorem yQ{RR:Value->Addr->Result->Zt->Prop}
 (sc:CompSc X scope tn)(hn:tn.length=max n 1)(hc:X.calm=true)(hi:Cu X Xw tg iter δi)
 (hg:∀f8 cl C fp v4 H σ,FW (ly X scope tn f8 cl C fp v4 H) tg n σ)
 (ht:∀f8 cl C fp v4 H,n9 (ly X scope tn f8 cl C fp v4 H) ifs δt)
 (he:∀f8 cl C fp v4 H,PD (ly X scope tn f8 cl C fp v4 H) (λ_ _=>False) elt δe)
 (I:Inv X f8 σ H s)(S:StE X.K F H σ ρ)(w:WP X.K Xw F H (bb n δi δt δe ρ) Q)
 (cl1:∀x c,cl.lookup x=some c->X.env.cells.lookup x=some c)(Pm:∀x,scope.names.lookup x=some .free->∃c,cl.lookup x=some c)
 (Xd:∀(s1:Zt) (C D:Addr) (H':Hp),Inv X f8 σ H' s1->Q (.ref D) H'->BlockEnd X f8 C H' s1->RR (.ref D) C (.ok .next) s1):
 wpAny (model X.prog X.w) X.A (eval iter X.env) (λx v6=>wpAny (model X.prog X.w) X.A (pyIter x) (λit v4=>wpAny (model X.prog X.w) X.A (newList []) (λu8 s₃=>
  wpAny (model X.prog X.w) X.A (newFunctionEnv scope X.env.globals cl [] X.env.qual none .none (some X.env)) (λPX s₄=>
   acF (model X.prog X.w) X.A (.compStart (.ListComp elt [⟨tg,iter,ifs,0⟩] scope pos) 0 it u8 {PX with scope:=relabel scope X.env}) (RR u8 PX.locals) s₄) X.xe s₃) X.xe v4) X.xe v6) X.xe s:=by
 refine cE (hi f8 s σ H (λJ H2=>∃F2 ds,Ext F H F2 H2/\ItD X.K F2 J ds/\WP X.K Xw F2 H2 (noex (d8 (gx n δt δe ρ) ds)>>=bN) Q) I ⟨F,ρ,S,?_⟩) λxv v6 h₁=>cE h₁ λit v4 h₂=>?_
 ·unfold bb at w;rcases(δi ρ).cs with hq | ⟨m,hq⟩ | ⟨ds,hq⟩
  ·rw[hq] at w;exact w.elim
  ·rw[hq] at w⊢;exact w
  ·rw[hq] at w⊢;exact λJ H' F' e q=>⟨F',ds,e,q,WP.ext e w⟩
 obtain⟨ia,fp,WE,J,H2,rfl,I2,T,yx,f2,F2,ds,e2,Wh,w2⟩:=h₂;obtain⟨R,hR,VG,w2⟩:∃R,d8 (gx n δt δe ρ) ds=ae R/\R.length<=lim/\WP X.K Xw F2 H2 (ae (.lst R)) Q:=by
  rcases(d8 (gx n δt δe ρ) ds).cs with hq | ⟨m,hq⟩ | ⟨R,hq⟩
  ·rw[hq] at w2;exact w2.elim
  ·rw[hq] at w2;exact w2.elim
  ·rw[hq] at w2;obtain⟨h1,h2⟩:=BD (show WP X.K Xw F2 H2 (bN R) Q from w2);exact⟨R,hq,h1,h2⟩
 refine ab4 (wpAny_newFunctionEnv sc.nocell (by intro y hy;simp at hy) (λh₁ NG Kj=>?_) sc.kind)
 dsimp only at NG Kj⊢
 generalize Tj:v4.heap.push {cls:= .type "list",dict:=none,data:= .seq ([]:List Value).toArray}=HL at NG Kj⊢;have hC:HL.objs.size=v4.heap.objs.size+1:=by rw[<-Tj,abu]
 have EB:v4.heap.objs.size<HL.objs.size:=by rw[hC];exact abG _
 have old:∀b o,v4.heap.get? b=some o->h₁.get? b=some o:=λb o e=>Kj.extBut b o (ZW (abR (ZG e) EB)) (Zr _ (Tj▸Zr _ e));have zi:h₁.get? v4.heap.objs.size=some {cls:= .type "list",data:= .seq ([]:List Value).toArray}:=Kj.extBut _ _ (ZW EB) (Zr _ (Tj▸ZL _ rfl));have nD:H2 v4.heap.objs.size=none:=I2.hok.fresh (Zv _);have nC:H2 HL.objs.size=none:=I2.hok.fresh (aa5 EB);have gC:v4.heap.get? HL.objs.size=none:=afw (aa5 EB);have fl:∀b∈fp,b<v4.heap.objs.size:=λb hb=>by
  obtain⟨o,e,_⟩:=T.obj 0 _ yx b hb;exact ZG e
 generalize zh:ly X scope tn f8 cl HL.objs.size fp v4 H2=X';have Wx:X'.Ok:=by
  subst zh;refine⟨I2.ok.mod,sc.kind,I2.ok.glob,I2.ok.blt,aa5 EB,λx y c h1 h2=>I2.ok.inj x y c (cl1 _ _ h1) (cl1 _ _ h2),λx hx=>?_,λ_ _ h=>(by cases h),I2.ok.hd,I2.ok.frames, .inl rfl,
   λb hb=>⟨ZW (abR (fl b hb) EB),λx c h=>(f2 b hb).2.2.2.2.1 x c (cl1 _ _ h)⟩,I2.bs,Z2 I2.ok.bsz I2.sz,λb o e hb=>?_,λb hb z=>?_,I2.stack,I2.stkFree⟩
  ·have hx:(relabel scope X.env).names.lookup x=some .cell\/(relabel scope X.env).names.lookup x=some .free:=hx;exact Pm x (xH sc.nocell hx)
  ·rcases(f2 b hb).2.2.2.1 with z | z
   ·exact I2.ok.noex b o e z
   ·exact agj (aaa (ZG (I2.ok.bs b o e).1) z) (aaq _)
  ·rcases Zw.mp (I2.stkSub b z) with q | q
   ·exact(f2 b hb).2.1 q
   ·exact(f2 b hb).2.2.1 q
 have UE:∀b o,H2 b=some o->b≠v4.heap.objs.size:=λb o e=>bx e nD;have Np:∀{H':Hp},(∀b∈fp,H' b=none)->∀b∈fp,tN X' [] H' b:=λX8 b hb=>by
  subst zh;refine⟨X8 b hb,ZW (abR (fl b hb) EB),λz=>Wx.exfs b hb z, .inl hb,λx c h=>(f2 b hb).2.2.2.2.1 x c (cl1 _ _ h),λp hp=>?_⟩;rw[Z_] at hp;exact(f2 b hb).2.2.2.2.2 p hp
 have I0:Inv X' [] (ZH (max n 1) none++σ) (upd H2 v4.heap.objs.size (.lst [])) {v4 with heap:=h₁,toks:=v4.toks+([]:List (Str×Value)).length}:=by
  subst zh;have T8:HOk X.prog X.w (upd H2 v4.heap.objs.size (.lst [])) h₁:=I2.hok.laid old (Zv _) ⟨aae _,[],_, .nil,zi⟩;refine⟨Wx,rfl,I2.bare,Un.laid old (Zv _) nD,⟨_,NG,λi x v h1 h2 h3=>?_⟩,λx c h=>?_,?_,λx c h=>?_,λp hp=>?_,T8,?_⟩
  ·by_cases hi:i<max n 1
   ·rw[aac (by simpa using hi),aaT,agd hi] at h2;cases h2
   ·have qz:tn.length<=i:=by omega
    have h1:(tn++b9 tn X.N)[i]? =some x:=h1;rw[aam qz] at h1;rw[aam (by simpa using hi),adA,<-hn] at h2;have hN:∃y,X.N[i - tn.length]? =some y/\(x,y)∈(b9 tn X.N).zip X.N:=by
     have dO:=(ZI.mp h1).1;have Kh:i - tn.length<X.N.length:=by simpa[b9] using dO
     refine⟨X.N[i - tn.length],Zy Kh,?_⟩;refine List.mem_iff_getElem?.mpr ⟨i - tn.length,?_⟩;rw[List.getElem?_zip_eq_some];exact⟨h1,Zy Kh⟩
    obtain⟨y,hy,hm⟩:=hN;have hV:(relabel scope X.env).names.lookup x=some .local\/(relabel scope X.env).names.lookup x=some .cell\/(relabel scope X.env).names.lookup x=some .free:=h3;rcases sc.vis _ hm with wC | ⟨Uq,FQ⟩
    ·have wC:scope.names.lookup x=none:=wC;have:(relabel scope X.env).names.lookup x=none:=xI wC;rw[this] at hV;rcases hV with z | z | z<;>cases z
    ·have Uq:x=y:=Uq;subst Uq;have FQ:scope.names.lookup x=some .free:=FQ;have hk:=sc.frees (x, .free) (abg FQ) rfl;obtain⟨m,Mn,FR⟩:=I2.loc;obtain⟨u,ru,lk⟩:=FR _ x v hy h2 (by rcases hk with z | z;exact .inr (.inl z);exact .inr (.inr z));refine⟨u,ru, .inr ⟨?_,?_⟩⟩
     ·rcases hV with z | z | z
      ·exact agj z (oV FQ)
      ·exact .inl z
      ·exact .inr z
     ·rcases lk with⟨z,_⟩ | ⟨_,c,VL,GU⟩
      ·rcases hk with q | q
       ·rw[show X.env.kindOf x=some .local from z] at q;cases q
       ·rw[show X.env.kindOf x=some .local from z] at q;cases q
      ·obtain⟨c',Jw⟩:=Pm x FQ;have:=cl1 _ _ Jw;rw[VL] at this;cases this;obtain⟨o,ho,hd⟩:=GU;exact⟨c,Jw,o,old _ _ ho,hd⟩
  ·obtain⟨v,o,ho,hd⟩:=I2.cell x c (cl1 _ _ h);exact⟨v,o,old _ _ ho,hd⟩
  ·show upd H2 v4.heap.objs.size (.lst []) HL.objs.size=none;rw[ax (abQ EB)];exact nC
  ·have Bo:=cl1 _ _ h;obtain⟨v,q⟩:=I2.cell x c Bo;rw[ax (ZW q.lt)];exact I2.freeC x c Bo
  ·rw[Z_] at hp;obtain⟨e,nn,ne,nf,d⟩:=I2.pin p hp;have dO:=ZG e;refine⟨old _ _ e,by rw[ax (ZW dO)];exact nn,ZW (abR dO EB),λz=>?_,d⟩;rcases Zw.mp (I2.stkSub p.1 z) with q | q
   ·exact ne q
   ·exact nf q
  ·show (ZH (max n 1) none++σ).length=(tn++b9 tn X.N).length;rw[ZA,ZA,adA,hn,show (b9 tn X.N).length=X.N.length from by simp[b9],I2.len]
 have loop:∀s₃:Zt,s₃={v4 with heap:=h₁,toks:=v4.toks+([]:List (Str×Value)).length}->
  acF (model X.prog X.w) X.A (.compLoop (.ListComp elt [⟨tg,iter,ifs,0⟩] scope pos) 0 (.ref ia) (.ref v4.heap.objs.size) (compEnvC scope cl HL.objs.size X.env))
   (RR (.ref v4.heap.objs.size) HL.objs.size) s₃:=by
  intro s₃ Ym;have Gz:X'.env=compEnvC scope cl HL.objs.size X.env:=by subst zh;rfl
  have hA:X'.A=X.A:=by subst zh;rfl
  have hP:X'.prog=X.prog:=by subst zh;rfl
  have hw:X'.w=X.w:=by subst zh;rfl
  have hK:X'.K=X.K:=by subst zh;rfl
  have Yx:X'.xe=λ_ _=>False:=by subst zh;rfl
  have Mj:X'.calm=true:=by subst zh;exact hc
  have Sv:X'.fs=iG X.stack:=by subst zh;rfl
  have hex:X'.ex=fp:=by subst zh;rfl
  have W7:X'.agn=H2:=by subst zh;rfl
  have V8:X'.ago=v4:=by subst zh;rfl
  have pass:∀{α:Type}{t:Sem α}{P:α->Zt->Prop}{E':Value->Zt->Prop}{s:Zt},wpAny (model X'.prog X'.w) X'.A t P X'.xe s->wpAny (model X.prog X.w) X.A t P E' s:=λ{α t P E' s} h=>by
   rw[hP,hw,hA,Yx] at h;exact aaF h (λ_ _ q=>q) λ_ _ q=>q.elim
  refine Ep (λm s'=>∃(i:Nat) (F' H':Hp) (vs:List V) (ys:List D) (σt:St),m=ds.length - i/\i<=ds.length/\σt.length=max n 1/\Inv X' [] (σt++σ) H' s'/\WE i s'.heap/\(∀b∈fp,H' b=none)/\Ext F2 H2 F' H'/\
   H' v4.heap.objs.size=some (.lst vs)/\F' v4.heap.objs.size=none/\DenL X.K F' ys vs/\d8 (gx n δt δe ρ) ds=(d8 (gx n δt δe ρ) (ds.drop i)>>=λr=>ae (ys++r))) ?_ ds.length ?_
  ·rintro m s' ⟨i,F',H',vs,ys,σt,rfl,TJ,YC,I',th,Vx,Bf,hD,fD,SG,heq⟩;by_cases dO:i<ds.length
   ·
    obtain⟨d,hd⟩:∃d,ds[i]? =some d:=⟨_,Zy dO⟩
    obtain⟨TF,NQ⟩:=(Wh F' H' i Bf.ff Bf.fh).1 d hd;obtain⟨o,ho,Qt⟩:=Ba hd heq hR;have Ur:ys.length<=lim:=by
     rw[heq] at hR;obtain⟨r,_,hr⟩:=jq hR;rw[<-hZ hr,ZA] at VG;omega
    obtain⟨ts,Yq,ho⟩:=jq ho;refine pass ?_;rw[hP,hw];refine cE (T.item X' hP hw hK Mj i [] s' (σt++σ) H' X'.xe I' (Np Vx) th TF) ?_;rintro r s1 ⟨u,rfl,h1⟩;refine pass ?_;rw[hP,hw];refine cE h1 ?_;rintro _ s2 ⟨x,H3,I3,rx,y3,MF,Sj⟩;obtain⟨F3,Jt,q3⟩:=NQ x H3 y3;have VD:H3 v4.heap.objs.size=some (.lst vs):=Jt.hh _ _ hD;have WU:F3 v4.heap.objs.size=none:=by rw[Jt.old hD (λ_ z=>nomatch z)];exact fD
    have I3':=I3.pinned (Np Sj) (T.obj _ _ MF);have De:∀{σ7:St}{H7:Hp}{s7:Zt},Inv X' ([]++sM fp s2.heap) σ7 H7 s7->WE (i+1) s7.heap/\∀b∈fp,H7 b=none:=λ{σ7 H7 s7} I7=>
     ⟨T.keep _ _ _ MF λb hb o e=>(I7.pin (b,o) (aai _ (aai _ (jC hb e)))).1,λb hb=>by
      obtain⟨o,e,_⟩:=T.obj _ _ MF b hb;exact(I7.pin (b,o) (aai _ (aai _ (jC hb e)))).2.1⟩
    have XB:FW X' tg n σ:=by subst zh;exact hg _ _ _ _ _ _ _
    have Yn:n9 X' ifs δt:=by subst zh;exact ht _ _ _ _ _ _
    have Xq:PD X' (λ_ _=>False) elt δe:=by subst zh;exact he _ _ _ _ _ _
    refine pass ?_;rw[<-Gz];refine cE (XB _ s2 (σt++σ) F3 H3 d ts x u I3' Jt.fh (by rw[<-YC];simp) rx (by rw[hK];exact q3) Yq) ?_;rintro _ s4 ⟨vt,I4,dt⟩;rw[hK] at dt;have S4:StE X.K F3 H3 (vt.map some++σ) (ts.map (λt=>some (Sl.fz t))++ρ):=StE.cons ((S.ext e2).ext (Bf.trans Jt)) dt;obtain⟨b,hb,ho⟩:=jq ho;refine pass ?_
    try rw[<-Gz]
    refine cE (Yn _ s4 _ H3 (λb' H5=>b'=b/\∃F5,Ext F3 H3 F5 H5) I4 ⟨F3,_,by rw[hK];exact S4,by rw[hb];exact WPB.take⟩) ?_;rintro b' s5 ⟨H5,I5,rfl,F5,Ng⟩;have Th:H5 v4.heap.objs.size=some (.lst vs):=Ng.hh _ _ VD;have Vv:F5 v4.heap.objs.size=none:=by rw[Ng.old VD (λ_ z=>nomatch z)];exact WU
    cases b' with
    |false=>
     rw[age Z1] at ho⊢;obtain rfl:=hZ ho;refine⟨ds.length - (i+1),by omega,i+1,F5,H5,vs,ys,vt.map some,rfl,dO,?_,I5.unpinned,(De I5).1,(De I5).2,Bf.trans (Jt.trans Ng),Th,Vv,DenL.mono (Jt.trans Ng).ff SG,Qt⟩;have h1:=I5.len;have h2:=I3.len;rw[ZA] at h1 h2;omega
    |true=>
     rw[agd rfl] at ho⊢;obtain⟨yv,hy,ho⟩:=jq ho;obtain rfl:=hZ ho;refine pass ?_
     try rw[<-Gz]
     refine cE (Xq _ s5 _ H5 (λv H6=>∃F6,Ext F5 H5 F6 H6/\Den X.K F6 yv v) I5 ⟨F5,_,by rw[hK];exact S4.ext Ng,by rw[hy,hK];exact WP.take⟩) ?_;rintro xv s6 ⟨v,H6,I6,rv,F6,Si,qv⟩;have W5:H6 v4.heap.objs.size=some (.lst vs):=Si.hh _ _ Th;have Vw:F6 v4.heap.objs.size=none:=by rw[Si.old Th (λ_ z=>nomatch z)];exact Vv
     have Yt:vs.length<ZQ:=by
      have:=SG.len;have:=d_;omega
     refine pass ?_;refine cE (vk _ s6 _ H6 (.ref v4.heap.objs.size) [v] (.ref v4.heap.objs.size) [xv] (λ_ H7=>H7=upd H6 v4.heap.objs.size (.lst (vs++[v]))) I6 rfl (.cons rv .nil) ⟨_,vs,v,rfl,rfl,W5,Yt,rfl⟩) ?_;rintro _ s7 ⟨_,H7,I7,_,rfl⟩;have WT:Ext F2 H2 F6 (upd H6 v4.heap.objs.size (.lst (vs++[v]))):=by
      have e:=Bf.trans (Jt.trans (Ng.trans Si));refine⟨λb u q=>?_,e.ff,λb u q=>?_,e.new⟩
      ·rw[ax (UE b u q)];exact e.hh b u q
      ·rw[ax (λz=>by rw[z,Vw] at q;cases q)];exact e.fh b u q
     refine⟨ds.length - (i+1),by omega,i+1,F6,_,vs++[v],ys++[yv],vt.map some,rfl,dO,?_,I7.unpinned,(De I7).1,(De I7).2,WT,aJ,Vw,
      DenL.append (DenL.mono (Jt.trans (Ng.trans Si)).ff SG) (.cons qv .nil),Qt⟩
     have h1:=I5.len;have h2:=I3.len;rw[ZA] at h1 h2;omega
   ·
    have hi:i=ds.length:=by omega
    subst hi;rw[List.drop_length] at heq;have Xe:R=ys:=by
     rw[heq] at hR;have hR:ae (ys++[])=ae R:=hR;rw[<-hZ hR,Z_]
    subst Xe;refine pass ?_;rw[hP,hw];refine cE (T.done X' hP hw hK Mj ds.length [] s' (σt++σ) H' X'.xe I' (Np Vx) th ((Wh F' H' ds.length Bf.ff Bf.fh).2 (Zv _))) ?_;rintro r s1 ⟨rfl,I1⟩;obtain⟨m,hm,_⟩:=I1.loc;rw[Gz] at hm;have W3:H' HL.objs.size=none:=by
     have:=I1.free;rw[Gz] at this;exact this
    have u:=I1.base;rw[Sv,hex,W7,V8] at u;have QF:s1.os=v4.os:=by have:=I1.os;rw[V8] at this;exact this
    have Qv:=I1.hok;rw[hP,hw] at Qv;refine Xd s1 HL.objs.size v4.heap.objs.size H' (I2.call' QF u Qv I1.bare (λb hb=>⟨(f2 b hb).2.2.2.1,(f2 b hb).2.1,(f2 b hb).2.2.2.2.1,(f2 b hb).2.2.2.2.2⟩)) ?_
     ⟨⟨m,hm⟩,W3,abQ (abR I2.lt EB),Z2 I2.sz (aa5 EB),λx c q z=>?_,λp hp z=>?_⟩
    rotate_left
    ·obtain⟨v,q'⟩:=I2.cell x c q;exact agj (abR q'.lt EB) (by rw[z];exact aaq _)
    ·exact agj (abR (ZG (I2.pin p hp).1) EB) (by rw[z];exact aaq _)
    refine WP.fin w2 (F':=upd F' v4.heap.objs.size (.lst vs)) ⟨Bf.hh,λb u q=>?_,λb u q=>?_,λa ha=>?_⟩ ⟨_,vs,rfl,aJ,DenL.mono (λb u q=>?_) SG,VG⟩
    ·rw[ax (λz=>by have:=Bf.ff b u q;rw[z,fD] at this;cases this)];exact Bf.ff b u q
    ·by_cases z:b=v4.heap.objs.size
     ·rw[z,aJ] at q;rw[z,hD];exact q
     ·rw[ax z] at q;exact Bf.fh b u q
    ·rcases Bf.new a ha with q | q
     ·exact .inl (by rw[ax (λz=>ha (by rw[z];exact nD))];exact q)
     ·exact .inr q
    ·rw[ax (λz=>by rw[z,fD] at q;cases q)];exact q
  ·rw[Ym];refine⟨0,F2,_,[],[],ZH (max n 1) none,by simp,aae _,by simp,I0,T.keep _ _ _ yx (λb hb o e=>old b o e),λb hb=>?_,⟨λb u q=>?_,Same.refl _,λb u q=>?_,λ_ _=> .inl rfl⟩,aJ,Same.free e2.fh nD,rfl,?_⟩
   ·rw[ax (ZW (fl b hb))];exact(f2 b hb).1
   ·rw[ax (UE b u q)];exact q
   ·rw[ax (UE b u (e2.fh b u q))];exact e2.fh b u q
   ·rw[List.drop_zero];rcases(d8 (gx n δt δe ρ) ds).cs with hq | ⟨m,hq⟩ | ⟨R,hq⟩<;>rw[hq]<;>rfl
 exact codeAny_compStart_list (loop _ rfl) (T.self X.A 0 _ _ _ (T.keep _ _ _ yx (λb hb o e=>old b o e)) (loop _ rfl))
theorem Inv.block{C:Addr}(I:Inv X f8 σ H' s1)(b:BlockEnd X f8 C H' s1)(wD:abe C s1.heap h'):Inv X f8 σ H' {s1 with heap:=h'}:=
 I.turned (λa o ha e=>(wD.2 a ha).trans e) b.free b.nl (.inr b.nw) b.nc b.np
section
variable{X:Cx}{Xw:Nat->Hp->Prop}{elt iter tg:Expr}{ifs:List Expr}{scope:Scope}{pos:Pos}{tn:List Str}{n:Nat}{δi:DA}{δt:DT}{δe:DE}
theorem bY(sc:CompSc X scope tn)(hn:tn.length=max n 1)(hc:X.calm=true)(hi:Cu X Xw tg iter δi)
 (hg:∀f8 cl C fp v4 H σ,FW (ly X scope tn f8 cl C fp v4 H) tg n σ)
 (ht:∀f8 cl C fp v4 H,n9 (ly X scope tn f8 cl C fp v4 H) ifs δt)
 (he:∀f8 cl C fp v4 H,PD (ly X scope tn f8 cl C fp v4 H) (λ_ _=>False) elt δe)
 (hs:∀x,adt iter X.env x=pure x:=by intro _;rfl):
 PD X Xw (.ListComp elt [⟨tg,iter,ifs,0⟩] scope pos) (bb n δi δt δe):=by
 intro f8 s σ H Q I ⟨F,ρ,S,w⟩;obtain⟨cl,GV,cl1,Pm⟩:=qU λy hy hf=>I.ok.has y.1 (sc.frees y hy hf);rw[eval_ListComp];refine afz rfl hs GV sc.kind sc.names (yQ (RR:=λu8 C=>compPost (model X.prog X.w) X.A X.xe none (EP X f8 σ Q) u8 C) sc hn hc hi hg ht he I S w cl1 Pm λs1 C D H' I1 q b=>?_);obtain⟨m,hm⟩:=b.ns;exact⟨m,hm,λh' wD=>⟨.ref D,H',Inv.block I1 b wD,rfl,q⟩⟩
end
inductive Out where
 |nx (ρ:cJ) | rt (d:D)
abbrev DS:=cJ->M Out
structure StOk (K:ZE) (s0 agn F H:Hp) (σ:St) (ρ:cJ):Prop where
 ext:Ext s0 agn F H
 st:StE K F H σ ρ
 len:ρ.length=σ.length
 own:∀(i:Nat) (c:C) (a:Addr),ρ[i]? =some (some (.ow c))->σ[i]? =some (some (.ref a))->agn a=none
 sep:∀(i j:Nat) (c c':C) (a:Addr),ρ[i]? =some (some (.ow c))->ρ[j]? =some (some (.ow c'))->σ[i]? =some (some (.ref a))->σ[j]? =some (some (.ref a))->i=j
def WPS(K:ZE)(Xw:Nat->Hp->Prop)(s0 agn:Hp)(m:M Out)(Dn:Ends):Prop:=
 match m with
 |none=>False
 |some (.ok (.nx ρ))=>∀σ F H,StOk K s0 agn F H σ ρ->Dn.nx σ H
 |some (.ok (.rt d))=>∀v F H,Ext s0 agn F H->Den K F d v->Dn.rt v H
 |some (.ex n)=>∀F H,Ext s0 agn F H->Xw n H
def tS(K:ZE)(Xw:Nat->Hp->Prop)(s0 agn:Hp)(τ:DS):TS:=λDn σ H=>∃F ρ,StOk K s0 agn F H σ ρ/\WPS K Xw s0 agn (τ ρ) Dn
def jm(X:Cx)(Xw:Nat->Hp->Prop)(st:Stmt)(τ:DS):Prop:=∀s0 agn,PS X st (tS X.K Xw s0 agn τ)
def PSDs(X:Cx)(Xw:Nat->Hp->Prop)(st:List Stmt)(τ:DS):Prop:=∀s0 agn,PSs X st (tS X.K Xw s0 agn τ)
theorem PS.weak{st:Stmt}(h:PS X st t)(k:∀D σ H,t' D σ H->t D σ H):PS X st t':=λf8 s σ H D I w=>h f8 s σ H D I (k D σ H w)
theorem PSs.weak{st:List Stmt}(h:PSs X st t)(k:∀D σ H,t' D σ H->t D σ H):PSs X st t':=λf8 s σ H D I w=>h f8 s σ H D I (k D σ H w)
section
variable{K:ZE}{s0 agn F H F' H':Hp}{σ:St}{ρ:cJ}
theorem StOk.ext'(s:StOk K s0 agn F H σ ρ)(e:Ext F H F' H'):StOk K s0 agn F' H' σ ρ:=⟨s.ext.trans e,s.st.ext e,s.len,s.own,s.sep⟩
theorem StOk.set(s:StOk K s0 agn F H σ ρ){d:D}(h:Den K F d v):StOk K s0 agn F H (σ.set i (some v)) (ρ.set i (some (.fz d))):=by
 have hl:=s.len;have get:∀(j:Nat) (sl:Sl),(ρ.set i (some (.fz d)))[j]? =some (some sl)->(j=i/\i<ρ.length/\sl= .fz d)\/(j≠i/\ρ[j]? =some (some sl)):=λj sl e=>by
  by_cases hj:j=i
  ·subst hj;have hi:j<ρ.length:=by
    have:=(ZI.mp e).1;simpa using this
   rw[ZV hi] at e;cases e;exact .inl ⟨rfl,hi,rfl⟩
  ·rw[ZO (aaz hj)] at e;exact .inr ⟨hj,e⟩
 refine⟨s.ext,⟨s.st.fh,λj sl e=>?_⟩,by simp[hl],λj c a e e'=>?_,λj k c c' a e1 e2 e3 e4=>?_⟩
 ·rcases get j sl e with⟨rfl,hi,rfl⟩ | ⟨hj,e⟩
  ·exact⟨v,by rw[ZV (by omega)],h⟩
  ·obtain⟨u,h1,h2⟩:=s.st.den j sl e;exact⟨u,by rw[ZO (aaz hj)];exact h1,h2⟩
 ·rcases get j _ e with⟨_,_,z⟩ | ⟨hj,e⟩
  ·cases z
  ·rw[ZO (aaz hj)] at e';exact s.own j c a e e'
 ·rcases get j _ e1 with⟨_,_,z⟩ | ⟨hj,e1⟩
  ·cases z
  ·rcases get k _ e2 with⟨_,_,z⟩ | ⟨hk,e2⟩
   ·cases z
   ·rw[ZO (aaz hj)] at e3;rw[ZO (aaz hk)] at e4;exact s.sep j k c c' a e1 e2 e3 e4
theorem StOk.setNew(s:StOk K s0 agn F H σ ρ){o:HO}(n:H a=none)(h:DenC K F c₀ o):
 StOk K s0 agn F (upd H a o) (σ.set i (some (.ref a))) (ρ.set i (some (.ow c₀))):=by
 have hle:=s.len;have e0:=Ext.free (o:=o) s.st.fh n;have nF:F a=none:=Same.free s.st.fh n;have get:∀(j:Nat) (sl:Sl),(ρ.set i (some (.ow c₀)))[j]? =some (some sl)->(j=i/\i<ρ.length/\sl= .ow c₀)\/(j≠i/\ρ[j]? =some (some sl)):=λj sl e=>by
  by_cases hj:j=i
  ·subst hj;have hi:j<ρ.length:=by
    have:=(ZI.mp e).1;simpa using this
   rw[ZV hi] at e;cases e;exact .inl ⟨rfl,hi,rfl⟩
  ·rw[ZO (aaz hj)] at e;exact .inr ⟨hj,e⟩
 have old:∀(j:Nat) (c:C) (b:Addr),ρ[j]? =some (some (.ow c))->σ[j]? =some (some (.ref b))->b≠a:=λj c b e e' z=>by
  obtain⟨u,h1,b',o,h2,h3,_⟩:=s.st.den j _ e;rw[h1] at e';cases e';cases h2;rw[z,n] at h3;cases h3
 refine⟨s.ext.trans e0,⟨e0.fh,λj sl e=>?_⟩,by simp[hle],λj c b e e'=>?_,λj k c c' b e1 e2 e3 e4=>?_⟩
 ·rcases get j sl e with⟨rfl,hi,rfl⟩ | ⟨hj,e⟩
  ·exact⟨.ref a,by rw[ZV (by omega)],a,_,rfl,aJ,nF,h⟩
  ·obtain⟨u,h1,h2⟩:=s.st.den j sl e;exact⟨u,by rw[ZO (aaz hj)];exact h1,h2.ext e0⟩
 ·rcases get j _ e with⟨rfl,hi,_⟩ | ⟨hj,e⟩
  ·rw[ZV (by omega)] at e';cases e';exact Same.free s.ext.hh n
  ·rw[ZO (aaz hj)] at e';exact s.own j c b e e'
 ·rcases get j _ e1 with⟨rfl,hi,_⟩ | ⟨hj,e1⟩
  ·rw[ZV (by omega)] at e3;cases e3;rcases get k _ e2 with⟨rfl,_,_⟩ | ⟨hk,e2⟩
   ·rfl
   ·rw[ZO (aaz hk)] at e4;exact agj rfl (old k c' a e2 e4)
  ·rcases get k _ e2 with⟨TQ,hi,_⟩ | ⟨hk,e2⟩
   ·rw[TQ,ZV (by omega)] at e4;cases e4;rw[ZO (aaz hj)] at e3;exact agj rfl (old j c a (by assumption) e3)
   ·rw[ZO (aaz hj)] at e3;rw[ZO (aaz hk)] at e4;exact s.sep j k c c' b e1 e2 e3 e4
theorem StOk.chg(s:StOk K s0 agn F H σ ρ){c c₀:C}(hi:ρ[i]? =some (some (.ow c)))(ha:σ[i]? =some (some (.ref a)))(h:DenC K F c₀ o₀):
 StOk K s0 agn F (upd H a o₀) σ (ρ.set i (some (.ow c₀))):=by
 have hle:=s.len;have h0:=s.own i c a hi ha;obtain⟨u,q1,a',o,q2,q3,q4,q5⟩:=s.st.den i _ hi;rw[ha] at q1;cases q1;cases q2;have Mm:i<ρ.length:=(ZI.mp hi).1;have get:∀(j:Nat) (sl:Sl),(ρ.set i (some (.ow c₀)))[j]? =some (some sl)->(j=i/\sl= .ow c₀)\/(j≠i/\ρ[j]? =some (some sl)):=λj sl e=>by
  by_cases hj:j=i
  ·subst hj;rw[ZV Mm] at e;cases e;exact .inl ⟨rfl,rfl⟩
  ·rw[ZO (aaz hj)] at e;exact .inr ⟨hj,e⟩
 have fh:Same F (upd H a o₀):=λb o e=>by
  rw[ax (λz=>by rw[z,q4] at e;cases e)];exact s.st.fh b o e
 refine⟨⟨λb o e=>?_,s.ext.ff,fh,s.ext.new⟩,⟨fh,λj sl e=>?_⟩,by simp[hle],λj c' b e e'=>?_,λj k c1 c2 b e1 e2 e3 e4=>?_⟩
 ·rw[ax (λz=>by rw[z,h0] at e;cases e)];exact s.ext.hh b o e
 ·rcases get j sl e with⟨rfl,rfl⟩ | ⟨hj,e⟩
  ·exact⟨.ref a,ha,a,_,rfl,aJ,q4,h⟩
  ·obtain⟨u,h1,h2⟩:=s.st.den j sl e;refine⟨u,h1,?_⟩;cases sl with
   |fz d=>exact h2
   |ow c'=>
    obtain⟨b,o',r1,r2,r3,r4⟩:=h2;refine⟨b,o',r1,?_,r3,r4⟩;rw[ax (λz=>hj (s.sep j i c' c a e hi (by rw[h1,r1,z]) ha))];exact r2
 ·rcases get j _ e with⟨rfl,_⟩ | ⟨hj,e⟩
  ·rw[ha] at e';cases e';exact h0
  ·exact s.own j c' b e e'
 ·have k1:∃c,ρ[j]? =some (some (.ow c)):=by
   rcases get j _ e1 with⟨rfl,_⟩ | ⟨_,e⟩
   ·exact⟨c,hi⟩
   ·exact⟨_,e⟩
  have k2:∃c,ρ[k]? =some (some (.ow c)):=by
   rcases get k _ e2 with⟨rfl,_⟩ | ⟨_,e⟩
   ·exact⟨c,hi⟩
   ·exact⟨_,e⟩
  obtain⟨_,k1⟩:=k1;obtain⟨_,k2⟩:=k2;exact s.sep j k _ _ b k1 k2 e3 e4
def frz(i:Nat)(ρ:cJ):cJ:=match ρ[i]? with
 |some (some (.ow c))=>ρ.set i (some (.fz c.d))
 |_=>ρ
theorem StOk.frz(s:StOk K s0 agn F H σ ρ)(i:Nat)(obj:Addr->Obj):(∃a o,H a=some o/\DenC K F (ρ[i]?.elim (.lst []) λx=>x.elim (.lst []) λy=>match y with | .ow c=>c | _=> .lst []) o/\σ[i]? =some (some (.ref a))/\StOk K s0 agn (upd F a (qe (obj a) o)) (upd H a (qe (obj a) o)) σ (frz i ρ))\/frz i ρ=ρ:=by
 unfold L3.frz;split
 ·rename_i c₀ hi;have hle:=s.len;obtain⟨u,ha,a,o,rfl,q3,q4,VQ⟩:=s.st.den i _ hi;refine .inl ⟨a,o,q3,by rw[hi];exact VQ,ha,?_⟩;have h0:=s.own i _ a hi ha;have Mm:i<ρ.length:=(ZI.mp hi).1;have ff:Same F (upd F a (qe (obj a) o)):=λb o e=>by rw[ax (λz=>by rw[z,q4] at e;cases e)];exact e
  have fh:Same (upd F a (qe (obj a) o)) (upd H a (qe (obj a) o)):=λb o e=>by
   by_cases z:b=a
   ·rw[z,aJ] at e⊢;exact e
   ·rw[ax z] at e⊢;exact s.st.fh b o e
  have get:∀(j:Nat) (sl:Sl),(ρ.set i (some (.fz c₀.d)))[j]? =some (some sl)->(j=i/\sl= .fz c₀.d)\/(j≠i/\ρ[j]? =some (some sl)):=λj sl e=>by
   by_cases hj:j=i
   ·subst hj;rw[ZV Mm] at e;cases e;exact .inl ⟨rfl,rfl⟩
   ·rw[ZO (aaz hj)] at e;exact .inr ⟨hj,e⟩
  refine⟨⟨λb u q=>?_,s.ext.ff.trans ff,fh,λb hb=>?_⟩,⟨fh,λj sl e=>?_⟩,by simp[hle],λj c' b e e'=>?_,λj k c1 c2 b e1 e2 e3 e4=>?_⟩
  ·rw[ax (λz=>by rw[z,h0] at q;cases q)];exact s.ext.hh b u q
  ·rcases s.ext.new b hb with q | q
   ·exact .inl (by rw[ax (λz=>hb (by rw[z];exact h0))];exact q)
   ·exact .inr q
  ·rcases get j sl e with⟨rfl,rfl⟩ | ⟨hj,e⟩
   ·exact⟨.ref a,ha,DenC.den VQ ff aJ⟩
   ·obtain⟨u,h1,h2⟩:=s.st.den j sl e;refine⟨u,h1,?_⟩;cases sl with
    |fz d=>exact Den.mono ff h2
    |ow c'=>
     obtain⟨b,o',r1,r2,r3,r4⟩:=h2;have iV:b≠a:=λz=>hj (s.sep j i c' _ a e hi (by rw[h1,r1,z]) ha);exact⟨b,o',r1,by rw[ax iV];exact r2,by rw[ax iV];exact r3,DenC.mono ff r4⟩
  ·rcases get j _ e with⟨_,z⟩ | ⟨hj,e⟩
   ·cases z
   ·exact s.own j c' b e e'
  ·rcases get j _ e1 with⟨_,z⟩ | ⟨_,e1⟩
   ·cases z
   ·rcases get k _ e2 with⟨_,z⟩ | ⟨_,e2⟩
    ·cases z
    ·exact s.sep j k _ _ b e1 e2 e3 e4
 ·exact .inr rfl
end
def join(F H:Hp):Hp:=λa=>match F a with
 |some o=>some o
 |none=>H a
theorem StOk.rebase{K:ZE}{s0 agn F H:Hp}(s:StOk K s0 agn F H σ ρ):StOk K F (join F agn) F H σ ρ/\∀F' H',Ext F (join F agn) F' H'->Ext s0 agn F' H':=by
 have hj:Same (join F agn) H:=λb o e=>by
  unfold join at e;cases q:F b with
  |some u=>rw[q] at e;cases e;exact s.st.fh b _ q
  |none=>rw[q] at e;exact s.ext.hh b o e
 have h0:Same agn (join F agn):=λb o e=>by
  unfold join;cases q:F b with
  |some u=>
   have h1:=s.st.fh b u q;rw[s.ext.hh b o e] at h1;exact h1.symm
  |none=>exact e
 refine⟨⟨⟨hj,Same.refl _,s.st.fh,λ_ _=> .inl rfl⟩,s.st,s.len,λi c a e e'=>?_,s.sep⟩,λF' H' x=>⟨h0.trans x.hh,s.ext.ff.trans x.ff,x.fh,λa ha=>?_⟩⟩
 ·have h1:=s.own i c a e e';obtain⟨v,q1,a',o,q2,q3,q4,_⟩:=s.st.den i _ e;rw[e'] at q1;cases q1;cases q2;unfold join;rw[q4];exact h1
 ·have:join F agn a≠none:=by
   cases q:agn a with
   |none=>exact agj q ha
   |some o=>rw[h0 a o q];exact λz=>nomatch z
  rcases s.ext.new a ha with p | p
  ·rcases x.new a this with q | ⟨ts,q⟩
   ·exact .inl (q.trans p)
   ·cases z:agn a with
    |none=>exact agj z ha
    |some o=>
     rw[h0 a o z] at q;exact .inr ⟨ts,q⟩
  ·exact .inr p
theorem StOk.unbase{K:ZE}{s0 agn F U F' H':Hp}(k:∀F' H',Ext F U F' H'->Ext s0 agn F' H')(s:StOk K F U F' H' σ ρ)(h:Same agn U):StOk K s0 agn F' H' σ ρ:=
 ⟨k _ _ s.ext,s.st,s.len,λi c a e e'=>Same.free h (s.own i c a e e'),s.sep⟩
theorem EO{K:ZE}{s0 agn F H:Hp}(s:StOk K s0 agn F H σ ρ):Same agn (join F agn):=λb o e=>by
 unfold join;cases q:F b with
 |some u=>
  have h1:=s.st.fh b u q;rw[s.ext.hh b o e] at h1;exact h1.symm
 |none=>exact e
theorem Inv.refrz(I:Inv X f8 σ H s)(e:H a=some o)
 (ho:o'=o\/∃u,o'= .frz ((s.heap.get? a).getD {cls:= .none,data:= .fields #[]}) u/\((∃k,o= .dT k/\u= .dT k)\/∃k,o= .dK k/\u= .dK k)):Inv X f8 σ (upd H a o') s:=by
 rcases ho with rfl | ⟨u,rfl,hu⟩
 ·have:upd H a o'=H:=by
   funext b;by_cases z:b=a
   ·rw[z,aJ,e]
   ·rw[ax z]
  rw[this];exact I
 have X_:o=u:=by rcases hu with⟨k,h1,h2⟩ | ⟨k,h1,h2⟩<;>rw[h1,h2]
 subst X_;have nt:∀ts,o≠ .tup ts:=λts z=>by rcases hu with⟨k,h1,_⟩ | ⟨k,h1,_⟩<;>rw[h1] at z<;>cases z
 have nf:∀ob v,o≠ .frz ob v:=λob v z=>by rcases hu with⟨k,h1,_⟩ | ⟨k,h1,_⟩<;>rw[h1] at z<;>cases z
 have nb:∀p,o≠ .tbl p:=λp z=>by rcases hu with⟨k,h1,_⟩ | ⟨k,h1,_⟩<;>rw[h1] at z<;>cases z
 have no:∀p,o≠ .own p:=λp z=>by rcases hu with⟨k,h1,_⟩ | ⟨k,h1,_⟩<;>rw[h1] at z<;>cases z
 have ne:∀b,H b=none->b≠a:=λb hb z=>by rw[z,e] at hb;cases hb
 have hk:=I.hok a o e;have dO:=hk.lt;obtain⟨ob,QD⟩:∃ob,s.heap.get? a=some ob:=by
  rcases hu with⟨k,h1,_⟩ | ⟨k,h1,_⟩
  ·subst h1;obtain⟨_,_,_,_,ob,_,_,q,_⟩:=hk;exact⟨ob,q⟩
  ·subst h1;obtain⟨_,_,_,_,ob,_,_,q,_⟩:=hk;exact⟨ob,q⟩
 rw[QD];refine⟨I.ok,I.os,I.bare,⟨I.base.keep,I.base.slot,λb q h1 h2 h3=>?_,I.base.there,λb xs q=>?_,λb q1 v q=>?_,λb ps q=>?_⟩,I.loc,I.cell,?_,λx c q=>?_,λp hp=>?_,λb v q=>?_,I.len⟩
 ·have:=I.base.free b q h1 h2 h3;rw[ax (ne b this)];exact this
 ·have:=I.base.tups b xs q;rw[ax (λz=>by rw[z,e] at this;exact nt xs (Z4 this))];exact this
 ·have:=I.base.frzs b q1 v q;rw[ax (λz=>by rw[z,e] at this;exact nf _ _ (Z4 this))];exact this
 ·obtain⟨m,this⟩:=I.base.tbls b ps q;exact⟨m,by rw[ax (λz=>by rw[z,e] at this;exact nb _ (Z4 this))];exact this⟩
 ·rw[ax (ne _ I.free)];exact I.free
 ·rw[ax (ne _ (I.freeC x c q))];exact I.freeC x c q
 ·obtain⟨h1,h2,h3⟩:=I.pin p hp;exact⟨h1,by rw[ax (ne _ h2)];exact h2,h3⟩
 ·have st:∀{c:Addr}{v:HO},ObjOk X.prog X.w H s.heap c v->ObjOk X.prog X.w (upd H a (.frz ob o)) s.heap c v:=λ{c v} k=>k.stay (λ_ _ _ q=>q)
   (λc' q=>by rw[ax (λz=>by rw[z,e] at q;exact no _ (Z4 q))];exact q) λc' xs q=>by rw[ax (λz=>by rw[z,e] at q;exact nt _ (Z4 q))];exact q
  by_cases z:b=a
  ·subst z;rw[show (some ob).getD _=ob from rfl,aJ] at q;cases q;exact⟨QD,st hk⟩
  ·rw[ax z] at q;exact st (I.hok b v q)
def aF(a b:DS):DS:=λρ=>a ρ>>=λo=>match o with | .nx ρ'=>b ρ' | .rt d=>ae (.rt d)
def dr:DS:=λρ=>ae (.nx ρ)
def bE(δ:DE):DS:=λρ=>δ ρ>>=λd=>ae (.rt d)
def uv(δ:DE):DS:=λρ=>δ ρ>>=λ_=>ae (.nx ρ)
def a_(i:Nat)(δ:DE):DS:=λρ=>δ ρ>>=λd=>ae (.nx (ρ.set i (some (.fz d))))
def gK(c:DT)(a b:DS):DS:=λρ=>c ρ>>=λx=>if x then a ρ else b ρ
def uw(i:Nat)(a:DS):DS:=λρ=>a (frz i ρ)
def qo(i:Nat):DS:=λρ=>ae (.nx (ρ.set i (some (.ow (.lst [])))))
def Fh(ρ:cJ)(i:Nat):Option (List D):=match ρ[i]? with
 |some (some (.ow (.lst ds)))=>some ds
 |_=>none
theorem vo{i:Nat}(h:Fh ρ i=some ds):ρ[i]? =some (some (.ow (.lst ds))):=by
 unfold Fh at h;split at h
 ·rename_i ds' e;cases h;exact e
 ·cases h
def nN(i:Nat)(δ:DE):DS:=λρ=>match Fh ρ i with
 |some ds=>δ ρ>>=λd=>if ds.length<lim then ae (.nx (ρ.set i (some (.ow (.lst (ds++[d])))))) else ag
 |none=>ag
def B6(i:Nat)(δ:DE):DS:=λρ=>match Fh ρ i with
 |some ds=>δ ρ>>=λd=>lstM d>>=λes=>if ds.length+es.length<=lim then ae (.nx (ρ.set i (some (.ow (.lst (ds++es)))))) else ag
 |none=>ag
def forL(put:D->cJ->Option cJ)(body:DS):List D->DS
 |[],ρ=>ae (.nx ρ)
 |d::ds,ρ=>(match put d ρ with | none=>ag | some ρ1=>body ρ1>>=λo=>match o with | .nx ρ2=>forL put body ds ρ2 | .rt v=>ae (.rt v))
def putN(i:Nat):D->cJ->Option cJ:=λd ρ=>some (ρ.set i (some (.fz d)))
def cw(put:D->cJ->Option cJ)(δi:DA)(body:DS):DS:=λρ=>δi ρ>>=λds=>forL put body ds ρ
section
variable{X:Cx}{Xw:Nat->Hp->Prop}{s0 agn:Hp}{st:Stmt}{W1:List Stmt}{τ τ':DS}{e:Expr}{δ:DE}{pos:Pos}
theorem bw:PSDs X Xw [] dr:=λs0 agn=>PSs.weak Lh λD σ H ⟨F,ρ,s,w⟩=>w σ F H s
theorem aj(h1:jm X Xw st τ)(h2:PSDs X Xw W1 τ'):PSDs X Xw (st::W1) (aF τ τ'):=λs0 agn=>PSs.weak (Ir (h1 s0 agn) (h2 s0 agn)) λD σ H ⟨F,ρ,s,w⟩=>by
 refine⟨F,ρ,s,?_⟩;unfold aF at w
 match τ ρ,w with
 |none,w=>exact w
 |some (.ok (.nx ρ')),w=>exact λσ' F' H' s'=>⟨F',ρ',s',w⟩
 |some (.ok (.rt d)),w=>exact w
 |some (.ex n),w=>exact w
theorem aq(h1:jm X Xw st τ):PSDs X Xw [st] τ:=λs0 agn=>Li (h1 s0 agn)
theorem cC{i:Nat}(h:jm X Xw st τ):jm X Xw st (uw i τ):=λs0 agn f8 sh σ H D I ⟨F,ρ,s,w⟩=>by
 rcases s.frz i (λa=>(sh.heap.get? a).getD {cls:= .none,data:= .fields #[]}) with⟨a,o,ha,hc,hσ,s'⟩ | e
 ·refine h s0 agn f8 sh σ _ D (L3.Inv.refrz I ha ?_) ⟨_,_,s',w⟩;generalize (ρ[i]?.elim (C.lst []) λx=>x.elim (.lst []) λy=>match y with | .ow c=>c | _=> .lst [])=c at hc;cases c with
  |lst ds=>obtain⟨vs,rfl,_⟩:=hc;exact .inl rfl
  |dct ks ds=>obtain⟨vs,rfl,_⟩:=hc;exact .inr ⟨_,rfl, .inl ⟨_,rfl,rfl⟩⟩
  |dci ks ds=>obtain⟨vs,rfl,_⟩:=hc;exact .inr ⟨_,rfl, .inr ⟨_,rfl,rfl⟩⟩
 ·exact h s0 agn f8 sh σ H D I ⟨F,ρ,s,by unfold uw at w;rw[e] at w;exact w⟩
theorem aK(h:PD X Xw e δ):jm X Xw (.Return (some e) pos) (bE δ):=λs0 agn=>PS.weak (OT h) λD σ H ⟨F,ρ,s,w⟩=>by
 refine⟨F,ρ,s.st,?_⟩;unfold bE at w
 match δ ρ,w with
 |none,w=>exact w
 |some (.ok d),w=>exact λv H' F' e' q=>w v F' H' (s.ext.trans e') q
 |some (.ex n),w=>exact λF' H' e'=>w F' H' (s.ext.trans e')
theorem xC(h:PD X Xw e δ)(hs:adq e none pos.line X.env=pure false:=by rfl):jm X Xw (.Expr e pos) (uv δ):=λs0 agn=>PS.weak (qF h hs) λD σ H ⟨F,ρ,s,w⟩=>by
 refine⟨F,ρ,s.st,?_⟩;unfold uv at w
 match δ ρ,w with
 |none,w=>exact w
 |some (.ok d),w=>exact λv H' F' e' q=>w σ F' H' (s.ext' e')
 |some (.ex n),w=>exact λF' H' e'=>w F' H' (s.ext.trans e')
theorem aE{x:Str}(hN:X.N.Nodup)(hi:X.N[i]? =some x)(hx:Loc X.env.scope x)(he:PD X Xw e δ)(hf:bn X x:=by first | exact .inl rfl | exact .inr rfl)
 (hs:adF [.Name x pos'] e pos.line X.env=pure false:=by rfl):
 jm X Xw (.Assign [.Name x pos'] e pos) (a_ i δ):=λs0 agn=>PS.weak (xB he (aU hN hi hx hf) hs) λD σ H ⟨F,ρ,s,w⟩=>by
 refine⟨F,ρ,s.st,?_⟩;unfold a_ at w
 match δ ρ,w with
 |none,w=>exact w
 |some (.ok d),w=>exact λv H' F' e' q=>w _ F' H' ((s.ext' e').set q)
 |some (.ex n),w=>exact λF' H' e'=>w F' H' (s.ext.trans e')
theorem g9(hN:X.N.Nodup)(qz:X.N[i]? =some x)(hx:Loc X.env.scope x)
 (sc:CompSc X scope tn)(hn:tn.length=max n 1)(hc:X.calm=true)(hi:Cu X Xw tg iter δi)
 (hg:∀f8 cl C fp v4 H σ,FW (ly X scope tn f8 cl C fp v4 H) tg n σ)
 (ht:∀f8 cl C fp v4 H,n9 (ly X scope tn f8 cl C fp v4 H) ifs δt)
 (he:∀f8 cl C fp v4 H,PD (ly X scope tn f8 cl C fp v4 H) (λ_ _=>False) elt δe)
 (hf:bn X x:=by first | exact .inl rfl | exact .inr rfl)
 (Yl:adq (.ListComp elt [⟨tg,iter,ifs,0⟩] scope bq) (some (.Name x pos')) pos.line X.env=pure true:=by rfl)
 (hs:∀x,adt iter X.env x=pure x:=by intro _;rfl):
 jm X Xw (.Assign [.Name x pos'] (.ListComp elt [⟨tg,iter,ifs,0⟩] scope bq) pos) (a_ i (bb n δi δt δe)):=λs0 agn f8 s σ H D I ⟨F,ρ,S,w⟩=>by
 obtain⟨cl,GV,cl1,Pm⟩:=qU λy hy hf=>I.ok.has y.1 (sc.frees y hy hf);have w':WP X.K Xw F H (bb n δi δt δe ρ) (λv H'=>D.nx (σ.set i (some v)) H'):=by
  have w:WPS X.K Xw s0 agn (bb n δi δt δe ρ>>=λd=>ae (.nx (ρ.set i (some (.fz d))))) D:=w
  match bb n δi δt δe ρ,w with
  |none,w=>exact w
  |some (.ok d),w=>exact λv H' F' e' q=>w _ F' H' ((S.ext' e').set q)
  |some (.ex n),w=>exact λF' H' e'=>w F' H' (S.ext.trans e')
 rw[exec_Assign_Name_used _ _ _ _ Yl];refine Zn (wpAny_standAt (Zn ?_));show wpAny _ X.A (do let _<-comprehension (.ListComp elt [⟨tg,iter,ifs,0⟩] scope bq) scope X.env _ (newList []) false (eval iter X.env) (some (assign (.Name x pos') X.env))) _ _ s;refine Zn (aaF (afz rfl hs GV sc.kind sc.names
  (yQ sc hn hc hi hg ht he I S.st w' cl1 Pm λs1 C D' H' I1 q b=>?_)) (λ_ s' hq=>Zs (Zs hq)) λ_ _ e=>e)
 show wpAny _ X.A (assign (.Name x pos') X.env (.ref D')) _ _ _;refine aeu (o5 I1 hN qz hx (v:= .ref D') rfl (λs2 I2 ⟨a,sb,ha⟩=>?_) hf);have W2:C≠a:=by
  rcases ha with z | z
  ·rw[z];exact b.nl
  ·exact aaz (b.nc x a z)
 obtain⟨m,hm⟩:=b.ns;have Mn:s2.heap.Ns C m:=hm.sameBut sb W2;refine⟨m,Mn,λh' wD=>⟨_,H',Inv.block I2 ⟨⟨m,Mn⟩,b.free,b.nl,b.nw,b.nc,b.np⟩ wD,q⟩⟩
theorem bP{a b:List Stmt}(hc:qu X Xw c tc)(ha:PSDs X Xw a τ)(hb:PSDs X Xw b τ'):jm X Xw (.If c a b pos) (gK tc τ τ'):=λs0 agn=>PS.weak (Rw hc (ha s0 agn) (hb s0 agn)) λD σ H ⟨F,ρ,s,w⟩=>by
 refine⟨F,ρ,s.st,?_⟩;unfold gK at w
 match tc ρ,w with
 |none,w=>exact w
 |some (.ok true),w=>exact λH' F' e'=>⟨F',ρ,s.ext' e',w⟩
 |some (.ok false),w=>exact λH' F' e'=>⟨F',ρ,s.ext' e',w⟩
 |some (.ex n),w=>exact λF' H' e'=>w F' H' (s.ext.trans e')
theorem fL{pos' B1:Pos}(hN:X.N.Nodup)(hi:X.N[i]? =some x)(hx:Loc X.env.scope x)(hf:bn X x:=by first | exact .inl rfl | exact .inr rfl):
 jm X Xw (.Assign [.Name x pos'] (.List [] B1) pos) (qo i):=λs0 agn=>PS.weak (xB (BY sH) (aU hN hi hx hf) rfl) λD σ H ⟨F,ρ,s,w⟩=>by
 refine⟨aae _,λp hp=>?_⟩;exact w _ F _ (s.setNew hp ⟨[],rfl,rfl,aae _⟩)
def FV(K:ZE)(g:TG)(put:D->cJ->Option cJ):Prop:=∀(s0 agn F H:Hp) (σ:St) (ρ ρ':cJ) (d:D) (v:V) (Q:St->Hp->Prop),StOk K s0 agn F H σ ρ->Den K F d v->put d ρ=some ρ'->
 (∀σ',StOk K s0 agn F H σ' ρ'->Q σ' H)->g v σ H Q
theorem ba{K:ZE}{i:Nat}:FV K (GL i) (putN i):=λs0 agn F H σ ρ ρ' d v Q s q e k=>by
 cases e;exact k _ (s.set q)
def YX(K:ZE)(Xw:Nat->Hp->Prop)(τ:DS):TS:=λD σ H=>∃s0 agn,tS K Xw s0 agn τ D σ H
theorem PSDs.ex{body:List Stmt}(h:PSDs X Xw body τ):PSs X body (YX X.K Xw τ):=λf8 s σ H D I ⟨s0,agn,w⟩=>h s0 agn f8 s σ H D I w
theorem bp{tg iter:Expr}{body:List Stmt}(hp:PassesOwn (model X.prog X.w) X.A X.env X.xe)(hc:X.calm=true)(hi:Cu X Xw tg iter δi)(hg:PG X tg g)(NM:FV X.K g put)(hb:PSDs X Xw body τ)
 (hs:∀x,adt iter X.env x=pure x:=by intro _;rfl):jm X Xw (.For tg iter body [] pos) (cw put δi τ):=λs0 agn=>PS.weak (OS hp hc hi hg hb.ex hs) λD σ H ⟨F,ρ,s,w⟩=>by
 refine⟨F,ρ,s.st,?_⟩;unfold cw at w
 match δi ρ,w with
 |none,w=>exact w
 |some (.ex n),w=>exact λF' H' e'=>w F' H' (s.ext.trans e')
 |some (.ok ds),w=>
  have w:WPS X.K Xw s0 agn (forL put τ ds ρ) D:=w;intro J H1 F1 e1 Wi;obtain⟨s1,back⟩:=(s.ext' e1).rebase;have hU:=EO (s.ext' e1);generalize join F1 agn=U at s1 back hU;refine⟨λi m σ H=>m=ds.length - i/\i<=ds.length/\∃F ρ,StOk X.K F1 U F H σ ρ/\WPS X.K Xw s0 agn (forL put τ (ds.drop i) ρ) D,⟨ds.length,by simp,aae _,F1,ρ,s1,by simpa using w⟩,?_⟩;rintro i m σ2 H2 ⟨rfl,TJ,F2,ρ2,s2,w2⟩;by_cases dO:i<ds.length
  ·obtain⟨d,hd⟩:∃d,ds[i]? =some d:=⟨_,Zy dO⟩
   obtain⟨TF,NQ⟩:=(Wi F2 H2 i s2.ext.ff s2.st.fh).1 d hd;have ed:ds.drop i=d::ds.drop (i+1):=by
    obtain⟨hi,e⟩:=ZI.mp hd;rw[aeI hi,e]
   rw[ed] at w2;unfold forL at w2;refine .inr ⟨TF,λσ' H'=>∃F' ρ',StOk X.K F1 U F' H' σ' ρ'/\WPS X.K Xw s0 agn (forL put τ (ds.drop (i+1)) ρ') D,λσ' H' ⟨F',ρ',h2,h3⟩=>⟨ds.length - (i+1),by omega,rfl,dO,F',ρ',h2,h3⟩,λx H3 y3=>?_⟩;obtain⟨F3,Jt,q3⟩:=NQ x H3 y3
   match Ub:put d ρ2,w2 with
   |none,w2=>exact w2.elim
   |some ρ3,w2=>
    refine NM F1 U F3 H3 σ2 ρ2 ρ3 d x _ (s2.ext' Jt) q3 Ub λσ3 s3=>⟨F1,U,F3,ρ3,s3,?_⟩
    have w2:WPS X.K Xw s0 agn (τ ρ3>>=λo=>match o with | .nx ρ2=>forL put τ (ds.drop (i+1)) ρ2 | .rt v=>ae (.rt v)) D:=w2
    match τ ρ3,w2 with
    |none,w2=>exact w2
    |some (.ok (.nx ρ')),w2=>exact λσ' F' H' s'=>⟨F',ρ',s',w2⟩
    |some (.ok (.rt d)),w2=>exact λv F' H' e q=>w2 v F' H' (back _ _ e) q
    |some (.ex n),w2=>exact λF' H' e=>w2 F' H' (back _ _ e)
  ·have hi:i=ds.length:=by omega
   subst hi;rw[List.drop_length] at w2;exact .inl ⟨(Wi F2 H2 ds.length s2.ext.ff s2.st.fh).2 (Zv _),w2 σ2 F2 H2 (s2.unbase back hU)⟩
end
def gI(f:Int->Int->D):D->D->M D
 | .int i, .int j=>ae (f i j)
 |_,_=>ag
def Qg(c:Int->Int->Bool)(f:Int->Int->D):D->D->M D
 | .int i, .int j=>if c i j then ae (f i j) else ag
 |_,_=>ag
theorem Dy{K:ZE}{gd:Int->Int->D}(h:∀F i j,Den K F (gd i j) (gv i j)):yz K (DU gv) (gI gd):=λXw F H x y dx dy Q s hx hy w=>by
 unfold gI at w;split at w
 ·rename_i i j;exact⟨i,j,hx,hy,WP.now w s (h F i j)⟩
 ·exact w.elim
theorem BO{K:ZE}{C:Int->Int->Prop}(h:∀F i j,Den K F (gd i j) (gv i j))(hc:∀i j,c i j=true->C i j):yz K (rI C gv) (Qg c gd):=λXw F H x y dx dy Q s hx hy w=>by
 unfold Qg at w;split at w
 ·rename_i i j;split at w
  ·rename_i Sq;exact⟨i,j,hx,hy,hc i j Sq,WP.now w s (h F i j)⟩
  ·exact w.elim
 ·exact w.elim
def cU:=gI λi j=> .int (i+j)
def lq:=gI λi j=> .int (i - j)
def jy:=Qg (λi j=>decide ((-(2 ^ 64)<i/\i<2 ^ 64)\/(-(2 ^ 64)<j/\j<2 ^ 64))) λi j=> .int (i*j)
def tW:=Qg (λ_ j=>decide (0<j/\j<1073741824)) λi j=> .int (i / j)
def mH:=Qg (λ_ j=>decide (0<j)) λi j=> .int (i % j)
def Tf:=gI λi j=> .bl (decide (j<i))
section
variable{X:Cx}{Xw:Nat->Hp->Prop}{a b:Expr}{δa δb:DE}{pos:Pos}
theorem b_(ha:PD X Xw a δa)(hb:PD X Xw b δb):PD X Xw (.BinOp a .Add b pos) (d2 cU δa δb):=nG Oj (Dy λ_ _ _=>rfl) ha hb
theorem km(ha:PD X Xw a δa)(hb:PD X Xw b δb):PD X Xw (.BinOp a .Sub b pos) (d2 lq δa δb):=nG Ow (Dy λ_ _ _=>rfl) ha hb
theorem kl(ha:PD X Xw a δa)(hb:PD X Xw b δb):PD X Xw (.BinOp a .Mult b pos) (d2 jy δa δb):=nG Ot (BO (λ_ _ _=>rfl) λi j h=>by unfold CMul;exact agi h) ha hb
theorem xr(ha:PD X Xw a δa)(hb:PD X Xw b δb):PD X Xw (.BinOp a .FloorDiv b pos) (d2 tW δa δb):=nG KP (BO (λ_ _ _=>rfl) λi j h=>by unfold PH;exact agi h) ha hb
theorem oP(ha:PD X Xw a δa)(hb:PD X Xw b δb):PD X Xw (.BinOp a .Mod b pos) (d2 mH δa δb):=nG Oq (BO (λ_ _ _=>rfl) λi j h=>agi h) ha hb
theorem Rx(ha:PD X Xw a δa)(hb:PD X Xw b δb):qu X Xw (.Compare a [.Gt] [b] pos) (cI (d2 Tf δa δb)):=g_ Rh (Dy λ_ _ _=>rfl) ha hb
def fX:D->D->M D
 | .lst ds, .int i=>match atI ds i with | some d=>ae d | none=>ag
 |_,_=>ag
def a8:D->D->M D
 | .tup ds, .int i=>match atI ds i with | some d=>ae d | none=>ag
 |_,_=>ag
def GK:D->D->M D
 | .scr ns, .int i=>match atI ns i with | some n=>ae (.int n) | none=>ag
 |_,_=>ag
def iQ:D->D->M D
 | .str x, .int i=>match atI x.cps.toList i with | some c=>ae (.str ⟨#[c]⟩) | none=>ag
 |_,_=>ag
theorem DenL.atI{K:ZE}(h:DenL K F ds vs){d:D}(e:L2.atI ds i=some d):∃v,L2.atI vs i=some v/\Den K F d v:=by
 unfold L2.atI at e⊢;rw[<-h.len];cases q:Hf ds.length i with
 |none=>rw[q] at e;cases e
 |some j=>
  rw[q] at e;exact h.get e
theorem KQ{K:ZE}:yz K (O3 K) fX:=λXw F H x y dx dy Q s hx hy w=>by
 unfold fX at w;split at w
 ·rename_i ds i;obtain⟨a,vs,h1,h2,h3,h4⟩:=hx;split at w
  ·rename_i d e;obtain⟨v,e1,q⟩:=h3.atI e;exact⟨a,vs,i,v,h1,hy,SqL.of (s _ _ h2),e1,WP.now w s q⟩
  ·exact w.elim
 ·exact w.elim
theorem KU{K:ZE}:yz K (RG K) a8:=λXw F H x y dx dy Q s hx hy w=>by
 unfold a8 at w;split at w
 ·rename_i ds i;obtain⟨a,vs,h1,h2,h3,h4⟩:=hx;split at w
  ·rename_i d e;obtain⟨v,e1,q⟩:=h3.atI e;exact⟨a,vs,i,v,h1,hy,SqT.of (s _ _ h2),e1,WP.now w s q⟩
  ·exact w.elim
 ·exact w.elim
theorem KR{K:ZE}:yz K (O3 K) GK:=λXw F H x y dx dy Q s hx hy w=>by
 unfold GK at w;split at w
 ·rename_i ns i;obtain⟨a,h1,h2,h3⟩:=hx;split at w
  ·rename_i n e;refine⟨a,_,i, .int n,h1,hy,Same.seq s h2,?_,WP.now w s rfl⟩;unfold L2.atI at e⊢;rw[Zo];cases q:Hf ns.length i with
   |none=>rw[q] at e;cases e
   |some j=>
    rw[q] at e;have e:ns[j]? =some n:=e;show (ns.map V.int)[j]? =some (.int n);rw[ZJ,e];rfl
  ·exact w.elim
 ·exact w.elim
theorem KS{K:ZE}:yz K RF iQ:=λXw F H x y dx dy Q s hx hy w=>by
 unfold iQ at w;split at w
 ·rename_i z i;obtain⟨h1,h2⟩:=hx;split at w
  ·rename_i c e;exact⟨z,i,c,h1,hy,by have:=d_;omega,e,WP.now w s ⟨rfl,by show 1<=lim;decide⟩⟩
  ·exact w.elim
 ·exact w.elim
theorem jF(ha:PD X Xw a δa)(hb:PD X Xw b δb)(hs:jo b:=by intro _ _;rfl):PD X Xw (.Subscript a b pos) (d2 fX δa δb):=DI wM KQ ha hb hs
theorem OE(ha:PD X Xw a δa)(hb:PD X Xw b δb)(hs:jo b:=by intro _ _;rfl):PD X Xw (.Subscript a b pos) (d2 GK δa δb):=DI wM KR ha hb hs
theorem bA(ha:PD X Xw a δa)(hb:PD X Xw b δb)(hs:jo b:=by intro _ _;rfl):PD X Xw (.Subscript a b pos) (d2 a8 δa δb):=DI N2 KU ha hb hs
theorem oO(ha:PD X Xw a δa)(hb:PD X Xw b δb)(hs:jo b:=by intro _ _;rfl):PD X Xw (.Subscript a b pos) (d2 iQ δa δb):=DI N1 KS ha hb hs
def gR:D->D->M D
 | .str x, .str y=>if x.length+y.length<=lim then ae (.str (x++y)) else ag
 |_,_=>ag
def gS:D->D->M D
 | .lst x, .lst y=>if x.length+y.length<=lim then ae (.lst (x++y)) else ag
 |_,_=>ag
def GN:D->D->M D
 | .lst x, .int k=>if (0<=k/\k<=64)/\x.length*k.toNat<=lim then ae (.lst (ZH k.toNat x).flatten) else ag
 |_,_=>ag
theorem bK(x y:Str):(x++y).length=x.length+y.length:=by
 show (x.cps++y.cps).size=_;simp[Str.length]
theorem qE(ha:PD X Xw a δa)(hb:PD X Xw b δb):PD X Xw (.BinOp a .Add b pos) (d2 gR δa δb):=nG BN (λXw F H x y dx dy Q s hx hy w=>by
 unfold gR at w;split at w
 ·rename_i i j;split at w
  ·rename_i hl;exact⟨i,j,hx.1,hy.1,by have:=d_;omega,WP.now w s ⟨rfl,by rw[bK];exact hl⟩⟩
  ·exact w.elim
 ·exact w.elim) ha hb
theorem nE(ha:PD X Xw a δa)(hb:PD X Xw b δb):PD X Xw (.BinOp a .Add b pos) (d2 gS δa δb):=nG Ol (λXw F H x y dx dy Q s hx hy w=>by
 unfold gS at w;split at w
 ·rename_i i j;obtain⟨a,vs,h1,h2,h3,h4⟩:=hx;obtain⟨a',iH,k1,k2,k3,k4⟩:=hy;split at w
  ·rename_i hl;have e1:=h3.len;have e2:=k3.len;have:=d_;refine⟨a,a',vs,iH,h1,k1,s _ _ h2,s _ _ k2,by omega,λp hp=>?_⟩;exact WP.fin w (Ext.lay s hp) ⟨p,_,rfl,aJ,DenL.mono (Ext.lay s hp).ff (h3.append k3),by rw[ZA];exact hl⟩
  ·exact w.elim
 ·exact w.elim) ha hb
theorem DenL.rep{K:ZE}{vs:List V}(h:DenL K F ds vs):∀n:Nat,DenL K F (ZH n ds).flatten (ZH n vs).flatten
 |0=>rfl
 |n+1=>by
  rw[abi,abi,abV,abV];exact h.append (DenL.rep h n)
theorem BX(ha:PD X Xw a δa)(hb:PD X Xw b δb):PD X Xw (.BinOp a .Mult b pos) (d2 GN δa δb):=nG Ov (λXw F H x y dx dy Q s hx hy w=>by
 unfold GN at w;split at w
 ·rename_i i k;obtain⟨a,vs,h1,h2,h3,h4⟩:=hx;split at w
  ·rename_i hl;obtain⟨⟨l1,l2⟩,l3⟩:=hl;have e1:=h3.len;have:=d_;refine⟨a,k,vs,h1,hy,s _ _ h2,by omega,by omega,by rw[<-e1];omega,λp hp=>?_⟩;exact WP.fin w (Ext.lay s hp) ⟨p,_,rfl,aJ,DenL.mono (Ext.lay s hp).ff (h3.rep _),by rw[len_rep,afr];exact l3⟩
  ·exact w.elim
 ·exact w.elim) ha hb
end
end L3
namespace L3
open PySem PySem.Spec L2 SeqAt
open PyProof.Rows hiding St
def n8(f:D->D->Option Bool):List D->List D->Option Bool
 |[],[]=>some true
 |x::xs,y::ys=>match f x y,n8 f xs ys with
  |some b,some r=>some (b&&r)
  |_,_=>none
 |[],_::_=>some false
 |_::_,[]=>some false
def Bc:D->D->Option Bool
 | .non, .non=>some true
 | .bl a, .bl b=>some (a==b)
 | .bl a, .int j=>some ((if a then 1 else 0)==j)
 | .int i, .bl b=>some (i==(if b then 1 else 0))
 | .int i, .int j=>some (i==j)
 | .str x, .str y=>some (x==y)
 | .non, .bl _=>some false
 | .non, .int _=>some false
 | .non, .str _=>some false
 | .non, .lst _=>some false
 | .non, .tup _=>some false
 | .bl _, .non=>some false
 | .bl _, .str _=>some false
 | .bl _, .lst _=>some false
 | .bl _, .tup _=>some false
 | .int _, .non=>some false
 | .int _, .str _=>some false
 | .int _, .lst _=>some false
 | .int _, .tup _=>some false
 | .str _, .non=>some false
 | .str _, .bl _=>some false
 | .str _, .int _=>some false
 | .str _, .lst _=>some false
 | .str _, .tup _=>some false
 | .lst _, .non=>some false
 | .lst _, .bl _=>some false
 | .lst _, .int _=>some false
 | .lst _, .str _=>some false
 | .lst _, .tup _=>some false
 | .tup _, .non=>some false
 | .tup _, .bl _=>some false
 | .tup _, .int _=>some false
 | .tup _, .str _=>some false
 | .tup _, .lst _=>some false
 |_,_=>none
def iF:Nat->D->D->Option Bool
 |n+1, .tup xs, .tup ys=>n8 (iF n) xs ys
 |n+1, .lst xs, .lst ys=>n8 (iF n) xs ys
 |n+1, .scr xs, .lst ys=>n8 (iF n) (xs.map D.int) ys
 |_,x,y=>Bc x y
structure EqAll (A:aao) (s:Zt) (u v:Value) (b:Bool):Prop where
 rc:RcAt A s u v b
 ne:RcNeAt A s u v (!b)
 eq:EqAt A s u v b
section
variable{X:Cx}{f8:List (Addr×Obj)}{σ:St}{F H:Hp}{s:Zt}{A:aao}
theorem yg(I:Inv X f8 σ H s)(hs:Same F H)(h:Den X.K F (.tup ds) v)(r:RelV v u):∃a vs aL,u= .ref a/\v= .ref a/\F a=some (.tup vs)/\DenL X.K F ds vs/\Vals vs aL/\s.heap.IsTuple a aL.toArray:=by
 obtain⟨a,vs,rfl,h2,h3,h4⟩:=h;obtain⟨aL,r1,p1,_⟩:=I.tuple (SqT.of (hs _ _ h2));exact⟨a,vs,aL,r,rfl,h2,h3,r1,p1⟩
theorem rS(I:Inv X f8 σ H s)(hs:Same F H)(h:Den X.K F (.lst ds) v)(r:RelV v u):∃a vs aL,u= .ref a/\v= .ref a/\F a=some (.lst vs)/\DenL X.K F ds vs/\Vals vs aL/\s.heap.IsList a aL.toArray:=by
 obtain⟨a,vs,rfl,h2,h3,h4⟩:=h;obtain⟨aL,r1,p1,_⟩:=I.list (SqL.of (hs _ _ h2));exact⟨a,vs,aL,r,rfl,h2,h3,r1,p1.isList⟩
theorem O_(I:Inv X f8 σ H s)(hs:Same F H)(h:Den X.K F (.scr ns) v)(r:RelV v u):∃a aL,u= .ref a/\v= .ref a/\SqL X.K F a (ns.map V.int)/\Vals (ns.map V.int) aL/\s.heap.IsList a aL.toArray:=by
 obtain⟨a,rfl,h2,h3⟩:=h;obtain⟨aL,r1,p1,_⟩:=I.list (Same.seq hs h2);exact⟨a,aL,r,rfl,h2,r1,p1.isList⟩
theorem y9(I:Inv X f8 σ H s)(hs:Same F H)(hu:A.units<cLine)(hx:Den X.K F x v)(hy:Den X.K F y w)(rx:RelV v u)(ry:RelV w t)(e:Bc x y=some b):EqAll A s u t b:=by
 cases x<;>cases y<;>cases e<;>(first | (cases (show _=V.non from hx);cases rx) | (cases (show _=V.bl _ from hx);cases rx) | (cases (show _=V.int _ from hx);obtain⟨_,rfl⟩:=rx) | (cases (show _=V.str _ from hx.1);obtain⟨_,rfl⟩:=rx) | (have q:=yg I hs hx rx;obtain⟨_,_,_,rfl,_,_,_,_,p1⟩:=q) | (have q:=rS I hs hx rx;obtain⟨_,_,_,rfl,_,_,_,_,p1⟩:=q))<;>(first | (cases (show _=V.non from hy);cases ry) | (cases (show _=V.bl _ from hy);cases ry) | (cases (show _=V.int _ from hy);obtain⟨_,rfl⟩:=ry) | (cases (show _=V.str _ from hy.1);obtain⟨_,rfl⟩:=ry) | (have q:=yg I hs hy ry;obtain⟨_,_,_,rfl,_,_,_,_,p2⟩:=q) | (have q:=rS I hs hy ry;obtain⟨_,_,_,rfl,_,_,_,_,p2⟩:=q))
 ·exact⟨RcAt.none_none,RcNeAt.none_none,EqAt.same _⟩
 ·exact⟨RcAt.none_bool _,RcNeAt.none_bool _,EqAt.none_bool _⟩
 ·exact⟨RcAt.none_int _ _,RcNeAt.none_int _ _,EqAt.none_int _ _⟩
 ·exact⟨RcAt.none_str _ _,RcNeAt.none_str _ _,EqAt.none_str _ _⟩
 ·exact⟨RcAt.none_tuple p2 hu,RcNeAt.none_tuple p2 hu,EqAt.none_tuple p2 hu⟩
 ·exact⟨RcAt.none_list p2 hu,RcNeAt.none_list p2 hu,EqAt.none_list p2 hu⟩
 ·exact⟨RcAt.bool_none _,RcNeAt.bool_none _,EqAt.bool_none _⟩
 ·exact⟨RcAt.bool_bool _ _,RcNeAt.bool_bool _ _,EqAt.bool_bool _ _⟩
 ·exact⟨RcAt.bool_int _ _ _,RcNeAt.bool_int _ _ _,EqAt.bool_int _ _ _⟩
 ·exact⟨RcAt.bool_str _ _ _,RcNeAt.bool_str _ _ _,EqAt.bool_str _ _ _⟩
 ·exact⟨RcAt.bool_tuple _ p2 hu,RcNeAt.bool_tuple _ p2 hu,EqAt.bool_tuple _ p2 hu⟩
 ·exact⟨RcAt.bool_list _ p2 hu,RcNeAt.bool_list _ p2 hu,EqAt.bool_list _ p2 hu⟩
 ·exact⟨RcAt.int_none _ _,RcNeAt.int_none _ _,EqAt.int_none _ _⟩
 ·exact⟨RcAt.int_bool _ _ _,RcNeAt.int_bool _ _ _,EqAt.int_bool _ _ _⟩
 ·exact⟨RcAt.int_int _ _ _ _,RcNeAt.int_int _ _ _ _,EqAt.int_int _ _ _ _⟩
 ·exact⟨RcAt.int_str _ _ _ _,RcNeAt.int_str _ _ _ _,EqAt.int_str _ _ _ _⟩
 ·exact⟨RcAt.int_tuple _ _ p2 hu,RcNeAt.int_tuple _ _ p2 hu,EqAt.int_tuple _ _ p2 hu⟩
 ·exact⟨RcAt.int_list _ _ p2 hu,RcNeAt.int_list _ _ p2 hu,EqAt.int_list _ _ p2 hu⟩
 ·exact⟨RcAt.str_none _ _,RcNeAt.str_none _ _,EqAt.str_none _ _⟩
 ·exact⟨RcAt.str_bool _ _ _,RcNeAt.str_bool _ _ _,EqAt.str_bool _ _ _⟩
 ·exact⟨RcAt.str_int _ _ _ _,RcNeAt.str_int _ _ _ _,EqAt.str_int _ _ _ _⟩
 ·exact⟨RcAt.str_str _ _ _ _,RcNeAt.str_str _ _ _ _,EqAt.str_str _ _ _ _⟩
 ·exact⟨RcAt.str_tuple _ _ p2 hu,RcNeAt.str_tuple _ _ p2 hu,EqAt.str_tuple _ _ p2 hu⟩
 ·exact⟨RcAt.str_list _ _ p2 hu,RcNeAt.str_list _ _ p2 hu,EqAt.str_list _ _ p2 hu⟩
 ·exact⟨RcAt.tuple_none p1 hu,RcNeAt.tuple_none p1 hu,EqAt.tuple_none p1 hu⟩
 ·exact⟨RcAt.tuple_bool _ p1 hu,RcNeAt.tuple_bool _ p1 hu,EqAt.tuple_bool _ p1 hu⟩
 ·exact⟨RcAt.tuple_int _ _ p1 hu,RcNeAt.tuple_int _ _ p1 hu,EqAt.tuple_int _ _ p1 hu⟩
 ·exact⟨RcAt.tuple_str _ _ p1 hu,RcNeAt.tuple_str _ _ p1 hu,EqAt.tuple_str _ _ p1 hu⟩
 ·exact⟨RcAt.tuple_list p1 p2 hu,RcNeAt.tuple_list p1 p2 hu,EqAt.tuple_list p1 p2 hu⟩
 ·exact⟨RcAt.list_none p1 hu,RcNeAt.list_none p1 hu,EqAt.list_none p1 hu⟩
 ·exact⟨RcAt.list_bool _ p1 hu,RcNeAt.list_bool _ p1 hu,EqAt.list_bool _ p1 hu⟩
 ·exact⟨RcAt.list_int _ _ p1 hu,RcNeAt.list_int _ _ p1 hu,EqAt.list_int _ _ p1 hu⟩
 ·exact⟨RcAt.list_str _ _ p1 hu,RcNeAt.list_str _ _ p1 hu,EqAt.list_str _ _ p1 hu⟩
 ·exact⟨RcAt.list_tuple p1 p2 hu,RcNeAt.list_tuple p1 p2 hu,EqAt.list_tuple p1 p2 hu⟩
end
def ev(f:D->D->Option Bool)(xs ys:List D)(j:Nat):Bool:=match xs[j]?,ys[j]? with
 |some x,some y=>(f x y).getD false
 |_,_=>false
theorem yZ:∀{xs ys:List D}{b:Bool},n8 f xs ys=some b->∀(j:Nat) (x y:D),xs[j]? =some x->ys[j]? =some y->∃c,f x y=some c
 |[],_,_,_,_,_,_,h,_=>by simp at h
 |_::_,[],_,_,_,_,_,_,h=>by simp at h
 |x::xs,y::ys,b,e,j,x',y',hx,hy=>by
  unfold n8 at e;split at e
  ·rename_i b1 r1 e1 e2;cases j with
   |zero=>simp at hx hy;subst hx hy;exact⟨_,e1⟩
   |succ j=>exact yZ e2 j x' y' (by simpa using hx) (by simpa using hy)
  ·cases e
theorem wk:∀{xs ys:List D}{b:Bool},n8 f xs ys=some b->b=((ZX (min xs.length ys.length)).all (ev f xs ys)&&xs.length==ys.length)
 |[],[],_,e=>by cases e;rfl
 |[],_::_,_,e=>by cases e;simp
 |_::_,[],_,e=>by cases e;simp
 |x::xs,y::ys,b,e=>by
  unfold n8 at e;split at e
  ·rename_i b1 r1 e1 e2;cases e;have h:=wk e2;rw[Zz,Zz,Nat.succ_min_succ,adn,acJ,acR];have e0:ev f (x::xs) (y::ys) 0=b1:=by unfold ev;simp[e1]
   have e3:(ev f (x::xs) (y::ys)∘Nat.succ)=ev f xs ys:=by funext j;simp[ev,agc]
   have e4:(xs.length+1==ys.length+1)=(xs.length==ys.length):=by simp
   rw[e0,e3,e4,h,Bool.and_assoc]
  ·cases e
section
variable{X:Cx}{f8:List (Addr×Obj)}{σ:St}{F H:Hp}{s:Zt}
theorem mF(h:∀x y v b,Den X.K F x v->Den X.K F y v->f x y=some b->b=true):∀{xs ys:List D}{vs:List V}{b:Bool},DenL X.K F xs vs->DenL X.K F ys vs->n8 f xs ys=some b->b=true
 |[],[],_,_,_,_,e=>by cases e;rfl
 |[],_::_,_,_,h1,h2,_=>by
  cases (show _=_ from h1);obtain⟨v,r,z,_⟩:=h2;cases z
 |_::_,[],_,_,h1,h2,_=>by
  cases (show _=_ from h2);obtain⟨v,r,z,_⟩:=h1;cases z
 |x::xs,y::ys,_,b,⟨v,r,e1,q1,q2⟩,⟨v',r',e2,q3,q4⟩,e=>by
  subst e1;cases e2;unfold n8 at e;split at e
  ·rename_i b1 r1 f1 f2;cases e;rw[h x y v b1 q1 q3 f1,mF h q2 q4 f2];rfl
  ·cases e
theorem uW(hx:Den X.K F x v)(hy:Den X.K F y v)(e:Bc x y=some b):b=true:=by
 cases x<;>cases y<;>first
  |(cases e;done)
  |(cases e;cases (show _=_ from hx);cases (show _=_ from hy);first | rfl | simp)
  |(cases e;cases (show _=_ from hx.1);cases (show _=_ from hy.1);simp)
  |(cases e;cases (show _=_ from hx);cases (show _=_ from hy.1))
  |(cases e;cases (show _=_ from hx.1);cases (show _=_ from hy))
  |(cases e;obtain⟨_,_,z,_⟩:=hx;subst z;cases (show _=_ from hy);done)
  |(cases e;obtain⟨_,_,z,_⟩:=hx;subst z;cases (show _=_ from hy.1);done)
  |(cases e;obtain⟨_,z,_⟩:=hx;subst z;cases (show _=_ from hy);done)
  |(cases e;obtain⟨_,z,_⟩:=hx;subst z;cases (show _=_ from hy.1);done)
  |(cases e;obtain⟨_,_,z,_⟩:=hy;subst z;cases (show _=_ from hx);done)
  |(cases e;obtain⟨_,_,z,_⟩:=hy;subst z;cases (show _=_ from hx.1);done)
  |(cases e;obtain⟨_,z,_⟩:=hy;subst z;cases (show _=_ from hx);done)
  |(cases e;obtain⟨_,z,_⟩:=hy;subst z;cases (show _=_ from hx.1);done)
  |(cases e;obtain⟨_,_,z,h2,_⟩:=hx;obtain⟨_,_,z',VA,_⟩:=hy;subst z;cases z';rw[h2] at VA;cases VA;done)
  |(cases e;cases (show _=_ from hx);cases (show _=_ from hy);done)
  |(cases e;cases (show _=_ from hx.1);cases (show _=_ from hy.1);done)
theorem mE(I:Inv X f8 σ H s)(hs:Same F H):∀(n:Nat) (x y:D) (v:V) (b:Bool),Den X.K F x v->Den X.K F y v->iF n x y=some b->b=true
 |0,x,y,v,b,hx,hy,e=>uW hx hy (by unfold iF at e;exact e)
 |n+1,x,y,v,b,hx,hy,e=>by
  unfold iF at e;split at e
  ·rename_i xs ys _;obtain⟨a,vs,rfl,h2,h3,_⟩:=hx;obtain⟨a',iH,z,k2,k3,_⟩:=hy;cases z;rw[h2] at k2;cases k2;exact mF (mE I hs _) h3 k3 (by simpa using e)
  ·rename_i xs ys _;obtain⟨a,vs,rfl,h2,h3,_⟩:=hx;obtain⟨a',iH,z,k2,k3,_⟩:=hy;cases z;rw[h2] at k2;cases k2;exact mF (mE I hs _) h3 k3 (by simpa using e)
  ·rename_i xs ys _;obtain⟨a,rfl,h2,_⟩:=hx;obtain⟨a',iH,z,k2,k3,_⟩:=hy;cases z;have hv:=I.list_inj (Same.seq hs h2) (SqL.of (hs _ _ k2));rw[<-hv] at k3;exact mF (mE I hs _) (DenL.ints xs) k3 (by simpa using e)
  ·exact uW hx hy e
theorem Vals.at(r:Vals vs aL)(h:j<aL.toArray.size):∃v,vs[j]? =some v/\RelV v aL.toArray[j]:=by
 have hl:=r.length;have hj:j<vs.length:=by rw[ZD] at h;omega
 obtain⟨u,e1,e2⟩:=r.get (Zy hj);refine⟨vs[j],Zy hj,?_⟩;have:aL.toArray[j]=u:=by
  have:=(ZI.mp e1).2;simpa using this
 rw[this];exact e2
theorem qy(h1:DenL X.K F xs vs)(h2:DenL X.K F ys ws)(r1:Vals vs aL)(r2:Vals ws gb)(e:n8 f xs ys=some b)
 (ih:∀x y v w u t c,Den X.K F x v->Den X.K F y w->RelV v u->RelV w t->f x y=some c->EqAt A s u t c):
 ∀j (k1:j<aL.toArray.size) (k2:j<gb.toArray.size),EqAt A s aL.toArray[j] gb.toArray[j] (ev f xs ys j):=λj k1 k2=>by
 obtain⟨v,e1,q1⟩:=Vals.at r1 k1;obtain⟨w,e2,q2⟩:=Vals.at r2 k2;obtain⟨x,e3,q3⟩:=h1.at e1;obtain⟨y,e4,q4⟩:=h2.at e2;obtain⟨c,hc⟩:=yZ e j x y e3 e4;have:ev f xs ys j=c:=by unfold ev;rw[e3,e4];simp[hc]
 rw[this];exact ih x y v w _ _ c q3 q4 q1 q2 hc
theorem vi(hu:A.units<cLine)(h1:DenL X.K F xs vs)(h2:DenL X.K F ys ws)(r1:Vals vs aL)(r2:Vals ws gb)
 (p1:s.heap.IsList a aL.toArray)(p2:s.heap.IsList a' gb.toArray)(e:n8 f xs ys=some b)(hr:a=a'->b=true)
 (ih:∀x y v w u t c,Den X.K F x v->Den X.K F y w->RelV v u->RelV w t->f x y=some c->EqAt A.in1 s u t c):EqAll A s (.ref a) (.ref a') b:=by
 have l1:=h1.len;have l2:=h2.len;have l3:=r1.length;have l4:=r2.length;have hv:=wk e;have core:RcAt A s (.ref a) (.ref a') b/\RcNeAt A s (.ref a) (.ref a') (!b):=by
  by_cases hl:xs.length=ys.length
  ·have hsz:aL.toArray.size=gb.toArray.size:=by rw[ZD,ZD];omega
   have hb:b=(ZX aL.toArray.size).all (ev f xs ys):=by
    rw[hv,hl,Nat.min_self,beq_self_eq_true,aeU];congr 2;rw[ZD];omega
   rw[hb];exact⟨RcAt.lists p1 p2 hsz hu (qy h1 h2 r1 r2 e ih),RcNeAt.lists p1 p2 hsz hu (qy h1 h2 r1 r2 e ih)⟩
  ·have hb:b=false:=by rw[hv,show (xs.length==ys.length)=false from by simpa using hl,aeL]
   have hsz:(aL.toArray.size !=gb.toArray.size)=true:=by
    rw[ZD,ZD];simp;omega
   rw[hb];exact⟨RcAt.lists_lengths p1 p2 hsz hu,RcNeAt.lists_lengths p1 p2 hsz hu⟩
 refine⟨core.1,core.2,?_⟩;by_cases hq:a=a'
 ·rw[hr hq];subst hq;exact EqAt.same _
 ·exact EqAt.of_refs hq core.1
theorem Ce(hu:A.units<cLine)(h1:DenL X.K F xs vs)(h2:DenL X.K F ys ws)(r1:Vals vs aL)(r2:Vals ws gb)
 (p1:s.heap.IsTuple a aL.toArray)(p2:s.heap.IsTuple a' gb.toArray)(e:n8 f xs ys=some b)(hr:a=a'->b=true)
 (ih:∀x y v w u t c,Den X.K F x v->Den X.K F y w->RelV v u->RelV w t->f x y=some c->EqAt A.in1 s u t c):EqAll A s (.ref a) (.ref a') b:=by
 have l1:=h1.len;have l2:=h2.len;have l3:=r1.length;have l4:=r2.length;have hb:b=((ZX (min aL.toArray.size gb.toArray.size)).all (ev f xs ys)&&aL.toArray.size==gb.toArray.size):=by
  rw[wk e,ZD,ZD,<-l3,<-l4,<-l1,<-l2]
 have core:RcAt A s (.ref a) (.ref a') b/\RcNeAt A s (.ref a) (.ref a') (!b):=by
  rw[hb];exact⟨RcAt.tuples p1 p2 hu (qy h1 h2 r1 r2 e ih),RcNeAt.tuples p1 p2 hu (qy h1 h2 r1 r2 e ih)⟩
 refine⟨core.1,core.2,?_⟩;by_cases hq:a=a'
 ·rw[hr hq];subst hq;exact EqAt.same _
 ·exact EqAt.of_refs hq core.1
theorem wm(I:Inv X f8 σ H s)(hs:Same F H):∀(n:Nat) (A:aao) (x y:D) (v w:V) (u t:Value) (b:Bool),A.units+n<cLine->Den X.K F x v->Den X.K F y w->RelV v u->RelV w t->iF n x y=some b->EqAll A s u t b
 |0,A,x,y,v,w,u,t,b,hu,hx,hy,rx,ry,e=>y9 I hs (by omega) hx hy rx ry (by unfold iF at e;exact e)
 |n+1,A,x,y,v,w,u,t,b,hu,hx,hy,rx,ry,e=>by
  have SA:A.units<cLine:=by omega
  have Yr:A.in1.units+n<cLine:=by show A.units+1+n<cLine;omega
  have hrefl:=mE I hs (n+1) x y;have ih:∀x y v w u t c,Den X.K F x v->Den X.K F y w->RelV v u->RelV w t->iF n x y=some c->EqAt A.in1 s u t c:=λx y v w u t c q1 q2 q3 q4 q5=>(wm I hs n A.in1 x y v w u t c Yr q1 q2 q3 q4 q5).eq;have e0:=e;unfold iF at e;split at e
  ·rename_i xs ys heq;cases heq;obtain⟨a,vs,aL,rfl,Qb,h2,h3,r1,p1⟩:=yg I hs hx rx;obtain⟨a',iH,its',rfl,Qc,k2,k3,RA,Rk⟩:=yg I hs hy ry;exact Ce SA h3 k3 r1 RA p1 Rk e (λz=>by subst z;exact hrefl v b hx (by rw[Qb,<-Qc];exact hy) e0) ih
  ·rename_i xs ys heq;cases heq;obtain⟨a,vs,aL,rfl,Qb,h2,h3,r1,p1⟩:=rS I hs hx rx;obtain⟨a',iH,its',rfl,Qc,k2,k3,RA,Rk⟩:=rS I hs hy ry;exact vi SA h3 k3 r1 RA p1 Rk e (λz=>by subst z;exact hrefl v b hx (by rw[Qb,<-Qc];exact hy) e0) ih
  ·rename_i xs ys heq;cases heq;obtain⟨a,aL,rfl,Qb,h2,r1,p1⟩:=O_ I hs hx rx;obtain⟨a',iH,its',rfl,Qc,k2,k3,RA,Rk⟩:=rS I hs hy ry;exact vi SA (DenL.ints _) k3 r1 RA p1 Rk e (λz=>by subst z;exact hrefl v b hx (by rw[Qb,<-Qc];exact hy) e0) ih
  ·exact y9 I hs SA hx hy rx ry e
end
def ik(x y:D):M D:=match iF 6 x y with | some b=>ae (.bl b) | none=>ag
def qf(x y:D):M D:=match iF 6 x y with | some b=>ae (.bl (!b)) | none=>ag
def RC(K:ZE):R2:=λx y H Q=>∃F dx dy b,Same F H/\Den K F dx x/\Den K F dy y/\iF 6 dx dy=some b/\Q (.bl b) H
def RK(K:ZE):R2:=λx y H Q=>∃F dx dy b,Same F H/\Den K F dx x/\Den K F dy y/\iF 6 dx dy=some b/\Q (.bl (!b)) H
section
variable{X:Cx}{Xw:Nat->Hp->Prop}{a b:Expr}{δa δb:DE}{pos:Pos}
theorem HM(hu:X.A.units+64<cLine):OpR X (aas .Eq) (RC X.K):=by
 intro f8 s σ H x y v u Q I rx ry h;obtain⟨F,dx,dy,b,hs,hx,hy,e,q⟩:=h;exact(wm I hs 6 X.A dx dy x y v u b (by omega) hx hy rx ry e).rc _ _ _ _ ⟨.bl b,H,I,rfl,q⟩
theorem Ou(hu:X.A.units+64<cLine):OpR X (aas .NotEq) (RK X.K):=by
 intro f8 s σ H x y v u Q I rx ry h;obtain⟨F,dx,dy,b,hs,hx,hy,e,q⟩:=h;exact(wm I hs 6 X.A dx dy x y v u b (by omega) hx hy rx ry e).ne _ _ _ _ ⟨.bl (!b),H,I,rfl,q⟩
theorem HP{K:ZE}:yz K (RC K) ik:=λXw F H x y dx dy Q s hx hy w=>by
 unfold ik at w;split at w
 ·rename_i b e;exact⟨F,dx,dy,b,s,hx,hy,e,WP.now w s rfl⟩
 ·exact w.elim
theorem Ox{K:ZE}:yz K (RK K) qf:=λXw F H x y dx dy Q s hx hy w=>by
 unfold qf at w;split at w
 ·rename_i b e;exact⟨F,dx,dy,b,s,hx,hy,e,WP.now w s rfl⟩
 ·exact w.elim
theorem jd(hu:X.A.units+64<cLine)(ha:PD X Xw a δa)(hb:PD X Xw b δb):qu X Xw (.Compare a [.Eq] [b] pos) (cI (d2 ik δa δb)):=g_ (HM hu) HP ha hb
theorem nK(hu:X.A.units+64<cLine)(ha:PD X Xw a δa)(hb:PD X Xw b δb):qu X Xw (.Compare a [.NotEq] [b] pos) (cI (d2 qf δa δb)):=g_ (Ou hu) Ox ha hb
theorem z9(hu:X.A.units+64<cLine)(ha:PD X Xw a δa)(hb:PD X Xw b δb):PD X Xw (.Compare a [.Eq] [b] pos) (d2 ik δa δb):=BU (HM hu) HP ha hb
end
def PDW(X:Cx)(Xw:Nat->Hp->Prop)(e:Expr)(δ:DT):Prop:=PW X e (U7 X.K Xw δ)
theorem PW.weak(h:PW X e t)(k:∀σ H Q,t' σ H Q->t σ H Q):PW X e t':=λwh f8 s σ H Q I w=>h wh f8 s σ H Q I (k σ H Q w)
section
variable{X:Cx}{Xw:Nat->Hp->Prop}{a b c:Expr}{W1:List Expr}{δa δb δc:DE}{τa τb:DT}{pos:Pos}
theorem sL(ha:qu X Xw a τa):PDW X Xw (.BoolOp .And [a] pos) τa:=Lm ha
theorem g7(ha:qu X Xw a τa):PDW X Xw (.BoolOp .Or [a] pos) τa:=OZ ha
theorem nH(ha:qu X Xw a τa)(hb:PDW X Xw (.BoolOp .And (b::W1) pos) τb):PDW X Xw (.BoolOp .And (a::b::W1) pos) (lY τa τb):=PW.weak (OY ha hb) λσ H Q ⟨F,ρ,s,w⟩=>by
 refine⟨F,ρ,s,WPB.mono (WPB.bindB w) λv H1 ⟨F1,e1,w1⟩=>?_⟩;cases v with
 |true=>exact⟨F1,ρ,s.ext e1,w1⟩
 |false=>exact w1 _ _ (Ext.refl e1.fh)
theorem jI(ha:qu X Xw a τa)(hb:PDW X Xw (.BoolOp .Or (b::W1) pos) τb):PDW X Xw (.BoolOp .Or (a::b::W1) pos) (oq τa τb):=PW.weak (Ry ha hb) λσ H Q ⟨F,ρ,s,w⟩=>by
 refine⟨F,ρ,s,WPB.mono (WPB.bindB w) λv H1 ⟨F1,e1,w1⟩=>?_⟩;cases v with
 |false=>exact⟨F1,ρ,s.ext e1,w1⟩
 |true=>exact w1 _ _ (Ext.refl e1.fh)
theorem PDW.t(h:PDW X Xw a τa):qu X Xw a τa:=PW.pt h
theorem eD(ha:qu X Xw a τa):qu X Xw (.UnaryOp .Not a pos) (eV τa):=PT.weak (OV ha) λσ H Q ⟨F,ρ,s,w⟩=>
 ⟨F,ρ,s,WPB.mono (WPB.bindB w) λv H1 ⟨F1,e1,w1⟩=>w1 _ _ (Ext.refl e1.fh)⟩
def Jl:D->M Bool
 | .non=>ae false
 | .bl b=>ae b
 | .lst ds=>ae (!ds.isEmpty)
 | .tup ds=>ae (!ds.isEmpty)
 |_=>ag
def c8(δ:DE):DT:=λρ=>δ ρ>>=Jl
theorem DenL.isEmpty{K:ZE}(h:DenL K F ds vs):ds.isEmpty=vs.isEmpty:=by
 have:=h.len;cases ds<;>cases vs<;>simp_all
theorem dq(ha:PD X Xw a δa)(he:∀whole,isTrue a X.env whole=(do let v<-whole;standAt a.pos;holding [v] (truthy v)):=by intro _;rfl):qu X Xw a (c8 δa):=PT.weak (Iz ha he) λσ H Q ⟨F,ρ,s,w⟩=>by
 refine⟨F,ρ,s,WP.mono (WPB.bind (K:=X.K) w) λv H1 ⟨F1,d,e1,q1,w1⟩=>?_⟩;cases d with
 |non=>cases (show _=_ from q1);exact⟨false,rfl,w1 _ _ (Ext.refl e1.fh)⟩
 |bl b=>cases (show _=_ from q1);exact⟨b,rfl,w1 _ _ (Ext.refl e1.fh)⟩
 |lst ds=>
  obtain⟨a,vs,rfl,h2,h3,_⟩:=q1;exact⟨!ds.isEmpty, .inl ⟨vs,SqL.of (e1.fh _ _ h2),by rw[h3.isEmpty]⟩,w1 _ _ (Ext.refl e1.fh)⟩
 |tup ds=>
  obtain⟨a,vs,rfl,h2,h3,_⟩:=q1;exact⟨!ds.isEmpty, .inr (.inl ⟨vs,SqT.of (e1.fh _ _ h2),by rw[h3.isEmpty]⟩),w1 _ _ (Ext.refl e1.fh)⟩
 |_=>exact w1.elim
theorem xx(h:PD X Xw a δa):PD X Xw (.BoolOp op [a] pos) δa:=OL h
theorem xp(ha:PD X Xw a δa)(hb:PD X Xw (.BoolOp .And (b::W1) pos) δb):PD X Xw (.BoolOp .And (a::b::W1) pos) (fY δa δb):=PE.weak (OG ha hb) λσ H Q ⟨F,ρ,s,w⟩=>by
 refine⟨F,ρ,s,WP.mono (WP.bind w) λv H1 ⟨F1,d,e1,q1,w1⟩=>?_⟩;cases d with
 |bl k=>
  refine⟨k,q1,?_⟩;cases k with
  |true=>exact⟨F1,ρ,s.ext e1,w1⟩
  |false=>exact WP.now w1 e1.fh rfl
 |_=>exact w1.elim
theorem Ro(ha:PD X Xw a δa)(hb:PD X Xw (.BoolOp .Or (b::W1) pos) δb):PD X Xw (.BoolOp .Or (a::b::W1) pos) (JS δa δb):=PE.weak (Rt ha hb) λσ H Q ⟨F,ρ,s,w⟩=>by
 refine⟨F,ρ,s,WP.mono (WP.bind w) λv H1 ⟨F1,d,e1,q1,w1⟩=>?_⟩;cases d with
 |bl k=>
  refine⟨k,q1,?_⟩;cases k with
  |false=>exact⟨F1,ρ,s.ext e1,w1⟩
  |true=>exact WP.now w1 e1.fh rfl
 |_=>exact w1.elim
theorem OF(ha:PD X Xw a δa):PD X Xw (.UnaryOp .Not a pos) (L8 δa):=PE.weak (OK ha) λσ H Q ⟨F,ρ,s,w⟩=>by
 refine⟨F,ρ,s,WP.mono (WP.bind w) λv H1 ⟨F1,d,e1,q1,w1⟩=>?_⟩;cases d with
 |bl k=>exact⟨k,q1,WP.now w1 e1.fh rfl⟩
 |_=>exact w1.elim
theorem Rm(hc:qu X Xw c τa)(ha:PD X Xw a δa)(hb:PD X Xw b δb):PD X Xw (.IfExp c a b pos) (Vt τa δa δb):=PE.weak (Io hc ha hb) λσ H Q ⟨F,ρ,s,w⟩=>by
 refine⟨F,ρ,s,WPB.mono (WP.bindB w) λv H1 ⟨F1,e1,w1⟩=>?_⟩;cases v with
 |true=>exact⟨F1,ρ,s.ext e1,w1⟩
 |false=>exact⟨F1,ρ,s.ext e1,w1⟩
def AS(p q:Int->Int->Bool)(a b c:DE):DE:=λρ=>a ρ>>=λx=>b ρ>>=λy=>match x,y with
 | .int i, .int j=>if p i j then c ρ>>=λz=>gI (λi j=> .bl (q i j)) y z else ae (.bl false)
 |_,_=>ag
theorem vJ{p q:Int->Int->Bool}:∀σ H Q,tD X.K Xw (AS p q δa δb δc) σ H Q->Cd (DU λi j=> .bl (p i j)) (DU λi j=> .bl (q i j)) (tD X.K Xw δa) (tD X.K Xw δb) (tD X.K Xw δc) σ H Q:=λσ H Q ⟨F,ρ,s,w⟩=>by
 refine⟨F,ρ,s,WP.mono (WP.bind w) λv H1 ⟨F1,d,e1,q1,w1⟩=>?_⟩;refine⟨F1,ρ,s.ext e1,WP.mono (WP.bind w1) λu H2 ⟨F2,d',e2,q2,w2⟩=>?_⟩;cases d with
 |int i=>
  cases d' with
  |int j=>
   refine⟨i,j,q1,q2,p i j,rfl,?_⟩;have w2:WP X.K Xw F2 H2 (if p i j then δc ρ>>=λz=>gI (λi j=> .bl (q i j)) (.int j) z else ae (.bl false)) Q:=w2;cases hp:p i j with
   |false=>
    rw[hp] at w2;exact WP.now w2 e2.fh rfl
   |true=>
    rw[hp] at w2;refine⟨F2,ρ,(s.ext e1).ext e2,WP.mono (WP.bind w2) λu' H3 ⟨F3,WL,e3,q3,w3⟩=>?_⟩;exact Dy (gd:=λi j=> .bl (q i j)) (λ_ _ _=>rfl) Xw F3 H3 u u' (.int j) WL Q e3.fh q2 q3 w3
  |_=>exact w2.elim
 |_=>exact w2.elim
theorem HY(ho:OpR X (aas op) (DU λi j=> .bl (p i j)))(mJ:OpR X (aas Fc) (DU λi j=> .bl (q i j)))(ha:PD X Xw a δa)(hb:PD X Xw b δb)(hc:PD X Xw c δc)
 (hm:lastMarks [op,Fc] [b,c]=false:=by with_unfolding_all rfl):PD X Xw (.Compare a [op,Fc] [b,c] pos) (AS p q δa δb δc):=PE.weak (Ij ho mJ ha hb hc hm) vJ
theorem B3(ho:OpR X (aas op) (DU λi j=> .bl (p i j)))(mJ:OpR X (aas Fc) (DU λi j=> .bl (q i j)))(ha:PD X Xw a δa)(hb:PD X Xw b δb)(hc:PD X Xw c δc)
 (hm:lastMarks [op,Fc] [b,c]=false:=by with_unfolding_all rfl):qu X Xw (.Compare a [op,Fc] [b,c] pos) (cI (AS p q δa δb δc)):=PT.weak (Iu ho mJ ha hb hc hm) λσ H Q ⟨F,ρ,s,w⟩=>by
 refine vJ σ H _ ⟨F,ρ,s,WP.mono (WPB.bind w) λv H1 ⟨F1,d,e1,q1,w1⟩=>?_⟩;cases d with
 |bl k=>exact⟨k,q1,w1 _ _ (Ext.refl e1.fh)⟩
 |_=>exact w1.elim
def yy(K:ZE)(r:List V->Hp->VK->Prop)(g:List D->M D):Prop:=∀(Xw:Nat->Hp->Prop) (F H:Hp) (vs:List V) (ds:List D) (Q:VK),Same F H->DenL K F ds vs->WP K Xw F H (g ds) Q->r vs H Q
variable{x:Str}{p:Pos}{e:Expr}{es:List Expr}{δs:DA}{id T:String}{r:List V->Hp->VK->Prop}{g:List D->M D}
theorem Jg(h:yy X.K r g):∀σ H Q,tD X.K Xw (dA g δs) σ H Q->U5 r (WC X.K Xw δs) σ H Q:=λσ H Q ⟨F,ρ,s,w⟩=>
 ⟨F,ρ,s,WPL.mono (WP.bindL w) λvs H1 ⟨F1,ds,e1,q1,w1⟩=>h Xw F1 H1 vs ds Q e1.fh q1 w1⟩
theorem dP(hc:CallR X (.builtin id) r)(hd:yy X.K r g)(hg:Gl X x)(hm:X.mg x=none)(hv:aab x=some (.builtin id))(ha:gL X Xw (e::es) δs)(hn:x≠"__name__":=by decide)(lr:dL x:=by decide)
 (he:jp e es X.env:=by rfl)(j1:bv pos es X.env:=by rfl):PD X Xw (.Call (.Name x p) (e::es) [] pos) (dA g δs):=
 PE.weak (Ii hc hg hm hv ha hn lr he j1) (Jg hd)
theorem oN(hc:CallR X (.type T) r)(hd:yy X.K r g)(hg:Gl X x)(hm:X.mg x=none)(hv:aab x=some (.type T))(ha:gL X Xw (e::es) δs)(hn:x≠"__name__":=by decide)(lr:dL x:=by decide)
 (he:jp e es X.env:=by rfl)(j1:bv pos es X.env:=by rfl):PD X Xw (.Call (.Name x p) (e::es) [] pos) (dA g δs):=
 PE.weak (vy hc hg hm hv ha hn lr he j1) (Jg hd)
def bO:List D->M D
 |[.lst ds]=>ae (.int ds.length)
 |[.tup ds]=>ae (.int ds.length)
 |[.str x]=>ae (.int x.length)
 |[.scr ns]=>ae (.int ns.length)
 |_=>ag
theorem EW:yy X.K (λxs H Q=>(∃p ys,xs=[.ref p]/\(SqL X.K H p ys\/SqT X.K H p ys)/\Q (.int ys.length) H)\/∃z,xs=[.str z]/\z.length<=ZQ/\Q (.int z.length) H) bO:=λXw F H vs ds Q s h w=>by
 unfold bO at w;split at w
 ·obtain⟨v,rfl,h1⟩:=h.one;obtain⟨a,vs,rfl,h2,h3,_⟩:=h1;exact .inl ⟨a,vs,rfl, .inl (SqL.of (s _ _ h2)),by rw[<-h3.len];exact WP.now w s rfl⟩
 ·obtain⟨v,rfl,h1⟩:=h.one;obtain⟨a,vs,rfl,h2,h3,_⟩:=h1;exact .inl ⟨a,vs,rfl, .inr (SqT.of (s _ _ h2)),by rw[<-h3.len];exact WP.now w s rfl⟩
 ·obtain⟨v,rfl,h1⟩:=h.one;cases (show _=_ from h1.1);exact .inr ⟨_,rfl,by have:=h1.2;have:=d_;omega,WP.now w s rfl⟩
 ·obtain⟨v,rfl,h1⟩:=h.one;obtain⟨a,rfl,h2,_⟩:=h1;exact .inl ⟨a,_,rfl, .inl (Same.seq s h2),by rw[Zo];exact WP.now w s rfl⟩
 ·exact w.elim
theorem cb(hg:Gl X "len")(hm:X.mg "len"=none)(ha:gL X Xw [e] δs)(he:kt e X.env:=by rfl):PD X Xw (.Call (.Name "len" p) [e] [] pos) (dA bO δs):=
 dP (v9.or v_) EW hg hm PySem.boot_len ha (by decide) (by decide) he rfl
def FY:List D->M D
 |[.int i]=>ae (.int (if i<0 then -i else i))
 |_=>ag
def BC:List D->M D
 |[.int i, .int j]=>ae (.int (if j>i then j else i))
 |_=>ag
def E4:List D->M D
 |[.int i, .int j]=>ae (.int (if j<i then j else i))
 |_=>ag
theorem HV(hg:Gl X "abs")(hm:X.mg "abs"=none)(ha:gL X Xw [e] δs)(hb:aab "abs"=some (.builtin "abs"))(he:kt e X.env:=by rfl):PD X Xw (.Call (.Name "abs" p) [e] [] pos) (dA FY δs):=
 dP Gd (λXw F H vs ds Q s h w=>by
  unfold FY at w;split at w
  ·obtain⟨v,rfl,h1⟩:=h.one;cases (show _=_ from h1);exact⟨_,rfl,WP.now w s rfl⟩
  ·exact w.elim) hg hm hb ha (by decide) (by decide) he rfl
end
theorem WP.xw{K:ZE}(h:WP K Xw F H m Q)(k:∀n H,Xw n H->Xw' n H):WP K Xw' F H m Q:=by
 match m,h with
 |none,h=>exact h
 |some (.ok d),h=>exact h
 |some (.ex n),h=>exact λF' H' e=>k n H' (h F' H' e)
theorem cj{X:Cx}{st:Stmt}(h:jm X.nox (λ_ _=>False) st τ):jm X Xw st (λρ=>noex (τ ρ)):=λs0 agn f8 s σ H D I ⟨F,ρ,S,w⟩=>by
 have w:WPS X.K Xw s0 agn (noex (τ ρ)) D:=w;have w':tS X.K (λ_ _=>False) s0 agn τ D σ H:=by
  refine⟨F,ρ,S,?_⟩;rcases(τ ρ).cs with e | ⟨n,e⟩ | ⟨o,e⟩
  ·rw[e] at w;exact w.elim
  ·rw[e] at w;exact w.elim
  ·rw[e] at w⊢;cases o with
   |nx ρ'=>exact w
   |rt d=>exact w
 refine aaF (h s0 agn f8 s σ H D (I.wish _) w') (λf s' q=>SP.unwish q) λ_ _ z=>z.elim
def EX(cv:Nat->Value)(Xw:Nat->Hp->Prop):XK:=λc _ H=>∃n,c=cv n/\Xw n H
def FU(K:ZE)(cv:Nat->Value)(k:Nat)(f:List D->M D):Sp:=λvs H Q E=>∃F ds,Same F H/\DenL K F ds vs/\vs.length=k/\WP K (λn H'=>E (cv n) none H') F H (f ds) Q
def bX(n:Nat)(τ:DS):List D->M D:=λds=>τ (ds.map (λd=>some (Sl.fz d))++ZH (n - ds.length) none)>>=λo=>match o with
 | .nx _=>ae .non
 | .rt d=>ae d
section
variable{P:Z5}{w:World}{K:ZE}{mg:Str->Option Value}{base:Heap}{CX:Cs}{cv:Nat->Value}
theorem Qe{x qual:Str}{st:Stmt}(Fn:Fun K x qual st f fd)(S:FnScope N ps (ai st))
 (iT:∀(b7:Value) (A:aao) (outer:List Env) (s:Zt) (H:Hp) (E:XK),Room k (A.deeper (abw qual (ai st) s.heap.objs.size f b7))->
  PSDs (a6 CX P w K mg base N qual (ai st) f b7 A outer s H E) (λn H'=>E (cv n) none H') (aY st) τ):FnOk P w K mg base CX (k+1) f fd ps (FU K cv ps.length (bX N.length τ)):=by
 obtain⟨oc,od,kV,doc,pm,an,b7,ct,HQ,rfl,lk,u6⟩:=Fn.ex;refine Me lk u6 S (λvs H Q E ⟨_,_,_,_,hl,_⟩=>hl) λA outer s H vs Q E hr yw=>?_;obtain⟨F,ds,fh,hd,hl,hw⟩:=yw;refine⟨_,iT b7 A outer s H E hr F H,F,ds.map (λd=>some (Sl.fz d))++ZH (N.length - ds.length) none,⟨Ext.refl fh,⟨fh,λi sl e=>?_⟩,?_,λi c a e=>?_,λi j c c' a e=>?_⟩,?_⟩
 ·have T0:=hd.len;by_cases hi:i<ds.length
  ·rw[aac (by simpa using hi),ZJ] at e;cases q:ds[i]? with
   |none=>rw[q] at e;cases e
   |some d=>
    rw[q] at e;cases e;obtain⟨v,e1,e2⟩:=hd.get q;refine⟨v,?_,e2⟩;unfold L2.start;rw[aac (by simp;omega),ZJ,e1];rfl
  ·rw[aam (by simpa using hi),aaT] at e;split at e<;>cases e
 ·have T0:=hd.len;unfold L2.start;simp[T0]
 ·exfalso
  by_cases hi:i<ds.length
  ·rw[aac (by simpa using hi),ZJ] at e;cases q:ds[i]? with
   |none=>rw[q] at e;cases e
   |some d=>rw[q] at e;cases e
  ·rw[aam (by simpa using hi),aaT] at e;split at e<;>cases e
 ·exfalso
  by_cases hi:i<ds.length
  ·rw[aac (by simpa using hi),ZJ] at e;cases q:ds[i]? with
   |none=>rw[q] at e;cases e
   |some d=>rw[q] at e;cases e
  ·rw[aam (by simpa using hi),aaT] at e;split at e<;>cases e
 ·have hw:WP K (λn H'=>E (cv n) none H') F H (τ (ds.map (λd=>some (Sl.fz d))++ZH (N.length - ds.length) none)>>=λo=>match o with | .nx _=>ae .non | .rt d=>ae d) Q:=hw;rcases(τ (ds.map (λd=>some (Sl.fz d))++ZH (N.length - ds.length) none)).cs with e | ⟨n,e⟩ | ⟨o,e⟩
  ·rw[e] at hw;exact hw.elim
  ·rw[e] at hw⊢;exact hw
  ·rw[e] at hw⊢;cases o with
   |nx ρ'=>exact λσ' F' H' s'=>hw .non H' F' s'.ext rfl
   |rt d=>exact λv F' H' e' q=>hw v H' F' e' q
end
section
variable{X:Cx}{Xw:Nat->Hp->Prop}{CX:Cs}{cv:Nat->Value}{k m:Nat}{f:Addr}{fd:abW}{ps:List Str}{g:List D->M D}{x:Str}{p pos:Pos}{e:Expr}{es:List Expr}{δs:DA}
theorem KZ(F:FnOk X.prog X.w X.K X.mg X.base CX k f fd ps (FU X.K cv m g))(hr:Room k X.A)(hg:Gl X x)(hm:X.mg x=some (.ref f))(hk:aaO X.K (.ref f)=true)(hb:Binds X.K fd ps [])(hx:Passes CX X (EX cv Xw))
 (ha:gL X Xw (e::es) δs)(hl:(e::es).length=m)(lr:dL x:=by decide)(he:jp e es X.env:=by rfl)(j1:bv pos es X.env:=by rfl):
 PD X Xw (.Call (.Name x p) (e::es) [] pos) (λρ=>δs ρ>>=λds=>if ds.length=m then g ds else ag):=PE.weak (K8 F hr hg hm hk hb .nil hx ha lr he j1) λσ H Q ⟨F,ρ,s,w⟩=>by
 refine⟨F,ρ,s,WPL.mono (WP.bindL w) λvs H1 ⟨F1,ds,e1,q1,w1⟩=>?_⟩;split at w1
 ·rename_i tZ;refine⟨F1,ds,e1.fh,by simpa using q1,by rw[Z_,<-q1.len];exact tZ,WP.xw w1 λn H h=>⟨n,rfl,h⟩⟩
 ·exact w1.elim
theorem xt{x:Str}(hg:Gl X x)(hm:X.mg x=some u)(r:RelV v u)(hd:∀F,Den X.K F d v)(lr:dL x:=by decide):PD X Xw (.Name x pos) (dC d):=
 ja (xy hg hm r lr) hd
end
theorem obj_some(x:ObjOk P w H h a o):∃ob,h.get? a=some ob:=by
 cases o with
 |lst xs=>obtain⟨_,_,_,_,e⟩:=x;exact⟨_,e⟩
 |tup xs=>obtain⟨_,_,_,ob,e,_⟩:=x;exact⟨_,e⟩
 |dK aB=>obtain⟨_,_,_,_,o,_,_,e,_⟩:=x;exact⟨_,e⟩
 |dT aB=>obtain⟨_,_,_,_,o,_,_,e,_⟩:=x;exact⟨_,e⟩
 |set S n=>obtain⟨o,_,_,_,e,_⟩:=x;exact⟨_,e⟩
 |ins C dx fs=>obtain⟨_,_,_,e,_⟩:=x;exact⟨_,e⟩
 |own y=>obtain⟨_,e⟩:=x;exact⟨_,e⟩
 |xd fs=>obtain⟨_,⟨_,_,_,e,_⟩,_⟩:=x;exact⟨_,e⟩
 |rng lo hi=>obtain⟨_,_,_,e⟩:=x;exact⟨_,e⟩
 |frz ob u=>obtain⟨e,_⟩:=x;exact⟨_,e⟩
 |tbl ps=>exact⟨_,(show h.get? a=some _ from x)⟩
 |met f y=>exact⟨_,(show h.get? a=some _ from x)⟩
 |ext φ=>obtain⟨_,⟨_,e⟩,_⟩:=x;exact⟨_,e⟩
def cR(P:Z5)(w:World)(cv:Nat->Value):Cs:=λouter H s E e s'=>∃(ea:Addr) (n:Nat) (a0:Value) (B:Heap) (H':Hp),e= .ref ea/\s'.os=s.os/\adZ s'.gens/\HOk P w H' s'.heap/\Un (iG outer) [] H H' s.heap s'.heap/\
 Heap.FlyingW B outer ea (cv n) a0 s'.heap/\(∀b o,s'.heap.get? b=some o->(H' b≠none\/(s.heap.get? b).isSome=true)->b∉iG outer->B.get? b=some o)/\E (cv n) none H'
section
variable{P:Z5}{w:World}{fs:List Addr}{agn H:Hp}{h₀ h h':Heap}
theorem yi(u:Un fs [] agn H h₀ h)(ka:∀b o,h.get? b=some o->b∉fs->(H b≠none\/(h₀.get? b).isSome=true)->h'.get? b=some o)(kb:∀b o,h.get? b=some o->b∈fs->∃sl,h'.get? b=some {o with slots:=sl}):Un fs [] agn H h₀ h' where
 keep:=λb o e n hb hx=>ka b o (u.keep b o e n hb hx) hb (.inr (by rw[e];rfl))
 slot:=λb o e n hb hx=>by
  obtain⟨sl,q⟩:=u.slot b o e n hb hx;obtain⟨Ly,q'⟩:=kb b _ q hb;exact⟨Ly,q'⟩
 free:=u.free
 there:=λb o e hx=>by
  obtain⟨o',q⟩:=u.there b o e hx;by_cases hb:b∈fs
  ·obtain⟨sl,q'⟩:=kb b _ q hb;exact⟨_,q'⟩
  ·exact⟨o',ka b o' q hb (.inr (by rw[e];rfl))⟩
 tups:=u.tups
 frzs:=u.frzs
 tbls:=u.tbls
theorem rA(x:HOk P w H h)(hf:∀b∈fs,H b=none)(ka:∀b o,h.get? b=some o->b∉fs->H b≠none->h'.get? b=some o):HOk P w H h':=λa o e=>by
 refine(x a o e).stay (λb u hb q=>ka b u q (λz=>?_) ?_) (λ_ q=>q) λ_ _ q=>q
 ·have hz:=hf b z;rcases hb with rfl | hb
  ·rw[hz] at e;cases e
  ·rw[hz] at hb;cases hb
 ·rcases hb with rfl | hb
  ·rw[e];exact λz=>nomatch z
  ·rw[hb];exact λz=>nomatch z
end
section
variable{P:Z5}{w:World}{K:ZE}{mg:Str->Option Value}{base:Heap}{N:List Str}{qual:Str}{scope:Scope}{f:Addr}{cd:Value}{A:aao}{outer:List Env}{ago:Zt}{agn:Hp}{E:XK}{cv:Nat->Value}
theorem cy:Passes (cR P w cv) (a6 (cR P w cv) P w K mg base N qual scope f cd A outer ago agn E) (EX cv λn H'=>E (cv n) none H'):=by
 intro f8 σ H s e s' I ⟨ea,n,a0,B,H',he,QF,hg,hok,un,Ez,hB,m,hm,hE⟩;subst he;have Bq:((a6 (cR P w cv) P w K mg base N qual scope f cd A outer ago agn E)).env.locals=ago.heap.objs.size:=rfl;have wF:iG ((a6 (cR P w cv) P w K mg base N qual scope f cd A outer ago agn E)).stack=ago.heap.objs.size::iG outer:=rfl;show wpAny (model P w) (A.deeper (abw qual scope ago.heap.objs.size f cd)) (leaving (abw qual scope ago.heap.objs.size f cd) (.ref ea)) _ _ s';refine wpAny_leaves_onW I.ok.frames rfl Ez λh' Nj ups=>?_;have FQ:∀b∈iG ((a6 (cR P w cv) P w K mg base N qual scope f cd A outer ago agn E)).stack,H' b=none:=λb hb=>by
  obtain⟨o,ho⟩:∃o,s.heap.get? b=some o:=by
   obtain⟨_,o,ho,_⟩:=I.stack.mem hb;exact⟨o,ho⟩
  exact un.free b o ho (I.stkFree b hb) (by simp)
 have mL:∀b o,s'.heap.get? b=some o->b∉iG ((a6 (cR P w cv) P w K mg base N qual scope f cd A outer ago agn E)).stack->(H' b≠none\/(s.heap.get? b).isSome=true)->h'.get? b=some o:=λb o e hb hc=>Nj.1 b o (hB b o e hc hb);have unA:Un (iG outer) [] agn H' ago.heap s'.heap:=by
  have u1:Un (iG outer) [] agn H ago.heap s.heap:=I.base;refine⟨λb o e nn hb hx=>?_,λb o e nn hb hx=>?_,λb o e nn hx=>?_,λb o e hx=>?_,λb xs q=>un.tups b xs (u1.tups b xs q),λb o u q=>un.frzs b o u (u1.frzs b o u q),λb ps q=>?_⟩
  ·refine un.keep b o (u1.keep b o e nn hb hx) (u1.free b o e nn hx) (λz=>?_) (by simp);rw[wF] at z;rcases Zw.mp z with z | z
   ·exact agj (ZG e) (by rw[z];exact aaq _)
   ·exact hb z
  ·obtain⟨sl,q⟩:=u1.slot b o e nn hb hx;obtain⟨Ly,q'⟩:=un.slot b _ q (u1.free b o e nn hx) (by rw[wF];exact Zp _ hb) (by simp);exact⟨Ly,q'⟩
  ·obtain⟨o',q⟩:=u1.there b o e hx;exact un.free b o' q (u1.free b o e nn hx) (by simp)
  ·obtain⟨o',q⟩:=u1.there b o e hx;exact un.there b o' q (by simp)
  ·obtain⟨m1,q1⟩:=u1.tbls b ps q;obtain⟨m2,q2⟩:=un.tbls b _ q1;exact⟨m1++m2,by rw[q2,adY]⟩
 have Wf:∀b,(ago.heap.get? b).isSome=true->(s.heap.get? b).isSome=true:=λb hb=>by
  obtain⟨o,ho⟩:=aar.mp hb;obtain⟨o',q⟩:=(show Un (iG outer) [] agn H ago.heap s.heap from I.base).there b o ho (by simp);rw[q];rfl
 have E7:∀b,(ago.heap.get? b).isSome=true->b≠ago.heap.objs.size:=λb hb z=>by
  obtain⟨o,ho⟩:=aar.mp hb;exact agj (ZG ho) (by rw[z];exact aaq _)
 have HD:∀b,b∉iG outer->(H' b≠none\/(ago.heap.get? b).isSome=true)->b∉iG ((a6 (cR P w cv) P w K mg base N qual scope f cd A outer ago agn E)).stack:=λb hb hc z=>by
  rcases hc with hc | hc
  ·exact hc (FQ b z)
  ·rw[wF] at z;rcases Zw.mp z with z | z
   ·exact E7 b hc z
   ·exact hb z
 refine⟨ea,n,a0,B,H',rfl,QF.trans I.os,hg,rA hok FQ (λb o e hb hc=>mL b o e hb (.inl hc)),yi unA (λb o e hb hc=>mL b o e (HD b hb hc) (hc.imp id (Wf b))) (λb o e hb=>?_),Nj,λb o e hc hb=>?_,?_⟩
 ·obtain⟨_,o',mJ,hd⟩:=Ez.2.2.1.mem (show b∈iG ((a6 (cR P w cv) P w K mg base N qual scope f cd A outer ago agn E)).stack by rw[wF];exact Zp _ hb);rw[e] at mJ;cases mJ;exact ups b o e hd
 ·have zj:=HD b hb hc;obtain⟨o',mJ⟩:∃o',s'.heap.get? b=some o':=by
   rcases hc with hc | hc
   ·cases q:H' b with
    |none=>exact agj q hc
    |some u=>
     exact obj_some (hok b u q)
   ·obtain⟨o1,h1⟩:=aar.mp hc;exact unA.there b o1 h1 (by simp)
  have:=hB b o' mJ (hc.imp id (Wf b)) zj;rw[Nj.1 b o' this] at e;cases e;exact this
 ·rw[hm];exact hE
def LY(X:Cx)(cv:Nat->Value)(Xw:Nat->Hp->Prop):Prop:=∀(n:Nat) (f8:List (Addr×Obj)) (σ:St) (H:Hp) (s:Zt) (h':Heap) (ea:Addr) (args:List Value),Inv X f8 σ H s->Heap.MadeExcOf s.heap h' ea (cv n) args->Xw n H->X.xe (.ref ea) {s with heap:=h'}
theorem Hv:LY (a6 (cR P w cv) P w K mg base N qual scope f cd A outer ago agn E) cv (λn H'=>E (cv n) none H'):=by
 intro n f8 σ H s hh ea args I hx hE;have wF:iG ((a6 (cR P w cv) P w K mg base N qual scope f cd A outer ago agn E)).stack=ago.heap.objs.size::iG outer:=rfl;have jz:∀env∈((a6 (cR P w cv) P w K mg base N qual scope f cd A outer ago agn E)).stack,∀b,env.frame=some b->b∈iG ((a6 (cR P w cv) P w K mg base N qual scope f cd A outer ago agn E)).stack:=λenv he b hb=>aci.mpr ⟨env,he,hb⟩;have stays:(adk s.heap (iG ((a6 (cR P w cv) P w K mg base N qual scope f cd A outer ago agn E)).stack)).StaysIn s.heap:=λb o q=>aff _ q;show wpAny (model P w) (A.deeper (abw qual scope ago.heap.objs.size f cd)) (leaving (abw qual scope ago.heap.objs.size f cd) (.ref ea)) _ _ _;refine wpAny_leaves_madeW I.ok.frames rfl stays (PySem.W.funFrames_hide I.stack jz) hx λh' t Ez _ _ ups=>?_;have hB:∀b o,s.heap.get? b=some o->b∉iG ((a6 (cR P w cv) P w K mg base N qual scope f cd A outer ago agn E)).stack->(adk s.heap (iG ((a6 (cR P w cv) P w K mg base N qual scope f cd A outer ago agn E)).stack)).get? b=some o:=λb o e hb=>ae8 _ e hb;have mL:∀b o,s.heap.get? b=some o->b∉iG ((a6 (cR P w cv) P w K mg base N qual scope f cd A outer ago agn E)).stack->h'.get? b=some o:=λb o e hb=>Ez.1 b o (hB b o e hb);have u1:Un (iG outer) [] agn H ago.heap s.heap:=I.base;have E7:∀b,(ago.heap.get? b).isSome=true->b≠ago.heap.objs.size:=λb hb z=>by
  obtain⟨o,ho⟩:=aar.mp hb;exact agj (ZG ho) (by rw[z];exact aaq _)
 have HD:∀b,b∉iG outer->(H b≠none\/(ago.heap.get? b).isSome=true)->b∉iG ((a6 (cR P w cv) P w K mg base N qual scope f cd A outer ago agn E)).stack:=λb hb hc z=>by
  rcases hc with hc | hc
  ·exact hc (I.stkFree b z)
  ·rw[wF] at z;rcases Zw.mp z with z | z
   ·exact E7 b hc z
   ·exact hb z
 refine⟨ea,n, .ref t,adk s.heap (iG ((a6 (cR P w cv) P w K mg base N qual scope f cd A outer ago agn E)).stack),H,rfl,I.os,I.bare,rA I.hok I.stkFree (λb o e hb hc=>mL b o e hb),yi u1 (λb o e hb hc=>mL b o e (HD b hb hc)) (λb o e hb=>?_),Ez,λb o e hc hb=>?_,hE⟩
 ·obtain⟨_,o',mJ,hd⟩:=I.stack.mem (show b∈iG ((a6 (cR P w cv) P w K mg base N qual scope f cd A outer ago agn E)).stack by rw[wF];exact Zp _ hb);rw[e] at mJ;cases mJ;exact ups b o (hx.keeps b o e) hd
 ·obtain⟨o',mJ⟩:∃o',s.heap.get? b=some o':=by
   rcases hc with hc | hc
   ·cases q:H b with
    |none=>exact agj q hc
    |some u=>exact obj_some (I.hok b u q)
   ·obtain⟨o1,h1⟩:=aar.mp hc;exact u1.there b o1 h1 (by simp)
  have zj:=HD b hb hc;rw[mL b o' mJ zj] at e;cases e;exact hB b o mJ zj
end
section
variable{X:Cx}{Xw:Nat->Hp->Prop}{cv:Nat->Value}{n:Nat}{C:Addr}{x:Str}{np bq pos:Pos}{e:Expr}{es:List Expr}{δs:DA}{bm:List Value}{B newId NW:String}
theorem oS(O:OwnCls x C bm newId X.mg X.base)(FB:ExcBaseFacts B newId NW bm)(hg:Gl X x)(hc:X.calm=true)(Qn:cv n= .ref C)(hx:LY X cv Xw)(ha:gL X Xw (e::es) δs)(lr:dL x:=by decide)
 (he:jp e es X.env:=by rfl)(j1:(abk bq (ZF es X.env)).any (·.1)=false:=by rfl):
 jm X Xw (.Raise (some (.Call (.Name x np) (e::es) [] bq)) none pos) (λρ=>δs ρ>>=λds=>if ds.length<=lim then bD n else ag):=λs0 agn f8 s σ H D I ⟨F,ρ,S,w⟩=>by
 obtain⟨tl,Nn,nm,q,bs,hdct,sn,sub,ab,col,dd,k0,k1,k2,k3,k5,mN,hC,hN,X7,T⟩:=O.obj;refine wpAny_Raise_call_subT (nm:=nm) (q:=q) (N:=Nn) (bs:=bs) (hdct:=hdct) (sn:=sn) (sub:=sub) (ab:=ab) (col:=col) (dd:=dd) (k0:=k0) (k1:=k1) (k2:=k2) (k3:=k3) (k5:=k5)
  FB (mN:=mN) (T.hasType FB.hasBase) (I.ok.hd hc) (by rw[he];show (false||(abk bq (ZF es X.env)).any (·.1))=false;rw[j1];rfl) X7 (kX I hg O.bound ⟨rfl,?_⟩ lr)
 have w:WPS X.K Xw s0 agn (δs ρ>>=λds=>if ds.length<=lim then bD n else ag) D:=w;have hA:=ha bq f8 s σ H (λvs H1=>vs.length<=lim/\Xw n H1) I ⟨F,ρ,S.st,by
  rcases(δs ρ).cs with q | ⟨m,q⟩ | ⟨ds,q⟩
  ·rw[q] at w;exact w.elim
  ·rw[q] at w⊢;exact λF' H' e'=>w F' H' (S.ext.trans e')
  ·rw[q] at w⊢;intro vs H' F' e' hd;have w:WPS X.K Xw s0 agn (if ds.length<=lim then bD n else ag) D:=w;split at w
   ·rename_i hl;exact⟨by rw[<-hd.len];exact hl,w F' H' (S.ext.trans e')⟩
   ·exact w.elim⟩
 rw[he] at hA⊢;refine abY (cE hA λus v4 ⟨vs,H1,I1,r,hl,hX⟩=>⟨rfl,by rw[<-r.length];have:=d_;omega,I1.bk _ _ hC,hN.keeps I1.bk,T.keeps I1.bk,λh' ea hm=>hx n f8 σ H1 v4 h' ea us I1 (by rw[Qn];exact hm) hX⟩)
end
def Mt:D->Option String
 | .non=>some "NoneType"
 | .bl _=>some "bool"
 | .int _=>some "int"
 | .str _=>some "str"
 | .tup _=>some "tuple"
 | .lst _=>some "list"
 |_=>none
def NZ(k T:String):Option Bool:=if T="str"\/T="int"\/T="bool"\/T="tuple"\/T="list" then some (decide (k=T)||(decide (k="bool")&&decide (T="int"))) else none
def l8:List D->M D
 |[d, .raw (.ty T)]=>match Mt d with
  |some k=>match NZ k T with
   |some b=>ae (.bl b)
   |none=>ag
  |none=>ag
 |_=>ag
theorem N9{K:ZE}(hk:k="NoneType"\/k="bool"\/k="int"\/k="str"\/k="tuple"\/k="list")(h:NZ k T=some b):ZK K (.type k) (.type T)=some b:=by
 unfold NZ at h;split at h
 ·rename_i hT;cases h;rcases hk with rfl | rfl | rfl | rfl | rfl | rfl<;>rcases hT with rfl | rfl | rfl | rfl | rfl<;>with_unfolding_all rfl
 ·cases h
section
variable{X:Cx}{Xw:Nat->Hp->Prop}{a b e e2:Expr}{δs:DA}{pos p:Pos}
def RD(K:ZE):List V->Hp->VK->Prop:=λxs H Q=>∃x T t b,xs=[x, .ty T]/\TyOf K H x t/\ZK K t (.type T)=some b/\Q (.bl b) H
theorem Ge:CallR X (.builtin "isinstance") (RD X.K):=by
 intro f8 s σ H xs us Q I r h;obtain⟨x,T,t,b,rfl,ty,e,q⟩:=h;obtain⟨u,w',rfl,r1,r2⟩:=vals2 r;cases (show w'=_ from r2);exact EN I r1 ty e λtk=>⟨.bl b,H,I.tok tk,rfl,q⟩
theorem Jn{K:ZE}(s:Same F H)(h:Den K F d v)(hk:Mt d=some k):TyOf K H v (.type k)/\(k="NoneType"\/k="bool"\/k="int"\/k="str"\/k="tuple"\/k="list"):=by
 cases d with
 |non=>cases hk;cases (show _=_ from h);exact⟨.non, .inl rfl⟩
 |bl x=>cases hk;cases (show _=_ from h);exact⟨.bl x, .inr (.inl rfl)⟩
 |int x=>cases hk;cases (show _=_ from h);exact⟨.int x, .inr (.inr (.inl rfl))⟩
 |str x=>cases hk;cases (show _=_ from h.1);exact⟨.str x, .inr (.inr (.inr (.inl rfl)))⟩
 |tup x=>cases hk;obtain⟨a,vs,rfl,h2,_⟩:=h;exact⟨.tup (s _ _ h2), .inr (.inr (.inr (.inr (.inl rfl))))⟩
 |lst x=>cases hk;obtain⟨a,vs,rfl,h2,_⟩:=h;exact⟨.lst (s _ _ h2), .inr (.inr (.inr (.inr (.inr rfl))))⟩
 |_=>cases hk
theorem EM{K:ZE}:yy K (RD K) l8:=λXw F H vs ds Q s h w=>by
 unfold l8 at w;split at w
 ·rename_i d T;obtain⟨v,v',rfl,h1,h2⟩:=h.two;cases (show _=_ from h2);split at w
  ·rename_i k hk;split at w
   ·rename_i b hb;obtain⟨ty,wB⟩:=Jn s h1 hk;exact⟨v,T, .type k,b,rfl,ty,N9 wB hb,WP.now w s rfl⟩
   ·exact w.elim
  ·exact w.elim
 ·exact w.elim
theorem sJ(hg:Gl X "isinstance")(hm:X.mg "isinstance"=none)(hb:aab "isinstance"=some (.builtin "isinstance"))(ha:gL X Xw [e,e2] δs)(he:jp e [e2] X.env:=by rfl)
 (j1:bv pos [e2] X.env:=by rfl):PD X Xw (.Call (.Name "isinstance" p) [e,e2] [] pos) (dA l8 δs):=
 dP Ge EM hg hm hb ha (by decide) (by decide) he j1
theorem vw{x:Str}(hg:Gl X x)(hm:X.mg x=none)(hv:aab x=some (.type T))(hn:x≠"__name__":=by decide)(hd:dL x:=by decide):PD X Xw (.Name x pos) (dC (.raw (.ty T))):=
 ja (K7 hg hm hv (show RelV (.ty T) (.type T) from rfl) hn hd) λ_=>rfl
def bools:List D->Option (List Bool)
 |[]=>some []
 | .bl b::r=>(bools r).map (b:: ·)
 |_=>none
def allM:List D->M D
 |[.lst ds]=>match bools ds with
  |some bs=>ae (.bl (bs.all id))
  |none=>ag
 |_=>ag
theorem iI{K:ZE}:∀{ds:List D}{vs:List V}{bs:List Bool},bools ds=some bs->DenL K F ds vs->vs=bs.map V.bl
 |[],_,_,e,h=>by cases e;exact h
 | .bl b::r,_,_,e,⟨v,r',h1,h2,h3⟩=>by
   unfold bools at e;cases q:bools r with
   |none=>rw[q] at e;cases e
   |some bs=>rw[q] at e;cases e;subst h1;rw[iI q h3,show v= .bl b from h2];rfl
 | .non::_,_,_,e,_=>by cases e
 | .int _::_,_,_,e,_=>by cases e
 | .str _::_,_,_,e,_=>by cases e
 | .raw _::_,_,_,e,_=>by cases e
 | .exc _::_,_,_,e,_=>by cases e
 | .scr _::_,_,_,e,_=>by cases e
 | .tup _::_,_,_,e,_=>by cases e
 | .lst _::_,_,_,e,_=>by cases e
theorem nZ:∀{bs:List Bool}{aL:List Value},Vals (bs.map V.bl) aL->aL=bs.map abc
 |[],_,r=>by cases r;rfl
 |b::bs,_,r=>by
  cases r with
  |cons r1 r2=>cases (show _=_ from r1);rw[nZ r2];rfl
def UP:List V->Hp->VK->Prop:=λxs H Q=>∃(a:Addr) (bs:List Bool),xs=[.ref a]/\H a=some (.lst (bs.map V.bl))/\Q (.bl (bs.all id)) H
theorem all_range{bs:List Bool}:(ZX bs.length).all (λi=>bs.getD i false)=bs.all id:=by
 induction bs with
 |nil=>rfl
 |cons b bs ih=>
  rw[Zz,adn,acJ,acR,acJ];congr 1
theorem Ef(hc:X.calm=true):CallR X (.builtin "all") UP:=by
 intro f8 s σ H xs us Q I r h;obtain⟨a,bs,rfl,hH,q⟩:=h;obtain⟨u,rfl,r1⟩:=vals1 r;cases (show u=_ from r1);obtain⟨aL,r2,pl,hz⟩:=I.list (SqL.of hH);obtain rfl:=nZ r2;have iV:a≠s.heap.objs.size:=ZW (I.hok.lt hH);refine call_all_walk (acE pl.isList ?_);refine⟨s.heap.objs.size,_,_,_,_,_,λi=>bs.getD i false,rfl,aeH (show X.A.in1.handled=none from I.ok.hd hc) s.heap.objs.size a iV (bs.map abc).toArray,⟨⟨_,ZL _ rfl,rfl,rfl⟩,afl pl.isList λo e=>Zr _ e⟩,?_,λh' tk k=>?_⟩
 ·intro i v s' Q' E' hv hq;have hv:(bs.map abc).toArray[i]? =some v:=hv;rw[adB,ZJ] at hv;cases q':bs[i]? with
  |none=>rw[q'] at hv;cases hv
  |some b=>
   rw[q'] at hv;cases hv;have:bs.getD i false=b:=by rw[Z3,q'];rfl
   have hq:Q' (bs.getD i false) s':=hq;rw[this] at hq;exact aaH hq
 ·have e:(ZX (bs.map abc).toArray.size).all (λi=>bs.getD i false)=bs.all id:=by
   rw[ZD,Zo];exact all_range
  rw[e];refine⟨.bl (bs.all id),H,I.kept λb o e'=>k b o (λz=>?_) (Zr _ e'),rfl,q⟩;have z:b=s.heap.objs.size:=by simpa using z
  exact agj (ZG e') (by rw[z];exact aaq _)
theorem BS(hc:X.calm=true)(hg:Gl X "all")(hm:X.mg "all"=none)(hb:aab "all"=some (.builtin "all"))(ha:gL X Xw [e] δs)(he:kt e X.env:=by rfl):PD X Xw (.Call (.Name "all" p) [e] [] pos) (dA allM δs):=
 dP (Ef hc) (λXw F H vs ds Q s h w=>by
  unfold allM at w;split at w
  ·rename_i ds;obtain⟨v,rfl,h1⟩:=h.one;obtain⟨a,ws,rfl,h2,h3,_⟩:=h1;split at w
   ·rename_i bs hb;exact⟨a,bs,rfl,by rw[<-iI hb h3];exact s _ _ h2,WP.now w s rfl⟩
   ·exact w.elim
  ·exact w.elim) hg hm hb ha (by decide) (by decide) he rfl
end
section
variable{X:Cx}{Xw:Nat->Hp->Prop}{a b e e2:Expr}{es:List Expr}{δ δa δb:DE}{pos p apos bq:Pos}
theorem LL:∀s0 agn D σ H,tS X.K Xw s0 agn (nN i δ) D σ H->Ji (U4 X.K "list" DQ (tu i) (Jh (tD X.K Xw δ) LN)) D σ H:=λs0 agn D σ H ⟨F,ρ,s,w⟩=>by
 unfold nN at w;cases ho:Fh ρ i with
 |none=>rw[ho] at w;exact w.elim
 |some ds=>
  rw[ho] at w;have hi:=vo ho;obtain⟨v,hv,a,o,rfl,hH,hF,vs,rfl,hd,hl⟩:=s.st.den i _ hi;have w:WPS X.K Xw s0 agn (δ ρ>>=λd=>if ds.length<lim then ae (.nx (ρ.set i (some (.ow (.lst (ds++[d])))))) else ag) D:=w;refine⟨.ref a,hv, .inl ⟨rfl,vs,SqL.of hH⟩,F,ρ,s.st,?_⟩;rcases(δ ρ).cs with q | ⟨n,q⟩ | ⟨d,q⟩
  ·rw[q] at w;exact w.elim
  ·rw[q] at w⊢;exact λF' H' e'=>w F' H' (s.ext.trans e')
  ·rw[q] at w⊢;intro u H1 F1 e1 hq;have w:WPS X.K Xw s0 agn (if ds.length<lim then ae (.nx (ρ.set i (some (.ow (.lst (ds++[d])))))) else ag) D:=w;split at w
   ·rename_i dO;have T0:=hd.len;refine⟨a,vs,u,rfl,rfl,e1.hh _ _ hH,by have:=d_;omega,?_⟩;exact w σ F1 _ ((s.ext' e1).chg hi hv ⟨_,rfl,DenL.append (DenL.mono e1.ff hd) (.cons hq .nil),by rw[ZA];exact dO⟩)
   ·exact w.elim
theorem LM:∀s0 agn D σ H,tS X.K Xw s0 agn (B6 i δ) D σ H->Ji (U4 X.K "list" DR (tu i) (Jh (tD X.K Xw δ) LN)) D σ H:=λs0 agn D σ H ⟨F,ρ,s,w⟩=>by
 unfold B6 at w;cases ho:Fh ρ i with
 |none=>rw[ho] at w;exact w.elim
 |some ds=>
  rw[ho] at w;have hi:=vo ho;obtain⟨v,hv,a,o,rfl,hH,hF,vs,rfl,hd,hl⟩:=s.st.den i _ hi;have w:WPS X.K Xw s0 agn (δ ρ>>=λd=>lstM d>>=λes=>if ds.length+es.length<=lim then ae (.nx (ρ.set i (some (.ow (.lst (ds++es)))))) else ag) D:=w;refine⟨.ref a,hv, .inl ⟨rfl,vs,SqL.of hH⟩,F,ρ,s.st,?_⟩;rcases(δ ρ).cs with q | ⟨n,q⟩ | ⟨d,q⟩
  ·rw[q] at w;exact w.elim
  ·rw[q] at w⊢;exact λF' H' e'=>w F' H' (s.ext.trans e')
  ·rw[q] at w⊢;intro u H1 F1 e1 hq;cases d with
   |lst es=>
    obtain⟨b,ws,rfl,k2,k3,k4⟩:=hq;have w:WPS X.K Xw s0 agn (if ds.length+es.length<=lim then ae (.nx (ρ.set i (some (.ow (.lst (ds++es)))))) else ag) D:=w;split at w
    ·rename_i dO;have T0:=hd.len;have VU:=k3.len;refine⟨a,b,vs,ws,rfl,rfl,e1.hh _ _ hH,e1.fh _ _ k2,by have:=d_;omega,?_⟩;exact w σ F1 _ ((s.ext' e1).chg hi hv ⟨_,rfl,DenL.append (DenL.mono e1.ff hd) k3,by rw[ZA];exact dO⟩)
    ·exact w.elim
   |_=>exact w.elim
theorem g8(hv:PE X (.Name x p) (tu i))(he:PD X Xw e δ)(hs:adq (.Call (.Attribute (.Name x p) "append" apos) [e] [] bq) none pos.line X.env=pure false:=by rfl)
 (iS:abJ (.Name x p) "append" X.env (eval (.Name x p) X.env)=eval (.Name x p) X.env:=by rfl)
 (oz:cr bq e X.env:=by rfl)
 (iU:ci apos bq:=by rfl)(qA:kt e X.env:=by rfl):jm X Xw (.Expr (.Call (.Attribute (.Name x p) "append" apos) [e] [] bq) pos) (nN i δ):=λs0 agn=>
 PS.weak (qF (Ig ab9 PySem.F.slot_list_append PySem.F.type_list_append vk hv (nB he sH qA) iS oz iU qA rfl) hs) λD σ H w=>LL s0 agn D σ H w
theorem DO(hv:PE X (.Name x p) (tu i))(he:PD X Xw e δ)(hs:adq (.Call (.Attribute (.Name x p) "extend" apos) [e] [] bq) none pos.line X.env=pure false:=by rfl)
 (iS:abJ (.Name x p) "extend" X.env (eval (.Name x p) X.env)=eval (.Name x p) X.env:=by rfl)
 (oz:cr bq e X.env:=by rfl)
 (iU:ci apos bq:=by rfl)(qA:kt e X.env:=by rfl):jm X Xw (.Expr (.Call (.Attribute (.Name x p) "extend" apos) [e] [] bq) pos) (B6 i δ):=λs0 agn=>
 PS.weak (qF (Ig ab9 PySem.F.slot_list_extend PySem.F.type_list_extend E6 hv (nB he sH qA) iS oz iU qA rfl) hs) λD σ H w=>LM s0 agn D σ H w
theorem HK:OpR X (acv .Add) (λx y H Q=>∃a b ys,x= .ref a/\y= .ref b/\SqT X.K H a []/\SqT X.K H b ys/\Q (.ref b) H):=by
 intro f8 s σ H x y v u Q I rx ry h;obtain⟨a,b,ys,rfl,rfl,ha,hb,q⟩:=h;cases rx;cases ry;obtain⟨aL,r1,p1,_⟩:=I.tuple ha;obtain⟨gb,r2,p2,_⟩:=I.tuple hb;cases r1;obtain⟨⟨cls,dd,data,sl⟩,ho,hc,n,hd⟩:=id p1;obtain⟨⟨PZ,AU,data2,ME⟩,JA,GU,n2,hd2⟩:=id p2;simp only at hc hd GU hd2;subst hc hd GU hd2;exact concat_meets ⟨_,ho,rfl⟩ ⟨_,JA,rfl⟩ aeO afL ac9 ac3 (acQ _ _)
  (tuple_addW0 a b _ _ n n2 dd AU sl ME (by simp)) ⟨ho,JA,⟨.ref b,H,I,rfl,q⟩⟩
def u4:D->D->M D
 | .tup x, .tup y=>if x.length+y.length<=lim then ae (.tup (x++y)) else ag
 |_,_=>ag
theorem xq(ha:PD X Xw a δa)(hb:PD X Xw b δb):PD X Xw (.BinOp a .Add b pos) (d2 u4 δa δb):=nG (HK.or KO) (λXw F H x y dx dy Q s hx hy w=>by
 unfold u4 at w;split at w
 ·rename_i i j;obtain⟨a,vs,h1,h2,h3,h4⟩:=hx;obtain⟨a',iH,k1,k2,k3,k4⟩:=hy;split at w
  ·rename_i hl;have e1:=h3.len;have e2:=k3.len;have:=d_;by_cases hv:vs=[]
   ·subst hv;have:i=[]:=by cases i with | nil=>rfl | cons _ _=>simp at e1
    subst this;exact .inl ⟨a,a',iH,h1,k1,SqT.of (s _ _ h2),SqT.of (s _ _ k2),WP.now w s ⟨a',iH,k1▸rfl,k2,k3,k4⟩⟩
   ·refine .inr ⟨a,a',vs,iH,h1,k1,SqT.of (s _ _ h2),SqT.of (s _ _ k2),hv,by omega,λz=>?_,λz p hp=>?_⟩
    ·subst z;have:j=[]:=by cases j with | nil=>rfl | cons _ _=>simp at e2
     subst this;rw[Z_] at w;exact WP.now w s ⟨a,vs,rfl,h2,h3,h4⟩
    ·exact WP.fin w (Ext.lay s hp) ⟨p,_,rfl,aJ,DenL.mono (Ext.lay s hp).ff (h3.append k3),by rw[ZA];exact hl⟩
  ·exact w.elim
 ·exact w.elim) ha hb
end
section
variable{X:Cx}{Xw:Nat->Hp->Prop}{a b e e2 o:Expr}{es:List Expr}{δa δb δo:DE}{δs:DA}{pos p apos bq:Pos}
def dM(kd:D->Bool)(g:D->List D->M D)(o:DE)(s:DA):DE:=λρ=>o ρ>>=λd=>if kd d then s ρ>>=λds=>g d ds else ag
theorem HW{id:String}(pa:PlainAttrs T)(slot:Slot T name id)(Ui:typeOf (.builtin id)=pure (.type "method_descriptor"))(hm:PO X id r)
 (hk:∀(F H:Hp) (x:V) (d:D),kd d=true->Same F H->Den X.K F d x->R1 X.K T x H)
 (hd:∀(Xw:Nat->Hp->Prop) (F H:Hp) (x:V) (vs:List V) (d:D) (ds:List D) (Q:VK),Same F H->Den X.K F d x->DenL X.K F ds vs->WP X.K Xw F H (g d ds) Q->r x vs H Q)
 (ho:PD X Xw o δo)(ha:gL X Xw (e::es) δs)
 (iS:abJ o name X.env (eval o X.env)=eval o X.env:=by rfl)
 (oz:((abk bq (ZF (e::es) X.env)).all (λx=>!x.1)&&(ade bq (ab1 [] X.env)).all (λx=>x.1.isSome)
  &&decide ((e::es).length+([]:List aca).length+(if ([]:List aca).isEmpty then 0 else 1)<30))=true:=by rfl)
 (iU:ci apos bq:=by rfl) (hs:jp e es X.env:=by rfl) (Br:(abk bq (ZF es X.env)).any (·.1)=false:=by rfl):
 PD X Xw (.Call (.Attribute o name apos) (e::es) [] bq) (dM kd g δo δs):=PE.weak (Ig pa slot Ui hm ho ha iS oz iU hs Br) λσ H Q ⟨F,ρ,s,w⟩=>by
 refine⟨F,ρ,s,WP.mono (WP.bind w) λv H1 ⟨F1,d,e1,q1,w1⟩=>?_⟩;split at w1
 ·rename_i XR;refine⟨hk F1 H1 v d XR e1.fh q1,F1,ρ,s.ext e1,WPL.mono (WP.bindL w1) λvs H2 ⟨F2,ds,e2,q2,w2⟩=>?_⟩;exact hd Xw F2 H2 v vs d ds Q e2.fh (Den.mono e2.ff q1) q2 w2
 ·exact w1.elim
def SI:D->Bool
 | .str _=>true
 |_=>false
def pf:D->Bool
 | .lst _=>true
 |_=>false
theorem NX{K:ZE}(F H:Hp)(x:V)(d:D)(h:SI d=true)(s:Same F H)(q:Den K F d x):R1 K "str" x H:=by
 cases d with
 |str z=>cases (show _=_ from q.1);exact rfl
 |_=>cases h
theorem zt{K:ZE}(F H:Hp)(x:V)(d:D)(h:pf d=true)(s:Same F H)(q:Den K F d x):R1 K "list" x H:=by
 cases d with
 |lst z=>obtain⟨a,vs,rfl,h2,_⟩:=q;exact .inl ⟨rfl,vs,SqL.of (s _ _ h2)⟩
 |_=>cases h
def yh:List D->Option (List Str)
 |[]=>some []
 | .str x::r=>(yh r).map (x:: ·)
 |_=>none
theorem tE{K:ZE}:∀{ds:List D}{vs:List V}{xs:List Str},yh ds=some xs->DenL K F ds vs->vs=xs.map V.str
 |[],_,_,e,h=>by cases e;exact h
 | .str b::r,_,_,e,⟨v,r',h1,h2,h3⟩=>by
   unfold yh at e;cases q:yh r with
   |none=>rw[q] at e;cases e
   |some bs=>rw[q] at e;cases e;subst h1;rw[tE q h3,show v= .str b from h2.1];rfl
 | .non::_,_,_,e,_=>by cases e
 | .int _::_,_,_,e,_=>by cases e
 | .bl _::_,_,_,e,_=>by cases e
 | .raw _::_,_,_,e,_=>by cases e
 | .exc _::_,_,_,e,_=>by cases e
 | .scr _::_,_,_,e,_=>by cases e
 | .tup _::_,_,_,e,_=>by cases e
 | .lst _::_,_,_,e,_=>by cases e
theorem tI:∀{xs:List Str}{aL:List Value},Vals (xs.map V.str) aL->StrsAre aL xs
 |[],_,r=>by cases r;exact .nil
 |b::bs,_,r=>by
  cases r with
  |cons r1 r2=>obtain⟨t,rfl⟩:=r1;exact .cons b t (tI r2)
def fW:List Str->Str
 |[]=>⟨#[]⟩
 |x::r=>x++fW r
def joinM:D->List D->M D
 | .str sep,[.lst ds]=>match yh ds with
   |some xs=>if sep.length=0/\(xs.map (·.length)).sum<=lim then ae (.str (fW xs)) else ag
   |none=>ag
 | .str sep,[.tup ds]=>match yh ds with
   |some xs=>if sep.length=0/\(xs.map (·.length)).sum<=lim then ae (.str (fW xs)) else ag
   |none=>ag
 |_,_=>ag
theorem qR:∀xs:List Str,(fW xs).length=(xs.map (·.length)).sum
 |[]=>rfl
 |x::r=>by
  show (x++fW r).length=_;rw[bK,qR r,Zu,aaS]
theorem LJ{x:Str}(h:x.length=0):x=⟨#[]⟩:=by
 obtain⟨⟨l⟩⟩:=x;have:l.length=0:=h;cases l with
 |nil=>rfl
 |cons _ _=>simp at this
theorem pU(x:Str):x++(⟨#[]⟩:Str)=x:=by
 obtain⟨c⟩:=x;show (⟨c++ #[]⟩:Str)=⟨c⟩
 simp
theorem ph(sep:Str)(h:sep.length=0):∀xs:List Str,Txt.join sep xs=fW xs:=by
 have e:=LJ h;subst e;intro xs;show Builtin.Str.glued _ xs=_;rw[StrLaws.glued_eq_join];induction xs with
 |nil=>rfl
 |cons x r ih=>
  cases r with
  |nil=>show x=x++(⟨#[]⟩:Str);rw[pU]
  |cons y r=>show x++(⟨#[]⟩:Str)++Str.join _ (y::r)=x++fW (y::r);rw[pU,ih]
def rJoin(K:ZE):V->List V->Hp->VK->Prop:=λx vs H Q=>∃(sep:Str) (a:Addr) (xs:List Str),x= .str sep/\vs=[.ref a]/\(H a=some (.lst (xs.map V.str))\/H a=some (.tup (xs.map V.str)))/\sep.length=0/\(xs.map (·.length)).sum<=lim/\Q (.str (fW xs)) H
theorem KD:PO X "str.join" (rJoin X.K):=by
 intro f8 s σ H x vs v us Q I rx rv h;obtain⟨sep,a,xs,rfl,rfl,hH,hs,hl,q⟩:=h;obtain⟨t,rfl⟩:=rx;obtain⟨u,rfl,r1⟩:=rv.one;cases (show u=_ from r1);have hok:(xs.map (·.length)).sum+xs.length*sep.length<=16777216:=by
  rw[hs,Nat.mul_zero];unfold lim at hl;omega
 rcases hH with hH | hH
 ·obtain⟨aL,r2,pl,hz⟩:=I.list (SqL.of (K:=X.K) hH);refine join_list pl.isList (by simpa using tI r2) hok λt' k=>⟨.str (fW xs),H,I.tok k,⟨t',by rw[ph sep hs]⟩,q⟩
 ·obtain⟨aL,r2,pl,hz⟩:=I.tuple (SqT.of hH);refine join_tuple pl (by simpa using tI r2) hok λt' k=>⟨.str (fW xs),H,I.tok k,⟨t',by rw[ph sep hs]⟩,q⟩
theorem K2(ho:PD X Xw o δo)(ha:gL X Xw [e] δs)(iS:abJ o "join" X.env (eval o X.env)=eval o X.env:=by rfl)
 (oz:cr bq e X.env:=by rfl)
 (iU:ci apos bq:=by rfl)(qA:kt e X.env:=by rfl):PD X Xw (.Call (.Attribute o "join" apos) [e] [] bq) (dM SI joinM δo δs):=
 HW PySem.F.plainAttrs_str PySem.F.slot_str_join PySem.F.type_str_join KD NX (λXw F H x vs d ds Q s hx hv w=>by
  unfold joinM at w;split at w
  ·rename_i sep ds;obtain⟨v,rfl,h1⟩:=hv.one;obtain⟨a,ws,rfl,h2,h3,_⟩:=h1;split at w
   ·rename_i xs QP;split at w
    ·rename_i hc;exact⟨sep,a,xs,hx.1,rfl, .inl (by rw[<-tE QP h3];exact s _ _ h2),hc.1,hc.2,WP.now w s ⟨rfl,by rw[qR];exact hc.2⟩⟩
    ·exact w.elim
   ·exact w.elim
  ·rename_i sep ds;obtain⟨v,rfl,h1⟩:=hv.one;obtain⟨a,ws,rfl,h2,h3,_⟩:=h1;split at w
   ·rename_i xs QP;split at w
    ·rename_i hc;exact⟨sep,a,xs,hx.1,rfl, .inr (by rw[<-tE QP h3];exact s _ _ h2),hc.1,hc.2,WP.now w s ⟨rfl,by rw[qR];exact hc.2⟩⟩
    ·exact w.elim
   ·exact w.elim
  ·exact w.elim) ho ha iS oz iU qA rfl
def Jm:List D->M D
 |[.lst ds]=>ae (.tup ds)
 |[.tup ds]=>ae (.tup ds)
 |_=>ag
def rR:List D->M D
 |[.lst ds]=>ae (.lst ds)
 |[.tup ds]=>ae (.lst ds)
 |_=>ag
theorem Ie(hg:Gl X "tuple")(hm:X.mg "tuple"=none)(hb:aab "tuple"=some (.type "tuple"))(ha:gL X Xw [e] δs)(he:kt e X.env:=by rfl):PD X Xw (.Call (.Name "tuple" p) [e] [] pos) (dA Jm δs):=
 oN tT (λXw F H vs ds Q s h w=>by
  unfold Jm at w;split at w
  ·rename_i ds;obtain⟨v,rfl,h1⟩:=h.one;obtain⟨a,ws,rfl,h2,h3,h4⟩:=h1;exact⟨a,ws,rfl, .inl ⟨SqL.of (s _ _ h2),λl hl=>WP.fin w (Ext.lay s hl) ⟨l,ws,rfl,aJ,DenL.mono (Ext.lay s hl).ff h3,h4⟩⟩⟩
  ·rename_i ds;obtain⟨v,rfl,h1⟩:=h.one;obtain⟨a,ws,rfl,h2,h3,h4⟩:=h1;exact⟨a,ws,rfl, .inr ⟨SqT.of (s _ _ h2),WP.now w s ⟨a,ws,rfl,h2,h3,h4⟩⟩⟩
  ·exact w.elim) hg hm hb ha (by decide) (by decide) he rfl
theorem xu(hg:Gl X "list")(hm:X.mg "list"=none)(hb:aab "list"=some (.type "list"))(ha:gL X Xw [e] δs)(he:kt e X.env:=by rfl):PD X Xw (.Call (.Name "list" p) [e] [] pos) (dA rR δs):=
 oN wa (λXw F H vs ds Q s h w=>by
  unfold rR at w;split at w
  ·rename_i ds;obtain⟨v,rfl,h1⟩:=h.one;obtain⟨a,ws,rfl,h2,h3,h4⟩:=h1;exact⟨a,ws,rfl, .inl (SqL.of (s _ _ h2)),λl hl=>WP.fin w (Ext.lay s hl) ⟨l,ws,rfl,aJ,DenL.mono (Ext.lay s hl).ff h3,h4⟩⟩
  ·rename_i ds;obtain⟨v,rfl,h1⟩:=h.one;obtain⟨a,ws,rfl,h2,h3,h4⟩:=h1;exact⟨a,ws,rfl, .inr (SqT.of (s _ _ h2)),λl hl=>WP.fin w (Ext.lay s hl) ⟨l,ws,rfl,aJ,DenL.mono (Ext.lay s hl).ff h3,h4⟩⟩
  ·exact w.elim) hg hm hb ha (by decide) (by decide) he rfl
theorem BW(hc:X.calm=true)(hg:Gl X "max")(hm:X.mg "max"=none)(hb:aab "max"=some (.builtin "max"))(ha:gL X Xw [e,e2] δs)(he:jp e [e2] X.env:=by rfl)
 (j1:bv pos [e2] X.env:=by rfl):PD X Xw (.Call (.Name "max" p) [e,e2] [] pos) (dA BC δs):=
 dP (Ej hc) (λXw F H vs ds Q s h w=>by
  unfold BC at w;split at w
  ·obtain⟨v,v',rfl,h1,h2⟩:=h.two;cases (show _=_ from h1);cases (show _=_ from h2);exact⟨_,_,rfl,WP.now w s rfl⟩
  ·exact w.elim) hg hm hb ha (by decide) (by decide) he j1
theorem H8(hc:X.calm=true)(hg:Gl X "min")(hm:X.mg "min"=none)(hb:aab "min"=some (.builtin "min"))(ha:gL X Xw [e,e2] δs)(he:jp e [e2] X.env:=by rfl)
 (j1:bv pos [e2] X.env:=by rfl):PD X Xw (.Call (.Name "min" p) [e,e2] [] pos) (dA E4 δs):=
 dP (Ek hc) (λXw F H vs ds Q s h w=>by
  unfold E4 at w;split at w
  ·obtain⟨v,v',rfl,h1,h2⟩:=h.two;cases (show _=_ from h1);cases (show _=_ from h2);exact⟨_,_,rfl,WP.now w s rfl⟩
  ·exact w.elim) hg hm hb ha (by decide) (by decide) he j1
def nums:List D->Option (List Int)
 |[]=>some []
 | .int x::r=>(nums r).map (x:: ·)
 |_=>none
theorem iX{K:ZE}:∀{ds:List D}{vs:List V}{xs:List Int},nums ds=some xs->DenL K F ds vs->vs=xs.map V.int
 |[],_,_,e,h=>by cases e;exact h
 | .int b::r,_,_,e,⟨v,r',h1,h2,h3⟩=>by
   unfold nums at e;cases q:nums r with
   |none=>rw[q] at e;cases e
   |some bs=>rw[q] at e;cases e;subst h1;rw[iX q h3,show v= .int b from h2];rfl
 | .non::_,_,_,e,_=>by cases e
 | .str _::_,_,_,e,_=>by cases e
 | .bl _::_,_,_,e,_=>by cases e
 | .raw _::_,_,_,e,_=>by cases e
 | .exc _::_,_,_,e,_=>by cases e
 | .scr _::_,_,_,e,_=>by cases e
 | .tup _::_,_,_,e,_=>by cases e
 | .lst _::_,_,_,e,_=>by cases e
def tX(neg:Bool):D->D->M D
 | .int i, .tup ds=>match nums ds with | some ns=>ae (.bl (if neg then !ns.contains i else ns.contains i)) | none=>ag
 |_,_=>ag
theorem G7(i:Int)(ns:List Int):SH (.int i) (ns.map V.int)=ns.contains i:=by
 unfold SH;rw[afk];induction ns with
 |nil=>rfl
 |cons n ns ih=>
  rw[abC,afX,ih];congr 1;show Js (.int n) (.int i)=(i==n)
  unfold Js;exact Bool.beq_comm
theorem G6{neg:Bool}{K:ZE}:yz K (UU K neg) (tX neg):=λXw F H x y dx dy Q s hx hy w=>by
 unfold tX at w;split at w
 ·rename_i i ds;obtain⟨a,vs,h1,h2,h3,h4⟩:=hy;split at w
  ·rename_i ns hn;have hv:=iX hn h3;subst hv;cases (show _=_ from hx);refine⟨a,ns.map V.int,h1, .inr (SqT.of (s _ _ h2)),rfl,?_,?_⟩
   ·rw[acR];exact aan.mpr λ_ _=>rfl
   ·rw[G7];exact WP.now w s rfl
  ·exact w.elim
 ·exact w.elim
theorem Fs(ha:PD X Xw a δa)(hb:PD X Xw b δb)(hm:aaB .NotIn b=false:=by rfl):qu X Xw (.Compare a [.NotIn] [b] pos) (cI (d2 (tX true) δa δb)):=g_ xn G6 ha hb hm
def GJ(neg:Bool):D->D->M D
 | .str x, .str y=>ae (.bl (if neg then !(!(ab3 y x 0 y.length 1).isEmpty) else !(ab3 y x 0 y.length 1).isEmpty))
 |_,_=>ag
theorem OD(ha:PD X Xw a δa)(hb:PD X Xw b δb)(hm:aaB .In b=false:=by rfl):PD X Xw (.Compare a [.In] [b] pos) (d2 (GJ false) δa δb):=BU Fe (λXw F H x y dx dy Q s hx hy w=>by
 unfold GJ at w;split at w
 ·exact⟨_,_,hx.1,hy.1,WP.now w s rfl⟩
 ·exact w.elim) ha hb hm
end
end L3
namespace L3
open PySem PySem.Spec L2 SeqAt HT
open PyProof.Rows hiding St
section
variable{Xw:Nat->Hp->Prop}{b:Expr}
def WPO(Xw:Nat->Hp->Prop)(F H:Hp)(m:M (Option Int))(Q:Option Int->Hp->Prop):Prop:=
 match m with
 |none=>False
 |some (.ok b)=>∀H' F',Ext F H F' H'->Q b H'
 |some (.ex n)=>∀F' H',Ext F H F' H'->Xw n H'
theorem WPO.mono{Xw:Nat->Hp->Prop}{F H:Hp}{m:M (Option Int)}{Q Q':Option Int->Hp->Prop}(h:WPO Xw F H m Q)(k:∀v H',Q v H'->Q' v H'):WPO Xw F H m Q':=by
 match m,h with
 |none,h=>exact h
 |some (.ok d),h=>exact λH2 F2 e2=>k _ _ (h H2 F2 e2)
 |some (.ex n),h=>exact h
end
def R9(x:Str):It:=⟨λi _=>i<x.cps.size,λi H v H'=>H'=H/\∃c,x.cps[i]? =some c/\v= .str ⟨#[c]⟩,λi _=>x.cps.size<=i⟩
theorem FI{P:Z5}{K:ZE}(it:Addr)(x:Str)(t:Tok):Turn P w K tg (R9 x) [it] it (λi h=>i<=x.cps.size/\h.IsStrIter it "str_ascii_iterator" x t i) where
 mem:=by simp
 obj:=λi h st b hb=>by
  have e:b=it:=by simpa using hb
  subst e;obtain⟨_,o,e,c,d⟩:=st;exact⟨o,e,λv z=>by rw[d] at z;cases z⟩
 keep:=λi h h' st k=>⟨st.1,let ⟨o,e,r⟩:=st.2;⟨o,k it (by simp) o e,r⟩⟩
 item:=by
  intro X hP hw hK hc i f8 s σ H E I hf st hg;subst hP hw hK;obtain⟨f0,f1,f2,f3,f4,f5⟩:=hf it (by simp);have hi:i<x.cps.size:=hg;refine(Walks.strAscii (I.ok.hd hc) it x t).item i s _ _ hi st.2 λv h' tk hv th kk=>?_;obtain⟨c,u,Tv,rfl⟩:=hv;have I1:Inv X f8 σ H {s with heap:=h',toks:=tk}:=I.turned (λb o hb e=>kk b o (by simpa using hb) e) f0 f1 f3 f4 f5;obtain⟨o,e,cc,dd⟩:=id th;exact⟨_,rfl,u5 e cc dd (by decide) ⟨.str ⟨#[c]⟩,H,I1,⟨u,rfl⟩,⟨rfl,c,Tv,rfl⟩,⟨hi,th⟩,λb hb=>(hf b hb).1⟩⟩
 done:=by
  intro X hP hw hK hc i f8 s σ H E I hf st hg;subst hP hw hK;obtain⟨f0,f1,f2,f3,f4,f5⟩:=hf it (by simp);have hi:i=x.cps.size:=acP st.1 hg;subst hi;exact(Walks.strAscii (I.ok.hd hc) it x t).done s _ _ st.2 λh' tk kk=>⟨rfl,I.turned (λb o hb e=>kk b o (by simpa using hb) e) f0 f1 f3 f4 f5⟩
 self:=λ_ _ _ _ _ st h=>wpAny_pyIter_striter_ascii st.2 h
theorem FJ{P:Z5}{K:ZE}(it:Addr)(x:Str)(t:Tok):Turn P w K tg (R9 x) [it] it (λi h=>i<=x.cps.size/\h.IsStrIter it "str_iterator" x t i) where
 mem:=by simp
 obj:=λi h st b hb=>by
  have e:b=it:=by simpa using hb
  subst e;obtain⟨_,o,e,c,d⟩:=st;exact⟨o,e,λv z=>by rw[d] at z;cases z⟩
 keep:=λi h h' st k=>⟨st.1,let ⟨o,e,r⟩:=st.2;⟨o,k it (by simp) o e,r⟩⟩
 item:=by
  intro X hP hw hK hc i f8 s σ H E I hf st hg;subst hP hw hK;obtain⟨f0,f1,f2,f3,f4,f5⟩:=hf it (by simp);have hi:i<x.cps.size:=hg;refine(Walks.strWide (I.ok.hd hc) it x t).item i s _ _ hi st.2 λv h' tk hv th kk=>?_;obtain⟨c,u,Tv,rfl⟩:=hv;have I1:Inv X f8 σ H {s with heap:=h',toks:=tk}:=I.turned (λb o hb e=>kk b o (by simpa using hb) e) f0 f1 f3 f4 f5;obtain⟨o,e,cc,dd⟩:=id th;exact⟨_,rfl,u5 e cc dd (by decide) ⟨.str ⟨#[c]⟩,H,I1,⟨u,rfl⟩,⟨rfl,c,Tv,rfl⟩,⟨hi,th⟩,λb hb=>(hf b hb).1⟩⟩
 done:=by
  intro X hP hw hK hc i f8 s σ H E I hf st hg;subst hP hw hK;obtain⟨f0,f1,f2,f3,f4,f5⟩:=hf it (by simp);have hi:i=x.cps.size:=acP st.1 hg;subst hi;exact(Walks.strWide (I.ok.hd hc) it x t).done s _ _ st.2 λh' tk kk=>⟨rfl,I.turned (λb o hb e=>kk b o (by simpa using hb) e) f0 f1 f3 f4 f5⟩
 self:=λ_ _ _ _ _ st h=>wpAny_pyIter_striter_wide st.2 h
section
variable{X:Cx}{Xw:Nat->Hp->Prop}{tg a b e l o:Expr}{δ δo:DE}{δs:DA}{apos bq:Pos}
def Us(tl:TE):TI:=λσ H R=>tl σ H λx H1=>∃z,x= .str z/\R (R9 z) H1
theorem OQ{tl:TE}(hl:PE X l tl):PI X tg l (Us tl):=by
 intro f8 s σ H R I h;refine cE (hl f8 s σ H _ I h) λv s1 ⟨x,H1,I1,r1,q1⟩=>?_;obtain⟨z,e,q⟩:=q1;subst e;obtain⟨t,rfl⟩:=r1;have fp:∀b∈[s1.heap.objs.size],tN X f8 H1 b:=λb hb=>by
  have e:b=s1.heap.objs.size:=by simpa using hb
  subst e;exact I1.fpOk (Zv _) (I1.hok.fresh (Zv _))
 cases ha:z.cps.all (· <128)
 ·exact wpAny_pyIter_wide ha ⟨s1.heap.objs.size,[s1.heap.objs.size],_,_,H1,rfl,I1.kept (t':=s1.toks) λb o e=>Zr _ e,FJ _ z t,⟨aae _,_,ZL _ rfl,rfl,rfl⟩,fp,q⟩
 ·exact wpAny_pyIter_ascii ha ⟨s1.heap.objs.size,[s1.heap.objs.size],_,_,H1,rfl,I1.kept λb o e=>Zr _ e,FI _ z t,⟨aae _,_,ZL _ rfl,rfl,rfl⟩,fp,q⟩
def signs(x:Str):List D:=x.cps.toList.map λc=>D.str ⟨#[c]⟩
def Pa:D->M (List D)
 | .str x=>ae (signs x)
 |_=>ag
theorem Ko{K:ZE}{F:Hp}(x:Str):ItD K F (R9 x) (signs x):=λF' H' i s1 s2=>by
 refine⟨λd e=>?_,λhl=>show x.cps.size<=i by simpa[signs] using hl⟩;unfold signs at e;rw[ZJ] at e;cases q:x.cps.toList[i]? with
 |none=>rw[q] at e;cases e
 |some c=>
  rw[q] at e;cases e;have hi:i<x.cps.size:=by
   have:=(ZI.mp q).1;simpa using this
  refine⟨hi,λv H'' y=>?_⟩;obtain⟨e2,c',Jw,rfl⟩:=y;subst e2;have:c'=c:=by
   have q':x.cps[i]? =some c:=by simpa using q
   rw[q'] at Jw;exact(Z4 Jw).symm
  subst this;exact⟨F',Ext.refl s2,rfl,by show 1<=lim;decide⟩
theorem K6(h:PD X Xw l δ):Cu X Xw tg l (λρ=>δ ρ>>=Pa):=PI.weak (OQ h) λσ H R ⟨F,ρ,s,w⟩=>by
 refine⟨F,ρ,s,WP.mono (WPI.bind w) λv H1 ⟨F1,d,e1,q1,w1⟩=>?_⟩;cases d with
 |str z=>exact⟨z,q1.1,w1 _ _ _ (Ext.refl e1.fh) (Ko z)⟩
 |_=>exact w1.elim
def NY:Value->Bool
 | .bool b=>b
 |_=>false
theorem GA{bs:List Bool}:∀y,y∈(bs.map abc).toArray->EqAt A s y (.bool true) (NY y):=λy hy=>by
 have hy:y∈bs.map abc:=by simpa using hy
 obtain⟨b,_,rfl⟩:=Zx.mp hy;have:=EqAt.bool_bool (A:=A) (s:=s) b true;cases b<;>exact this
def En:D->List D->M D
 | .lst ds,[.bl true]=>match bools ds with | some bs=>ae (.int (bs.count true)) | none=>ag
 |_,_=>ag
def NR:D->List D->M D
 | .lst ds,[.bl true]=>match bools ds with
   |some bs=>if bs.contains true then ae (.int (bs.idxOf true)) else ag
   |none=>ag
 |_,_=>ag
theorem yR:∀bs:List Bool,(bs.map abc).countP NY=bs.count true
 |[]=>rfl
 |b::bs=>by
  rw[Zu,List.countP_cons,yR bs,List.count_cons];cases b<;>rfl
def US:V->List V->Hp->VK->Prop:=λx vs H Q=>∃(a:Addr) (bs:List Bool),x= .ref a/\vs=[.bl true]/\H a=some (.lst (bs.map V.bl))/\Q (.int (bs.count true)) H
def UT:V->List V->Hp->VK->Prop:=λx vs H Q=>∃(a:Addr) (bs:List Bool),x= .ref a/\vs=[.bl true]/\H a=some (.lst (bs.map V.bl))/\bs.contains true=true/\Q (.int (bs.idxOf true)) H
theorem Od:PO X "list.count" US:=by
 intro f8 s σ H x vs v us Q I rx rv h;obtain⟨a,bs,rfl,rfl,hH,q⟩:=h;cases rx;obtain⟨u,rfl,r1⟩:=rv.one;cases (show u=_ from r1);obtain⟨z,aL,n,r,hl,e⟩:=I.lstM hH;obtain rfl:=nZ r;refine adu F.slot_list_count ⟨_,e,rfl⟩ F.entry_list_count (F.args_list_count_2 _ _) (list_countAt a _ n none #[] (.bool true) NY) ⟨e,GA,?_⟩;have ec:((bs.map abc).toArray.toList.countP NY)=bs.count true:=yR bs;rw[ec];exact⟨.int (bs.count true),H,I.tok _,⟨_,rfl⟩,q⟩
theorem Oe:PO X "list.index" UT:=by
 intro f8 s σ H x vs v us Q I rx rv h;obtain⟨a,bs,rfl,rfl,hH,hc,q⟩:=h;cases rx;obtain⟨u,rfl,r1⟩:=rv.one;cases (show u=_ from r1);obtain⟨z,aL,n,r,hl,e⟩:=I.lstM hH;obtain rfl:=nZ r;have hm:true∈bs:=by simpa using hc
 have dO:bs.idxOf true<bs.length:=List.idxOf_lt_length_iff.mpr hm;have hz:bs.length<=ZQ:=by simpa using z
 have hs:ZQ=16777216:=aa4;refine adu F.slot_list_index ⟨_,e,rfl⟩ F.entry_list_index (F.args_list_index_2 _ _) (list_indexAt a _ n none #[] (.bool true) NY (bs.idxOf true) (by simpa using dO) (by omega) ?_ ?_) ⟨e,GA,?_⟩
 ·have:bs[bs.idxOf true]=true:=List.getElem_idxOf dO;simp[NY,this]
 ·intro m X0 Kh;have Mn:m<bs.length:=by simpa using X0
  have:bs[m]≠true:=λz=>by
   have:=List.not_of_lt_findIdx (xs:=bs) Kh;rw[z] at this;simp at this
  simp[NY];simpa using this
 ·exact⟨.int (bs.idxOf true),H,I.tok _,⟨_,rfl⟩,q⟩
theorem OB(ho:PD X Xw o δo)(ha:gL X Xw [e] δs)(iS:abJ o "count" X.env (eval o X.env)=eval o X.env:=by rfl)
 (oz:cr bq e X.env:=by rfl)
 (iU:ci apos bq:=by rfl)(qA:kt e X.env:=by rfl):PD X Xw (.Call (.Attribute o "count" apos) [e] [] bq) (dM pf En δo δs):=
 HW ab9 PySem.F.slot_list_count PySem.F.type_list_count Od zt (λXw F H x vs d ds Q s hx hv w=>by
  unfold En at w;split at w
  ·rename_i ds;obtain⟨v,rfl,h1⟩:=hv.one;cases (show _=_ from h1);obtain⟨a,ws,rfl,h2,h3,_⟩:=hx;split at w
   ·rename_i bs hb;exact⟨a,bs,rfl,rfl,by rw[<-iI hb h3];exact s _ _ h2,WP.now w s rfl⟩
   ·exact w.elim
  ·exact w.elim) ho ha iS oz iU qA rfl
theorem OC(ho:PD X Xw o δo)(ha:gL X Xw [e] δs)(iS:abJ o "index" X.env (eval o X.env)=eval o X.env:=by rfl)
 (oz:cr bq e X.env:=by rfl)
 (iU:ci apos bq:=by rfl)(qA:kt e X.env:=by rfl):PD X Xw (.Call (.Attribute o "index" apos) [e] [] bq) (dM pf NR δo δs):=
 HW ab9 PySem.F.slot_list_index PySem.F.type_list_index Oe zt (λXw F H x vs d ds Q s hx hv w=>by
  unfold NR at w;split at w
  ·rename_i ds;obtain⟨v,rfl,h1⟩:=hv.one;cases (show _=_ from h1);obtain⟨a,ws,rfl,h2,h3,_⟩:=hx;split at w
   ·rename_i bs hb;split at w
    ·rename_i hc;exact⟨a,bs,rfl,rfl,by rw[<-iI hb h3];exact s _ _ h2,hc,WP.now w s rfl⟩
    ·exact w.elim
   ·exact w.elim
  ·exact w.elim) ho ha iS oz iU qA rfl
end
end L3
namespace L3
open PySem PySem.Spec L2 SeqAt HT
open PyProof.Rows hiding St
open PySem.W (Frag Looks InstAt findIn mroIn)
open PySem.Builtin PySem.Builtin.ObjectAttr PySem.Builtin.Getset_descriptor
section
variable{prog:Z5}{w:World}{A:aao}{E:Value->Zt->Prop}{h:Heap}{g:Array afZ}{d:Drawn}{t:Nat}{os:OsState}{x D:Addr}{ox:Obj}{K:Frag}
theorem A_(X:K.In h)(hx:h.get? x=some ox)(hc:ox.cls= .ref D)(hm:mroIn K D (.type "object")=some true)
 (hq:R (.ok (.ret (.ref D))) ⟨h,g,d,t,os⟩):acF (model prog w) A (.call (.builtin "getset_descriptor.__get__") ⟨[.builtin "object.__class__", .ref x,tp],[]⟩) R ⟨h,g,d,t,os⟩:=by
 have L0:Looks (model prog w) h (typeOf (.ref x)) (.ref D):=hc▸(Looks.ld hx).andThen .now;have L1:=ae7 (M:=model prog w) X hm;refine ad6 PySem.W.KF.slot_gs.plain PySem.W.KF.entry_gs (PySem.W.KF.slot_gs.check _ _ _ _ _ _ _ _ PySem.W.KF.type_class (PySem.W.KF.args_gs _ _ _) ?_);unfold ac5.«getset_descriptor.__get__» descrGet;rw[PySem.W.dga_obj];refine Zn (Zs ?_);unfold descrGetter descrCheckInstance descrNameAndClass isInstance;simp only[PySem.W.KF.owner_class]
 repeat lk
 refine⟨af1 _ (by decide+kernel),aa_ PySem.W.KF.entry_class ?_⟩;unfold ac5.«object.__class__» shownTypeOf
 repeat lk
 exact hq
theorem qd(X:K.In h)(hx:h.get? x=some ox)(hc:ox.cls= .ref D)(ha:findIn K (.ref D) "__class__"=some (some (.builtin "object.__class__")))(hm:mroIn K D (.type "object")=some true)
 (hq:Q (.done (.ret (.ref D))) ⟨h,g,d,t,os⟩):wpAny (model prog w) A (ac5.«object.__getattribute__» ⟨[.ref x, .str "__class__" tk],[]⟩) Q E ⟨h,g,d,t,os⟩:=by
 have Y7:(⟨h,g,d,t,os⟩:Zt).TypeIs (.builtin "object.__class__") "getset_descriptor":=af0;have f5:=af0;have f6:=F.slot_gs_get.lookup;have f7:=F.slot_gs_set.lookup;have LC:Looks (model prog w) h (ad0 (.ref D) "__class__") (some (.builtin "object.__class__")):=adv X ha
 repeat (any_goals (first | assumption | (with_reducible refine aet hx ?_;rw[hc]) | with_reducible refine LC.at ?_ | wp_step))
 exact A_ X hx hc hm (Zs hq)
theorem wc{M:Model}(X:K.In h)(hx:h.get? x=some ox)(hc:ox.cls= .ref D)(hb:mroIn K D (.type "BaseException")=some true)(hq:Q () ⟨h,g,d,t,os⟩):
 wpAny M A (aeP "BaseException.__getattribute__" ⟨[.ref x,Q5],[]⟩) Q E ⟨h,g,d,t,os⟩:=by
 have hk:builtinKind "BaseException.__getattribute__"=some .slot:=by decide+kernel
 have NP:splitId "BaseException.__getattribute__"=some ("BaseException","__getattribute__"):=by decide+kernel
 have LB:Looks M h (isSubtype (.ref D) (.type "BaseException")) true:=ae7 X hb;have ha:=F.args_bexc_ga (.ref x) Q5;simp only[aeP,hk,NP];refine Zn ?_
 ·unfold isInstance
  repeat (first | (with_reducible refine aet hx ?_;rw[hc]) | with_reducible refine LB.at ?_ | wp_step)
  exact hq
theorem qT{tk:Tok}(X:K.In h)(hx:h.get? x=some ox)(hc:ox.cls= .ref D)(ha:findIn K (.ref D) "__class__"=some (some (.builtin "object.__class__")))(hm:mroIn K D (.type "object")=some true)(hb:mroIn K D (.type "BaseException")=some true)
 (hq:R (.ok (.ret (.ref D))) ⟨h,g,d,t,os⟩):acF (model prog w) A (.call (.builtin "BaseException.__getattribute__") ⟨[.ref x, .str "__class__" tk],[]⟩) R ⟨h,g,d,t,os⟩:=
 ad6 (by decide+kernel) F.entry_bexc_ga (wc X hx hc hb (qd X hx hc ha hm hq))
theorem qS(X:K.In h)(hx:h.get? x=some ox)(hc:ox.cls= .ref D)(XC:findIn K (.ref D) "__getattribute__"=some (some (.builtin "BaseException.__getattribute__")))(XF:findIn K (.ref D) "__getattr__"=some none)
 (ha:findIn K (.ref D) "__class__"=some (some (.builtin "object.__class__")))(hm:mroIn K D (.type "object")=some true)(hb:mroIn K D (.type "BaseException")=some true)
 (hq:Q (some (.ref D)) ⟨h,g,d,t+1,os⟩):wpAny (model prog w) A (getAttr? (.ref x) "__class__") Q E ⟨h,g,d,t,os⟩:=by
 have LG:Looks (model prog w) h (ad0 (.ref D) "__getattribute__") (some (.builtin "BaseException.__getattribute__")):=adv X XC;have LH:Looks (model prog w) h (ad0 (.ref D) "__getattr__") none:=adv X XF;have Yw:(ace "BaseException.__getattribute__"==ace "object.__getattribute__")=false:=by decide+kernel
 have Zi:(onTheHeap (Z6 D)&&ace "BaseException.__getattribute__"==ace "object.__getattribute__")=false:=by rw[Yw];rfl
 have f3:=PySem.F.excAttr_ValueError.ga.bind (.ref x);unfold getAttr? getAttrBy?
 repeat (any_goals (first | assumption | (with_reducible refine aet hx ?_;rw[hc]) | with_reducible refine LG.at ?_ | with_reducible refine LH.at ?_ | wp_step))
 refine qT X hx hc ha hm hb ?_
 repeat (any_goals (first | assumption | wp_step))
structure ExcC (K:Frag) (D:Addr):Prop where
 ga:findIn K (.ref D) "__getattribute__"=some (some (.builtin "BaseException.__getattribute__"))
 gt:findIn K (.ref D) "__getattr__"=some none
 ca:findIn K (.ref D) "__class__"=some (some (.builtin "object.__class__"))
 mo:mroIn K D (.type "object")=some true
 mb:mroIn K D (.type "BaseException")=some true
 cl:(acw K D).isSome=true
theorem zy(c:ExcC K D):PySem.W.KitX K (.ref x) (.ref D) (λh=>∃ox,h.get? x=some ox/\ox.cls= .ref D) where
 ty:=λ_ _ _ ⟨_,hx,hc⟩=>hc▸(Looks.ld hx).andThen .now
 it:=λ_ _ X _=>by
  obtain⟨WJ,Ny⟩:=aar.mp c.cl;unfold acw at Ny;split at Ny
  ·rename_i c' d' WI Ly ho;intro A' Q' E' s' k q;unfold isType loadHead;exact Zn (wpAny_loadPart (k _ _ (X _ _ ho)) (Zs q))
  ·cases Ny
 ne:=λh tp dd aL n sl X Yp=>by
  obtain⟨WJ,Ny⟩:=aar.mp c.cl;refine ac7.mpr λq=>?_;have e:D=tp:=afO (beq_iff_eq.mp q);subst e;unfold acw at Ny;split at Ny
  ·rename_i c' d' WI Ly ho;have z:=(X _ _ ho).symm.trans Yp;cases z
  ·cases Ny
 ca:=λ{_ _ _ _ _ s} X ⟨_,hx,hc⟩ k=>by
  obtain⟨hh,g,d,t,os⟩:=s;exact qS X hx hc c.ga c.gt c.ca c.mo c.mb k
end
section
variable{X:Cx}{Xw:Nat->Hp->Prop}{e e2:Expr}{δs:DA}{pos p:Pos}
def UW(K:Frag):List V->Hp->VK->Prop:=λxs H Q=>∃ea C D b,xs=[.ref ea, .ref D]/\H ea=some (MO ea C)/\ExcC K C/\ZK K (.ref C) (.ref D)=some b/\Q (.bl b) H
def RE(K:Frag):List V->Hp->VK->Prop:=λxs H Q=>∃ea C T b,xs=[.ref ea, .ty T]/\H ea=some (MO ea C)/\ExcC K C/\ZK K (.ref C) (.type T)=some b/\Q (.bl b) H
theorem Gf:CallR X (.builtin "isinstance") (UW X.K):=by
 intro f8 s σ H xs us Q I r h;obtain⟨ea,C,D,b,rfl,hH,hc,e,q⟩:=h;obtain⟨u,w',rfl,r1,r2⟩:=vals2 r;cases (show u=_ from r1);cases (show w'=_ from r2);obtain⟨hx,_,_⟩:=I.hok ea _ hH;exact aay (zy hc) I.kIn hx e (λz=>nomatch z) λtk=>⟨.bl b,H,I.tok tk,rfl,q⟩
theorem Eh:CallR X (.builtin "isinstance") (RE X.K):=by
 intro f8 s σ H xs us Q I r h;obtain⟨ea,C,D,b,rfl,hH,hc,e,q⟩:=h;obtain⟨u,w',rfl,r1,r2⟩:=vals2 r;cases (show u=_ from r1);cases (show w'=_ from r2);obtain⟨hx,_,_⟩:=I.hok ea _ hH;exact aay (zy hc) I.kIn hx e (λz=>nomatch z) λtk=>⟨.bl b,H,I.tok tk,rfl,q⟩
def oB(K:Frag)(cs:List Addr):List D->M D
 |[.exc C, .raw (.ref D)]=>if C∈cs then(match ZK K (.ref C) (.ref D) with | some b=>ae (.bl b) | none=>ag) else ag
 |[.exc C, .raw (.ty T)]=>if C∈cs then(match ZK K (.ref C) (.type T) with | some b=>ae (.bl b) | none=>ag) else ag
 |_=>ag
theorem kj(VN:∀C∈cs,ExcC X.K C)(hg:Gl X "isinstance")(hm:X.mg "isinstance"=none)(hb:aab "isinstance"=some (.builtin "isinstance"))(ha:gL X Xw [e,e2] δs)(he:jp e [e2] X.env:=by rfl)
 (j1:bv pos [e2] X.env:=by rfl):PD X Xw (.Call (.Name "isinstance" p) [e,e2] [] pos) (dA (oB X.K cs) δs):=
 dP (Gf.or Eh) (λXw F H vs ds Q s h w=>by
  unfold oB at w;split at w
  ·rename_i C D;obtain⟨v,v',rfl,h1,h2⟩:=h.two;cases (show _=_ from h2);obtain⟨ea,rfl,h3⟩:=h1;split at w
   ·rename_i hC;split at w
    ·rename_i b hb;exact .inl ⟨ea,C,D,b,rfl,s _ _ h3,VN C hC,hb,WP.now w s rfl⟩
    ·exact w.elim
   ·exact w.elim
  ·rename_i C T;obtain⟨v,v',rfl,h1,h2⟩:=h.two;cases (show _=_ from h2);obtain⟨ea,rfl,h3⟩:=h1;split at w
   ·rename_i hC;split at w
    ·rename_i b hb;exact .inr ⟨ea,C,T,b,rfl,s _ _ h3,VN C hC,hb,WP.now w s rfl⟩
    ·exact w.elim
   ·exact w.elim
  ·exact w.elim) hg hm hb ha (by decide) (by decide) he j1
end
end L3
namespace L3
open PySem PySem.Spec L2 SeqAt HT
open PyProof.Rows hiding St
open PySem.W (Frag Looks findIn mroIn)
theorem wK{ea C:Addr}(x:Ct h1 ea C)(k:∀o,h1.get? ea=some o->h2.get? ea=some o):Ct h2 ea C:=
 let ⟨ox,a,b⟩:=x
 ⟨ox,k ox a,b⟩
def O8(τ:DS)(hd:Nat->M D):DS:=λρ=>match τ ρ with
 |some (.ex n)=>hd n>>=λd=>ae (.rt d)
 |r=>r
abbrev rB(X:Cx)(pn:List (Addr×Obj))(E:Value->Zt->Prop):Cx:={X with pn:=pn,xe:=E}
abbrev kR(X:Cx)(ea:Addr)(E:Value->Zt->Prop):Cx:={X with A:=X.A.mark (some (.ref ea)),calm:=false,xe:=E}
section
variable{X:Cx}{f8 pn:List (Addr×Obj)}{σ:St}{H:Hp}{s:Zt}{E:Value->Zt->Prop}{ea:Addr}
theorem HI(ok:X.Ok):(rB X pn E).Ok:=⟨ok.mod,ok.kind,ok.glob,ok.blt,ok.above,ok.inj,ok.has,ok.cab,ok.hd,ok.frames,ok.stk,ok.exf,ok.bs,ok.bsz,ok.noex,ok.exfs,ok.funs,ok.frf⟩
theorem EJ(I:Inv X f8 σ H s)(hp:X.pn=[]):Inv (rB X f8 E) [] σ H s:=
 ⟨HI I.ok,I.os,I.bare,I.base,I.loc,I.cell,I.free,I.freeC,λp q=>I.pin p (by rw[hp];rw[Z_] at q;exact q),I.hok,I.len⟩
theorem Fb(ok:(rB X pn E).Ok):X.Ok:=⟨ok.mod,ok.kind,ok.glob,ok.blt,ok.above,ok.inj,ok.has,ok.cab,ok.hd,ok.frames,ok.stk,ok.exf,ok.bs,ok.bsz,ok.noex,ok.exfs,ok.funs,ok.frf⟩
theorem gE(I:Inv (rB X f8 E) DL σ H s)(hp:X.pn=[]):Inv X f8 σ H s:=
 ⟨Fb I.ok,I.os,I.bare,I.base,I.loc,I.cell,I.free,I.freeC,λp q=>I.pin p (by rw[hp] at q;exact abb _ q),I.hok,I.len⟩
theorem j7(I:Inv X f8 σ H s):Inv (kR X ea E) f8 σ H s:=
 ⟨⟨I.ok.mod,I.ok.kind,I.ok.glob,I.ok.blt,I.ok.above,I.ok.inj,I.ok.has,I.ok.cab,λz=>(by cases z),I.ok.frames,I.ok.stk,I.ok.exf,I.ok.bs,I.ok.bsz,I.ok.noex,I.ok.exfs,I.ok.funs,I.ok.frf⟩,I.os,I.bare,I.base,I.loc,I.cell,I.free,I.freeC,I.pin,I.hok,I.len⟩
theorem wJ(I:Inv (kR X ea E) f8 σ H s)(hd:X.calm=true->X.A.handled=none)(FQ:X.A.frames=some X.stack):Inv X f8 σ H s:=
 ⟨⟨I.ok.mod,I.ok.kind,I.ok.glob,I.ok.blt,I.ok.above,I.ok.inj,I.ok.has,I.ok.cab,hd,FQ,I.ok.stk,I.ok.exf,I.ok.bs,I.ok.bsz,I.ok.noex,I.ok.exfs,I.ok.funs,I.ok.frf⟩,I.os,I.bare,I.base,I.loc,I.cell,I.free,I.freeC,I.pin,I.hok,I.len⟩
theorem Bt(I:Inv X f8 σ H s)(wD:abe X.env.locals s.heap h')(hn:h'.Ns X.env.locals m'):Inv X f8 (σ.map λ_=>none) H {s with heap:=h',toks:=tk}:=by
 have Py:∀b o,X.ago.heap.get? b=some o->b≠X.env.locals:=λb o e=>ZW (aaa (ZG e) I.ok.above);refine⟨I.ok,I.os,I.bare,⟨λb o e n hb hx=>?_,λb o e n hb hx=>?_,I.base.free,λb o e hx=>?_,I.base.tups,I.base.frzs,I.base.tbls⟩,⟨m',hn,λi x v h1 h2 h3=>?_⟩,λx c e=>?_,I.free,I.freeC,λp hp=>?_,Aj I.hok wD I.free,by rw[Zo];exact I.len⟩
 ·exact(wD.2 b (Py b o e)).trans (I.base.keep b o e n hb hx)
 ·obtain⟨sl,q⟩:=I.base.slot b o e n hb hx;exact⟨sl,(wD.2 b (Py b o e)).trans q⟩
 ·obtain⟨o',q⟩:=I.base.there b o e hx;exact⟨o',(wD.2 b (Py b o e)).trans q⟩
 ·rw[ZJ] at h2;cases q:σ[i]? with
  |none=>rw[q] at h2;cases h2
  |some z=>rw[q] at h2;cases h2
 ·obtain⟨v,q⟩:=I.cell x c e;exact⟨v,q.sameBut wD (I.cne x c e)⟩
 ·obtain⟨e,n,ne,nf,d⟩:=I.pin p hp;exact⟨(wD.2 p.1 ne).trans e,n,ne,nf,d⟩
theorem EK(I:Inv X f8 σ H s)(hn:H a=none)(h0:X.ago.heap.get? a=none)(hl:a≠X.env.locals)(hc:∀x c,X.env.cells.lookup x=some c->c≠a)(hp:∀p∈X.pn++f8,p.1≠a)(ho:ObjOk X.prog X.w (upd H a o) s.heap a o):
 Inv X f8 σ (upd H a o) s:=by
 have ne:∀b u,H b=some u->b≠a:=λb u e=>bx e hn;have YJ:∀b u,X.ago.heap.get? b=some u->b≠a:=λb u e z=>by rw[z,h0] at e;cases e
 refine⟨I.ok,I.os,I.bare,⟨I.base.keep,I.base.slot,λb u e n hx=>?_,I.base.there,λb xs e=>?_,λb u xs e=>?_,λb ps e=>?_⟩,I.loc,I.cell,?_,λx c e=>?_,λp q=>?_,λb u e=>?_,I.len⟩
 ·rw[ax (YJ b u e)];exact I.base.free b u e n hx
 ·have q:=I.base.tups b xs e;rw[ax (ne b _ q)];exact q
 ·have q:=I.base.frzs b u xs e;rw[ax (ne b _ q)];exact q
 ·obtain⟨more,q⟩:=I.base.tbls b ps e;exact⟨more,by rw[ax (ne b _ q)];exact q⟩
 ·rw[ax (aaz hl)];exact I.free
 ·rw[ax (hc x c e)];exact I.freeC x c e
 ·obtain⟨e,n,r1,r2,d⟩:=I.pin p q;exact⟨e,by rw[ax (hp p q)];exact n,r1,r2,d⟩
 ·by_cases hb:b=a
  ·subst hb;rw[aJ] at e;cases e;exact ho
  ·rw[ax hb] at e;exact(I.hok b u e).stay (λ_ _ _ q=>q) (λc q=>by rw[ax (ne c _ q)];exact q) λc xs q=>by rw[ax (ne c _ q)];exact q
end
section
variable{P:Z5}{w:World}{K:ZE}{mg:Str->Option Value}{base:Heap}{N:List Str}{qual:Str}{scope:Scope}{f:Addr}{cd:Value}{A:aao}{outer:List Env}{ago:Zt}{agn:Hp}{E:XK}{cv:Nat->Value}
theorem Lg{i:Nat}{hd:Nat->M D}{cA:Nat->Addr}
 (Qn:∀k,cv k= .ref (cA k))(hN:(a6 (cR P w cv) P w K mg base N qual scope f cd A outer ago agn E).N.Nodup)(hi:(a6 (cR P w cv) P w K mg base N qual scope f cd A outer ago agn E).N[i]? =some n)(Bq:(a6 (cR P w cv) P w K mg base N qual scope f cd A outer ago agn E).env.scope.names.lookup n=some .local)(hg:Gl (a6 (cR P w cv) P w K mg base N qual scope f cd A outer ago agn E) x)(hm:mg x=some (.ref Cp))(hex:∀k,acO K (cv k) (.ref Cp)=some true)
 (hb:∀(pn:List (Addr×Obj)) (Ec:Value->Zt->Prop) (Xw':Nat->Hp->Prop),Passes (cR P w cv) (rB (a6 (cR P w cv) P w K mg base N qual scope f cd A outer ago agn E) pn Ec) (EX cv Xw')->PSDs (rB (a6 (cR P w cv) P w K mg base N qual scope f cd A outer ago agn E) pn Ec) Xw' body τb)
 (hs:∀ea,PSDs (kR (a6 (cR P w cv) P w K mg base N qual scope f cd A outer ago agn E) ea λ_ _=>False) (λ_ _=>False) (b₀::MH) τh)(hh:∀(k:Nat) (ρ:cJ),ρ.length=N.length->ρ[i]? =some (some (.fz (.exc (cA k))))->τh ρ=(hd k>>=λd=>ae (.rt d)))
 (lr:dL x:=by decide):
 jm (a6 (cR P w cv) P w K mg base N qual scope f cd A outer ago agn E) Xw (.Try body [.ExceptHandler (some (.Name x np)) (some n) (b₀::MH) Uc] [] [] pos) (O8 τb λk=>noex (hd k)):=λG₀ J₀ f8 s σ H D I ⟨F,ρ,S,wq⟩=>by
 have wF:iG (a6 (cR P w cv) P w K mg base N qual scope f cd A outer ago agn E).stack=ago.heap.objs.size::iG outer:=rfl;have pass:Passes (cR P w cv) (rB (a6 (cR P w cv) P w K mg base N qual scope f cd A outer ago agn E) f8 λe v6=>wpAny (model P w) (a6 (cR P w cv) P w K mg base N qual scope f cd A outer ago agn E).A (noteFrame e (a6 (cR P w cv) P w K mg base N qual scope f cd A outer ago agn E).env) (λ_ v4=>wpAny (model P w) (a6 (cR P w cv) P w K mg base N qual scope f cd A outer ago agn E).A (setFlight e none) (λ_ s₃=>wpAny (model P w) (a6 (cR P w cv) P w K mg base N qual scope f cd A outer ago agn E).A (handleBy e (a6 (cR P w cv) P w K mg base N qual scope f cd A outer ago agn E).env [.ExceptHandler (some (.Name x np)) (some n) (b₀::MH) Uc]) (SP (a6 (cR P w cv) P w K mg base N qual scope f cd A outer ago agn E) f8 D) (a6 (cR P w cv) P w K mg base N qual scope f cd A outer ago agn E).xe s₃) (a6 (cR P w cv) P w K mg base N qual scope f cd A outer ago agn E).xe v4) (a6 (cR P w cv) P w K mg base N qual scope f cd A outer ago agn E).xe v6)
  (EX cv λk H'=>∃F',Ext G₀ J₀ F' H'/\WPS K Xw G₀ J₀ (noex (hd k)>>=λd=>ae (.rt d)) D):=by
  intro DL σ' H1 s1 e s' I1 ⟨ea,nn,a0,B,H',he,QF,XD,hok,un,Ez,hB,m,TX,F',ext',w'⟩;subst he;have FQ:∀b∈iG (a6 (cR P w cv) P w K mg base N qual scope f cd A outer ago agn E).stack,H' b=none:=λb hb=>by
   obtain⟨_,o,ho,_⟩:=I1.stack.mem hb;exact un.free b o ho (I1.stkFree b hb) (by simp)
  have Te:ea∉iG (a6 (cR P w cv) P w K mg base N qual scope f cd A outer ago agn E).stack:=λhb=>by
   obtain⟨_,o,ho,u7⟩:=Ez.2.2.1.mem hb;obtain⟨oe,vs,q1,_,q2,_⟩:=Ez.first;rw[q1] at ho;cases ho;exact u7 vs q2
  have VC:B.get? ea=none:=Ez.2.1;have l7:s1.heap.get? ea=none:=by
   cases q:s1.heap.get? ea with
   |none=>rfl
   |some o=>
    obtain⟨ob,h1,_⟩:=Ez.there;have:=hB ea ob h1 (.inr (by rw[q];rfl)) Te;rw[VC] at this;cases this
  have VE:H' ea=none:=by
   cases q:H' ea with
   |none=>rfl
   |some u=>
    obtain⟨ob,h1,_⟩:=Ez.there;have:=hB ea ob h1 (.inl (by rw[q];exact λz=>nomatch z)) Te;rw[VC] at this;cases this
  have Ms:∀h₅,B.StaysIn h₅->s'.heap.UpToSlots h₅->Inv (a6 (cR P w cv) P w K mg base N qual scope f cd A outer ago agn E) f8 σ' H' {s' with heap:=h₅}:=λh₅ st ups=>by
   have mL:∀b o,s'.heap.get? b=some o->b∉iG (a6 (cR P w cv) P w K mg base N qual scope f cd A outer ago agn E).stack->(H' b≠none\/(s1.heap.get? b).isSome=true)->h₅.get? b=some o:=λb o e hb hc=>st b o (hB b o e hc hb);have Y0:Un (iG (a6 (cR P w cv) P w K mg base N qual scope f cd A outer ago agn E).stack) [] H1 H' s1.heap h₅:=yi un (λb o e hb hc=>mL b o e hb hc) (λb o e hb=>by
    obtain⟨_,o',mJ,u7⟩:=Ez.2.2.1.mem hb;rw[e] at mJ;cases mJ;exact ups b o e u7)
   have T7:HOk P w H' h₅:=rA hok FQ λb o e hb hc=>mL b o e hb (.inl hc);exact gE (I1.call' QF Y0 T7 XD (λb hb=>agj hb (by simp))) rfl
  show wpAny (model P w) (a6 (cR P w cv) P w K mg base N qual scope f cd A outer ago agn E).A (noteFrame (.ref ea) (a6 (cR P w cv) P w K mg base N qual scope f cd A outer ago agn E).env) _ _ s';refine wpAny_looks_onW I1.ok.frames rfl Ez λh₄ Qs R3=>?_;refine wpAny_landsW Qs λh₅ Nk R4=>?_;have J5:=Ms h₅ Nk.1 (R3.trans R4);have M5:Inv (kR (a6 (cR P w cv) P w K mg base N qual scope f cd A outer ago agn E) ea λ_ _=>False) f8 σ' H' {s' with heap:=h₅}:=j7 J5;refine wpAny_handleBy_cons (codeAny_handlers_test (kX M5 hg hm ?_ lr)) (by intro q;cases q);have LT:Looks (model P w) h₅ (typeOf (.ref ea)) (cv nn):=by
   obtain⟨ob,h1,h2⟩:=Nk.there;exact h2▸(Looks.ld h1).andThen .now
  refine(PySem.W.exm_one M5.kIn LT (hex nn)).here ?_;refine codeAny_handlers_suite_as ?_;refine lands_againW Nk λh₆ Qd Vh=>?_;have J6:=Ms h₆ Qd.1 ((R3.trans R4).trans Vh);have M6:Inv (kR (a6 (cR P w cv) P w K mg base N qual scope f cd A outer ago agn E) ea λ_ _=>False) f8 σ' H' {s' with heap:=h₆}:=j7 J6;have E7:ea≠(a6 (cR P w cv) P w K mg base N qual scope f cd A outer ago agn E).env.locals:=λz=>Te (by rw[wF,z];exact Zq);have Mx:∀y c,(a6 (cR P w cv) P w K mg base N qual scope f cd A outer ago agn E).env.cells.lookup y=some c->c≠ea:=λy c q z=>by
   obtain⟨v,o,ho,_⟩:=I1.cell y c q;rw[z,l7] at ho;cases ho
  refine o5 J6 hN hi (.inl Bq) (v:= .ref ea) rfl (λs7 I7 ⟨a,sb,ha⟩=>?_) (.inr Bq);have Qr:Ct s7.heap ea (cA nn):=by
   obtain⟨ob,h1,h2⟩:=Qd.there;refine⟨ob,(sb.2 ea ?_).trans h1,by rw[h2,Qn]⟩;rcases ha with z | z
   ·rw[z];exact E7
   ·exact aaz (Mx n a z)
  have h0:ago.heap.get? ea=none:=by
   cases q:ago.heap.get? ea with
   |none=>rfl
   |some o=>
    obtain⟨o',q'⟩:=I1.base.there ea o q (λz=>agj (show ea∈([]:List Addr) from z) (by simp));rw[l7] at q';cases q'
  have I8:Inv (kR (a6 (cR P w cv) P w K mg base N qual scope f cd A outer ago agn E) ea λ_ _=>False) f8 (σ'.set i (some (.ref ea))) (upd H' ea (MO ea (cA nn))) s7:=
   EK (j7 I7) VE h0 E7 Mx (λp q z=>by
    have hp:=I1.pin p (abb _ (show p∈f8 from q));rw[z,l7] at hp;cases hp.1) ⟨Qr,(by obtain⟨ox,h1,_⟩:=Qr;exact⟨ox,h1⟩),λh1 h2 hx k=>wK hx k⟩
  have T0:σ'.length=N.length:=I1.len;have Mm:i<σ'.length:=by rw[T0];exact(ZI.mp hi).1
  have eL:=Ext.lay (o:=MO ea (cA nn)) ext'.fh VE;have hρ:((ZH σ'.length none).set i (some (Sl.fz (.exc (cA nn)))))[i]? =some (some (.fz (.exc (cA nn)))):=ZV (by simpa using Mm);have only:∀(j:Nat) (sl:Sl),((ZH σ'.length (none:Option Sl)).set i (some (Sl.fz (.exc (cA nn)))))[j]? =some (some sl)->j=i/\sl= .fz (.exc (cA nn)):=λj sl e=>by
   by_cases hj:j=i
   ·subst hj;rw[hρ] at e;cases e;exact⟨rfl,rfl⟩
   ·rw[ZO (aaz hj),aaT] at e;split at e<;>cases e
  have S8:StOk K G₀ J₀ (upd F' ea (MO ea (cA nn))) (upd H' ea (MO ea (cA nn))) (σ'.set i (some (.ref ea))) ((ZH σ'.length none).set i (some (.fz (.exc (cA nn))))):=by
   refine⟨ext'.trans eL,⟨eL.fh,λj sl e=>?_⟩,by simp,λj c a e=>?_,λj k c c' a e=>?_⟩
   ·obtain⟨rfl,rfl⟩:=only j sl e;exact⟨.ref ea,ZV Mm,ea,rfl,aJ⟩
   ·obtain⟨_,z⟩:=only j _ e;cases z
   ·obtain⟨_,z⟩:=only j _ e;cases z
  have Xl:cA m=cA nn:=by
   have:=TX;rw[Qn,Qn] at this;exact(afO this).symm
  have w8:WPS K (λ_ _=>False) G₀ J₀ (τh ((ZH σ'.length none).set i (some (.fz (.exc (cA nn)))))) {nx:=λ_ _=>False,rt:=D.rt}:=by
   rw[hh m _ (by simpa using T0) (by rw[Xl];exact hρ)];rcases(hd m).cs with q | ⟨k,q⟩ | ⟨d,q⟩
   ·rw[q] at w';exact w'.elim
   ·rw[q] at w';exact w'.elim
   ·rw[q] at w'⊢;exact w'
  refine aaF (hs ea G₀ J₀ f8 s7 _ _ {nx:=λ_ _=>False,rt:=D.rt} I8 ⟨_,_,S8,w8⟩) (λfl s8 q8=>?_) λ_ _ z=>z.elim;cases fl with
  |next=>obtain⟨_,_,_,z⟩:=q8;exact z.elim
  |brk=>obtain⟨_,_,_,z⟩:=q8;exact z.elim
  |cont=>obtain⟨_,_,_,z⟩:=q8;exact z.elim
  |ret u=>
   obtain⟨v,σ9,H9,I9,rv,q9⟩:=q8;have I10:Inv (a6 (cR P w cv) P w K mg base N qual scope f cd A outer ago agn E) f8 σ9 H9 s8:=wJ I9 J5.ok.hd J5.ok.frames;obtain⟨mm,Sy,_⟩:=I10.loc;exact wpAny_nameGoes Bq Sy (by rw[show (a6 (cR P w cv) P w K mg base N qual scope f cd A outer ago agn E).env.scope.kind= .function from I10.ok.kind];rfl) λh' m' EG wD=>⟨v,_,H9,Bt I10 wD EG,rv,q9⟩
 have wb:WPS K (λk H'=>∃F',Ext G₀ J₀ F' H'/\WPS K Xw G₀ J₀ (noex (hd k)>>=λd=>ae (.rt d)) D) G₀ J₀ (τb ρ) D:=by
  unfold O8 at wq
  match τb ρ,wq with
  |none,wq=>exact wq
  |some (.ok (.nx ρ')),wq=>exact wq
  |some (.ok (.rt d)),wq=>exact wq
  |some (.ex k),wq=>exact λF' H' e=>⟨F',e,wq⟩
 refine wpAny_Try_except (aaF (hb f8 _ _ pass G₀ J₀ [] s σ H D (EJ I rfl) ⟨F,ρ,S,wb⟩) (λfl s1 q1=>?_) λ_ _ z=>z);cases fl with
 |next=>obtain⟨σ1,H1,I1,q⟩:=q1;exact acX ⟨σ1,H1,gE I1 rfl,q⟩
 |brk=>obtain⟨σ1,H1,I1,q⟩:=q1;exact⟨σ1,H1,gE I1 rfl,q⟩
 |cont=>obtain⟨σ1,H1,I1,q⟩:=q1;exact⟨σ1,H1,gE I1 rfl,q⟩
 |ret u=>obtain⟨v,σ1,H1,I1,r,q⟩:=q1;exact⟨v,σ1,H1,gE I1 rfl,r,q⟩
end
end L3
namespace L3
open PySem PySem.Spec L2 SeqAt HT
open PyProof.Rows hiding St
structure RoomH (k:Nat) (A:aao):Prop where
 dp:A.depth+3*k+5<ad_
 un:A.units+16*k+200<cLine
theorem RoomH.deeper(r:RoomH (k+1) A)(env:Env):RoomH k (A.deeper env):=
 ⟨by have:=r.dp;show A.depth+1+3*k+5<_;omega,by have:=r.un;show A.units+3+16*k+200<_;omega⟩
theorem RoomH.of(r:Room k A)(v:Option Value):RoomH k (A.mark v):=⟨r.dp,r.un⟩
theorem RoomH.units(r:RoomH k A):A.units+64<cLine:=by have:=r.un;omega
structure FnOkH (P:Z5) (w:World) (K:ZE) (mg:Str->Option Value) (base:Heap) (k:Nat) (f:Addr) (fd:abW) (ps:List Str) (sp:Sp):Prop where
 len:∀vs H Q E,sp vs H Q E->vs.length=ps.length
 run:∀(A:aao) (outer:List Env) (s:Zt) (H:Hp) (args:Args) (us:List Value) (vs:List V) (Q:VK) (E:XK),RoomH k A->Env0 P w K mg base A outer s H->afc s fd args (ps.zip us)->Vals vs us->sp vs H Q E->
  acF (model P w) A (.call (.ref f) args) (CR PJ outer P w H s Q E) s
abbrev uP(P:Z5)(w:World)(K:ZE)(mg:Str->Option Value)(base:Heap)(N:List Str)(qual:Str)(scope:Scope)(f:Addr)(cd:Value)(A:aao)(outer:List Env)(s:Zt)(H:Hp):Cx:=
 {a6 PJ P w K mg base N qual scope f cd A outer s H E0 with calm:=false,xe:=λ_ _=>False}
theorem Bu{K:ZE}{outer:List Env}
 (S:FnScope N ps scope)(e0:Env0 P w K mg base A outer s H)(hl:vs.length=ps.length)(r:Vals vs us)
 (x:InCallC s s.heap.objs.size (bindL (abw qual scope s.heap.objs.size f cd).kindOf (ps.zip us) λ_=>none) (ae4 (s.heap.objs.size+1) scope.names []) (bindC (abw qual scope s.heap.objs.size f cd).kindOf (ps.zip us) λ_=>none) s1):
 Inv (uP P w K mg base N qual scope f cd A outer s H) [] (L2.start N vs) H s1:=by
 have e1:Env0 P w K mg base {A with handled:=none} outer s H:=⟨e0.frames,e0.mod,e0.bs,e0.bsz,e0.funs,e0.frf,e0.hok,e0.bare⟩
 have J:=vb (CX:=PJ) (E:=E0) S rfl e1 hl r x;exact⟨⟨J.ok.mod,J.ok.kind,J.ok.glob,J.ok.blt,J.ok.above,J.ok.inj,J.ok.has,J.ok.cab,λz=>(by cases z),afd e0.frames,J.ok.stk,J.ok.exf,J.ok.bs,J.ok.bsz,J.ok.noex,J.ok.exfs,J.ok.funs,J.ok.frf⟩,J.os,J.bare,J.base,J.loc,J.cell,J.free,J.freeC,J.pin,J.hok,J.len⟩
theorem Nl{K:ZE}{dV kV doc pm b7 ct oc:Value}
 (lk:K.lookup f=some ⟨oc,od, .func (aaQ name qual params body scope dV kV doc pm an b7 ct),HQ⟩)(u6:abX K b7 qual=true)(S:FnScope N ps scope)
 (len:∀vs H Q E,sp vs H Q E->vs.length=ps.length)
 (iT:∀(A:aao) (outer:List Env) (s:Zt) (H:Hp) (vs:List V) (Q:VK) (E:XK),RoomH k (A.deeper (abw qual scope s.heap.objs.size f b7))->sp vs H Q E->
  ∃t,PSs (uP P w K mg base N qual scope f b7 A outer s H) body t/\t {nx:=λ_ H'=>Q .non H',rt:=Q} (L2.start N vs) H):
 FnOkH P w K mg base (k+1) f (aaQ name qual params body scope dV kV doc pm an b7 ct) ps sp:=by
 refine⟨len,λA outer s H args us vs Q E hr e0 hb r yw=>?_⟩;have hl:=len _ _ _ _ yw;have KX:K.In s.heap:=e0.mod.kin.keeps λb o e=>(e0.bs b o e).1;have lim:s.heap.NoLimit:=e0.mod.nolimit.keeps λb o e=>(e0.bs b o e).1;have GZ:∀y∈ps.zip us,scope.names.lookup y.1=some .local\/(scope.names.lookup y.1=some .cell/\((ae4 (s.heap.objs.size+1) scope.names []).lookup y.1).isSome=true):=λ⟨n,v⟩ hy=>by
  rcases S.par n (acM hy).1 with q | q
  ·exact .inl q
  ·exact .inr ⟨q,ac8 _ _ _ (.inl q)⟩
 have Tx:A.depth<ad_:=by have:=hr.dp;omega
 refine codeAny_call_function Tx (KX _ _ lk) rfl S.co S.gen rfl (afg KX u6) (hb _ _ _ _ ?_);refine afe S.kind GZ λenv he s1 x=>?_;subst he;refine⟨lim.keeps x.toInCall.keep,codeAny_func ?_⟩;obtain⟨t,ht,hq⟩:=iT A outer s H vs Q E (hr.deeper _) yw;have I:Inv (uP P w K mg base N qual scope f b7 A outer s H) [] (L2.start N vs) H s1:=Bu S e0 hl r x;refine aaF (ht [] s1 (L2.start N vs) H _ I hq) (λfl s' hs=>?_) λe s' hs=>hs.elim;have fin:∀{σ':St}{H':Hp}{v:V}{u:Value},Inv (uP P w K mg base N qual scope f b7 A outer s H) [] σ' H' s'->RelV v u->Q v H'->CE outer P w H s Q u s':=
  λ{σ' H' v u} J rv q=>⟨v,H',J.os,J.bare,J.base,J.hok,rv,q⟩
 cases fl with
 |ret u=>
  obtain⟨v,σ',H',J,rv,q⟩:=hs;exact fin J rv q
 |next=>
  obtain⟨σ',H',J,q⟩:=hs;exact fin (v:=V.non) J rfl q
 |brk=>
  obtain⟨_,_,_,q⟩:=hs;exact aaW q
 |cont=>
  obtain⟨_,_,_,q⟩:=hs;exact aaW q
theorem Je{K:ZE}(fh:Same F H)(hd:DenL K F ds vs):StOk K F H F H (L2.start N vs) (ds.map (λd=>some (Sl.fz d))++ZH (N.length - ds.length) none):=by
 have T0:=hd.len;have get:∀(i:Nat) (sl:Sl),(ds.map (λd=>some (Sl.fz d))++ZH (N.length - ds.length) none)[i]? =some (some sl)->∃d,ds[i]? =some d/\sl= .fz d:=λi sl e=>by
  by_cases hi:i<ds.length
  ·rw[aac (by simpa using hi),ZJ] at e;cases q:ds[i]? with
   |none=>rw[q] at e;cases e
   |some d=>rw[q] at e;cases e;exact⟨d,rfl,rfl⟩
  ·rw[aam (by simpa using hi),aaT] at e;split at e<;>cases e
 refine⟨Ext.refl fh,⟨fh,λi sl e=>?_⟩,?_,λi c a e=>?_,λi j c c' a e=>?_⟩
 ·obtain⟨d,q,rfl⟩:=get i sl e;obtain⟨v,e1,e2⟩:=hd.get q;have hi:=(ZI.mp q).1;refine⟨v,?_,e2⟩;unfold L2.start;rw[aac (by simp;omega),ZJ,e1];rfl
 ·unfold L2.start;simp[T0]
 ·obtain⟨d,_,z⟩:=get i _ e;cases z
 ·obtain⟨d,_,z⟩:=get i _ e;cases z
section
variable{P:Z5}{w:World}{K:ZE}{mg:Str->Option Value}{base:Heap}{cv:Nat->Value}
theorem Qf{x qual:Str}{st:Stmt}{f:Addr}(Fn:Fun K x qual st f fd)(S:FnScope N ps (ai st))
 (iT:∀(b7:Value) (A:aao) (outer:List Env) (s:Zt) (H:Hp),RoomH k (A.deeper (abw qual (ai st) s.heap.objs.size f b7))->
  PSDs (uP P w K mg base N qual (ai st) f b7 A outer s H) (λ_ _=>False) (aY st) τ):FnOkH P w K mg base (k+1) f fd ps (FU K cv ps.length λds=>noex (bX N.length τ ds)):=by
 obtain⟨oc,od,kV,doc,pm,an,b7,ct,HQ,rfl,lk,u6⟩:=Fn.ex;refine Nl lk u6 S (λvs H Q E ⟨_,_,_,_,hl,_⟩=>hl) λA outer s H vs Q E hr yw=>?_;obtain⟨F,ds,fh,hd,hl,hw⟩:=yw;refine⟨_,iT b7 A outer s H hr F H,F,_,Je fh hd,?_⟩;have hw:WP K (λn H'=>E (cv n) none H') F H (noex (τ (ds.map (λd=>some (Sl.fz d))++ZH (N.length - ds.length) none)>>=λo=>match o with | .nx _=>ae .non | .rt d=>ae d)) Q:=hw;rcases(τ (ds.map (λd=>some (Sl.fz d))++ZH (N.length - ds.length) none)).cs with e | ⟨n,e⟩ | ⟨o,e⟩
 ·rw[e] at hw;exact hw.elim
 ·rw[e] at hw;exact hw.elim
 ·rw[e] at hw⊢;cases o with
  |nx ρ'=>exact λσ' F' H' s'=>hw .non H' F' s'.ext rfl
  |rt d=>exact λv F' H' e' q=>hw v H' F' e' q
end
section
variable{X:Cx}{Xw:Nat->Hp->Prop}{cv:Nat->Value}{k m:Nat}{f:Addr}{fd:abW}{ps:List Str}{g:List D->M D}{x:Str}{p pos:Pos}{e:Expr}{es:List Expr}{δs:DA}
theorem HX(F:FnOkH X.prog X.w X.K X.mg X.base k f fd ps (FU X.K cv m g))(hr:RoomH k X.A)(hg:Gl X x)(hm:X.mg x=some (.ref f))(hk:aaO X.K (.ref f)=true)(hb:Binds X.K fd ps [])
 (ha:gL X Xw (e::es) δs)(lr:dL x:=by decide)(he:jp e es X.env:=by rfl)(j1:bv pos es X.env:=by rfl):
 PD X Xw (.Call (.Name x p) (e::es) [] pos) (λρ=>δs ρ>>=λds=>if ds.length=m then noex (g ds) else ag):=by
 intro f8 s σ H Q I ⟨Fz,ρ,S,wq⟩;refine abv (kX I hg hm ?_ lr);refine adL I.ok.mod.kin hk (cE (ha pos f8 s σ H _ I ⟨Fz,ρ,S,WP.bindL wq⟩) λus s1 ⟨vs,H1,I1,r,q⟩=>⟨I1.kIn,?_⟩) he j1;obtain⟨F1,ds,e1,q1,w1⟩:=q;split at w1
 ·rename_i tZ;have yw:FU X.K cv m g vs H1 Q E0:=⟨F1,ds,e1.fh,q1,by rw[<-q1.len];exact tZ,by
   rcases(g ds).cs with q | ⟨n,q⟩ | ⟨d,q⟩
   ·rw[q] at w1;exact w1.elim
   ·rw[q] at w1;exact w1.elim
   ·rw[q] at w1⊢;exact w1⟩
  have XZ:us.length=ps.length:=by rw[<-r.length];exact F.len _ _ _ _ yw
  refine wpAny_call (adb (F.run X.A X.stack s1 H1 ⟨us,[]⟩ us vs Q E0 hr I1.env0 (by have:=hb s1 us I1.kIn (by rw[Z_];exact XZ);rwa [Z_] at this) r yw) λres s' hq=>?_);cases res with
  |error e=>exact hq.elim
  |ok fl=>
   cases fl with
   |ret u=>exact I1.after hq
   |next=>exact aaW hq
   |brk=>exact aaW hq
   |cont=>exact aaW hq
 ·exact w1.elim
end
def CH(N:List Str)(osc scope:Scope)(tn:List Str):Bool:=
 decide (scope.kind= .function)&&scope.names.all (λy=>decide (y.2≠ .cell))&&scope.names.all (λy=>decide (y.2= .local->scope.names.lookup y.1=some .local))&&
 scope.names.all (λy=>decide (y.2= .free->(osc.names.lookup y.1=some .cell\/osc.names.lookup y.1=some .free)))&&
 ((b9 tn N).zip N).all (λp=>decide (scope.names.lookup p.1=none\/(p.1=p.2/\scope.names.lookup p.1=some .free)))
theorem aX(hN:X.N=N)(ho:X.env.scope=osc)(h:CH N osc scope tn=true):CompSc X scope tn:=by
 unfold CH at h;simp only[ZM,aan,agf] at h;obtain⟨⟨⟨⟨h1,h2⟩,h3⟩,h4⟩,h5⟩:=h;refine⟨h1,h2,h3,λy hy hf=>?_,?_⟩
 ·have:=h4 y hy hf;rw[<-ho] at this;exact this
 ·rw[hN];exact h5
theorem bF(hN:X.N.Nodup)(h0:X.N[0]? =some x)(Bq:X.env.scope.names.lookup x=some .local):FW X (.Name x px) 0 σ:=λf8 s σ' F H d ts v u I fh hd rv q e=>by
 have e:ae [d]=ae ts:=e;have e:=hZ e;subst e;refine aeu (Av I hN h0 (.inl Bq) rv (λs' I'=>⟨[v],?_, .cons q .nil⟩) (.inr Bq));have hl:0<σ'.length:=by rw[I.len];exact(ZI.mp h0).1
 have:σ'.set 0 (some v)=[v].map some++σ:=by
  cases σ' with
  |nil=>simp at hl
  |cons a r=>
   have hd:r=σ:=by simpa using hd
   subst hd;rfl
 rw[<-this];exact I'
theorem cO:Passes (cR P w cv) X (EX cv λ_ _=>False):=λ_ _ _ _ _ _ _ ⟨_,_,_,_,_,_,_,_,_,_,_,_,_,_,z⟩=>z.elim
def bG(K:ZE)(mg:Str->Option Value)(x:Str)(st:Stmt)(f:Addr):Prop:=mg x=some (.ref f)/\∃fd,Fun K x x st f fd
def au(P:Z5)(w:World)(K:ZE)(mg:Str->Option Value)(base:Heap)(cv:Nat->Value)(k:Nat)(x:Str)(m:Nat)(g:List D->M D):Prop:=
 ∃f fd ps,mg x=some (.ref f)/\aaO K (.ref f)=true/\Binds K fd ps []/\FnOk P w K mg base (cR P w cv) k f fd ps (FU K cv m g)
section
variable{X:Cx}{Xw:Nat->Hp->Prop}{cv:Nat->Value}{k m:Nat}{g:List D->M D}{x:Str}{p pos:Pos}{e:Expr}{es:List Expr}{δs:DA}
def ay(m:Nat)(g:List D->M D)(δs:DA):DE:=λρ=>δs ρ>>=λds=>if ds.length=m then g ds else ag
theorem bI(F:au X.prog X.w X.K X.mg X.base cv k x m g)(hr:Room k X.A)(hg:Gl X x)(hx:Passes (cR X.prog X.w cv) X (EX cv Xw))
 (ha:gL X Xw (e::es) δs)(hl:(e::es).length=m)(lr:dL x:=by decide)(he:jp e es X.env:=by rfl)(j1:bv pos es X.env:=by rfl):
 PD X Xw (.Call (.Name x p) (e::es) [] pos) (ay m g δs):=by
 obtain⟨f,fd,ps,h1,h2,h3,h4⟩:=F;exact KZ h4 hr hg h1 h2 h3 hx ha hl lr he j1
end
theorem aI{K:ZE}{st:Stmt}(T:bG K mg x st f)(S:FnScope N ps (ai st))
 (So:∀(kV doc pm:Value) (an:Option Addr) (b7 ct:Value) (us:List Value),us.length=ps.length->bindArgs (aaQ x x (eZ st) (aY st) (ai st) .none kV doc pm an b7 ct) ⟨us,[]⟩=pure (ps.zip us))
 (iT:∀(b7:Value) (A:aao) (outer:List Env) (s:Zt) (H:Hp) (E:XK),Room k (A.deeper (abw x (ai st) s.heap.objs.size f b7))->
  PSDs (a6 (cR P w cv) P w K mg base N x (ai st) f b7 A outer s H E) (λn H'=>E (cv n) none H') (aY st) τ):au P w K mg base cv (k+1) x ps.length (bX N.length τ):=by
 obtain⟨h1,fd,Fn⟩:=T;exact⟨f,fd,ps,h1,Fn.kp,Fn.binds So,Qe Fn S iT⟩
section
variable{X:Cx}{Xw:Nat->Hp->Prop}{a:Expr}{δ:DE}{pos:Pos}
def gJ:D->M D
 | .int i=>ae (.int (-i))
 |_=>ag
theorem ix(ha:PD X Xw a δ):PD X Xw (.UnaryOp .USub a pos) (d1 gJ δ):=PE.weak (Ru Pj ha) λσ H Q ⟨F,ρ,s,w⟩=>by
 refine⟨F,ρ,s,WP.mono (WP.bind w) λv H1 ⟨F1,d,e1,q,w1⟩=>?_⟩;cases d with
 |int i=>
  have q:v= .int i:=q;subst q;exact⟨i,rfl,WP.now w1 e1.fh rfl⟩
 |_=>exact w1.elim
end
section
variable{X:Cx}{Xw:Nat->Hp->Prop}{pos:Pos}
theorem K4{x z:Str}(hg:Gl X x)(h:∃t,X.mg x=some (.str z t))(hz:z.length<=lim)(lr:dL x:=by decide):PD X Xw (.Name x pos) (dC (.str z)):=by
 obtain⟨t,h⟩:=h;exact xt (v:= .str z) hg h ⟨t,rfl⟩ (λ_=>⟨rfl,hz⟩) lr
theorem DH{x:Str}{i:Int}(hg:Gl X x)(h:∃t,X.mg x=some (.int i t))(lr:dL x:=by decide):PD X Xw (.Name x pos) (dC (.int i)):=by
 obtain⟨t,h⟩:=h;exact xt (v:= .int i) hg h ⟨t,rfl⟩ (λ_=>rfl) lr
theorem jE{x:Str}{a:Addr}(hg:Gl X x)(h:X.mg x=some (.ref a))(lr:dL x:=by decide):PD X Xw (.Name x pos) (dC (.raw (.ref a))):=
 xt (v:= .ref a) hg h rfl (λ_=>rfl) lr
end
def Lq(sc osc:Scope):Scope:={sc with names:=sc.names.map λ(n,k)=>if (k== .free&&osc.kind== .function&&osc.names.lookup n==some .cell) then(n, .cell) else(n,k)}
def qt(P:Z5)(w:World)(K:ZE)(mg:Str->Option Value)(base:Heap)(cv:Nat->Value)(k:Nat)(x:Str)(m:Nat)(g:List D->M D):Prop:=
 ∃f fd ps,mg x=some (.ref f)/\aaO K (.ref f)=true/\Binds K fd ps []/\FnOkH P w K mg base k f fd ps (FU K cv m λds=>noex (g ds))
def Gb(m:Nat)(g:List D->M D)(δs:DA):DE:=λρ=>δs ρ>>=λds=>if ds.length=m then noex (noex (g ds)) else ag
theorem JO{X:Cx}{Xw:Nat->Hp->Prop}{cv:Nat->Value}{k m:Nat}{g:List D->M D}{x:Str}{p pos:Pos}{e:Expr}{es:List Expr}{δs:DA}(F:qt X.prog X.w X.K X.mg X.base cv k x m g)(hr:RoomH k X.A)(hg:Gl X x)
 (ha:gL X Xw (e::es) δs)(lr:dL x:=by decide)(he:jp e es X.env:=by rfl)(j1:bv pos es X.env:=by rfl):
 PD X Xw (.Call (.Name x p) (e::es) [] pos) (Gb m g δs):=by
 obtain⟨f,fd,ps,h1,h2,h3,h4⟩:=F;exact HX h4 hr hg h1 h2 h3 ha lr he j1
theorem A7{P:Z5}{w:World}{K:ZE}{mg:Str->Option Value}{base:Heap}{cv:Nat->Value}{k:Nat}{x:Str}{st:Stmt}{f:Addr}{N ps:List Str}{τ:DS}(T:bG K mg x st f)(S:FnScope N ps (ai st))
 (So:∀(kV doc pm:Value) (an:Option Addr) (b7 ct:Value) (us:List Value),us.length=ps.length->bindArgs (aaQ x x (eZ st) (aY st) (ai st) .none kV doc pm an b7 ct) ⟨us,[]⟩=pure (ps.zip us))
 (iT:∀(b7:Value) (A:aao) (outer:List Env) (s:Zt) (H:Hp),RoomH k (A.deeper (abw x (ai st) s.heap.objs.size f b7))->
  PSDs (uP P w K mg base N x (ai st) f b7 A outer s H) (λ_ _=>False) (aY st) τ):qt P w K mg base cv (k+1) x ps.length (bX N.length τ):=by
 obtain⟨h1,fd,Fn⟩:=T;exact⟨f,fd,ps,h1,Fn.kp,Fn.binds So,Qf Fn S iT⟩
structure Box (p:Prop):Prop where
 out:p
section
variable{X:Cx}{Xw:Nat->Hp->Prop}
theorem fV{st:Stmt}{W1:List Stmt}{τ τ':DS}(h1:Box (jm X Xw st τ))(h2:Box (PSDs X Xw W1 τ')):Box (PSDs X Xw (st::W1) (aF τ τ')):=⟨aj h1.out h2.out⟩
theorem F9{st:Stmt}{τ:DS}(h1:Box (jm X Xw st τ)):Box (PSDs X Xw [st] τ):=⟨aq h1.out⟩
end
theorem R5{l:afR}{n k:Nat}{q:Z5}{loose:List Str}{XP:(Str->Option Value)->Heap->Prop}{YP:World->Heap->Prop}{d:DefRec}{K:Params->ZE}{x:Str}{g:List D->M D}
 (hn:l.most=some n)(Sw:n<=lim)(Qp:d.params.defaults=[])(hr:Room k aex)
 (hY:∀(w:World) (h:Heap),YP w h->(K w.params).In h)(hg:∀ns:List Int,ns.length<=n->g [.scr ns]=ae (.bl true))
 (F:∀(w:World) (mg:Str->Option Value) (fa:Addr) (h:Heap),(K w.params).In h->h.Ns ZR mg->mg d.name=some (.ref fa)->
  ∃(cv:Nat->Value) (fd:abW),(∀(s:Zt) (u:Value),afc s fd ⟨[u],[]⟩ [(x,u)])/\
   ∀base:Heap,(K w.params).In base->base.Ns ZR mg->FnOk l.prog w (K w.params) mg base (cR l.prog w cv) k fa fd [x] (FU (K w.params) cv 1 g)):
 PySem.W.WalkO q loose XP YP l.row.toRowW d [] (λf vs=>afQ f vs):=by
 refine Att.attach_call hn Qp λw ago v6 mg mb fa o pm cd doc a vs ns G Y ho hd u6 NF G2 hints T0 XE=>?_;have KX:=hY w _ Y;obtain⟨cv,fd,hb,hF⟩:=F w mg fa _ KX G.T.g NF;refine zA KX G.T.g G.T.b G.T.builtins G.T.nolimit XE G2 hints (Z2 T0 (Z2 Sw (aa5 d_))) hr hF hb (λH hO hS=>?_) λH e s' z=>?_
 ·refine⟨H,[.scr ns],λ_ _ e=>e,⟨_,_,rfl,⟨a,rfl,hS,Z2 T0 Sw⟩,rfl⟩,rfl,?_⟩;rw[hg ns T0];exact λv H' F' e q=>q
 ·obtain⟨_,_,_,_,_,_,_,_,_,_,_,_,_,_,y⟩:=z
theorem BQ{K:ZE}{h:Heap}{mg:Str->Option Value}{x:Str}{C:Addr}{ms:List Value}{id:String}(hK:K.In h)(hG:h.Ns ZR mg)(at':ZZ K ZR x=some (some (.ref C)))
 (qq:ac1 K C ms id=true):OwnCls x C ms id mg h:=OwnCls.mk (aaJ hK hG at')<|by
 revert qq;unfold ac1;split<;>intro qq
 rotate_left
 ·exact Bool.noConfusion qq
 rename_i P8 O4 Wz Nm;split at qq
 rotate_left
 ·exact Bool.noConfusion qq
 rename_i C₁ UD v0 v1 v2 v3 YD v5 em es;rw[ZM,ZM,ZM,ZM,ZM] at qq;rcases qq with⟨⟨⟨⟨⟨q1,q2⟩,q3⟩,q4⟩,q5⟩,q6⟩
 have q1:=ae3 q1;have q2:=ae3 q2;have q6:=ae3 q6;have q3:O4.hasDel=false:=by
  cases z:O4.hasDel
  ·rfl
  ·rw[z] at q3;cases q3
 subst q1 q2;rcases O4 with⟨r1,r2,r3,r4,r5,r6,r7,r8,r9,YO,YQ⟩
 have em:r3=_:=em;have q3:YQ=false:=q3;subst em q3;have YS:Wz= #[v0,v1,v2,v3,some (.builtin YD),v5]:=by
  rcases Wz with⟨y⟩
  exact agl Array.mk es
 subst YS;have n5:=Heap.Ns.of_isNs (PySem.W.isNs_of_in hK q5);have n6:=PySem.W.nsMap_none_of_in hK q5 q6;exact⟨UD,r4,r1,r5,r2,r6,r7,r8,r9,YO,P8,v0,v1,v2,v3,v5,_,hK _ _ Nm,n5,n6,PySem.W.tail_of_in hK q4⟩
theorem Bg{K:ZE}{t c:Value}(h1:PySem.W.subIn K c (.type "BaseException")=some true)(h2:ZK K t c=some true)(iV:(t==c)=false):acO K t c=some true:=by
 unfold acO;unfold ZK at h2;rw[iV] at h2;rw[h1];exact h2
theorem ri{α β:Type}{f g:α->Option β}:∀{l:List α},(∀x∈l,f x=g x)->l.filterMap f=l.filterMap g
 |[],_=>rfl
 |a::l,h=>by rw[ab7,ab7,h a (Zq ..),ri λx hx=>h x (Zp _ hx)]
def IsTupRev(h:Heap)(it t:Addr)(i:Int):Prop:=∃o,h.get? it=some o/\o.cls= .type "reversed"/\o.data= .fields #[.ref t,aei i]
section
variable{s:Zt}
theorem IsTupRev.typeIs{it t:Addr}{i:Int}(x:IsTupRev s.heap it t i):s.TypeIs (.ref it) "reversed":=let ⟨o,ho,hc,_⟩:=x;⟨o,ho,hc⟩
end
section
variable{e:Expr}{δi:DE}{δs:DA}
def Rv(gs:List (List D->M D))(m:Nat)(i:D)(ds:List D):M D:=match i with
 | .int k=>match L2.atI gs k with
   |some g=>if ds.length=m then g ds else ag
   |none=>ag
 |_=>ag
def HG(gs:List (List D->M D)):D->Bool
 | .int k=>(L2.atI gs k).isSome
 |_=>false
def L9(gs:List (List D->M D))(m:Nat)(δi:DE)(δs:DA):DE:=λρ=>δi ρ>>=λi=>if HG gs i then δs ρ>>=λds=>Rv gs m i ds else ag
end
def wN:D->Option Key
 | .int i=>some (.inl i)
 | .str x=>some (.inr x)
 |_=>none
def wO:List D->Option (List Key)
 |[]=>some []
 |d::ds=>match wN d,wO ds with
  |some k,some ks=>some (k::ks)
  |_,_=>none
def et:D->Option (List Key)
 | .tup ds=>wO ds
 |_=>none
theorem mM{K:ZE}{F:Hp}(e:wN d=some k)(h:Den K F d v):v=kV k:=by
 cases d<;>first | cases e | skip
 ·exact h
 ·exact h.1
theorem iY{K:ZE}{F:Hp}:∀{ds:List D}{vs:List V}{ks:List Key},wO ds=some ks->DenL K F ds vs->vs=ks.map kV
 |[],_,_,e,h=>by cases e;exact h
 |d::ds,_,_,e,⟨v,r,h1,h2,h3⟩=>by
  unfold wO at e;split at e
  ·rename_i k ks e1 e2;cases e;subst h1;rw[Zu,mM e1 h2,iY e2 h3]
  ·cases e
section
variable{κ:Type}[DecidableEq κ]
def da:List κ->List D->κ->Option D
 |k'::ks,d::ds,k=>if k'=k then some d else da ks ds k
 |_,_,_=>none
def lu:List κ->List D->κ->D->List D
 |k'::ks,d'::ds,k,d=>(if k'=k then d else d')::lu ks ds k d
 |_,_,_,_=>[]
theorem nU{K:ZE}{F:Hp}:∀{ks:List κ}{ds:List D}{vs:List V}(k:κ),DenL K F ds vs->ks.length=ds.length->
 (match da ks ds k with | some d=>∃v,nW (ks.zip vs) k=some v/\Den K F d v | none=>nW (ks.zip vs) k=none)
 |[],[],_,_,_,_=>rfl
 |k'::ks,d::ds,_,k,⟨v,r,h1,h2,h3⟩,hl=>by
  subst h1;unfold da;rw[aaR];by_cases e:k'=k
  ·rw[agd e,nY e];exact⟨v,rfl,h2⟩
  ·rw[age e,nX e];exact nU k h3 (by simpa using hl)
 |[],_::_,_,_,_,hl=>by simp at hl
 |_::_,[],_,_,_,hl=>by simp at hl
theorem kM{K:ZE}{F:Hp}(k:κ)(h:DenL K F ds vs)(hl:ks.length=ds.length):(nW (ks.zip vs) k).isSome=(da ks ds k).isSome:=by
 have:=nU k h hl;split at this
 ·rename_i d e;obtain⟨v,e1,_⟩:=this;rw[e1,e];rfl
 ·rename_i e;rw[this,e];rfl
theorem Ah{K:ZE}{F:Hp}(hd:Den K F d v):∀{ks:List κ}{ds:List D}{vs:List V}(k:κ),DenL K F ds vs->ks.length=ds.length->
 ∃ws,(ks.zip vs).map (λkv=>if kv.1=k then(kv.1,v) else kv)=ks.zip ws/\DenL K F (lu ks ds k d) ws
 |[],[],_,_,h,_=>⟨[],rfl,rfl⟩
 |k'::ks,d'::ds,_,k,⟨v',r,h1,h2,h3⟩,hl=>by
  subst h1;obtain⟨ws,e1,e2⟩:=Ah hd k h3 (by simpa using hl);by_cases e:k'=k
  ·refine⟨v::ws,?_,?_⟩
   ·rw[aaR,Zu,e1,agd e];rfl
   ·unfold lu;rw[agd e];exact .cons hd e2
  ·refine⟨v'::ws,?_,?_⟩
   ·rw[aaR,Zu,e1,age e];rfl
   ·unfold lu;rw[age e];exact .cons h2 e2
 |[],_::_,_,_,_,hl=>by simp at hl
 |_::_,[],_,_,_,hl=>by simp at hl
theorem ku:∀(ks:List κ) (ds:List D) (k:κ) (d:D),ks.length=ds.length->(lu ks ds k d).length=ds.length
 |[],[],_,_,_=>rfl
 |_::ks,_::ds,k,d,h=>by unfold lu;rw[Zz,Zz,ku ks ds k d (by simpa using h)]
 |[],_::_,_,_,h=>by simp at h
 |_::_,[],_,_,h=>by simp at h
def dH(ks:List κ)(ds:List D)(k:κ):List κ:=if (da ks ds k).isSome then ks else ks++[k]
def cX(ks:List κ)(ds:List D)(k:κ)(d:D):List D:=if (da ks ds k).isSome then lu ks ds k d else ds++[d]
theorem xD{K:ZE}(hd:Den K F d v)(k:κ)(h:DenL K F ds vs)(hl:ks.length=ds.length):
 ∃ws,putK (ks.zip vs) k v=(dH ks ds k).zip ws/\DenL K F (cX ks ds k d) ws/\(dH ks ds k).length=(cX ks ds k d).length:=by
 have hs:=kM k h hl;unfold putK dH cX;have ha:((ks.zip vs).any λkv=>decide (kv.1=k))=(nW (ks.zip vs) k).isSome:=tG ..;rw[ha,hs];cases e:(da ks ds k).isSome with
 |true=>
  rw[agd rfl,agd rfl,agd rfl];obtain⟨ws,e1,e2⟩:=Ah hd k h hl;exact⟨ws,e1,e2,by rw[ku ks ds k d hl];exact hl⟩
 |false=>
  rw[age Z1,age Z1,age Z1];refine⟨vs++[v],?_,h.append (.cons hd .nil),by simp[hl]⟩;rw[acL (by rw[hl];exact h.len)];rfl
end
theorem D6{κ:Type}{K:ZE}{ks:List κ}(h:DenL K F ds vs)(hl:ks.length=ds.length):(ks.zip vs).length=ds.length:=by
 rw[abA,hl,<-h.len];omega
def tf(ρ:cJ)(i:Nat):Option D:=match ρ[i]? with
 |some (some (.fz d))=>some d
 |some (some (.ow c))=>some c.d
 |_=>none
theorem IY{K:ZE}(s:StE K F H σ ρ)(e:tf ρ i=some (.dct ks ds)):
 ∃a vs,σ[i]? =some (some (.ref a))/\Rd H a (.dT (ks.zip vs))/\DenL K F ds vs/\ks.length=ds.length/\ds.length<=lim:=by
 unfold tf at e;split at e
 ·rename_i d e1;cases e;obtain⟨v,h1,a,ob,vs,rfl,h2,h3,h4,h5⟩:=s.den i _ e1;exact⟨a,vs,h1, .inr ⟨ob,s.fh _ _ h2⟩,h3,h4,h5⟩
 ·rename_i c e1;cases c<;>cases e
  obtain⟨v,h1,a,o,rfl,h2,_,vs,rfl,h3,h4,h5⟩:=s.den i _ e1;exact⟨a,vs,h1, .inl h2,h3,h4,h5⟩
 ·cases e
theorem IX{K:ZE}(s:StE K F H σ ρ)(e:tf ρ i=some (.dci ks ds)):
 ∃a vs,σ[i]? =some (some (.ref a))/\Rd H a (.dK (ks.zip vs))/\DenL K F ds vs/\ks.length=ds.length/\ds.length<=lim:=by
 unfold tf at e;split at e
 ·rename_i d e1;cases e;obtain⟨v,h1,a,ob,vs,rfl,h2,h3,h4,h5⟩:=s.den i _ e1;exact⟨a,vs,h1, .inr ⟨ob,s.fh _ _ h2⟩,h3,h4,h5⟩
 ·rename_i c e1;cases c<;>cases e
  obtain⟨v,h1,a,o,rfl,h2,_,vs,rfl,h3,h4,h5⟩:=s.den i _ e1;exact⟨a,vs,h1, .inl h2,h3,h4,h5⟩
 ·cases e
def Cy:D->D->Option (Option D)
 | .dct ks ds,k=>(et k).map (da ks ds)
 | .dci ks ds,k=>(wN k).map (da ks ds)
 |_,_=>none
theorem Cz{K:ZE}(s:StE K F H σ ρ)(hi:tf ρ i=some d)(hk:Den K F k y)(e:Cy d k=some o):
 ∃a ov,σ[i]? =some (some (.ref a))/\lR H a y ov/\ov.isSome=o.isSome/\∀d',o=some d'->∃v,ov=some v/\Den K F d' v:=by
 unfold Cy at e;split at e
 ·rename_i ks ds;cases q:et k with
  |none=>rw[q] at e;cases e
  |some kk=>
   rw[q] at e;cases e;obtain⟨a,vs,h1,h2,h3,h4,h5⟩:=IY s hi;unfold et at q;split at q
   ·rename_i es;obtain⟨b,ws,rfl,k2,k3,_⟩:=hk;have e1:=iY q k3;subst e1;refine⟨a,_,h1, .inr ⟨_,kk,b,h2,rfl,s.fh _ _ k2,rfl⟩,kM kk h3 h4,λd' u7=>?_⟩;have:=nU kk h3 h4;rw[u7] at this;exact this
   ·cases q
 ·rename_i ks ds;cases q:wN k with
  |none=>rw[q] at e;cases e
  |some kk=>
   rw[q] at e;cases e;obtain⟨a,vs,h1,h2,h3,h4,h5⟩:=IX s hi;have e1:=mM q hk;subst e1;refine⟨a,_,h1, .inl ⟨_,kk,h2,rfl,rfl⟩,kM kk h3 h4,λd' u7=>?_⟩;have:=nU kk h3 h4;rw[u7] at this;exact this
 ·cases e
section
variable{X:Cx}{Xw:Nat->Hp->Prop}{a e:Expr}{δ δk δv:DE}{pos p pos' B1:Pos}{x:Str}{i:Nat}
def P2(neg:Bool)(i:Nat)(δ:DE):DE:=λρ=>δ ρ>>=λk=>match tf ρ i with
 |some d=>match Cy d k with
  |some o=>ae (.bl (if neg then !o.isSome else o.isSome))
  |none=>ag
 |none=>ag
theorem NT{neg:Bool}{σ:St}(h:tD X.K Xw (P2 neg i δ) σ H Q):(λσ H Q=>tD X.K Xw δ σ H λy H1=>tu i σ H1 λx H2=>∃a o,x= .ref a/\lR H2 a y o/\Q (.bl (if neg then !o.isSome else o.isSome)) H2) σ H Q:=by
 obtain⟨F,ρ,s,w⟩:=h;refine⟨F,ρ,s,WP.mono (WP.bind w) λy H1 ⟨F1,k,e1,q1,w1⟩=>?_⟩;have s1:=s.ext e1;cases hi:tf ρ i with
 |none=>rw[hi] at w1;exact w1.elim
 |some d=>
  rw[hi] at w1;have w1:WP X.K Xw F1 H1 (match Cy d k with | some o=>ae (.bl (if neg then !o.isSome else o.isSome)) | none=>ag) Q:=w1;cases he:Cy d k with
  |none=>rw[he] at w1;exact w1.elim
  |some o=>
   rw[he] at w1;obtain⟨a,ov,h1,h2,h3,_⟩:=Cz s1 hi q1 he;refine⟨.ref a,h1,a,ov,rfl,h2,?_⟩;rw[h3];exact WP.now w1 e1.fh rfl
theorem UN(hu:X.A.units+64<cLine)(ha:PD X Xw a δ)(hv:PE X (.Name x p) (tu i))(hm:aaB .In (.Name x p)=false:=by rfl):PD X Xw (.Compare a [.In] [.Name x p] pos) (P2 false i δ):=
 PE.weak (OH (Oz (by omega) ha hv) hm) λσ H Q h=>NT (neg:=false) h
def vE(i:Nat):DS:=λρ=>ae (.nx (ρ.set i (some (.ow (.dct [] [])))))
theorem kq(hN:X.N.Nodup)(hi:X.N[i]? =some x)(hx:Loc X.env.scope x)(hf:bn X x:=by first | exact .inl rfl | exact .inr rfl):
 jm X Xw (.Assign [.Name x pos'] (.Dict [] [] B1) pos) (vE i):=λs0 agn=>PS.weak (xB Im (aU hN hi hx hf) rfl) λD σ H ⟨F,ρ,s,w⟩=>λq hq=>
 w _ F _ (s.setNew (c₀:= .dct [] []) hq ⟨[],rfl,rfl,rfl,aae _⟩)
def jf:C->D->D->Option C
 | .dct ks ds,k,d=>match et k with
   |some kk=>if ds.length<lim then some (.dct (dH ks ds kk) (cX ks ds kk d)) else none
   |none=>none
 | .dci ks ds,k,d=>match wN k with
   |some kk=>if ds.length<lim then some (.dci (dH ks ds kk) (cX ks ds kk d)) else none
   |none=>none
 |_,_,_=>none
def xo(ρ:cJ)(i:Nat):Option C:=match ρ[i]? with
 |some (some (.ow c))=>some c
 |_=>none
theorem vn{ρ:cJ}{i:Nat}(h:xo ρ i=some c):ρ[i]? =some (some (.ow c)):=by
 unfold xo at h;split at h
 ·rename_i c' e;cases h;exact e
 ·cases h
def ft(i:Nat)(δk δv:DE):DS:=λρ=>match xo ρ i with
 |some c=>δv ρ>>=λv=>δk ρ>>=λk=>match jf c k v with
  |some c'=>ae (.nx (ρ.set i (some (.ow c'))))
  |none=>ag
 |none=>ag
theorem vz{κ:Type}[DecidableEq κ]{ks:List κ}{k:κ}(hl:ks.length=ds.length)(h:ds.length<lim):(cX ks ds k d).length<=lim:=by
 unfold cX;split
 ·rw[ku ks ds k d hl];omega
 ·rw[ZA];exact h
theorem IA{K:ZE}{F H:Hp}(hs:Same F H)(hb:H b=some o)(hc:DenC K F c o)(hk:Den K F k y)(hd:Den K F d v)(e:jf c k d=some c'):∃o',DPut H b y v (upd H b o')/\DenC K F c' o':=by
 have Qz:=d_;unfold jf at e;split at e
 ·rename_i ks ds k d;obtain⟨vs,rfl,h3,h4,h5⟩:=hc;split at e
  ·rename_i kk q;split at e
   ·rename_i dO;cases e;unfold et at q;split at q
    ·rename_i es;obtain⟨b2,ws,rfl,k2,k3,_⟩:=hk;have e1:=iY q k3;subst e1;obtain⟨us,e2,e3,e4⟩:=xD hd kk h3 h4;refine⟨_,DPut.t hb (hs _ _ k2) (by rw[D6 h3 h4];omega),us,?_,e3,e4,vz h4 dO⟩;rw[e2]
    ·cases q
   ·cases e
  ·cases e
 ·rename_i ks ds k d;obtain⟨vs,rfl,h3,h4,h5⟩:=hc;split at e
  ·rename_i kk q;split at e
   ·rename_i dO;cases e;have e1:=mM q hk;subst e1;obtain⟨us,e2,e3,e4⟩:=xD hd kk h3 h4;refine⟨_,DPut.k hb (by rw[D6 h3 h4];omega),us,?_,e3,e4,vz h4 dO⟩;rw[e2]
   ·cases e
  ·cases e
 ·cases e
theorem fT(hu:X.A.units+64<cLine)(hv:PE X (.Name x p) (tu i))(hk:PD X Xw a δk)(he:PD X Xw e δv)(hs:adq e (some (.Subscript (.Name x p) a pos')) pos.line X.env=pure false:=by rfl):
 jm X Xw (.Assign [.Subscript (.Name x p) a pos'] e pos) (ft i δk δv):=λs0 agn=>PS.weak (Lf (by omega) hv hk he hs) λD σ H ⟨F,ρ,s,w⟩=>by
 unfold ft at w;cases ho:xo ρ i with
 |none=>rw[ho] at w;exact w.elim
 |some c=>
  rw[ho] at w;have hi:=vn ho;have w:WPS X.K Xw s0 agn (δv ρ>>=λv=>δk ρ>>=λk=>match jf c k v with | some c'=>ae (.nx (ρ.set i (some (.ow c')))) | none=>ag) D:=w;refine⟨F,ρ,s.st,?_⟩;rcases(δv ρ).cs with q | ⟨n,q⟩ | ⟨dv,q⟩
  ·rw[q] at w;exact w.elim
  ·rw[q] at w⊢;exact λF' H' e'=>w F' H' (s.ext.trans e')
  ·rw[q] at w⊢;intro v H1 F1 e1 hq;have s1:=s.ext' e1;obtain⟨u,h1,b,o,rfl,h2,h3,h4⟩:=s1.st.den i _ hi;have w:WPS X.K Xw s0 agn (δk ρ>>=λk=>match jf c k dv with | some c'=>ae (.nx (ρ.set i (some (.ow c')))) | none=>ag) D:=w;refine⟨.ref b,h1,F1,ρ,s1.st,?_⟩;rcases(δk ρ).cs with q2 | ⟨n,q2⟩ | ⟨dk,q2⟩
   ·rw[q2] at w;exact w.elim
   ·rw[q2] at w⊢;exact λF' H' e'=>w F' H' (s1.ext.trans e')
   ·rw[q2] at w⊢;intro y H2 F2 e2 hy;have w:WPS X.K Xw s0 agn (match jf c dk dv with | some c'=>ae (.nx (ρ.set i (some (.ow c')))) | none=>ag) D:=w;cases hp:jf c dk dv with
    |none=>rw[hp] at w;exact w.elim
    |some c'=>
     rw[hp] at w;have s2:=s1.ext' e2;obtain⟨u2,k1,b2,o2,Nx,k2,k3,k4⟩:=s2.st.den i _ hi;rw[h1] at k1;cases k1;cases Nx;obtain⟨o',g,hc⟩:=IA s2.st.fh k2 k4 hy (Den.mono e2.ff hq) hp;exact⟨b,_,rfl,g,w σ F2 _ (s2.chg hi h1 hc)⟩
end
def eM(c:DT)(body:DS):Nat->DS
 |0,_=>ag
 |n+1,ρ=>c ρ>>=λb=>if b then body ρ>>=λo=>match o with | .nx ρ'=>eM c body n ρ' | .rt d=>ae (.rt d) else ae (.nx ρ)
def sV(c:DT)(body:DS):DS:=λρ=>eM c body lim ρ
section
variable{X:Cx}{Xw:Nat->Hp->Prop}{τ:DS}{tc:DT}{pos:Pos}
theorem k9(hp:PassesOwn (model X.prog X.w) X.A X.env X.xe)(hc:qu X Xw c tc)(hb:PSDs X Xw body τ):jm X Xw (.While c body [] pos) (sV tc τ):=λs0 agn=>PS.weak (Iq hp hc hb.ex) λD σ H ⟨F,ρ,s,w⟩=>by
 refine⟨λm σ H=>∃F ρ,StOk X.K s0 agn F H σ ρ/\WPS X.K Xw s0 agn (eM tc τ m ρ) D,⟨lim,F,ρ,s,w⟩,?_⟩;rintro m σ H ⟨F,ρ,s,w⟩;cases m with
 |zero=>exact w.elim
 |succ m=>
  refine⟨F,ρ,s.st,?_⟩;unfold eM at w
  match tc ρ,w with
  |none,w=>exact w
  |some (.ex n),w=>exact λF' H' e'=>w F' H' (s.ext.trans e')
  |some (.ok false),w=>exact λH' F' e'=>w σ F' H' (s.ext' e')
  |some (.ok true),w=>
   intro H' F' e';have w:WPS X.K Xw s0 agn (τ ρ>>=λo=>match o with | .nx ρ'=>eM tc τ m ρ' | .rt d=>ae (.rt d)) D:=w;refine⟨λσ' H'=>∃F' ρ',StOk X.K s0 agn F' H' σ' ρ'/\WPS X.K Xw s0 agn (eM tc τ m ρ') D,λσ' H' h=>⟨m,abG m,h⟩,s0,agn,F',ρ,s.ext' e',?_⟩
   match τ ρ,w with
   |none,w=>exact w
   |some (.ok (.nx ρ')),w=>exact λσ' F' H' s'=>⟨F',ρ',s',w⟩
   |some (.ok (.rt d)),w=>exact w
   |some (.ex n),w=>exact w
end
def mP:List D->Option (List (List Key))
 |[]=>some []
 |d::ds=>match et d,mP ds with
  |some k,some ks=>some (k::ks)
  |_,_=>none
theorem Nd:∀{x y:D}{k k':Key}{n:Nat},wN x=some k->wN y=some k'->iF n x y=some (decide (k=k'))
 | .int i, .int j,_,_,n,e1,e2=>by
   cases e1;cases e2;have:iF n (.int i) (.int j)=some (i==j):=by cases n<;>rfl
   rw[this];congr 1;by_cases h:i=j
   ·subst h;simp
   ·simp[h]
 | .str x, .str y,_,_,n,e1,e2=>by
   cases e1;cases e2;have:iF n (.str x) (.str y)=some (x==y):=by cases n<;>rfl
   rw[this];congr 1;by_cases h:x=y
   ·subst h;simp
   ·simp[h]
 | .int i, .str y,_,_,n,e1,e2=>by
   cases e1;cases e2;have:iF n (.int i) (.str y)=some false:=by cases n<;>rfl
   rw[this];simp
 | .str x, .int j,_,_,n,e1,e2=>by
   cases e1;cases e2;have:iF n (.str x) (.int j)=some false:=by cases n<;>rfl
   rw[this];simp
 | .non,_,_,_,_,e1,_=>by cases e1
 | .bl _,_,_,_,_,e1,_=>by cases e1
 | .raw _,_,_,_,_,e1,_=>by cases e1
 | .exc _,_,_,_,_,e1,_=>by cases e1
 | .scr _,_,_,_,_,e1,_=>by cases e1
 | .tup _,_,_,_,_,e1,_=>by cases e1
 | .lst _,_,_,_,_,e1,_=>by cases e1
 | .dct _ _,_,_,_,_,e1,_=>by cases e1
 | .dci _ _,_,_,_,_,e1,_=>by cases e1
 |_, .non,_,_,_,_,e2=>by cases e2
 |_, .bl _,_,_,_,_,e2=>by cases e2
 |_, .raw _,_,_,_,_,e2=>by cases e2
 |_, .exc _,_,_,_,_,e2=>by cases e2
 |_, .scr _,_,_,_,_,e2=>by cases e2
 |_, .tup _,_,_,_,_,e2=>by cases e2
 |_, .lst _,_,_,_,_,e2=>by cases e2
 |_, .dct _ _,_,_,_,_,e2=>by cases e2
 |_, .dci _ _,_,_,_,_,e2=>by cases e2
theorem CN:∀{xs ys:List D}{k k':List Key},wO xs=some k->wO ys=some k'->n8 (iF n) xs ys=some (decide (k=k'))
 |[],[],_,_,e1,e2=>by cases e1;cases e2;rfl
 |x::xs,[],_,_,e1,e2=>by
  cases e2;unfold wO at e1;split at e1
  ·cases e1;simp[n8]
  ·cases e1
 |[],y::ys,_,_,e1,e2=>by
  cases e1;unfold wO at e2;split at e2
  ·cases e2;simp[n8]
  ·cases e2
 |x::xs,y::ys,_,_,e1,e2=>by
  unfold wO at e1 e2;split at e1
  ·rename_i k ks q1 q2;cases e1;split at e2
   ·rename_i k' ks' q3 q4;cases e2;unfold n8;rw[Nd q1 q3,CN q2 q4];simp
   ·cases e2
  ·cases e1
theorem J3(e1:et x=some k)(e2:et y=some k'):iF (n+1) x y=some (decide (k=k')):=by
 cases x with
 |tup xs=>
  cases y with
  |tup ys=>exact CN e1 e2
  |_=>cases e2
 |_=>cases e1
theorem Hj{K:ZE}(e:et d=some k)(h:Den K F d v):∃a,v= .ref a/\F a=some (.tup (k.map kV)):=by
 cases d with
 |tup ds=>
  obtain⟨a,vs,rfl,h2,h3,_⟩:=h;have:=iY e h3;subst this;exact⟨a,rfl,h2⟩
 |_=>cases e
def rT(k:List Key)(ks:List (List Key)):Bool:=ks.any λk'=>decide (k'=k)
open Classical in
noncomputable def isKey(H:Hp)(k:List Key)(u:Value):Bool:=decide (∃a,u= .ref a/\H a=some (.tup (k.map kV)))
theorem EL{K:ZE}(hs:Same F H)(e:et d=some k')(h:Den K F d v)(r:RelV v u):isKey H k u=decide (k'=k):=by
 obtain⟨a,rfl,h2⟩:=Hj e h;cases (show u=_ from r);unfold isKey;by_cases hk:k'=k
 ·subst hk;rw[agg rfl];exact @agg _ (aem _) ⟨a,rfl,hs _ _ h2⟩
 ·rw[agh hk];refine @agh _ (aem _) λ⟨b,e1,e2⟩=>hk ?_;cases e1;rw[hs _ _ h2] at e2;injection e2 with e2
  injection e2 with e2
  exact Dd e2
theorem i6(I:Inv X f8 σ H s)(hs:Same F H)(hu:A.units+6<cLine)(ex:et x=some k)(hx:Den X.K F x v)(rx:RelV v u):
 ∀{ys:List D}{vs:List V}{aL:List Value}{ks:List (List Key)},mP ys=some ks->DenL X.K F ys vs->Vals vs aL->aL.any (isKey H k)=rT k ks/\∀t∈aL,EqAt A s t u (isKey H k t)
 |[],_,_,_,e,h,r=>by
  cases e;cases (show _=_ from h);cases r;exact⟨rfl,λt ht=>by cases ht⟩
 |y::ys,_,_,_,e,⟨w,ws,h1,h2,h3⟩,r=>by
  subst h1;unfold mP at e;split at e
  ·rename_i k' ks e1 e2;cases e;cases r with
   |cons r1 r2=>
    obtain⟨Uu,Uv⟩:=i6 I hs hu ex hx rx e2 h3 r2;have hk:=EL (k:=k) hs e1 h2 r1;refine⟨?_,λt ht=>?_⟩
    ·rw[abC,Uu,hk];rfl
    ·rcases Zw.mp ht with rfl | ht
     ·rw[hk];exact(wm I hs 6 A y x w v t u _ hu h2 hx r1 rx (J3 e1 ex)).eq
     ·exact Uv t ht
  ·cases e
def EA(neg:Bool):D->D->M D
 |x, .lst ys=>match et x,mP ys with
  |some k,some ks=>ae (.bl (if neg then !rT k ks else rT k ks))
  |_,_=>ag
 |x, .tup ys=>match et x,mP ys with
  |some k,some ks=>ae (.bl (if neg then !rT k ks else rT k ks))
  |_,_=>ag
 |_,_=>ag
def O2(K:ZE)(neg:Bool):R2:=λx y H Q=>∃F dx ys vs p k ks,Same F H/\Den K F dx x/\et dx=some k/\mP ys=some ks/\DenL K F ys vs/\y= .ref p/\(SqL K H p vs\/SqT K H p vs)/\Q (.bl (if neg then !rT k ks else rT k ks)) H
section
variable{X:Cx}{Xw:Nat->Hp->Prop}{a b:Expr}{δa δb:DE}{pos:Pos}
theorem UK(hu:X.A.units+64<cLine):OpR X (aas .In) (O2 X.K false):=by
 intro f8 s σ H x y v u Q I rx ry h;obtain⟨F,dx,ys,vs,p,k,ks,hs,hx,ex,ek,hd,rfl,hq,q⟩:=h;cases (show u=_ from ry);have QO:X.A.in1.units+6<cLine:=by show X.A.units+1+6<cLine;omega
 rcases hq with hq | hq
 ·obtain⟨aL,r,pl,hz⟩:=I.list hq;obtain⟨e1,e2⟩:=i6 I hs QO ex hx rx ek hd r;refine SeqAt.in_listAt (isKey H k) pl.isList (λw hw=>e2 w (by simpa using hw)) ⟨.bl _,H,I,rfl,?_⟩;rw[show aL.toArray.any (isKey H k)=aL.any (isKey H k) by simp,e1];exact q
 ·obtain⟨aL,r,pl,hz⟩:=I.tuple hq;obtain⟨e1,e2⟩:=i6 I hs QO ex hx rx ek hd r;refine af6 (isKey H k) pl (λw hw=>e2 w (by simpa using hw)) ⟨.bl _,H,I,rfl,?_⟩;rw[show aL.toArray.any (isKey H k)=aL.any (isKey H k) by simp,e1];exact q
theorem Fg(hu:X.A.units+64<cLine):OpR X (aas .NotIn) (O2 X.K true):=by
 intro f8 s σ H x y v u Q I rx ry h;obtain⟨F,dx,ys,vs,p,k,ks,hs,hx,ex,ek,hd,rfl,hq,q⟩:=h;cases (show u=_ from ry);have QO:X.A.in1.units+6<cLine:=by show X.A.units+1+6<cLine;omega
 rcases hq with hq | hq
 ·obtain⟨aL,r,pl,hz⟩:=I.list hq;obtain⟨e1,e2⟩:=i6 I hs QO ex hx rx ek hd r;refine afB (isKey H k) pl.isList (λw hw=>e2 w (by simpa using hw)) ⟨.bl _,H,I,rfl,?_⟩;rw[show aL.toArray.any (isKey H k)=aL.any (isKey H k) by simp,e1];exact q
 ·obtain⟨aL,r,pl,hz⟩:=I.tuple hq;obtain⟨e1,e2⟩:=i6 I hs QO ex hx rx ek hd r;refine afn (isKey H k) pl (λw hw=>e2 w (by simpa using hw)) ⟨.bl _,H,I,rfl,?_⟩;rw[show aL.toArray.any (isKey H k)=aL.any (isKey H k) by simp,e1];exact q
theorem NV{K:ZE}:yz K (O2 K neg) (EA neg):=λXw F H x y dx dy Q s hx hy w=>by
 unfold EA at w;split at w
 ·rename_i ys;split at w
  ·rename_i k ks e1 e2;obtain⟨p,vs,h1,h2,h3,_⟩:=hy;exact⟨F,dx,ys,vs,p,k,ks,s,hx,e1,e2,h3,h1, .inl (SqL.of (s _ _ h2)),WP.now w s rfl⟩
  ·exact w.elim
 ·rename_i ys;split at w
  ·rename_i k ks e1 e2;obtain⟨p,vs,h1,h2,h3,_⟩:=hy;exact⟨F,dx,ys,vs,p,k,ks,s,hx,e1,e2,h3,h1, .inr (SqT.of (s _ _ h2)),WP.now w s rfl⟩
  ·exact w.elim
 ·exact w.elim
theorem Ft(hu:X.A.units+64<cLine)(ha:PD X Xw a δa)(hb:PD X Xw b δb)(hm:aaB .NotIn b=false:=by rfl):qu X Xw (.Compare a [.NotIn] [b] pos) (cI (d2 (EA true) δa δb)):=g_ (Fg hu) NV ha hb hm
end
end L3
namespace L3
open PySem PySem.W PyProof.Rows
def eA(b:Nat->Nat->Bool):KasT α->α
 | .ret a=>a
 | .ask i j k=>eA b (k (b i j))
theorem gr(b:Nat->Nat->Bool)(f:α->KasT β):∀t:KasT α,eA b (t.bind f)=eA b (f (eA b t))
 | .ret _=>rfl
 | .ask i j k=>gr b f (k (b i j))
structure Lt (n:Nat) (b:Nat->Nat->Bool):Prop where
 tr:∀i j k,b i j=true->b j k=true->b i k=true
 Y5:∀i j,b i j=true->b j i=false
 tot:∀i j,i<n->j<n->i≠j->b i j=true\/b j i=true
abbrev at'(p:Array Nat)(i:Nat):Nat:=p.getD i 0
def Ri(b:Nat->Nat->Bool)(p:Array Nat)(k:Nat):Prop:=∀i j,i<j->j<k->b (at' p i) (at' p j)=true
def Fa(b:Nat->Nat->Bool)(p:Array Nat)(k:Nat):Prop:=∀i j,i<j->j<k->b (at' p j) (at' p i)=true
structure PN (n:Nat) (p:Array Nat):Prop where
 sz:p.size=n
 lt:∀i,i<n->at' p i<n
 inj:∀i j,i<n->j<n->at' p i=at' p j->i=j
section
variable{n:Nat}{b:Nat->Nat->Bool}(L:Lt n b)
include L
theorem Ri.more(h:Ri b p k)(h1:1<=k)(e:b (at' p (k - 1)) (at' p k)=true):Ri b p (k+1):=λi j Bp hj=>by
 by_cases hk:j<k
 ·exact h i j Bp hk
 ·have:j=k:=by omega
  subst this;by_cases hi:i=j - 1
  ·subst hi;exact e
  ·exact L.tr _ _ _ (h i (j - 1) (by omega) (by omega)) e
theorem Fa.more(h:Fa b p k)(h1:1<=k)(e:b (at' p k) (at' p (k - 1))=true):Fa b p (k+1):=λi j Bp hj=>by
 by_cases hk:j<k
 ·exact h i j Bp hk
 ·have:j=k:=by omega
  subst this;by_cases hi:i=j - 1
  ·subst hi;exact e
  ·exact L.tr _ _ _ e (h i (j - 1) (by omega) (by omega))
theorem vR(P:PN n p):∀(f k:Nat),1<=k->k+f<=n->Ri b p k->k<=eA b (kas_asc p f k)/\eA b (kas_asc p f k)<=k+f/\Ri b p (eA b (kas_asc p f k))/\(eA b (kas_asc p f k)<k+f->b (at' p (eA b (kas_asc p f k))) (at' p (eA b (kas_asc p f k) - 1))=true)
 |0,k,h1,hn,h=>⟨Zv _,Zv _,h,λz=>agj z (aaq _)⟩
 |f+1,k,h1,hn,h=>by
  have e:eA b (kas_asc p (f+1) k)=eA b (if b (at' p k) (at' p (k - 1))=true then KasT.ret k else kas_asc p f (k+1)):=rfl;rw[e];by_cases hb:b (at' p k) (at' p (k - 1))=true
  ·rw[agd hb];exact⟨Zv _,by show k<=_;omega,h,λ_=>hb⟩
  ·rw[age hb];have hr:b (at' p (k - 1)) (at' p k)=true:=by
    rcases L.tot (at' p (k - 1)) (at' p k) (P.lt _ (by omega)) (P.lt _ (by omega)) (λz=>by have:=P.inj _ _ (by omega) (by omega) z;omega) with q | q
    ·exact q
    ·exact agj q hb
   obtain⟨a1,a2,a3,a4⟩:=vR P f (k+1) (by omega) (by omega) (Ri.more L h h1 hr);exact⟨by omega,by omega,a3,λz=>a4 (by omega)⟩
theorem yU(P:PN n p):∀(f k:Nat),1<=k->k+f<=n->Fa b p k->∃m,eA b (kas_desc f p k 0)=(p,m,0)/\k<=m/\m<=k+f/\Fa b p m
 |0,k,h1,hn,h=>⟨k,rfl,Zv _,Zv _,h⟩
 |f+1,k,h1,hn,h=>by
  have e:eA b (kas_desc (f+1) p k 0)=eA b (if b (at' p k) (at' p (k - 1))=true then(if 0>0 then kas_desc f (kas_rev p (k - (0+1)) k) (k+1) 0 else kas_desc f p (k+1) 0)
   else .ask (p.getD (k - 1) 0) (p.getD k 0) λd=>if d=true then .ret (p,k,0) else kas_desc f p (k+1) (0+1)):=rfl
  rw[e];by_cases hb:b (at' p k) (at' p (k - 1))=true
  ·rw[agd hb,age (by omega)];obtain⟨m,e1,e2,e3,e4⟩:=yU P f (k+1) (by omega) (by omega) (Fa.more L h h1 hb);exact⟨m,e1,by omega,by omega,e4⟩
  ·rw[age hb];have hr:b (at' p (k - 1)) (at' p k)=true:=by
    rcases L.tot (at' p (k - 1)) (at' p k) (P.lt _ (by omega)) (P.lt _ (by omega)) (λz=>by have:=P.inj _ _ (by omega) (by omega) z;omega) with q | q
    ·exact q
    ·exact agj q hb
   refine⟨k,?_,Zv _,by omega,h⟩;show eA b (if b (at' p (k - 1)) (at' p k)=true then KasT.ret (p,k,0) else kas_desc f p (k+1) (0+1))=_;rw[agd hr];rfl
end
theorem fC(p:Array Nat)(k:Nat):at' p k=(p[k]?).getD 0:=by
 unfold at';rw[ZN]
theorem IK(hm:m<=p.size)(k:Nat):at' (kas_rev p 0 m) k=if k<m then at' p (m - 1 - k) else at' p k:=by
 have e:=getElem?_mirror_all (i:=0) hm k;rw[fC];show (((mirror p 0 m ((m - 0) / 2))[k]?).getD 0)=_;rw[e];by_cases h:k<m
 ·rw[agd ⟨aae _,h⟩,agd h,fC,acd]
 ·rw[age (λz=>h z.2),age h,fC]
theorem F8(hk:k<p.size)(hl:l<=k)(j:Nat):at' (bubble p k (k - l)) j=if j=l then at' p k else if l<j/\j<=k then at' p (j - 1) else at' p j:=by
 have e:=getElem?_bubble hk (k - l) (by omega) j;have e2:k - (k - l)=l:=by omega
 rw[e2] at e;rw[fC (bubble p k (k - l)),e,fC p k,fC p (j - 1),fC p j];by_cases c1:j=l
 ·rw[agd c1,agd c1]
 ·rw[age c1,age c1];by_cases c2:l<j/\j<=k
  ·rw[agd c2,agd c2]
  ·rw[age c2,age c2]
section
variable{n:Nat}{b:Nat->Nat->Bool}
theorem PN.rev(P:PN n p)(hm:m<=n):PN n (kas_rev p 0 m):=by
 have ha:=IK (by rw[P.sz];exact hm);refine⟨(mirror_size ..).trans P.sz,λi hi=>?_,λi j hi hj e=>?_⟩
 ·rw[ha];split
  ·exact P.lt _ (by omega)
  ·exact P.lt _ hi
 ·rw[ha,ha] at e;split at e<;>split at e
  ·have:=P.inj _ _ (by omega) (by omega) e;omega
  ·have:=P.inj _ _ (by omega) hj e;omega
  ·have:=P.inj _ _ hi (by omega) e;omega
  ·exact P.inj _ _ hi hj e
theorem PN.bub(P:PN n p)(hk:k<n)(hl:l<=k):PN n (bubble p k (k - l)):=by
 have ha:=F8 (by rw[P.sz];exact hk) hl;refine⟨(bubble_size ..).trans P.sz,λi hi=>?_,λi j hi hj e=>?_⟩
 ·rw[ha];split
  ·exact P.lt _ hk
  ·split
   ·exact P.lt _ (by omega)
   ·exact P.lt _ hi
 ·rw[ha,ha] at e;split at e
  ·split at e
   ·omega
   ·split at e
    ·have:=P.inj _ _ hk (by omega) e;omega
    ·have:=P.inj _ _ hk hj e;omega
  ·split at e
   ·split at e
    ·have:=P.inj _ _ (by omega) hk e;omega
    ·split at e
     ·have:=P.inj _ _ (by omega) (by omega) e;omega
     ·have:=P.inj _ _ (by omega) hj e;omega
   ·split at e
    ·have:=P.inj _ _ hi hk e;omega
    ·split at e
     ·have:=P.inj _ _ hi (by omega) e;omega
     ·exact P.inj _ _ hi hj e
theorem Fa.rev(P:PN n p)(hm:m<=n)(h:Fa b p m):Ri b (kas_rev p 0 m) m:=λi j Bp hj=>by
 have ha:=IK (by rw[P.sz];exact hm);rw[ha,ha,agd (by omega),agd hj];exact h _ _ (by omega) (by omega)
variable(L:Lt n b)
include L
theorem Jk(P:PN n p)(h1:1<=m)(hm:m<=n)(h:Fa b p m):∃k q,eA b (kas_tail3 m n p)=(k,q)/\PN n q/\1<=k/\k<=n/\Ri b q k:=by
 unfold kas_tail3;rw[gr];obtain⟨a1,a2,a3,_⟩:=vR L (P.rev hm) (n - m) m h1 (by omega) (Fa.rev P hm h);exact⟨_,_,rfl,P.rev hm,by omega,by omega,a3⟩
theorem Er(P:PN n p)(h2:2<=n):∃k q,eA b (kas_count n p)=(k,q)/\PN n q/\1<=k/\k<=n/\Ri b q k:=by
 unfold kas_count;rw[gr];obtain⟨a1,a2,a3,a4⟩:=vR L P (n - 1) 1 (Zv _) (by omega) (λi j Bp hj=>by omega);generalize eA b (kas_asc p (n - 1) 1)=m at a1 a2 a3 a4;by_cases he:m=n
 ·subst he;rw[agd (by simp)];exact⟨m,p,rfl,P,by omega,Zv _,a3⟩
 ·rw[age (by simpa using he)];by_cases hg:m>1
  ·rw[agd hg];have hb:b (p.getD 0 0) (p.getD (m - 1) 0)=true:=a3 0 (m - 1) (by omega) (by omega);show∃k q,eA b (if b (p.getD 0 0) (p.getD (m - 1) 0)=true then KasT.ret (m,p) else kas_descPart m n (kas_rev p 0 m))=(k,q)/\_;rw[agd hb];exact⟨m,p,rfl,P,by omega,by omega,a3⟩
  ·rw[age hg];have hm:m=1:=by omega
   subst hm;have hb:=a4 (by omega);unfold kas_descPart;rw[gr];obtain⟨m,e1,e2,e3,e4⟩:=yU L P (n - (1+1)) (1+1) (by omega) (by omega) (λi j Bp hj=>by
    have hi:i=0:=by omega
    have hj:j=1:=by omega
    subst hi hj;exact hb)
   rw[e1]
   dsimp only
   rw[age (by omega)];exact Jk L P (by omega) (by omega) e4
theorem oR(P:PN n p)(hk:k<n)(h:Ri b p k):∀(f l r:Nat),l<=r->r<=k->r - l<=f->(∀i,i<l->b (at' p i) (at' p k)=true)->(∀i,r<=i->i<k->b (at' p k) (at' p i)=true)->
 eA b (kas_place p k f l r)<=k/\(∀i,i<eA b (kas_place p k f l r)->b (at' p i) (at' p k)=true)/\∀i,eA b (kas_place p k f l r)<=i->i<k->b (at' p k) (at' p i)=true
 |0,l,r,h1,h2,h3,h4,h5=>by
  have:r=l:=by omega
  subst this;exact⟨h2,h4,h5⟩
 |f+1,l,r,h1,h2,h3,h4,h5=>by
  unfold kas_place;by_cases VY:l>=r
  ·rw[agd VY];have:r=l:=by omega
   subst this;exact⟨h2,h4,h5⟩
  ·rw[age VY];have hm:(l+r) / 2<r:=by omega
   have Mn:l<=(l+r) / 2:=by omega
   show eA b (if b (at' p k) (at' p ((l+r) / 2))=true then kas_place p k f l ((l+r) / 2) else kas_place p k f ((l+r) / 2+1) r)<=k/\(∀i,i<eA b (if b (at' p k) (at' p ((l+r) / 2))=true then kas_place p k f l ((l+r) / 2) else kas_place p k f ((l+r) / 2+1) r)->_)/\∀i,eA b (if b (at' p k) (at' p ((l+r) / 2))=true then kas_place p k f l ((l+r) / 2) else kas_place p k f ((l+r) / 2+1) r)<=i->_;by_cases hb:b (at' p k) (at' p ((l+r) / 2))=true
   ·rw[agd hb];refine oR P hk h f l ((l+r) / 2) Mn (by omega) (by omega) h4 λi hi XI=>?_;by_cases e:i=(l+r) / 2
    ·rw[e];exact hb
    ·exact L.tr _ _ _ hb (h _ _ (by omega) XI)
   ·rw[age hb];have hr:b (at' p ((l+r) / 2)) (at' p k)=true:=by
     rcases L.tot (at' p ((l+r) / 2)) (at' p k) (P.lt _ (by omega)) (P.lt _ hk) (λz=>by have:=P.inj _ _ (by omega) hk z;omega) with q | q
     ·exact q
     ·exact agj q hb
    refine oR P hk h f ((l+r) / 2+1) r (by omega) h2 (by omega) (λi hi=>?_) h5;by_cases e:i=(l+r) / 2
    ·rw[e];exact hr
    ·exact L.tr _ _ _ (h i ((l+r) / 2) (by omega) (by omega)) hr
theorem CC:∀(f:Nat) {p:Array Nat}{k:Nat},PN n p->k+f<=n->Ri b p k->PN n (eA b (kas_bin f p k))/\Ri b (eA b (kas_bin f p k)) (k+f)
 |0,p,k,P,_,h=>⟨P,h⟩
 |f+1,p,k,P,hn,h=>by
  have hk:k<n:=by omega
  unfold kas_bin;rw[gr];obtain⟨a1,a2,a3⟩:=oR L P hk h k 0 k (aae _) (Zv _) (by omega) (λi hi=>by omega) (λi h1 h2=>by omega);generalize eA b (kas_place p k k 0 k)=l at a1 a2 a3;have ha:=F8 (by rw[P.sz];exact hk) a1;have hR:Ri b (bubble p k (k - l)) (k+1):=λi j Bp hj=>by
   rw[ha,ha];by_cases c1:i=l
   ·rw[agd c1,age (by omega),agd ⟨by omega,by omega⟩];exact a3 _ (by omega) (by omega)
   ·rw[age c1];by_cases c2:j=l
    ·rw[agd c2,age (by omega)];exact a2 _ (by omega)
    ·rw[age c2];by_cases c3:l<i/\i<=k
     ·rw[agd c3,agd ⟨by omega,by omega⟩];exact h _ _ (by omega) (by omega)
     ·rw[age c3];by_cases c4:l<j/\j<=k
      ·rw[agd c4];exact h _ _ (by omega) (by omega)
      ·rw[age c4];exact h _ _ Bp (by omega)
  have:=CC f (P.bub hk a1) (by omega) hR;rw[show k+(f+1)=k+1+f by omega];exact this
theorem I_(h2:2<=n):PN n (eA b (kas_sort n))/\Ri b (eA b (kas_sort n)) n:=by
 have P0:PN n (abd (ZX n)):=by
  have e:∀i,i<n->at' (abd (ZX n)) i=i:=λi hi=>by rw[fC];simp[hi]
  exact⟨by simp,λi hi=>by rw[e i hi];exact hi,λi j hi hj z=>by rw[e i hi,e j hj] at z;exact z⟩
 unfold kas_sort;rw[gr];obtain⟨k,q,e,P,k1,kn,hR⟩:=Er L P0 h2;rw[e]
 dsimp only
 by_cases dO:k<n
 ·rw[agd dO];have:=CC L (n - max k 1) (k:=max k 1) P (by omega) (by rw[show max k 1=k by omega];exact hR);rw[show max k 1+(n - max k 1)=n by omega] at this;exact this
 ·rw[age dO];have:k=n:=by omega
  subst this;exact⟨P,hR⟩
end
def Asks{α:Type}(n:Nat)(P:α->Prop):KasT α->Prop
 | .ret a=>P a
 | .ask i j k=>i<n/\j<n/\∀c,Asks n P (k c)
theorem Asks.bind{α β:Type}{n:Nat}{P:α->Prop}{Q:β->Prop}{f:α->KasT β}:∀{t:KasT α},Asks n P t->(∀a,P a->Asks n Q (f a))->Asks n Q (t.bind f)
 | .ret a,h,hf=>hf a h
 | .ask i j k,h,hf=>⟨h.1,h.2.1,λc=>Asks.bind (h.2.2 c) hf⟩
theorem wp_run{α:Type}{n:Nat}{P:α->Prop}{b:Nat->Nat->Bool}{cmp:Nat->Nat->(Bool->Zt->Prop)->Zt->Prop}{Q:α->Zt->Prop}{s:Zt}(hc:∀i j C,i<n->j<n->C (b i j) s->cmp i j C s):∀{t:KasT α},Asks n P t->Q (eA b t) s->t.kasWp cmp Q s
 | .ret a,_,h=>h
 | .ask i j k,ha,h=>hc i j _ ha.1 ha.2.1 (wp_run hc (ha.2.2 _) h)
def Below(n:Nat)(p:Array Nat):Prop:=∀x∈p,x<n
section
variable{n:Nat}(hn:0<n)
include hn
theorem Below.at{p:Array Nat}(h:Below n p)(i:Nat):at' p i<n:=by
 rw[fC];cases e:p[i]? with
 |none=>exact hn
 |some x=>exact h x (Array.mem_of_getElem? e)
theorem Below.rev{p:Array Nat}(h:Below n p)(i j:Nat):Below n (kas_rev p i j):=λx hx=>h x ((mirror_perm p i j ((j - i) / 2)).mem_iff.mp hx)
theorem Below.bub{p:Array Nat}(h:Below n p)(k d:Nat):Below n (bubble p k d):=λx hx=>h x ((bubble_perm p k d).mem_iff.mp hx)
theorem qL{p:Array Nat}(h:Below n p):∀f k,Asks n (λ_=>True) (kas_asc p f k)
 |0,k=>trivial
 |f+1,k=>⟨Below.at hn h _,Below.at hn h _,λc=>by
  show Asks n _ (if c=true then KasT.ret k else kas_asc p f (k+1));cases c
  ·exact qL h f (k+1)
  ·exact trivial⟩
theorem kO:∀f {p:Array Nat} k q,Below n p->Asks n (λr=>Below n r.1) (kas_desc f p k q)
 |0,p,k,q,h=>h
 |f+1,p,k,q,h=>⟨Below.at hn h _,Below.at hn h _,λc=>by
  cases c
  ·refine⟨Below.at hn h _,Below.at hn h _,λd=>?_⟩;cases d
   ·exact kO f _ _ h
   ·exact h
  ·show Asks n _ (if q>0 then kas_desc f (kas_rev p (k - (q+1)) k) (k+1) 0 else kas_desc f p (k+1) 0);split
   ·exact kO f _ _ (Below.rev hn h _ _)
   ·exact kO f _ _ h⟩
theorem uH{p:Array Nat}(h:Below n p)(m r:Nat):Asks n (λx=>Below n x.2) (kas_tail3 m r p):=Asks.bind (qL hn (Below.rev hn h 0 m) _ _) λ_ _=>Below.rev hn h 0 m
theorem qM{p:Array Nat}(h:Below n p)(m r:Nat):Asks n (λx=>Below n x.2) (kas_descPart m r p):=Asks.bind (kO hn _ _ _ h) λx hx=>by
 split
 ·exact uH hn (Below.rev hn hx _ _) _ _
 ·exact uH hn hx _ _
theorem AZ{p:Array Nat}(h:Below n p)(r:Nat):Asks n (λx=>Below n x.2) (kas_count r p):=Asks.bind (qL hn h _ _) λm _=>by
 split
 ·exact h
 ·split
  ·refine⟨Below.at hn h _,Below.at hn h _,λc=>?_⟩;cases c
   ·exact qM hn (Below.rev hn h _ _) _ _
   ·exact h
  ·exact qM hn h _ _
theorem lS{p:Array Nat}(h:Below n p)(k:Nat):∀f l r,Asks n (λ_=>True) (kas_place p k f l r)
 |0,l,r=>trivial
 |f+1,l,r=>by
  unfold kas_place;split
  ·exact trivial
  ·refine⟨Below.at hn h _,Below.at hn h _,λc=>?_⟩;cases c
   ·exact lS h k f _ _
   ·exact lS h k f _ _
theorem yD:∀f {p:Array Nat} k,Below n p->Asks n (λ_=>True) (kas_bin f p k)
 |0,p,k,h=>trivial
 |f+1,p,k,h=>Asks.bind (lS hn h k _ _ _) λl _=>yD f _ (Below.bub hn h _ _)
theorem D8:Asks n (λ_=>True) (kas_sort n):=by
 have h0:Below n (abd (ZX n)):=λx hx=>by simpa using hx
 refine Asks.bind (AZ hn h0 n) λx hx=>?_;split
 ·exact yD hn _ _ hx
 ·exact trivial
end
def eW:List Int->List Int->Bool
 |[],[]=>false
 |[],_::_=>true
 |_::_,[]=>false
 |x::xs,y::ys=>if x=y then eW xs ys else decide (x<y)
theorem wV:∀a b c:List Int,eW a b=true->eW b c=true->eW a c=true
 |[],[],_,h,_=>by cases h
 |[],_::_,[],_,h=>by cases h
 |[],_::_,_::_,_,_=>rfl
 |_::_,[],_,h,_=>by cases h
 |_::_,_::_,[],_,h=>by cases h
 |x::a,y::b,z::c,h1,h2=>by
  unfold eW at h1 h2⊢;by_cases e1:x=y
  ·subst e1;rw[agd rfl] at h1;by_cases e2:x=z
   ·subst e2;rw[agd rfl] at h2⊢;exact wV a b c h1 h2
   ·rw[age e2] at h2⊢;exact h2
  ·rw[age e1] at h1;have h1:=agi h1;by_cases e2:y=z
   ·subst e2;rw[age e1];exact agg h1
   ·rw[age e2] at h2;have h2:=agi h2;rw[age (by omega)];exact agg (by omega)
theorem mQ:∀a b:List Int,eW a b=true->eW b a=false
 |[],[],h=>by cases h
 |[],_::_,_=>rfl
 |_::_,[],h=>by cases h
 |x::a,y::b,h=>by
  unfold eW at h⊢;by_cases e:x=y
  ·subst e;rw[agd rfl] at h⊢;exact mQ a b h
  ·rw[age e] at h;have h:=agi h;rw[age (λz=>e z.symm)];exact agh (by omega)
theorem rP:∀a b:List Int,a≠b->eW a b=true\/eW b a=true
 |[],[],h=>agj rfl h
 |[],_::_,_=> .inl rfl
 |_::_,[],_=> .inr rfl
 |x::a,y::b,h=>by
  unfold eW;by_cases e:x=y
  ·subst e;rw[agd rfl,agd rfl];exact rP a b λz=>h (by rw[z])
  ·rw[age e,age (λz=>e z.symm)];by_cases q:x<y
   ·exact .inl (agg q)
   ·exact .inr (agg (by omega))
section
variable{prog:Z5}{w:World}{A:aao}{E:Value->Zt->Prop}{s:Zt}
theorem zD{Q:Bool->Zt->Prop}:∀{us vs:List Value}{xs ys:List Int}(i:Nat) {fin:Bool},abF us xs->abF vs ys->fin=decide (xs.length<ys.length)->Q (eW xs ys) s->KatLex prog w A true fin Q (us.zip vs) i s
 |_,_,_,_,i,_, .nil, .nil,e,h=>by subst e;exact kat_nil h
 |_,_,_,_,i,_, .nil, .cons y t r,e,h=>by subst e;exact kat_nil h
 |_,_,_,_,i,_, .cons x t r, .nil,e,h=>by subst e;exact kat_nil h
 |_,_,_,_,i,_, .cons (vs:=us) (ns:=xs) x t r, .cons (vs:=vs) (ns:=ys) y u r',e,h=>by
  refine kat_cons (wpAny_eqBool_int ?_);by_cases q:x=y
  ·subst q;rw[show (x==x)=true by simp];refine kat_yes (zD (i+1) r r' (by rw[e];simp) ?_);unfold eW at h;rw[agd rfl] at h;exact h
  ·rw[show (x==y)=false by simpa using q];unfold eW at h;rw[age q] at h;refine kat_no ?_;by_cases hi:(i==0)=true
   ·rw[hi];exact oneLt_int h
   ·rw[show (i==0)=false by simpa using hi];exact kat_one _ _ (aep h)
def TupsAt(h:Heap):List Value->List (List Int)->Prop
 |[],[]=>True
 |v::vs,k::ks=>(∃a o us m,v= .ref a/\h.get? a=some o/\o.cls= .type "tuple"/\o.data= .seq (abd us) m/\abF us k/\k≠[])/\TupsAt h vs ks
 |_,_=>False
theorem TupsAt.len{h:Heap}:∀{vs:List Value}{ks:List (List Int)},TupsAt h vs ks->vs.length=ks.length
 |[],[],_=>rfl
 |v::vs,k::ks,t=>by rw[Zz,Zz,TupsAt.len t.2]
 |[],_::_,t=>t.elim
 |_::_,[],t=>t.elim
theorem TupsAt.get{h:Heap}:∀{vs:List Value}{ks:List (List Int)}{i:Nat},TupsAt h vs ks->i<vs.length->∃a o us m,vs.getD i aaN= .ref a/\h.get? a=some o/\o.cls= .type "tuple"/\o.data= .seq (abd us) m/\abF us (ks.getD i [])/\ks.getD i []≠[]
 |v::vs,k::ks,0,t,_=>t.1
 |v::vs,k::ks,i+1,t,hi=>TupsAt.get (i:=i) t.2 (by simpa using hi)
 |[],_,_,_,hi=>by simp at hi
 |_::_,[],_,t,_=>t.elim
theorem TupsAt.keep{h h':Heap}{a:Addr}(k:∀b o,b≠a->h.get? b=some o->h'.get? b=some o)(ha:∀o,h.get? a=some o->o.cls≠ .type "tuple"):∀{vs:List Value}{ks:List (List Int)},TupsAt h vs ks->TupsAt h' vs ks
 |[],[],_=>trivial
 |v::vs,x::ks,⟨⟨b,o,us,m,e1,e2,e3,e4⟩,t⟩=>⟨⟨b,o,us,m,e1,k b o (λz=>ha o (by rw[<-z];exact e2) e3) e2,e3,e4⟩,TupsAt.keep k ha t⟩
 |[],_::_,t=>t.elim
 |_::_,[],t=>t.elim
theorem rD:∀{us:List Value}{xs:List Int},abF us xs->us.length=xs.length
 |_,_, .nil=>rfl
 |_,_, .cons x t r=>by rw[Zz,Zz,rD r]
theorem TupsAt.firsts{M:Model}{h:Heap}:∀{vs:List Value}{ks:List (List Int)},TupsAt h vs ks->∃fs,KatTups h vs fs/\fs.length=vs.length/\∀v∈fs,Looks M h (typeOf v) (.type "int")
 |[],[],_=>⟨[],KatTups.nil,rfl,λ_ z=>by cases z⟩
 |v::vs,k::ks,⟨⟨a,o,us,m,e1,e2,e3,e4,e5,e6⟩,t⟩=>by
  obtain⟨fs,q1,q2,q3⟩:=TupsAt.firsts (M:=M) t;subst e1;cases e5 with
  |nil=>exact agj rfl e6
  |cons x t r=>
   refine⟨.int x t::fs,KatTups.cons e2 e3 e4 (by simp) q1,by simp[q2],λv hv=>?_⟩;rcases Zw.mp hv with rfl | hv
   ·exact show Looks M h (pure (ac0 "int")) (ac0 "int") from .now
   ·exact q3 v hv
 |[],_::_,t=>t.elim
 |_::_,[],t=>t.elim
theorem asked{vs:List Value}{ks:List (List Int)}(t:TupsAt s.heap vs ks)(i j:Nat)(C:Bool->Zt->Prop)(hi:i<vs.length)(hj:j<vs.length)(h:C (eW (ks.getD i []) (ks.getD j [])) s):kas_ask prog w A (tuples' true) vs i j C s:=by
 obtain⟨a,o,us,m,e1,e2,_,e4,e5,_⟩:=t.get hi;obtain⟨a',o',Zm,m',FN,Pn,_,WM,Vu,_⟩:=t.get hj;unfold kas_ask;rw[e1,FN];refine kat_lt e2 e4 Pn WM (zD 0 e5 Vu ?_ h);rw[ZD,ZD,rD e5,rD Vu]
theorem HA{α:Type}{l:List α}(h:l.Nodup){i j:Nat}(hi:i<l.length)(hj:j<l.length)(e:l[i]=l[j]):i=j:=by
 rcases Nat.lt_trichotomy i j with q | q | q
 ·exact agj e (aax.mp h i j hi hj q)
 ·exact q
 ·exact agj e.symm (aax.mp h j i hj hi q)
theorem vG{a:Addr}{c:Nat}{vs:List Value}{ks:List (List Int)}{P:PySem.Fin->Zt->Prop}(ho:s.heap.get? a=some (abD "list" vs.toArray c))(ht:TupsAt s.heap vs ks)(hd:ks.Nodup)(zg:vs.length<64)
 (h:∀(p:Array Nat) (h':Heap) (c':Nat),PN vs.length p->Ri (λi j=>eW (ks.getD i []) (ks.getD j [])) p vs.length->h'.get? a=some (abD "list" (abd (p.toList.map λi=>vs.getD i aaN)) c')->
  (∀b o,b≠a->s.heap.get? b=some o->h'.get? b=some o)->P (.done (.ret .none)) {s with heap:=h'}):wpAny (model prog w) A (ac5.«list.sort» ⟨[.ref a],[]⟩) P E s:=by
 have C8:ZQ=16777216:=aa4;have s1:=aah s.heap a (aa9 λ_=>(#[]:Array Value));obtain⟨e1,V2⟩:∃e1,(s.heap.update a (aa9 λ_=>(#[]:Array Value))).get? a=some (abD "list" #[] e1):=⟨_,get?_update_seq ho λ_=> #[]⟩
 have k1:∀b o,b≠a->s.heap.get? b=some o->(((s.heap.update a (aa9 λ_=>(#[]:Array Value))).push (abD "tuple" vs.toArray 0)).push (abD "list" #[] 0)).get? b=some o:=λb o hb e=>
  Zr _ (Zr _ ((s1.2 b hb).trans e))
 have T1:=Zr (abD "list" #[] 0) (Zr (abD "tuple" vs.toArray 0) V2);have t3:=ht.keep k1 (λo e z=>by rw[ho] at e;cases e;exact agj (Value.type.inj z) (by decide));have fin:∀(st:SortSt) (p:Array Nat),PN vs.length p->Ri (λi j=>eW (ks.getD i []) (ks.getD j [])) p vs.length->(arrOf st).map (·.2)=abd (p.toList.map λi=>vs.getD i aaN)->failedOf st=none->
  wpAny (model prog w) A (do
   let touched:=(<-seqEpoch a) !=e1
   Builtin.List.listUpdate (.ref a) λ_=>(arrOf st).map (·.2)
   if let some e:=failedOf st then rule "list.sort.comparison-raised";throw e
   if touched then rule "list.sort.modified";raiseError "ValueError" "list modified during sort"
   ret .none) P E {s with heap:=((s.heap.update a (aa9 λ_=>(#[]:Array Value))).push (abD "tuple" vs.toArray 0)).push (abD "list" #[] 0)}:=λst p hp hr he hf=>by
  have hz:(abd (p.toList.map λi=>vs.getD i aaN)).size=vs.length:=by rw[ZD,Zo,ZC,hp.sz]
  rw[he,hf];refine Zn (seqEpoch_at T1 rfl (Zn (listUpdate_at T1 rfl ?_ (aae _) (by rw[hz,C8];omega))));simp only[bne_self_eq_false,ZU,if_false];have s2:=aah (((s.heap.update a (aa9 λ_=>(#[]:Array Value))).push (abD "tuple" vs.toArray 0)).push (abD "list" #[] 0)) a (aa9 λ_=>abd (p.toList.map λi=>vs.getD i aaN));exact Zs (h p _ _ hp hr (get?_update_seq T1 λ_=>abd (p.toList.map λi=>vs.getD i aaN)) λb o hb e=>(s2.2 b hb).trans (k1 b o hb e))
 rw[list_sort_plain];refine Zn (listItems_at ho rfl (Zn (listUpdate_at ho rfl (Zn (seqEpoch_at V2 rfl ?_)) (by rw[ZD,C8];omega) (aae _))));refine Zn (wpAny_newTuple (Zn (afI (aaA ?_) (aae _))) (by show vs.length<=_;rw[C8];omega));show wpAny (model prog w) A _ P E {s with heap:=((s.heap.update a (aa9 λ_=>(#[]:Array Value))).push (abD "tuple" vs.toArray 0)).push (abD "list" #[] 0)}
 dsimp only
 by_cases hs:vs.toArray.size<2
 ·rw[agd hs,agd hs];have FR:vs.length<2:=by simpa using hs
  refine Zn (Zs (Zn (Zs ?_)));refine fin (SortSt.mk' general' (vs.toArray.zip vs.toArray) #[] 7 none) (abd (ZX vs.length)) ⟨by simp,λi hi=>?_,λi j hi hj _=>by omega⟩ (λi j Bp hj=>by omega) ?_ rfl
  ·rw[fC];simp[hi]
  ·show (vs.toArray.zip vs.toArray).map (·.2)=_;apply Array.toList_inj.mp;refine List.ext_getElem (by simp) λi a1 a2=>?_;simp at a1;simp[a1]
 ·rw[age hs,age hs];have FR:2<=vs.length:=by
   have:¬vs.length<2:=by simpa using hs
   omega
  obtain⟨fs,q1,q2,q3⟩:=t3.firsts (M:=model prog w);refine Zn (kat_kind q1 (by omega) q3 rfl ?_);have hb:Lt vs.length (λi j=>eW (ks.getD i []) (ks.getD j [])):=⟨λi j k=>wV _ _ _,λi j=>mQ _ _,λi j hi hj Bp=>rP _ _ λz=>Bp (by
   rw[ht.len] at hi hj;rw[Z3,Z3,Zy hi,Zy hj] at z;exact HA hd hi hj (by simpa using z))⟩
  obtain⟨r1,r2⟩:=I_ hb FR;have run:=kat_run (prog:=prog) (w:=w) (A:=A) (E:=E) (ks:=vs) (vs:=vs) (κ:=tuples' true) (Q:=λst s'=>s'={s with heap:=((s.heap.update a (aa9 λ_=>(#[]:Array Value))).push (abD "tuple" vs.toArray 0)).push (abD "list" #[] 0)}/\∃p,PN vs.length p/\Ri (λi j=>eW (ks.getD i []) (ks.getD j [])) p vs.length/\(arrOf st).map (·.2)=abd (p.toList.map λi=>vs.getD i aaN)/\failedOf st=none)
   (G:=λp s'=>s'={s with heap:=((s.heap.update a (aa9 λ_=>(#[]:Array Value))).push (abD "tuple" vs.toArray 0)).push (abD "list" #[] 0)}/\PN vs.length p/\Ri (λi j=>eW (ks.getD i []) (ks.getD j [])) p vs.length) rfl FR zg
   (λp th s' a1 a2 a3 a4=>⟨a4.1,p,a4.2.1,a4.2.2,kat_snds rfl a2,a3⟩)
   (wp_run (s:={s with heap:=((s.heap.update a (aa9 λ_=>(#[]:Array Value))).push (abD "tuple" vs.toArray 0)).push (abD "list" #[] 0)}) (λi j C hi hj hC=>asked t3 i j C hi hj hC) (D8 (by omega)) ⟨rfl,r1,r2⟩)
  refine Zn (aaF run ?_ λ_ _ e=>e);rintro⟨⟨⟩,th⟩ s' ⟨rfl,p,a1,a2,a3,a4⟩;exact fin th p a1 a2 a3 a4
end
section
variable{prog:Z5}{w:World}{A:aao}{E:Value->Zt->Prop}{s:Zt}
theorem vf(lo:(d==aa3)=false)(ho:s.heap.get? d=some od)(hx:od.ExactDict)(hd:od.data= .dict es ep)
 (hQ:Q (.ref s.heap.objs.size) {s with heap:=s.heap.push {cls:= .type "dict_keyiterator",data:= .fields #[.ref d, .int 0 0, .int es.size 0, .int ep 0]} }):wpAny (model prog w) A (pyIter (.ref d)) Q E s:=by
 have hT:s.TypeIs (.ref d) "dict":=⟨od,ho,hx.1⟩
 refine wpAny_pyIter_slot hT F.slot_dict_iter (acg F.slot_dict_iter hT F.entry_dict_iter ?_ (F.args_dict_iter_1 _));unfold ac5.«dict.__iter__» Builtin.Dict.dictSlotNone;refine Zn (Zn (adR hT ?_));show wpAny _ _ (pure (Z6 d)) _ _ s;refine Zs ?_;show wpAny _ _ (acV d>>=_) _ _ s;unfold acV;rw[age (by rw[lo];exact Z1)];refine Zn (Zs (Zn (abm ho hd (Zn (acY ho hd ?_)))));refine Zn (ab4 (Zs ⟨_,rfl,"dict_keyiterator",_,⟨_,ZL _ rfl,rfl⟩,F.slot_dict_keyiterator_next.lookup,?_⟩));simpa[aei] using hQ
theorem zM(hit:s.heap.IsKeyIter it d i es.size ep)(EH:s.heap.get? d=some od)(qg:od.data= .dict es ep)(hx:es[i]? =some e)
 (hQ:∀h',h'.IsKeyIter it d (i+1) es.size ep->abe it s.heap h'->Q (some e.key) {s with heap:=h'}):wpAny (model prog w) A (ads (.ref it)) Q E s:=by
 obtain⟨o,ho,hc,hd⟩:=id hit;have dO:i<es.size:=(aau.mp hx).1;have NL:adm "dict_keyiterator"=false:=by decide
 unfold ads;refine Zn (wpAny_attempt (afJ hit.typeIs abP
  (acg abP hit.typeIs aeC ?_ (aer _))))
 refine Zn (Zs (Zn (Zn ?_)))
 first | refine Zn (abN hit.typeIs (Zs ?_)) | refine Zn (acq hit.typeIs (Zs ?_))
 refine Zn (wpAny_fieldsOf ho hd ?_);simp only[NL,ZU,if_false];show wpAny _ _ (if (Z6 d==aaN)=true then _ else _) _ _ s;rw[age (show¬((Z6 d==aaN)=true) from Z1)];refine Zn (Zs (Zn (abm EH qg ?_)));rw[age (by simp)];refine Zn (Zs (Zn (acY EH qg ?_)));rw[age (by simp)];refine Zs ?_;simp only[show¬((i:Int)<0) from by omega,if_false,Int.toNat_natCast,hx];refine Zn ?_
 first | refine Zn (abN hit.typeIs (Zs ?_)) | refine Zn (acq hit.typeIs (Zs ?_))
 refine Zn (wpAny_isOneOf_keyiter hit.typeIs ?_);show wpAny _ _ (setField (.ref it) 1 (aei ((i:Int)+1))>>=_) _ _ s;refine Zn (wpAny_setField ho hd (by simp) ?_);have Kg:(s.heap.update it (Obj.mapFields (·.setIfInBounds 1 (aei ((i:Int)+1))))).IsKeyIter it d (i+1) es.size ep:=
  ⟨_,aaE _ ho (Obj.isFreed_of_fields (af7 hd _)),(Obj.cls_mapFields ..).trans hc,by rw[af7 hd];simp[aei]⟩
 refine Zn (aaA (Zn (wpAny_isOneOf_keyiter Kg.typeIs ?_)));show wpAny _ _ (pure e.key) _ _ _;exact Zs (Zs ⟨_,rfl,Zs (hQ _ Kg (aah ..))⟩)
theorem uU(hh:A.handled=none)(hit:s.heap.IsKeyIter it d i es.size ep)(hi:es.size<=i)(EH:s.heap.get? d=some od)(qg:od.data= .dict es ep)
 (hQ:∀h',Heap.ExtBut it s.heap h'->Q none {s with heap:=h'}):wpAny (model prog w) A (ads (.ref it)) Q E s:=by
 obtain⟨o,ho,hc,hd⟩:=id hit;have NL:adm "dict_keyiterator"=false:=by decide
 unfold ads;refine Zn (wpAny_attempt (afJ hit.typeIs abP
  (acg abP hit.typeIs aeC ?_ (aer _))))
 refine Zn (Zs (Zn (Zn ?_)))
 first | refine Zn (abN hit.typeIs (Zs ?_)) | refine Zn (acq hit.typeIs (Zs ?_))
 refine Zn (wpAny_fieldsOf ho hd ?_);simp only[NL,ZU,if_false];show wpAny _ _ (if (Z6 d==aaN)=true then _ else _) _ _ s;rw[age (show¬((Z6 d==aaN)=true) from Z1)];refine Zn (Zs (Zn (abm EH qg ?_)));rw[age (by simp)];refine Zn (Zs (Zn (acY EH qg ?_)));rw[age (by simp)];refine Zs ?_;simp only[show¬((i:Int)<0) from by omega,if_false,Int.toNat_natCast,aeW hi];refine Zn ?_
 first | refine Zn (abN hit.typeIs (Zs ?_)) | refine Zn (acq hit.typeIs (Zs ?_))
 show wpAny _ _ (setField (.ref it) 0 .none>>=_) _ _ s;refine Zn (wpAny_setField ho hd (by simp) ?_);show wpAny _ _ (newExc (.type "StopIteration") []>>=_) _ _ _;refine Zn ?_;simp only[newExc,newTuple];refine Zn (ab4 ?_ (by size_fits));refine Zn (aeY (by first | rfl | (simp only[firstArgMember];rfl)) ?_);refine ab4 ?_ (by size_fits);simp only[raiseNew];refine Zn (wpAny_handled ?_);rw[show A.in1.handled=none from hh];refine Zn (Zs (wpAny_throw ?_));refine Zn (wpAny_isInstance ⟨_,ZL _ rfl,rfl⟩ isSubtype_stop ?_);exact Zs (hQ _ (((aah ..).extBut.push _).push _))
theorem Gy(hh:A.handled=none)(hit:s.heap.IsKeyIter it d es.size es.size ep)(EH:s.heap.get? d=some od)(qg:od.data= .dict es ep)
 (hQ:∀h',Heap.ExtBut it s.heap h'->Q none {s with heap:=h'}):wpAny (model prog w) A (ads (.ref it)) Q E s:=uU hh hit (Zv _) EH qg hQ
def LW(es:Array adx):Nat->Value->Prop:=λi v=>∃e,es[i]? =some e/\v=e.key
theorem Ck(hh:A.handled=none)(I d:Addr)(iV:d≠I)(qg:od.data= .dict es ep):
 Walks prog w A I [I,d] [I] es.size (LW es) (λi h=>h.IsKeyIter I d i es.size ep/\h.get? d=some od) where
 sub:=λb hb=>by simp at hb;simp[hb]
 frame:=λ_ _ _ st hk=>⟨st.1.at λo e=>hk I (by simp) o e,hk d (by simp) _ st.2⟩
 item:=λi s Q E hi st hQ=>by
  have hx:es[i]? =some es[i]:=ZS hi;exact zM st.1 st.2 qg hx λh' Kg C7=>hQ _ h' s.toks ⟨_,hx,rfl⟩ ⟨Kg,(C7.2 d iV).trans st.2⟩ λb o hb e=>C7.extBut b o (λh=>hb (by simp[h])) e
 done:=λs Q E st hQ=>Gy hh st.1 st.2 qg λh' Xp=>hQ h' s.toks λb o hb e=>Xp b o (λh=>hb (by simp[h])) e
 self:=λ_ _ _ _ st hQ=>wpAny_pyIter_keyiter st.1 hQ
theorem Ar(lo:(d==aa3)=false)(hx:od.ExactDict)(qg:od.data= .dict es ep):KdlSrc prog w "dict" d d es.size (LW es) (λh=>h.get? d=some od) where
 type:=λ_ hm=>⟨od,hm,hx.1⟩
 there:=λ_ hm=>⟨ZG hm,ZG hm⟩
 keep:=λ_ _ hm hk=>hk d (.inl rfl) od hm
 notList:=by decide
 notTuple:=by decide
 hint:=λ_ _ s _ hm hq=>kdl_hint_dict ⟨od,hm,hx.1⟩ hq
 iter:=λ_ _ hh hm=>⟨_,_,(λ_ _ hq=>vf lo hm hx qg hq),Ck hh _ d (ZW (ZG hm)) qg,⟨⟨_,ZL _ rfl,rfl,rfl⟩,Zr _ hm⟩⟩
end
end L3
namespace L3
open PySem
def insI(k:List Int):List (List Int)->List (List Int)
 |[]=>[k]
 |x::r=>if eW k x then k::x::r else x::insI k r
def sortI:List (List Int)->List (List Int)
 |[]=>[]
 |k::r=>insI k (sortI r)
def vO(l:List (List Int)):Prop:=l.Pairwise λa b=>eW a b=true
theorem rC:∀{l:List (List Int)},x∈insI k l↔x=k\/x∈l
 |[]=>by simp[insI]
 |y::r=>by
  unfold insI;split
  ·simp
  ·rw[Zw,rC,Zw];constructor
   ·rintro(h | h | h)<;>simp[h]
   ·rintro(h | h | h)<;>simp[h]
theorem u9:∀{l:List (List Int)},vO l->k∉l->vO (insI k l)
 |[],_,_=>List.pairwise_singleton _ _
 |x::r,h,hk=>by
  have h:=aaI.mp h;unfold insI;split
  ·rename_i q;refine aaI.mpr ⟨λy hy=>?_,aaI.mpr h⟩;rcases Zw.mp hy with rfl | hy
   ·exact q
   ·exact wV _ _ _ q (h.1 y hy)
  ·rename_i q;have hx:eW x k=true:=by
    rcases rP k x (λz=>hk (by rw[z];exact Zq ..)) with z | z
    ·exact agj z q
    ·exact z
   refine aaI.mpr ⟨λy hy=>?_,u9 h.2 λz=>hk (Zp _ z)⟩;rcases rC.mp hy with rfl | hy
   ·exact hx
   ·exact h.1 y hy
theorem fG:∀{l:List (List Int)},x∈sortI l↔x∈l
 |[]=>Iff.rfl
 |k::r=>by unfold sortI;rw[rC,fG,Zw]
theorem jS:∀{l:List (List Int)},l.Nodup->vO (sortI l)
 |[],_=>adw
 |k::r,h=>by
  have h:=aaK.mp h;exact u9 (jS h.2) λz=>h.1 (fG.mp z)
theorem kx:∀{a b:List (List Int)},vO a->vO b->(∀x,x∈a↔x∈b)->a=b
 |[],[],_,_,_=>rfl
 |[],y::b,_,_,h=>by have:=(h y).mpr (Zq ..);cases this
 |x::a,[],_,_,h=>by have:=(h x).mp (Zq ..);cases this
 |x::a,y::b,ha,hb,h=>by
  have ha:=aaI.mp ha;have hb:=aaI.mp hb;have e:x=y:=by
   rcases Zw.mp ((h x).mp (Zq ..)) with q | q
   ·exact q
   ·rcases Zw.mp ((h y).mpr (Zq ..)) with p | p
    ·exact p.symm
    ·have z1:=hb.1 x q;have z2:=ha.1 y p;rw[mQ _ _ z1] at z2;cases z2
  subst e;have Wg:∀k,eW k k≠true:=λk z=>by have:=mQ _ _ z;rw[z] at this;cases this
  rw[kx ha.2 hb.2 λz=>?_];constructor
  ·intro hz;rcases Zw.mp ((h z).mp (Zp _ hz)) with q | q
   ·subst q;exact agj (ha.1 z hz) (Wg z)
   ·exact q
  ·intro hz;rcases Zw.mp ((h z).mpr (Zp _ hz)) with q | q
   ·subst q;exact agj (hb.1 z hz) (Wg z)
   ·exact q
theorem B0:∀(n:Nat) (l:List Nat),l.Nodup->(∀x∈l,x<n)->l.length=n->∀k,k<n->k∈l
 |0,_,_,_,_,k,hk=>by omega
 |n+1,l,hd,hl,hn,k,hk=>by
  by_cases h:n∈l
  ·by_cases e:k=n
   ·subst e;exact h
   ·refine List.mem_of_mem_erase (B0 n (l.erase n) (hd.erase n) (λx hx=>?_) (by rw[ac6 h,hn];rfl) k (by omega));have hx:=hd.mem_erase_iff.mp hx;have:=hl x hx.2;have:=hx.1;omega
  ·cases l with
   |nil=>simp at hn
   |cons x r=>
    have hd:=aaK.mp hd;have lt:∀y∈x::r,y<n:=λy hy=>by
     have:=hl y hy;have:y≠n:=λz=>h (by rw[<-z];exact hy);omega
    exact agj (B0 n r hd.2 (λy hy=>lt y (Zp _ hy)) (by simpa using hn) x (lt x (Zq ..))) hd.1
theorem vH(hd:ks.Nodup)(P:PN ks.length p)(R:Ri (λi j=>eW (ks.getD i []) (ks.getD j [])) p ks.length):(p.toList.map λi=>ks.getD i [])=sortI ks:=by
 have hsz:p.toList.length=ks.length:=by rw[ZC];exact P.sz
 have Ju:∀i (h:i<p.toList.length),p.toList[i]=at' p i:=λi h=>by
  have h':i<p.size:=by rw[ZC] at h;exact h
  rw[fC,ZS h'];simp
 refine kx ?_ (jS hd) λx=>?_
 ·refine aax.mpr λi j hi hj Bp=>?_;rw[Zo] at hi hj;rw[acB,acB,Ju i hi,Ju j hj];exact R i j Bp (by omega)
 ·rw[fG];constructor
  ·intro hx;obtain⟨i,hi,rfl⟩:=Zx.mp hx;obtain⟨j,hj,rfl⟩:=aal.mp hi;have:=P.lt j (by omega);rw[Ju j hj,Z3,Zy this];exact aaM this
  ·intro hx;obtain⟨k,hk,rfl⟩:=aal.mp hx;have CZ:k∈p.toList:=by
    have hn:p.toList.Nodup:=aax.mpr λi j hi hj Bp z=>by
     rw[Ju i hi,Ju j hj] at z;have:=P.inj i j (by omega) (by omega) z;omega
    exact B0 ks.length p.toList hn (λx hx=>by
     obtain⟨j,hj,rfl⟩:=aal.mp hx;rw[Ju j hj];exact P.lt j (by omega)) hsz k hk
   refine Zx.mpr ⟨k,CZ,?_⟩;rw[Z3,Zy hk];rfl
end L3
namespace L3
open PySem PySem.Spec L2 SeqAt HT
open PyProof.Rows hiding St
def tupI(k:List Int):D:= .tup (k.map D.int)
def G9:D->Option (List Int)
 | .tup ds=>nums ds
 |_=>none
def eJ:List D->Option (List (List Int))
 |[]=>some []
 |d::ds=>match G9 d,eJ ds with
  |some k,some ks=>some (k::ks)
  |_,_=>none
def ei(ks:List (List Int)):Bool:=decide ks.Nodup&&decide (ks.length<64)&&ks.all λk=>!k.isEmpty
def Au:List D->M D
 |[.lst ds]=>match eJ ds with
  |some ks=>if ei ks then ae (.lst ((sortI ks).map tupI)) else ag
  |none=>ag
 |_=>ag
def dh(H:Hp):List V->List (List Int)->Prop:=aea λv k=>∃a,v= .ref a/\H a=some (.tup (k.map V.int))
theorem oA{K:ZE}(hs:Same F H):∀{ds:List D}{vs:List V}{ks:List (List Int)},eJ ds=some ks->DenL K F ds vs->dh H vs ks/\dh F vs ks
 |[],_,_,e,h=>by cases e;cases (show _=_ from h);exact⟨.nil, .nil⟩
 |d::ds,_,_,e,⟨v,r,h1,h2,h3⟩=>by
  subst h1;unfold eJ at e;split at e
  ·rename_i k ks e1 e2;cases e;obtain⟨Uu,Uv⟩:=oA hs e2 h3;cases d with
   |tup es=>
    obtain⟨a,ws,rfl,k2,k3,_⟩:=h2;have:=iX e1 k3;subst this;exact⟨.cons ⟨a,rfl,hs _ _ k2⟩ Uu, .cons ⟨a,rfl,k2⟩ Uv⟩
   |_=>cases e1
  ·cases e
theorem nL{K:ZE}:∀{ws:List V}{ks:List (List Int)},dh F ws ks->(∀k∈ks,k.length<=lim)->DenL K F (ks.map tupI) ws
 |_,_, .nil,_=>rfl
 |_,_, .cons (b:=k) h t,hl=>by
  obtain⟨a,rfl,h⟩:=h;exact .cons ⟨a,_,rfl,h,DenL.ints k,by rw[Zo];exact hl k (Zq ..)⟩ (nL t λk hk=>hl k (Zp _ hk))
theorem oT(I:Inv X f8 σ H s):∀{vs:List V}{aL:List Value}{ks:List (List Int)},dh H vs ks->Vals vs aL->(∀k∈ks,k≠[])->TupsAt s.heap aL ks
 |_,_,_, .nil,r,_=>by cases r;exact trivial
 |_,_,_, .cons (b:=k) h t,r,hn=>by
  obtain⟨a,rfl,h⟩:=h;cases r with
  |cons r1 r2=>
   cases (show _=_ from r1);obtain⟨us,ru,pt,_⟩:=I.tuple (SqT.of h);obtain⟨o,q1,q2,m,q3⟩:=pt;exact⟨⟨a,o,us,m,rfl,q1,q2,q3,intsAre_of ru,hn k (Zq ..)⟩,oT I t r2 λk hk=>hn k (Zp _ hk)⟩
theorem sT:∀{vs:List V}{ks:List (List Int)}{i:Nat},dh H vs ks->i<vs.length->∃a,vs.getD i .non= .ref a/\H a=some (.tup ((ks.getD i []).map V.int))
 |_,_,i, .nil,hi=>by simp at hi
 |_,_,0, .cons h t,_=>h
 |_,_,i+1, .cons h t,hi=>sT (i:=i) t (by simpa using hi)
theorem ji:∀{vs:List V}{ks:List (List Int)},dh H vs ks->vs.length=ks.length
 |_,_, .nil=>rfl
 |_,_, .cons h t=>by rw[Zz,Zz,ji t]
theorem k_(h:dh H vs ks):∀{is:List Nat},(∀i∈is,i<vs.length)->dh H (is.map λi=>vs.getD i .non) (is.map λi=>ks.getD i [])
 |[],_=> .nil
 |i::is,hi=> .cons (sT h (hi i (Zq ..))) (k_ h λj hj=>hi j (Zp _ hj))
theorem o7:∀{vs:List V}{us:List Value}(i:Nat),Vals vs us->i<vs.length->RelV (vs.getD i .non) (us.getD i aaN)
 |_,_,i, .nil,hi=>by simp at hi
 |_,_,0, .cons h t,_=>h
 |_,_,i+1, .cons h t,hi=>o7 i t (by simpa using hi)
theorem o8(h:Vals vs us):∀{is:List Nat},(∀i∈is,i<vs.length)->Vals (is.map λi=>vs.getD i .non) (is.map λi=>us.getD i aaN)
 |[],_=> .nil
 |i::is,hi=> .cons (o7 i h (hi i (Zq ..))) (o8 h λj hj=>hi j (Zp _ hj))
def UZ(K:ZE):List V->Hp->VK->Prop:=λxs H Q=>∃p vs ks,xs=[.ref p]/\SqL K H p vs/\dh H vs ks/\ei ks=true/\∀(q:Addr) (is:List Nat),H q=none->(∀i∈is,i<vs.length)->is.length=vs.length->(is.map λi=>ks.getD i [])=sortI ks->Q (.ref q) (upd H q (.lst (is.map λi=>vs.getD i .non)))
section
variable{X:Cx}{Xw:Nat->Hp->Prop}{e:Expr}{δs:DA}{pos p:Pos}
theorem Gg:CallR X (.builtin "sorted") (UZ X.K):=by
 intro f8 s σ H xs us Q I r h;obtain⟨a,vs,ks,rfl,hq,hr,hk,q⟩:=h;obtain⟨u,rfl,r1⟩:=r.one;cases (show u=_ from r1);obtain⟨aL,rv,pl,hz⟩:=I.list hq;unfold ei at hk;rw[ZM,ZM] at hk;have hd:ks.Nodup:=agi hk.1.1;have zg:ks.length<64:=agi hk.1.2;have iV:∀k∈ks,k≠[]:=λk wB z=>by have:=aan.mp hk.2 k wB;rw[z] at this;cases this
 have tZ:=ji hr;have FR:=rv.length;have C8:ZQ=16777216:=aa4;have ht:=oT I hr rv iV;refine aeD kind_sorted plain_sorted entry_sorted (args_sorted1 _) ?_;unfold ac5.«sorted»;refine Zn (Zs (Zn (collect_list pl.isList (Zn (afI ?_ (by rw[C8];omega))) (by rw[C8];omega))));have hsz:((s.heap.push (abD "list" #[] 0)).update s.heap.objs.size (aa9 (· ++aL.toArray))).objs.size=s.heap.objs.size+1:=by rw[Heap.size_update,size_push']
 have keep:∀b o,s.heap.get? b=some o->(((s.heap.push (abD "list" #[] 0)).update s.heap.objs.size (aa9 (· ++aL.toArray))).push (abD "list" aL.toArray 0)).get? b=some o:=λb o e=>by
  have dO:=ZG e;exact Zr _ ((Heap.get?_update_ne _ _ _ _ (ZW dO)).trans (Zr _ e))
 have NI:(((s.heap.push (abD "list" #[] 0)).update s.heap.objs.size (aa9 (· ++aL.toArray))).push (abD "list" aL.toArray 0)).get? (s.heap.objs.size+1)=some (abD "list" aL.toArray 0):=by
  rw[<-hsz];exact ZL _ rfl
 show wpAny _ _ _ _ _ {s with heap:=((s.heap.push (abD "list" #[] 0)).update s.heap.objs.size (aa9 (· ++aL.toArray))).push (abD "list" aL.toArray 0)};rw[hsz];refine Zn (aaA (acg slot_list_sort ⟨_,NI,rfl⟩ entry_list_sort (vG NI
  (ht.keep (λb o _ e=>keep b o e) (λo e=>agj (ZG e) (aaq _))) hd (by omega) λP h' c' hP hR zk GY=>?_) (args_list_sort _)))
 have Kd:∀i∈P.toList,i<vs.length:=λi hi=>by
  obtain⟨j,hj,rfl⟩:=aal.mp hi;have h':j<P.size:=by rw[ZC] at hj;exact hj
  have:=hP.lt j (by rw[hP.sz] at h';exact h');rw[fC,ZS h'] at this;have e:P.toList[j]=P[j]:=by simp
  rw[e];have:P[j]<aL.length:=this;omega
 have Tn:PN ks.length P:=by rw[<-tZ,FR];exact hP
 have To:Ri (λi j=>eW (ks.getD i []) (ks.getD j [])) P ks.length:=by rw[<-tZ,FR];exact hR
 have Pu:=vH hd Tn To;have NB:H (s.heap.objs.size+1)=none:=I.hok.fresh (afU _);refine⟨_,rfl,Zs ⟨_,rfl,⟨.ref (s.heap.objs.size+1),_,I.laid (λb ob e=>GY b ob (ZW (abh (ZG e))) (keep b ob e)) (afU _) ?_,rfl,q _ P.toList NB Kd (by rw[ZC,hP.sz];omega) Pu⟩⟩⟩;exact⟨by rw[Zo,ZC,hP.sz,C8];omega,_,c',o8 rv Kd,zk⟩
theorem va{K:ZE}:∀{ds:List D}{vs:List V}{ks:List (List Int)},eJ ds=some ks->DenL K F ds vs->∀k∈ks,k.length<=lim
 |[],_,_,e,_=>by cases e;exact λk hk=>by cases hk
 |d::ds,_,_,e,⟨v,r,h1,h2,h3⟩=>by
  unfold eJ at e;split at e
  ·rename_i k ks e1 e2;cases e;intro k' wB;rcases Zw.mp wB with rfl | wB
   ·cases d with
    |tup es=>
     obtain⟨a,ws,rfl,k2,k3,k4⟩:=h2;have:=iX e1 k3;have hl:=k3.len;rw[this,Zo] at hl;omega
    |_=>cases e1
   ·exact va e2 h3 k' wB
  ·cases e
theorem o4:∀l:List (List Int),(sortI l).length=l.length
 |[]=>rfl
 |k::r=>by
  have ins:∀(k:List Int) (l:List (List Int)),(insI k l).length=l.length+1:=by
   intro k l;induction l with
   |nil=>rfl
   |cons x l ih=>
    unfold insI;split
    ·rfl
    ·rw[Zz,ih,Zz]
  unfold sortI;rw[ins,o4 r,Zz]
theorem Ib(hg:Gl X "sorted")(hm:X.mg "sorted"=none)(hb:aab "sorted"=some (.builtin "sorted"))(ha:gL X Xw [e] δs)(he:kt e X.env:=by rfl):PD X Xw (.Call (.Name "sorted" p) [e] [] pos) (dA Au δs):=
 dP Gg (λXw F H vs ds Q s h w=>by
  unfold Au at w;split at w
  ·rename_i ds;obtain⟨v,rfl,h1⟩:=h.one;obtain⟨a,ws,rfl,h2,h3,h4⟩:=h1;split at w
   ·rename_i ks Jz;split at w
    ·rename_i hok;obtain⟨r1,r2⟩:=oA s Jz h3;have XY:=va Jz h3;refine⟨a,ws,ks,rfl,SqL.of (s _ _ h2),r1,hok,λq is hq hi hl hs=>WP.fin w (Ext.lay s hq) ⟨q,_,rfl,aJ,DenL.mono (Ext.lay s hq).ff ?_,?_⟩⟩
     ·have:=k_ r2 hi;rw[hs] at this;exact nL this λk hk=>XY k (fG.mp hk)
     ·rw[Zo,o4,<-ji r1,<-h3.len];exact h4
    ·exact w.elim
   ·exact w.elim
  ·exact w.elim) hg hm hb ha (by decide) (by decide) he rfl
end
def qh(k:List Int):List Key:=k.map aeb
def RL:List V->Hp->VK->Prop:=λxs H Q=>∃p aB ks,xs=[.ref p]/\Rd H p (.dT aB)/\aB.map (·.1)=ks.map qh/\ei ks=true/\∀(q:Addr) (ws:List V),H q=none->dh H ws (sortI ks)->Q (.ref q) (upd H q (.lst ws))
theorem oC:∀{aB:List (List Key×V)}{xs:List (List Key×Addr×Value)}{ks:List (List Int)},aea (λ(p:List Key×V) (q:List Key×Addr×Value)=>p.1=q.1/\H q.2.1=some (.tup (p.1.map kV))/\RelV p.2 q.2.2) aB xs->
 aB.map (·.1)=ks.map qh->dh H (xs.map λx=>V.ref x.2.1) ks
 |_,_,[], .nil,_=> .nil
 |_,_,_::_, .nil,e=>by simp at e
 |_,_,[], .cons h t,e=>by simp at e
 |_,_,k::ks, .cons h t,e=>by
  rw[Zu,Zu] at e;injection e with e1 e2
  refine .cons ⟨_,rfl,?_⟩ (oC t e2);have hk:(qh k).map kV=k.map V.int:=by unfold qh;rw[aap];rfl
  rw[h.2.1,e1,hk]
section
variable{X:Cx}{Xw:Nat->Hp->Prop}{e:Expr}{δs:DA}{pos p:Pos}
theorem Em(hc:X.calm=true):CallR X (.builtin "sorted") RL:=by
 intro f8 s σ H xs us Q I r h;obtain⟨a,aB,ks,rfl,hH,CY,hk,q⟩:=h;obtain⟨u,rfl,r1⟩:=r.one;cases (show u=_ from r1);obtain⟨z,lo,xs,rel,o,es,ep,g1,g2,g3,g4,g5⟩:=(show ObjOk X.prog X.w H s.heap a (.dT aB) from hH.ok I.hok)
 unfold ei at hk;rw[ZM,ZM] at hk;have hd:ks.Nodup:=agi hk.1.1;have zg:ks.length<64:=agi hk.1.2;have iV:∀k∈ks,k≠[]:=λk wB z=>by have:=aan.mp hk.2 k wB;rw[z] at this;cases this
 have hr:=oC rel CY;have tZ:=ji hr;rw[Zo] at tZ;have Qu:es.size=xs.length:=by rw[<-ZC,g4,Zo]
 have C8:ZQ=16777216:=aa4;refine aeD kind_sorted plain_sorted entry_sorted (args_sorted1 _) ?_;unfold ac5.«sorted»;refine Zn (Zs (Zn (PySem.W.kdu_collect (Ar lo g2 g3) (I.ok.hd hc) g1 (by rw[Qu,C8];omega) λh1 tk u8 Hi zi=>?_)));have Mh:u8.toList.length=xs.length:=by rw[ZC,<-Qu];exact zi.1
 have I1:Inv X f8 σ H {s with heap:=h1,toks:=tk}:=I.kept λb ob e=>Hi b ob e;have rv:Vals (xs.map λx=>V.ref x.2.1) u8.toList:=by
  have ext:∀{vs:List V}{us:List Value},vs.length=us.length->(∀(i:Nat) (v:V) (u:Value),vs[i]? =some v->us[i]? =some u->RelV v u)->Vals vs us:=by
   intro vs;induction vs with
   |nil=>intro us h _;cases us with | nil=>exact .nil | cons _ _=>simp at h
   |cons v vs ih=>
    intro us h hh;cases us with
    |nil=>simp at h
    |cons u us=>exact .cons (hh 0 v u rfl rfl) (ih (by simpa using h) λi v u h1 h2=>hh (i+1) v u h1 h2)
  refine ext (by rw[Zo,Mh]) λi v u e1 e2=>?_;rw[aaC] at e2;obtain⟨en,q1,q2⟩:=zi.2 i u e2;rw[<-aaC,g4,ZJ] at q1;rw[ZJ] at e1;cases w:xs[i]? with
  |none=>rw[w] at e1;cases e1
  |some x=>
   rw[w] at e1 q1;cases e1;cases q1;exact q2
 have ht:=oT I1 hr rv iV;refine Zn (afI ?_ (by rw[C8];omega));have NI:(h1.push (abD "list" u8.toList.toArray 0)).get? h1.objs.size=some (abD "list" u8.toList.toArray 0):=ZL _ rfl;refine Zn (aaA (acg slot_list_sort ⟨_,NI,rfl⟩ entry_list_sort (vG NI
  (ht.keep (λb o _ e=>Zr _ e) (λo e=>agj (ZG e) (aaq _))) hd (by omega) λP h' c' hP hR zk GY=>?_) (args_list_sort _)))
 have Kd:∀i∈P.toList,i<(xs.map λx=>V.ref x.2.1).length:=λi hi=>by
  obtain⟨j,hj,rfl⟩:=aal.mp hi;have h':j<P.size:=by rw[ZC] at hj;exact hj
  have:=hP.lt j (by rw[hP.sz] at h';exact h');rw[fC,ZS h'] at this;have e:P.toList[j]=P[j]:=by simp
  rw[e,Zo];have:P[j]<u8.toList.length:=this;omega
 have Tn:PN ks.length P:=by rw[<-tZ,<-Mh];exact hP
 have To:Ri (λi j=>eW (ks.getD i []) (ks.getD j [])) P ks.length:=by rw[<-tZ,<-Mh];exact hR
 have Pu:=vH hd Tn To;have Wa:=k_ hr Kd;rw[Pu] at Wa;refine⟨_,rfl,Zs ⟨_,rfl,⟨.ref h1.objs.size,_,I1.laid (λb ob e=>GY b ob (ZW (ZG e)) (Zr _ e)) (Zv _) ?_,rfl,q _ _ (I1.hok.fresh (Zv _)) Wa⟩⟩⟩;exact⟨by rw[Zo,ZC,hP.sz,C8];omega,_,c',o8 rv Kd,zk⟩
theorem vB(e:Same F F'):∀{ws:List V}{ks:List (List Int)},dh F ws ks->dh F' ws ks
 |_,_, .nil=> .nil
 |_,_, .cons ⟨b,q1,q2⟩ t=> .cons ⟨b,q1,e _ _ q2⟩ (vB e t)
theorem sS(hs:Same F H):∀{ws:List V}{ks:List (List Int)},dh H ws ks->∃F',Ext F H F' H/\dh F' ws ks
 |_,_, .nil=>⟨F,Ext.refl hs, .nil⟩
 |_,_, .cons h t=>by
  obtain⟨a,rfl,h⟩:=h;obtain⟨F1,e1,r1⟩:=sS hs t;have e2:=Ext.tup e1.fh h;refine⟨_,e1.trans e2, .cons ⟨a,rfl,aJ⟩ ?_⟩;exact vB e2.ff r1
def u_:List Key->Option (List Int)
 |[]=>some []
 | .inl i::r=>(u_ r).map (i:: ·)
 |_=>none
def fE:List (List Key)->Option (List (List Int))
 |[]=>some []
 |k::r=>match u_ k,fE r with
  |some x,some xs=>some (x::xs)
  |_,_=>none
theorem zq:∀{k:List Key}{x:List Int},u_ k=some x->k=qh x
 |[],_,e=>by cases e;rfl
 | .inl i::r,_,e=>by
   unfold u_ at e;cases q:u_ r with
   |none=>rw[q] at e;cases e
   |some y=>rw[q] at e;cases e;rw[zq q];rfl
 | .inr _::r,_,e=>by cases e
theorem kT:∀{kk:List (List Key)}{ks:List (List Int)},fE kk=some ks->kk=ks.map qh
 |[],_,e=>by cases e;rfl
 |k::r,_,e=>by
  unfold fE at e;split at e
  ·rename_i x xs e1 e2;cases e;rw[Zu,<-zq e1,<-kT e2]
  ·cases e
def vI:List D->M D
 |[.dct kk ds]=>match fE kk with
  |some ks=>if ei ks&&ks.all (λk=>decide (k.length<=lim)) then ae (.lst ((sortI ks).map tupI)) else ag
  |none=>ag
 |_=>ag
theorem jT:∀{a:List α}{b:List β},a.length=b.length->(a.zip b).map (·.1)=a
 |[],[],_=>rfl
 |x::a,y::b,h=>by rw[aaR,Zu,jT (by simpa using h)]
 |[],_::_,h=>by simp at h
 |_::_,[],h=>by simp at h
theorem DJ(hc:X.calm=true)(hg:Gl X "sorted")(hm:X.mg "sorted"=none)(hb:aab "sorted"=some (.builtin "sorted"))(ha:gL X Xw [e] δs)(he:kt e X.env:=by rfl):PD X Xw (.Call (.Name "sorted" p) [e] [] pos) (dA vI δs):=
 dP (Em hc) (λXw F H vs ds Q s h w=>by
  unfold vI at w;split at w
  ·rename_i kk ds;obtain⟨v,rfl,h1⟩:=h.one;obtain⟨a,ob,ws,rfl,h2,h3,h4,h5⟩:=h1;split at w
   ·rename_i ks Jz;split at w
    ·rename_i hok;rw[ZM] at hok;have hl:∀k∈ks,k.length<=lim:=λk hk=>agi (aan.mp hok.2 k hk);have zg:ks.length<64:=by
      have:=hok.1;unfold ei at this;rw[ZM,ZM] at this;exact agi this.1.2
     refine⟨a,_,ks,rfl, .inr ⟨ob,s _ _ h2⟩,by rw[jT (by rw[h4];exact h3.len),kT Jz],hok.1,λq us hq hr=>?_⟩;obtain⟨F1,e1,r1⟩:=sS s hr;have e2:=Ext.lay (o:= .lst us) e1.fh hq;exact WP.fin w (e1.trans e2) ⟨q,_,rfl,aJ,DenL.mono e2.ff (nL r1 λk hk=>hl k (fG.mp hk)),by rw[Zo,o4];unfold lim;omega⟩
    ·exact w.elim
   ·exact w.elim
  ·exact w.elim) hg hm hb ha (by decide) (by decide) he rfl
end
end L3
namespace L3
open PySem PySem.Spec L2
open PyProof.Rows hiding St
def orM(a b:M α):M α:=match a with
 |none=>b
 |some r=>some r
def Kk(a b:DA):DA:=λρ=>orM (a ρ) (b ρ)
section
variable{X:Cx}{Xw:Nat->Hp->Prop}{e tg:Expr}{δi δi':DA}
theorem DK(h:Cu X Xw tg e δi)(h':Cu X Xw tg e δi'):Cu X Xw tg e (Kk δi δi'):=λf8 s σ H Q I ⟨F,ρ,S,w⟩=>by
 unfold Kk orM at w;cases q:δi ρ with
 |none=>rw[q] at w;exact h' f8 s σ H Q I ⟨F,ρ,S,w⟩
 |some r=>rw[q] at w;exact h f8 s σ H Q I ⟨F,ρ,S,by rw[q];exact w⟩
end
def fgt:List Nat->cJ->cJ
 |[],ρ=>ρ
 |i::is,ρ=>fgt is (ρ.set i none)
def Rj(f:cJ->cJ):Out->M Out
 | .nx ρ=>ae (.nx (f ρ))
 | .rt d=>ae (.rt d)
def bS(is:List Nat)(τ:DS):DS:=λρ=>τ ρ>>=Rj (fgt is)
theorem StOk.fgt1{K:ZE}(s:StOk K s0 agn F H σ ρ)(i:Nat):StOk K s0 agn F H σ (ρ.set i none):=by
 have get:∀(j:Nat) (sl:Sl),(ρ.set i none)[j]? =some (some sl)->ρ[j]? =some (some sl):=λj sl e=>by
  by_cases hj:j=i
  ·subst hj;by_cases hl:j<ρ.length
   ·rw[ZV hl] at e;cases e
   ·rw[adC (by simpa using hl)] at e;cases e
  ·rw[ZO (aaz hj)] at e;exact e
 exact⟨s.ext,⟨s.st.fh,λj sl e=>s.st.den j sl (get j sl e)⟩,by simp[s.len],λj c a e e'=>s.own j c a (get j _ e) e',λj k c c' a e1 e2 e3 e4=>s.sep j k c c' a (get j _ e1) (get k _ e2) e3 e4⟩
theorem StOk.fgt{K:ZE}:∀(is:List Nat) {ρ:cJ},StOk K s0 agn F H σ ρ->StOk K s0 agn F H σ (L3.fgt is ρ)
 |[],_,s=>s
 |i::is,_,s=>StOk.fgt is (s.fgt1 i)
theorem WPS.fgt{K:ZE}(w:WPS K Xw s0 agn (m>>=Rj (L3.fgt is)) Dn):WPS K Xw s0 agn m Dn:=by
 match m,w with
 |none,w=>exact w
 |some (.ok (.nx ρ)),w=>exact λσ F H s=>w σ F H (s.fgt is)
 |some (.ok (.rt d)),w=>exact w
 |some (.ex n),w=>exact w
section
variable{X:Cx}{Xw:Nat->Hp->Prop}{WA:List Stmt}{τ:DS}{is:List Nat}
theorem aR(h:PSDs X Xw WA τ):PSDs X Xw WA (bS is τ):=λs0 agn=>PSs.weak (h s0 agn) λD σ H ⟨F,ρ,s,w⟩=>⟨F,ρ,s,WPS.fgt w⟩
end
def WZ:Option Sl->Option Sl
 |some (.ow c)=>some (.fz c.d)
 |x=>x
def rj(ρ:cJ):cJ:=ρ.map WZ
def refA(h:Heap)(P:Addr->Prop)[DecidablePred P](H:Hp):Hp:=λb=>if P b then(H b).map (qe ((h.get? b).getD {cls:= .none,data:= .fields #[]})) else H b
theorem Bj(ob:Obj)(o:HO):qe ob o=o\/((∃k,o= .dT k)\/∃k,o= .dK k)/\qe ob o= .frz ob o:=by
 cases o<;>first | exact .inl rfl | exact .inr ⟨.inl ⟨_,rfl⟩,rfl⟩ | exact .inr ⟨.inr ⟨_,rfl⟩,rfl⟩
section
variable{X:Cx}{f8:List (Addr×Obj)}{σ:St}{H:Hp}{s:Zt}{P:Addr->Prop}[DecidablePred P]
theorem jh(e:H b=none):refA h P H b=none:=by
 unfold refA;split
 ·rw[e];rfl
 ·exact e
theorem vA(e:H b=some o):refA h P H b=some o\/((∃k,o= .dT k)\/∃k,o= .dK k)/\P b/\refA h P H b=some (.frz ((h.get? b).getD {cls:= .none,data:= .fields #[]}) o):=by
 unfold refA;split
 ·rename_i hp;rw[e];rcases Bj ((h.get? b).getD {cls:= .none,data:= .fields #[]}) o with q | ⟨q1,q2⟩
  ·exact .inl (by show some _=_;rw[q])
  ·exact .inr ⟨q1,hp,by show some _=_;rw[q2]⟩
 ·exact .inl e
theorem jg(e:H b=some o)(n1:∀k,o≠ .dT k)(n2:∀k,o≠ .dK k):refA h P H b=some o:=by
 rcases vA (P:=P) e with q | ⟨⟨k,q⟩ | ⟨k,q⟩,_⟩
 ·exact q
 ·exact agj q (n1 k)
 ·exact agj q (n2 k)
theorem Inv.refA(I:Inv X f8 σ H s):Inv X f8 σ (L3.refA s.heap P H) s:=by
 have obj:∀b o,H b=some o->((∃k,o=HO.dT k)\/∃k,o= .dK k)->∃ob,s.heap.get? b=some ob:=λb o e hu=>by
  have hk:=I.hok b o e;rcases hu with⟨k,h1⟩ | ⟨k,h1⟩
  ·subst h1;obtain⟨_,_,_,_,ob,_,_,q,_⟩:=hk;exact⟨ob,q⟩
  ·subst h1;obtain⟨_,_,_,_,ob,_,_,q,_⟩:=hk;exact⟨ob,q⟩
 refine⟨I.ok,I.os,I.bare,⟨I.base.keep,I.base.slot,λb q h1 h2 h3=>jh (I.base.free b q h1 h2 h3),I.base.there,λb xs q=>jg (I.base.tups b xs q) (λ_ z=>nomatch z) (λ_ z=>nomatch z),
  λb q1 v q=>jg (I.base.frzs b q1 v q) (λ_ z=>nomatch z) (λ_ z=>nomatch z),λb ps q=>?_⟩,I.loc,I.cell,jh I.free,λx c q=>jh (I.freeC x c q),λp hp=>?_,λb v q=>?_,I.len⟩
 ·obtain⟨m,this⟩:=I.base.tbls b ps q;exact⟨m,jg this (λ_ z=>nomatch z) (λ_ z=>nomatch z)⟩
 ·obtain⟨h1,h2,h3⟩:=I.pin p hp;exact⟨h1,jh h2,h3⟩
 ·have st:∀{c:Addr}{v:HO},ObjOk X.prog X.w H s.heap c v->ObjOk X.prog X.w (L3.refA s.heap P H) s.heap c v:=λ{c v} k=>k.stay (λ_ _ _ q=>q)
   (λc' q=>jg q (λ_ z=>nomatch z) (λ_ z=>nomatch z)) λc' xs q=>jg q (λ_ z=>nomatch z) (λ_ z=>nomatch z)
  cases e:H b with
  |none=>rw[jh e] at q;cases q
  |some o=>
   rcases vA (P:=P) e with z | ⟨hu,hp,z⟩
   ·rw[z] at q;cases q;exact st (I.hok b _ e)
   ·rw[z] at q;cases q;obtain⟨ob,QD⟩:=obj b o e hu;rw[QD];exact⟨QD,st (I.hok b o e)⟩
def unA(P:Addr->Prop)[DecidablePred P](H:Hp):Hp:=λb=>if P b then(match H b with | some (.frz _ u)=>some u | x=>x) else H b
theorem Inv.unA(I:Inv X f8 σ H s)(hP:∀b,P b->∀o u,X.agn b≠some (.frz o u))(hQ:∀b,P b->∀o u,H b=some (.frz o u)->(∃k,u= .dT k)\/∃k,u= .dK k):Inv X f8 σ (L3.unA P H) s:=by
 have non:∀b,H b=none->L3.unA P H b=none:=λb e=>by unfold L3.unA;rw[e];split<;>rfl
 have keep:∀b o,H b=some o->(∀q u,o≠ .frz q u)->L3.unA P H b=some o:=λb o e n=>by
  unfold L3.unA;split
  ·rw[e];cases o<;>first | rfl | exact agj rfl (n _ _)
  ·exact e
 refine⟨I.ok,I.os,I.bare,⟨I.base.keep,I.base.slot,λb q h1 h2 h3=>non b (I.base.free b q h1 h2 h3),I.base.there,λb xs q=>keep b _ (I.base.tups b xs q) (λ_ _ z=>nomatch z),
  λb q1 v q=>?_,λb ps q=>?_⟩,I.loc,I.cell,non _ I.free,λx c q=>non _ (I.freeC x c q),λp hp=>?_,λb v q=>?_,I.len⟩
 ·have:=I.base.frzs b q1 v q;unfold L3.unA;rw[age (λhp=>hP b hp q1 v q)];exact this
 ·obtain⟨m,this⟩:=I.base.tbls b ps q;exact⟨m,keep b _ this (λ_ _ z=>nomatch z)⟩
 ·obtain⟨h1,h2,h3⟩:=I.pin p hp;exact⟨h1,non _ h2,h3⟩
 ·have st:∀{c:Addr}{v:HO},ObjOk X.prog X.w H s.heap c v->ObjOk X.prog X.w (L3.unA P H) s.heap c v:=λ{c v} k=>k.stay (λ_ _ _ q=>q)
   (λc' q=>keep c' _ q (λ_ _ z=>nomatch z)) λc' xs q=>keep c' _ q (λ_ _ z=>nomatch z)
  cases e:H b with
  |none=>rw[non b e] at q;cases q
  |some o=>
   have ko:=I.hok b o e;by_cases hf:∃ob u,o= .frz ob u
   ·obtain⟨ob,u,rfl⟩:=hf;unfold L3.unA at q;split at q
    ·rw[e] at q;cases q;obtain⟨_,k2⟩:=ko;exact st k2
    ·rw[e] at q;cases q;exact st ko
   ·rw[keep b o e (λq u z=>hf ⟨q,u,z⟩)] at q;cases q;exact st ko
end
mutual
def y8:D->Bool
 | .non=>true
 | .bl _=>true
 | .int _=>true
 | .str _=>true
 | .tup ds=>CQ ds
 | .raw _=>false
 | .exc _=>false
 | .scr _=>false
 | .lst _=>false
 | .dct _ _=>false
 | .dci _ _=>false
def CQ:List D->Bool
 |[]=>true
 |d::ds=>y8 d&&CQ ds
end
def rh(d:D):M D:=if y8 d then ae d else ag
def OwnAt(σ:St)(ρ:cJ)(b:Addr):Prop:=∃(i:Nat) (c:C),ρ[i]? =some (some (Sl.ow c))/\σ[i]? =some (some (V.ref b))
section
variable{K:ZE}{F H F' H':Hp}{σ:St}{ρ:cJ}{h:Heap}{b:Addr}
theorem OwnAt.obj(S:StE K F H σ ρ)(p:OwnAt σ ρ b):F b=none/\∃o,H b=some o/\((∃x,o= .lst x)\/(∃x,o= .dT x)\/∃x,o= .dK x):=by
 obtain⟨i,c,h1,h2⟩:=p;obtain⟨v,h3,a,o,rfl,h4,h5,h6⟩:=S.den i _ h1;rw[h3] at h2;cases h2;refine⟨h5,o,h4,?_⟩;cases c with
 |lst ds=>obtain⟨vs,rfl,_⟩:=h6;exact .inl ⟨_,rfl⟩
 |dct ks ds=>obtain⟨vs,rfl,_⟩:=h6;exact .inr (.inl ⟨_,rfl⟩)
 |dci ks ds=>obtain⟨vs,rfl,_⟩:=h6;exact .inr (.inr ⟨_,rfl⟩)
open Classical in
noncomputable def fA(σ:St)(ρ:cJ)(H1 F:Hp):Hp:=λb=>if OwnAt σ ρ b then H1 b else F b
open Classical in
theorem CO(S:StE K F H σ ρ):Same F (fA σ ρ H1 F):=λb u e=>by
 unfold fA;rw[age (λp=>by rw[(OwnAt.obj S p).1] at e;cases e)];exact e
open Classical in
theorem Bi(S:StE K F H σ ρ):StE K (fA σ ρ (refA h (OwnAt σ ρ) H) F) (refA h (OwnAt σ ρ) H) σ (rj ρ):=by
 refine⟨λb u e=>?_,λj sl e=>?_⟩
 ·unfold fA at e;split at e
  ·exact e
  ·rename_i hp;unfold refA;rw[age hp];exact S.fh b u e
 ·unfold rj at e;rw[ZJ] at e;cases q:ρ[j]? with
  |none=>rw[q] at e;cases e
  |some x=>
   rw[q] at e;cases x with
   |none=>cases e
   |some y=>
    cases y with
    |fz d=>
     cases e;obtain⟨v,h1,h2⟩:=S.den j _ q;exact⟨v,h1,Den.mono (CO S) h2⟩
    |ow c=>
     cases e;obtain⟨v,h1,a,o,rfl,h4,h5,h6⟩:=S.den j _ q;refine⟨_,h1,DenC.den (ob:=(h.get? a).getD {cls:= .none,data:= .fields #[]}) h6 (CO S) ?_⟩;have hp:OwnAt σ ρ a:=⟨j,c,q,h1⟩
     unfold fA refA;rw[agd hp,agd hp,h4];rfl
open Classical in
theorem rk(S:StE K F H σ ρ)(E:Ext (fA σ ρ (refA h (OwnAt σ ρ) H) F) (refA h (OwnAt σ ρ) H) F' H'):
 Ext F H (λb=>if OwnAt σ ρ b then none else F' b) (unA (OwnAt σ ρ) H')/\∀b,OwnAt σ ρ b->∀o u,H' b=some (.frz o u)->(∃k,u= .dT k)\/∃k,u= .dK k:=by
 have Vr:∀b,OwnAt σ ρ b->∃o,H b=some o/\H' b=some (qe ((h.get? b).getD {cls:= .none,data:= .fields #[]}) o)/\((∃x,o= .lst x)\/(∃x,o= .dT x)\/∃x,o= .dK x):=λb hp=>by
  obtain⟨_,o,h1,h2⟩:=OwnAt.obj S hp;refine⟨o,h1,E.hh b _ ?_,h2⟩;unfold refA;rw[agd hp,h1];rfl
 refine⟨⟨λb o e=>?_,λb u e=>?_,λb u e=>?_,λb hb=>?_⟩,λb hp o u e=>?_⟩
 ·unfold unA;by_cases hp:OwnAt σ ρ b
  ·obtain⟨o',h1,h2,h3⟩:=Vr b hp;rw[e] at h1;cases h1;rw[agd hp,h2];rcases h3 with⟨x,rfl⟩ | ⟨x,rfl⟩ | ⟨x,rfl⟩<;>rfl
  ·rw[age hp];refine E.hh b o ?_;unfold refA;rw[age hp];exact e
 ·have hp:¬OwnAt σ ρ b:=λp=>by rw[(OwnAt.obj S p).1] at e;cases e
  show (if OwnAt σ ρ b then none else F' b)=_;rw[age hp];refine E.ff b u ?_;unfold fA;rw[age hp];exact e
 ·have e:(if OwnAt σ ρ b then none else F' b)=some u:=e;split at e
  ·cases e
  ·rename_i hp;unfold unA;rw[age hp];exact E.fh b u e
 ·show (if OwnAt σ ρ b then none else F' b)=F b\/_;by_cases hp:OwnAt σ ρ b
  ·rw[agd hp];exact .inl (OwnAt.obj S hp).1.symm
  ·rw[age hp];have e1:refA h (OwnAt σ ρ) H b=H b:=by unfold refA;rw[age hp]
   have e2:fA σ ρ (refA h (OwnAt σ ρ) H) F b=F b:=by unfold fA;rw[age hp]
   rcases E.new b (by rw[e1];exact hb) with q | q
   ·exact .inl (q.trans e2)
   ·rw[e1] at q;exact .inr q
 ·obtain⟨o',h1,h2,h3⟩:=Vr b hp;rw[e] at h2;rcases h3 with⟨x,rfl⟩ | ⟨x,rfl⟩ | ⟨x,rfl⟩
  ·cases h2
  ·cases h2;exact .inl ⟨_,rfl⟩
  ·cases h2;exact .inr ⟨_,rfl⟩
open Classical in
mutual
theorem y_(S:StE K F H σ ρ)(E:Ext (fA σ ρ (refA h (OwnAt σ ρ) H) F) (refA h (OwnAt σ ρ) H) F' H'):∀{d:D}{v:V},y8 d=true->Den K F' d v->Den K (λb=>if OwnAt σ ρ b then none else F' b) d v
 | .non,_,_,q=>q
 | .bl _,_,_,q=>q
 | .int _,_,_,q=>q
 | .str _,_,_,q=>q
 | .tup ds,_,f,⟨a,vs,h1,h2,h3,h4⟩=>by
   refine⟨a,vs,h1,?_,uV S E ?_ h3,h4⟩
   ·show (if OwnAt σ ρ a then none else F' a)=_;rw[age,h2];intro hp;obtain⟨_,o,k1,k2⟩:=OwnAt.obj S hp;have k3:fA σ ρ (refA h (OwnAt σ ρ) H) F a=some (qe ((h.get? a).getD {cls:= .none,data:= .fields #[]}) o):=by
     unfold fA refA;rw[agd hp,agd hp,k1];rfl
    have k4:=E.ff a _ k3;rw[h2] at k4;rcases k2 with⟨x,rfl⟩ | ⟨x,rfl⟩ | ⟨x,rfl⟩<;>cases k4
   ·exact f
 | .raw _,_,f,_=>by cases f
 | .exc _,_,f,_=>by cases f
 | .scr _,_,f,_=>by cases f
 | .lst _,_,f,_=>by cases f
 | .dct _ _,_,f,_=>by cases f
 | .dci _ _,_,f,_=>by cases f
theorem uV(S:StE K F H σ ρ)(E:Ext (fA σ ρ (refA h (OwnAt σ ρ) H) F) (refA h (OwnAt σ ρ) H) F' H'):∀{ds:List D}{vs:List V},CQ ds=true->DenL K F' ds vs->DenL K (λb=>if OwnAt σ ρ b then none else F' b) ds vs
 |[],_,_,q=>q
 |d::ds,_,f,⟨v,r,h1,h2,h3⟩=>by
  unfold CQ at f;rw[ZM] at f;exact⟨v,r,h1,y_ S E f.1 h2,uV S E f.2 h3⟩
end
end
section
variable{X:Cx}{Xw:Nat->Hp->Prop}{e:Expr}{δ:DE}{τ:DT}
theorem oK(I:Inv X f8 σ H s)(S:StE X.K F H σ ρ)(b:Addr)(p:OwnAt σ ρ b)(o:Obj)(u:HO):X.agn b≠some (.frz o u):=λz=>by
 obtain⟨_,o',k1,k2⟩:=OwnAt.obj S p;have:=I.base.frzs b o u z;rw[k1] at this;rcases k2 with⟨x,rfl⟩ | ⟨x,rfl⟩ | ⟨x,rfl⟩<;>cases this
theorem ma(m:M α):noex m=ag\/∃a,m=ae a/\noex m=ae a:=by
 rcases m.cs with h | ⟨n,h⟩ | ⟨a,h⟩
 ·subst h;exact .inl rfl
 ·subst h;exact .inl rfl
 ·subst h;exact .inr ⟨a,rfl,rfl⟩
theorem oQ(h:qu X Xw e τ):qu X Xw e (λρ=>noex (τ (rj ρ))):=λf8 s σ H Q I ⟨F,ρ,S,w⟩=>by
 classical
 rcases ma (τ (rj ρ)) with q | ⟨b,q,q2⟩
 ·have w:WPB Xw F H (noex (τ (rj ρ))) Q:=w;rw[q] at w;exact w.elim
 ·have w:WPB Xw F H (noex (τ (rj ρ))) Q:=w;rw[q2] at w;refine cE (h f8 s σ _ (λb' H'=>Q b' (unA (OwnAt σ ρ) H')/\∀c,OwnAt σ ρ c->∀o u,H' c=some (.frz o u)->(∃k,u= .dT k)\/∃k,u= .dK k) (Inv.refA I) ⟨_,_,Bi S,?_⟩) λb' s' ⟨H',I',q1,q3⟩=>⟨_,Inv.unA I' (oK I S) q3,q1⟩
  rw[q];intro H' F' E;obtain⟨E1,q3⟩:=rk S E;exact⟨w _ _ E1,q3⟩
theorem Ic(h:PD X Xw e δ):PD X Xw e (λρ=>noex (δ (rj ρ))>>=rh):=λf8 s σ H Q I ⟨F,ρ,S,w⟩=>by
 classical
 rcases ma (δ (rj ρ)) with q | ⟨d,q,q2⟩
 ·have w:WP X.K Xw F H (noex (δ (rj ρ))>>=rh) Q:=w;rw[q] at w;exact w.elim
 ·have w:WP X.K Xw F H (noex (δ (rj ρ))>>=rh) Q:=w;rw[q2,av] at w;unfold rh at w;split at w
  ·rename_i hf;refine cE (h f8 s σ _ (λv H'=>Q v (unA (OwnAt σ ρ) H')/\∀c,OwnAt σ ρ c->∀o u,H' c=some (.frz o u)->(∃k,u= .dT k)\/∃k,u= .dK k) (Inv.refA I) ⟨_,_,Bi S,?_⟩) λb' s' ⟨v,H',I',rv,q1,q3⟩=>⟨v,_,Inv.unA I' (oK I S) q3,rv,q1⟩
   rw[q];intro v H' F' E dn;obtain⟨E1,q3⟩:=rk S E;exact⟨w _ _ _ E1 (y_ S E hf dn),q3⟩
  ·exact w.elim
end
abbrev DF:=cJ->M C
def WPF(K:ZE)(Xw:Nat->Hp->Prop)(F H:Hp)(m:M C)(Q:VK):Prop:=
 match m with
 |none=>False
 |some (.ok c)=>∀a o H' F',Ext F H F' H'->H' a=some o->F' a=none->H a=none->DenC K F' c o->Q (.ref a) H'
 |some (.ex n)=>∀F' H',Ext F H F' H'->Xw n H'
def YT(K:ZE)(Xw:Nat->Hp->Prop)(δ:DF):TE:=λσ H Q=>∃F ρ,StE K F H σ ρ/\WPF K Xw F H (δ ρ) Q
def MS(X:Cx)(Xw:Nat->Hp->Prop)(e:Expr)(δ:DF):Prop:=PE X e (YT X.K Xw δ)
def pT(i:Nat)(δ:DF):DS:=λρ=>δ ρ>>=λc=>ae (.nx (ρ.set i (some (.ow c))))
theorem StOk.setFresh{K:ZE}(s:StOk K s0 agn F H σ ρ)(E:Ext F H F' H')(ho:H' a=some o)(nF:F' a=none)(n:H a=none)(h:DenC K F' c₀ o):
 StOk K s0 agn F' H' (σ.set i (some (.ref a))) (ρ.set i (some (.ow c₀))):=by
 have hle:=s.len;have get:∀(j:Nat) (sl:Sl),(ρ.set i (some (.ow c₀)))[j]? =some (some sl)->(j=i/\i<ρ.length/\sl= .ow c₀)\/(j≠i/\ρ[j]? =some (some sl)):=λj sl e=>by
  by_cases hj:j=i
  ·subst hj;have hi:j<ρ.length:=by
    have:=(ZI.mp e).1;simpa using this
   rw[ZV hi] at e;cases e;exact .inl ⟨rfl,hi,rfl⟩
  ·rw[ZO (aaz hj)] at e;exact .inr ⟨hj,e⟩
 have old:∀(j:Nat) (c:C) (b:Addr),ρ[j]? =some (some (.ow c))->σ[j]? =some (some (.ref b))->b≠a:=λj c b e e' z=>by
  obtain⟨u,h1,b',o,h2,h3,_⟩:=s.st.den j _ e;rw[h1] at e';cases e';cases h2;rw[z,n] at h3;cases h3
 refine⟨s.ext.trans E,⟨E.fh,λj sl e=>?_⟩,by simp[hle],λj c b e e'=>?_,λj k c c' b e1 e2 e3 e4=>?_⟩
 ·rcases get j sl e with⟨rfl,hi,rfl⟩ | ⟨hj,e⟩
  ·exact⟨.ref a,by rw[ZV (by omega)],a,_,rfl,ho,nF,h⟩
  ·obtain⟨u,h1,h2⟩:=s.st.den j sl e;exact⟨u,by rw[ZO (aaz hj)];exact h1,h2.ext E⟩
 ·rcases get j _ e with⟨rfl,hi,_⟩ | ⟨hj,e⟩
  ·rw[ZV (by omega)] at e';cases e';exact Same.free s.ext.hh n
  ·rw[ZO (aaz hj)] at e';exact s.own j c b e e'
 ·rcases get j _ e1 with⟨rfl,hi,_⟩ | ⟨hj,e1⟩
  ·rw[ZV (by omega)] at e3;cases e3;rcases get k _ e2 with⟨rfl,_,_⟩ | ⟨hk,e2⟩
   ·rfl
   ·rw[ZO (aaz hk)] at e4;exact agj rfl (old k c' a e2 e4)
  ·rcases get k _ e2 with⟨TQ,hi,_⟩ | ⟨hk,e2⟩
   ·rw[TQ,ZV (by omega)] at e4;cases e4;rw[ZO (aaz hj)] at e3;exact agj rfl (old j c a (by assumption) e3)
   ·rw[ZO (aaz hj)] at e3;rw[ZO (aaz hk)] at e4;exact s.sep j k c c' b e1 e2 e3 e4
theorem WPF.mono{K:ZE}(h:WPF K Xw F H m Q)(k:∀v H',Q v H'->Q' v H'):WPF K Xw F H m Q':=by
 match m,h with
 |none,h=>exact h
 |some (.ok d),h=>exact λa o H' F' e h1 h2 h3 h4=>k _ _ (h a o H' F' e h1 h2 h3 h4)
 |some (.ex n),h=>exact h
theorem WPF.ext{K:ZE}(e:Ext F H F1 H1)(h:WPF K Xw F H m Q):WPF K Xw F1 H1 m Q:=by
 match m,h with
 |none,h=>exact h
 |some (.ok d),h=>exact λa o H' F' e' h1 h2 h3 h4=>h a o H' F' (e.trans e') h1 h2 (Same.free e.hh h3) h4
 |some (.ex n),h=>exact λF2 H2 e2=>h F2 H2 (e.trans e2)
theorem WPF.bind{K:ZE}(h:WPF K Xw F H (m>>=k) Q):WP K Xw F H m λv H1=>∃F1 d,Ext F H F1 H1/\Den K F1 d v/\WPF K Xw F1 H1 (k d) Q:=by
 match m,h with
 |none,h=>exact h
 |some (.ok d),h=>exact λv H2 F2 e2 q=>⟨F2,d,e2,q,WPF.ext e2 (show WPF K Xw F H (k d) Q from h)⟩
 |some (.ex n),h=>exact h
theorem WPF.bindL{K:ZE}(h:WPF K Xw F H (m>>=k) Q):WPL K Xw F H m λv H1=>∃F1 d,Ext F H F1 H1/\DenL K F1 d v/\WPF K Xw F1 H1 (k d) Q:=by
 match m,h with
 |none,h=>exact h
 |some (.ok d),h=>exact λv H2 F2 e2 q=>⟨F2,d,e2,q,WPF.ext e2 (show WPF K Xw F H (k d) Q from h)⟩
 |some (.ex n),h=>exact h
def Nh(a b:DF):DF:=λρ=>orM (a ρ) (b ρ)
section
variable{X:Cx}{Xw:Nat->Hp->Prop}{e k v a b:Expr}{es:List Expr}{δ δ':DF}{pos pos' p:Pos}{x:Str}{i:Nat}
theorem K5(h:MS X Xw e δ)(h':MS X Xw e δ'):MS X Xw e (Nh δ δ'):=λf8 s σ H Q I ⟨F,ρ,S,w⟩=>by
 unfold Nh orM at w;cases q:δ ρ with
 |none=>rw[q] at w;exact h' f8 s σ H Q I ⟨F,ρ,S,w⟩
 |some r=>rw[q] at w;exact h f8 s σ H Q I ⟨F,ρ,S,by rw[q];exact w⟩
theorem nJ(hN:X.N.Nodup)(hi:X.N[i]? =some x)(hx:Loc X.env.scope x)(he:MS X Xw e δ)(hf:bn X x:=by first | exact .inl rfl | exact .inr rfl)
 (hs:adF [.Name x pos'] e pos.line X.env=pure false:=by rfl):
 jm X Xw (.Assign [.Name x pos'] e pos) (pT i δ):=λs0 agn=>PS.weak (xB he (aU hN hi hx hf) hs) λD σ H ⟨F,ρ,s,w⟩=>by
 refine⟨F,ρ,s.st,?_⟩;unfold pT at w
 match δ ρ,w with
 |none,w=>exact w
 |some (.ok c),w=>exact λa o H' F' E h1 h2 h3 h4=>w _ F' H' (s.setFresh E h1 h2 h3 h4)
 |some (.ex n),w=>exact λF' H' e'=>w F' H' (s.ext.trans e')
theorem Ext.fresh{F H:Hp}{p:Addr}(s:Same F H)(hp:H p=none):Ext F H F (upd H p o)/\F p=none:=⟨Ext.free s hp,Same.free s hp⟩
theorem P6{a:Addr}{y v:V}(hu:A.units+1<cLine)(I:Inv X f8 σ H s)(g:DPut H a y v H')(ry:RelV y u)(rv:RelV v r)(h:∀s',Inv X f8 σ H' s'->Q () s'):
 wpAny (model X.prog X.w) A (dictSet a u r) Q E s:=by
 rcases g with⟨aB,k,e,ey,l,eH⟩ | ⟨aB,k,b,e,ey,eb,l,eH⟩
 ·subst ey eH;obtain⟨z,hd,vs,rel,dd⟩:=Mb I.hok e;have hz:vs.length<=ZQ:=by rw[<-rel.length];exact z
  have hl:(putK aB k v).length<=ZQ:=by have:=fS aB k v;omega
  refine wpAny_dictSet_pairs (pj ry) dd λh' Eu hs=>h _ ?_;have he:∃q,h'.get? a=some q:=let ⟨q,_,_,hq,_⟩:=Eu;⟨q,hq⟩
  exact mC I (by rw[e];exact abz) hs he (Gr hl hd (rel.put k rv) Eu)
 ·subst ey eH;cases (show u=Z6 b from ry);obtain⟨z,hd,xs,rel,dd⟩:=Gs I.hok e;have hz:xs.length<=ZQ:=by rw[<-abB rel];exact z
  have hl:(putK aB k v).length<=ZQ:=by have:=fS aB k v;omega
  refine wpAny_dictSet_heap (by exact(show A.units<cLine by omega)) (jA I.hok eb) dd λh' Eu hs=>h _ ?_;obtain⟨q,es,ep,hq,h2,h3,h4,_,h5⟩:=Eu;refine mC I (by rw[e];exact abz) hs ⟨q,hq⟩ ⟨hl,hd,_,(rel.put k eb rv).keeps λc ys ec=>?_,q,es,ep,hq,h2,h3,h4,h5⟩;rw[ax (Hx ec e (λz=>nomatch z))];exact ec
end
section
variable{X:Cx}{Xw:Nat->Hp->Prop}{e k v a b:Expr}{es:List Expr}{δk δv δa δb:DE}{pos p:Pos}{x:Str}{i:Nat}
theorem yW(hu:X.A.units+1<cLine)(h0:∀(H:Hp) (h:Heap),aa3<h.objs.size->ObjOk X.prog X.w H (h.push {cls:= .type "dict",data:= .dict #[]}) h.objs.size o0)(hk:PE X k tk)(hv:PE X v tv):
 PE X (.Dict [some k] [v] pos) (λσ H Q=>∀p,H p=none->tk σ (upd H p o0) λy H1=>tv σ H1 λz H2=>∃H3,DPut H2 p y z H3/\Q (.ref p) H3):=by
 intro f8 s σ H Q I q;have hn:=I.hok.fresh (Zv s.heap.objs.size);have I1:=I.laid (t':=s.toks) (λ_ _ q=>Zr _ q) (Zv _) (h0 _ s.heap I.big);refine wpAny_Dict_any rfl rfl (by simp) (by simp) (cE (Ip hk hv Lc f8 _ σ _ (λps H2=>∃y z H3,ps=[(y,z)]/\DPut H2 s.heap.objs.size y z H3/\Q (.ref s.heap.objs.size) H3) I1 ?_) λws s2 ⟨ps,H2,I2,rel,y,z,H3,ep,g,q2⟩=>?_)
 ·refine ?_;have:=q _ hn;show tk σ _ λy H1=>tv σ H1 λz H2=>∃y' z' H3,[(y,z)]=[(y',z')]/\DPut H2 s.heap.objs.size y' z' H3/\Q (.ref s.heap.objs.size) H3;have e:(λ(y:V) (H1:Hp)=>tv σ H1 λz H2=>∃y' z' H3,[(y,z)]=[(y',z')]/\DPut H2 s.heap.objs.size y' z' H3/\Q (.ref s.heap.objs.size) H3)=(λy H1=>tv σ H1 λz H2=>∃H3,DPut H2 s.heap.objs.size y z H3/\Q (.ref s.heap.objs.size) H3):=by
   funext y H1;congr 1;funext z H2;refine propext ⟨λ⟨y',z',H3,ee,r⟩=>?_,λ⟨H3,r⟩=>⟨y,z,H3,rfl,r⟩⟩;cases ee;exact⟨H3,r⟩
  rw[e];exact this
 ·subst ep;cases rel with
  | @cons a b as bs h t=>
    cases t;obtain⟨r1,r2⟩:=h;unfold storeAll;rw[aeq];refine Zn (Zn (P6 hu I2 g r1 r2 λs3 I3=>?_));refine Zs ?_;show wpAny _ _ (forIn ([]:List (Value×Value)) acs _) _ _ _;rw[List.forIn_nil];exact Zs ⟨V.ref s.heap.objs.size,_,I3,rfl,q2⟩
def pb(k v:D):M C:=match et k with
 |some kk=>ae (.dct [kk] [v])
 |none=>ag
def q_(k v:D):M C:=match wN k with
 |some kk=>ae (.dci [kk] [v])
 |none=>ag
theorem vx(hu:X.A.units+64<cLine)(hk:PD X Xw k δk)(hv:PD X Xw v δv):MS X Xw (.Dict [some k] [v] pos) (λρ=>δk ρ>>=λx=>δv ρ>>=λy=>pb x y):=
 PE.weak (yW (o0:= .dT []) (by omega) (λH h hb=>yY h hb) hk hv) λσ H Q ⟨F,ρ,s,w⟩ q hq=>by
  have e0:=Ext.free (o:= .dT []) s.fh hq;refine⟨F,ρ,s.ext e0,?_⟩;have w:WPF X.K Xw F H (δk ρ>>=λx=>δv ρ>>=λy=>pb x y) Q:=w
  match wB:δk ρ,w with
  |none,w=>exact w
  |some (.ex n),w=>exact λF' H' e'=>w F' H' (e0.trans e')
  |some (.ok kd),w=>
   intro y H1 F1 e1 q1;refine⟨F1,ρ,(s.ext e0).ext e1,?_⟩;have w:WPF X.K Xw F H (δv ρ>>=λy=>pb kd y) Q:=w
   match SD:δv ρ,w with
   |none,w=>exact w
   |some (.ex n),w=>exact λF' H' e'=>w F' H' (e0.trans (e1.trans e'))
   |some (.ok vd),w=>
    intro z H2 F2 e2 q2;have w3:WPF X.K Xw F H (pb kd vd) Q:=w;clear w;unfold pb at w3;cases CY:et kd with
    |none=>rw[CY] at w3;exact w3.elim
    |some kk=>
     rw[CY] at w3;have E:=e1.trans e2;have QH:H2 q=some (.dT []):=E.hh _ _ aJ;have Qj:F2 q=none:=by
      have:=E.old aJ (λ_ z=>nomatch z);rw[this];exact Same.free s.fh hq
     unfold et at CY;split at CY
     ·rename_i es;obtain⟨b,ws,rfl,k2,k3,_⟩:=Den.mono e2.ff q1;have e5:=iY CY k3;subst e5;refine⟨_,DPut.t QH (e2.fh _ _ k2) (by rw[aa4];decide),?_⟩;refine w3 q (.dT (putK [] kk z)) _ F2 ⟨λc u hc=>?_,(e0.trans E).ff,λc u hc=>?_,(e0.trans E).new⟩ aJ Qj hq ⟨[z],rfl, .cons q2 .nil,rfl,show 1<=lim by decide⟩
      ·rw[ax (λzz=>by rw[zz,hq] at hc;cases hc)];exact(e0.trans E).hh c u hc
      ·rw[ax (λzz=>by rw[zz,Qj] at hc;cases hc)];exact e2.fh c u hc
     ·cases CY
theorem Fl(hu:X.A.units+64<cLine)(hk:PD X Xw k δk)(hv:PD X Xw v δv):MS X Xw (.Dict [some k] [v] pos) (λρ=>δk ρ>>=λx=>δv ρ>>=λy=>q_ x y):=
 PE.weak (yW (o0:= .dK []) (by omega) (λH h hb=>Gq h hb) hk hv) λσ H Q ⟨F,ρ,s,w⟩ q hq=>by
  have e0:=Ext.free (o:= .dK []) s.fh hq;refine⟨F,ρ,s.ext e0,?_⟩;have w:WPF X.K Xw F H (δk ρ>>=λx=>δv ρ>>=λy=>q_ x y) Q:=w
  match wB:δk ρ,w with
  |none,w=>exact w
  |some (.ex n),w=>exact λF' H' e'=>w F' H' (e0.trans e')
  |some (.ok kd),w=>
   intro y H1 F1 e1 q1;refine⟨F1,ρ,(s.ext e0).ext e1,?_⟩;have w:WPF X.K Xw F H (δv ρ>>=λy=>q_ kd y) Q:=w
   match SD:δv ρ,w with
   |none,w=>exact w
   |some (.ex n),w=>exact λF' H' e'=>w F' H' (e0.trans (e1.trans e'))
   |some (.ok vd),w=>
    intro z H2 F2 e2 q2;have w3:WPF X.K Xw F H (q_ kd vd) Q:=w;clear w;unfold q_ at w3;cases CY:wN kd with
    |none=>rw[CY] at w3;exact w3.elim
    |some kk=>
     rw[CY] at w3;have E:=e1.trans e2;have QH:H2 q=some (.dK []):=E.hh _ _ aJ;have Qj:F2 q=none:=by
      have:=E.old aJ (λ_ z=>nomatch z);rw[this];exact Same.free s.fh hq
     have e5:=mM CY (Den.mono e2.ff q1);subst e5;refine⟨_,DPut.k QH (by rw[aa4];decide),?_⟩;refine w3 q (.dK (putK [] kk z)) _ F2 ⟨λc u hc=>?_,(e0.trans E).ff,λc u hc=>?_,(e0.trans E).new⟩ aJ Qj hq ⟨[z],rfl, .cons q2 .nil,rfl,show 1<=lim by decide⟩
     ·rw[ax (λzz=>by rw[zz,hq] at hc;cases hc)];exact(e0.trans E).hh c u hc
     ·rw[ax (λzz=>by rw[zz,Qj] at hc;cases hc)];exact e2.fh c u hc
theorem vS{K:ZE}{d k:D}{x y:V}(s:Same F H)(hd:Den K F d x)(hk:Den K F k y)(e:Cy d k=some o):
 ∃a ov,x= .ref a/\lR H a y ov/\ov.isSome=o.isSome/\∀d',o=some d'->∃v,ov=some v/\Den K F d' v:=by
 obtain⟨a,ov,h1,h2,h3,h4⟩:=Cz (σ:=[some x]) (ρ:=[some (.fz d)]) (i:=0) ⟨s,λi sl q=>by
  match i,q with
  |0,q=>cases q;exact⟨x,rfl,hd⟩
  |i+1,q=>simp at q⟩ rfl hk e
 cases h1;exact⟨a,ov,rfl,h2,h3,h4⟩
def iO(neg:Bool)(k d:D):M D:=match Cy d k with
 |some o=>ae (.bl (if neg then !o.isSome else o.isSome))
 |none=>ag
def O1(neg:Bool):R2:=λy x H Q=>∃a o,x= .ref a/\lR H a y o/\Q (.bl (if neg then !o.isSome else o.isSome)) H
theorem Om(hu:X.A.units+64<cLine):OpR X (aas .In) (O1 false):=λf8 s σ H y x v u Q I ry rx ⟨a,o,ex,g,q⟩=>by
 subst ex;obtain rfl:u=Z6 a:=rx;exact P5 (by omega) I g ry λs' I'=>⟨.bl o.isSome,_,I',rfl,q⟩
theorem Ff(hu:X.A.units+64<cLine):OpR X (aas .NotIn) (O1 true):=λf8 s σ H y x v u Q I ry rx ⟨a,o,ex,g,q⟩=>by
 subst ex;obtain rfl:u=Z6 a:=rx;exact JU (by omega) I g ry λs' I'=>⟨.bl (!o.isSome),_,I',rfl,q⟩
theorem Dz{K:ZE}:yz K (O1 neg) (iO neg):=λXw F H y x dk dd Q s hk hd w=>by
 unfold iO at w;cases he:Cy dd dk with
 |none=>rw[he] at w;exact w.elim
 |some o=>
  rw[he] at w;obtain⟨a,ov,h1,h2,h3,_⟩:=vS s hd hk he;refine⟨a,ov,h1,h2,?_⟩;rw[h3];exact WP.now w s rfl
theorem Iv(hu:X.A.units+64<cLine)(ha:PD X Xw a δa)(hb:PD X Xw b δb)(hm:aaB .In b=false:=by rfl):qu X Xw (.Compare a [.In] [b] pos) (cI (d2 (iO false) δa δb)):=g_ (Om hu) Dz ha hb hm
theorem je(hu:X.A.units+64<cLine)(ha:PD X Xw a δa)(hb:PD X Xw b δb)(hm:aaB .NotIn b=false:=by rfl):qu X Xw (.Compare a [.NotIn] [b] pos) (cI (d2 (iO true) δa δb)):=g_ (Ff hu) Dz ha hb hm
def cZ(d k:D):M D:=match Cy d k with
 |some (some v)=>ae v
 |_=>ag
theorem eK(hu:X.A.units+64<cLine)(ha:PD X Xw a δa)(hb:PD X Xw b δb)(hs:MP b:=by intro _ _;rfl):PD X Xw (.Subscript a b pos) (d2 cZ δa δb):=
 PE.weak (K_ (by omega) ha hb hs) λσ H Q ⟨F,ρ,s,w⟩=>by
  refine⟨F,ρ,s,WP.mono (WP.bind w) λx H1 ⟨F1,d,e1,q1,w1⟩=>?_⟩;refine⟨F1,ρ,s.ext e1,WP.mono (WP.bind w1) λy H2 ⟨F2,k,e2,q2,w2⟩=>?_⟩;unfold cZ at w2;cases he:Cy d k with
  |none=>rw[he] at w2;exact w2.elim
  |some o=>
   cases o with
   |none=>rw[he] at w2;exact w2.elim
   |some d'=>
    rw[he] at w2;obtain⟨a,ov,h1,h2,h3,h4⟩:=vS e2.fh (Den.mono e2.ff q1) q2 he;obtain⟨v,rfl,hd⟩:=h4 d' rfl;exact⟨a,v,h1,h2,WP.now w2 e2.fh hd⟩
end
section
variable{X:Cx}{f8:List (Addr×Obj)}{σ:St}{H:Hp}{s:Zt}{h':Heap}
theorem Inv.turnedLaid{ch:List Addr}(I:Inv X f8 σ H s)(k:∀b q,b∉ch->s.heap.get? b=some q->h'.get? b=some q)(hf:∀b∈ch,tN X f8 H b)(hp:s.heap.objs.size<=a)(new:ObjOk X.prog X.w (upd H a o) h' a o):
 Inv X f8 σ (upd H a o) {s with heap:=h',toks:=t'}:=by
 have hn:=I.hok.fresh hp;have My:∀b u,H b=some u->b∉ch:=λb u e z=>by rw[(hf b z).1] at e;cases e
 refine I.step (λb hb=>?_) (λb q _ _ hc e _=>k b q hc e) (λb q _ _ hc e _=>⟨q.slots,k b q hc e⟩) (λb q hc e n=>?_)
  (λb q hc e=>⟨q,k b q hc e⟩) (λb xs e=>?_) (λb q u e=>?_) (λb ps e=>⟨#[],?_⟩) (λm hm=>?_) (λb u e=>?_) I.bare
 ·obtain⟨f0,f1,f2,f3,f4,f5⟩:=hf b hb;exact⟨f3,f1,f4,f5⟩
 ·rw[ax (λz=>by rw[z] at e;exact agj (ZG e) (Nat.not_lt.mpr hp))];exact n
 ·rw[ax (bx e hn)];exact e
 ·rw[ax (bx e hn)];exact e
 ·rw[ax (bx e hn),e];simp
 ·obtain⟨q,es,ep,ho,r⟩:=hm;exact⟨q,es,ep,k _ q (λz=>(hf _ z).2.1 rfl) ho,r⟩
 ·by_cases hb:b=a
  ·subst hb;rw[aJ] at e;cases e;exact new
  ·rw[ax hb] at e;refine(I.hok b u e).stay (λc v hc q=>k c v ?_ q) (λc q=>by rw[ax (bx q hn)];exact q) λc xs q=>by rw[ax (bx q hn)];exact q
   rcases hc with z | z
   ·rw[z];exact My b u e
   ·exact My c _ z
theorem Inv.turnedL{ch:List Addr}(I:Inv X f8 σ H s)(k:∀b q,b∉ch->s.heap.get? b=some q->h'.get? b=some q)(hf:∀b∈ch,tN X f8 H b):Inv X f8 σ H {s with heap:=h',toks:=t'}:=by
 have My:∀b u,H b=some u->b∉ch:=λb u e z=>by rw[(hf b z).1] at e;cases e
 refine I.step (λb hb=>?_) (λb q _ _ hc e _=>k b q hc e) (λb q _ _ hc e _=>⟨q.slots,k b q hc e⟩) (λb q hc e n=>n)
  (λb q hc e=>⟨q,k b q hc e⟩) (λb xs e=>e) (λb q u e=>e) (λb ps e=>⟨#[],by rw[e];simp⟩) (λm hm=>?_) (λb u e=>?_) I.bare
 ·obtain⟨f0,f1,f2,f3,f4,f5⟩:=hf b hb;exact⟨f3,f1,f4,f5⟩
 ·obtain⟨q,es,ep,ho,r⟩:=hm;exact⟨q,es,ep,k _ q (λz=>(hf _ z).2.1 rfl) ho,r⟩
 ·refine(I.hok b u e).stay (λc v hc q=>k c v ?_ q) (λc q=>q) λc xs q=>q;rcases hc with z | z
  ·rw[z];exact My b u e
  ·exact My c _ z
end
def Vl(K:ZE)(a:Addr):It:=
 ⟨λi H=>∃xs x,SqL K H a xs/\xs[i]? =some x,λi H x H'=>∃p,x= .ref p/\H p=none/\∃v,(∀xs,SqL K H a xs->xs[i]? =some v)/\H'=upd H p (.tup [.int (i:Int),v]),λi H=>∃xs,SqL K H a xs/\xs.length<=i⟩
theorem FF{K:ZE}(l e it:Addr)(Pq:e≠it):
 Turn P w K (.Tuple es x1 tp) (Vl K l) [e,it] e (λi h=>∃old,IsEnum h e it (i:Int) old/\h.IsListIter it l i) where
 mem:=by simp
 obj:=λi h ⟨old,Ca,yx⟩ b hb=>by
  rcases Zw.mp hb with z | z
  ·subst z;exact⟨_,Ca,λv z=>nomatch z⟩
  ·have z:b=it:=by simpa using z
   subst z;obtain⟨o,e1,c,d⟩:=yx;exact⟨o,e1,λv z=>by rw[d] at z;cases z⟩
 keep:=λi h h' ⟨old,Ca,yx⟩ k=>⟨old,k e (by simp) _ Ca,yx.at λo q=>k it (by simp) o q⟩
 item:=by
  intro X hP hw hK hc i f8 s σ H E I hf st hg;subst hP hw hK;obtain⟨old,Ca,yx⟩:=st;obtain⟨xs,x,hq,hx⟩:=hg;obtain⟨aL,rv,p,hz⟩:=I.list hq;obtain⟨u,hu,ru⟩:=rv.get hx;refine wpAny_pyNext_enum_item Ca yx p.isList (by simpa using hu) Pq λh1 k1 k2 k3 k4 k5=>?_;refine⟨_,rfl,wpAny_letOwnedTupleGo_enum k1 λh2 m1 m2=>?_⟩;have iV:s.heap.objs.size≠e:=abQ (ZG Ca);have Vf:h2.get? s.heap.objs.size=some {cls:= .type "tuple",data:= .seq #[.int i s.toks,u]}:=(m2.2 _ iV).trans k3;have keep:∀b q,b∉[e,it]->s.heap.get? b=some q->h2.get? b=some q:=λb q hb e1=>by
   have Sn:b≠e:=λz=>hb (by simp[z]);have Nx:b≠it:=λz=>hb (by simp[z]);exact(m2.2 b Sn).trans (k5 b q Sn Nx e1)
  have I2:Inv X f8 σ (upd H s.heap.objs.size (.tup [.int (i:Int),x])) {s with heap:=h2,toks:=s.toks+1}:=by
   refine Inv.turnedLaid I keep hf (Zv _) ⟨?_,[.int i s.toks,u], .cons ⟨_,rfl⟩ (.cons ru .nil),_,Vf,rfl,_,rfl⟩;rw[aa4];show 2<=_;decide
  refine⟨.ref s.heap.objs.size,_,I2,rfl,⟨_,rfl,I.hok.fresh (Zv _),x,λys hy=>by rw[I.list_inj hy hq];exact hx,rfl⟩,⟨u,?_,?_⟩,λb hb=>?_⟩
  ·have:((i+1:Nat):Int)=(i:Int)+1:=by push_cast;rfl
   rw[this];exact m1
  ·exact k2.at λo q=>(m2.2 it (aaz Pq)).trans q
  ·rw[ax (λz=>by
    rcases Zw.mp hb with y | y
    ·exact agj (ZG Ca) (by rw[<-y,z];exact aaq _)
    ·have y:b=it:=by simpa using y
     obtain⟨o,q1,_⟩:=id yx;exact agj (ZG q1) (by rw[<-y,z];exact aaq _))]
   exact(hf b hb).1
 done:=by
  intro X hP hw hK hc i f8 s σ H E I hf st hg;subst hP hw hK;obtain⟨old,Ca,yx⟩:=st;obtain⟨xs,hq,hx⟩:=hg;obtain⟨aL,rv,p,hz⟩:=I.list hq;have hl:=rv.length;exact wpAny_pyNext_enum_end (I.ok.hd hc) Ca yx p.isList (by simp;omega) λh' eb=>⟨rfl,Inv.turnedL I (λb q hb e1=>eb b q (λz=>hb (by simp[z])) e1) λb hb=>hf b (Zp _ hb)⟩
 self:=λA i s Q E st h=>by
  obtain⟨old,Ca,yx⟩:=st;exact wpAny_pyIter_enum Ca h
theorem Hb{K:ZE}{F:Hp}(h:SqL K F a vs)(hd:DenL K F ds vs):ItD K F (Vl K a) (ds.mapIdx λi d=> .tup [.int (i:Int),d]):=λF' H' i s1 s2=>by
 have hs:=Same.seq s2 (Same.seq s1 h);refine⟨λd e=>?_,λhl=>⟨vs,hs,by rw[List.length_mapIdx,hd.len] at hl;exact hl⟩⟩;rw[afv] at e;cases q:ds[i]? with
 |none=>rw[q] at e;cases e
 |some d0=>
  rw[q] at e;cases e;obtain⟨v,e1,q1⟩:=hd.get q;refine⟨⟨vs,v,hs,e1⟩,λx H'' ⟨p,y1,y2,u,y3,y4⟩=>?_⟩;subst y1 y4;have:=y3 vs hs;rw[e1] at this;cases this;have E:=Ext.lay (o:= .tup [.int (i:Int),v]) s2 y2;exact⟨_,E,p,_,rfl,aJ, .cons rfl (.cons (Den.mono E.ff (Den.mono s1 q1)) .nil),by show 2<=lim;decide⟩
section
variable{X:Cx}{Xw:Nat->Hp->Prop}{e:Expr}{es:List Expr}{δs:DA}{pos p tp:Pos}{x1:Nat}
def rf:List D->M (List D)
 |[.lst ds]=>ae (ds.mapIdx λi d=> .tup [.int (i:Int),d])
 |_=>ag
theorem Aa(hg:Gl X "enumerate")(hm:X.mg "enumerate"=none)(ha:gL X Xw [e] δs)(hs:kt e X.env:=by rfl):Cu X Xw (.Tuple es x1 tp) (.Call (.Name "enumerate" p) [e] [] pos) (λρ=>δs ρ>>=rf):=by
 intro f8 s σ H R I ⟨F,ρ,S,w⟩;refine Call_ (j9 I hg hm (show aab "enumerate"=some (.type "enumerate") from rfl) (aa8 (cE (ha pos f8 s σ H (λvs H1=>∃F1 ds,Ext F H F1 H1/\DenL X.K F1 ds vs/\WPI X.K Xw F1 H1 (rf ds) R) I ⟨F,ρ,S,WPI.bindL w⟩) λus s1 ⟨vs,H1,I1,r1,F1,ds,e1,q1,w1⟩=>?_) hs rfl));unfold rf at w1;split at w1
 ·rename_i ds;obtain⟨v,rfl,h1⟩:=q1.one;obtain⟨a,xs,rfl,h2,h3,h4⟩:=h1;obtain⟨u,rfl,r2⟩:=r1.one;cases (show u=_ from r2);obtain⟨aL,rv,pl,hz⟩:=I1.list (SqL.of (K:=X.K) (e1.fh _ _ h2));refine call_enumerate_list pl.isList λh' k1 k2 k3 k4=>?_;refine wpAny_pyIter_enum k1 ?_;refine⟨s1.heap.objs.size+1,[s1.heap.objs.size+1,s1.heap.objs.size],_,_,H1,rfl,I1.kept λb o e=>k4 b o e,FF a _ _ (abQ (abG _)),⟨.none,k1,k2⟩,λb hb=>?_,w1 _ _ _ (Ext.refl e1.fh) (Hb (SqL.of h2) h3)⟩;have e:s1.heap.objs.size<=b:=by
   rcases Zw.mp hb with z | z
   ·rw[z];exact afU _
   ·have z:b=s1.heap.objs.size:=by simpa using z
    rw[z];exact Zv _
  exact I1.fpOk e (I1.hok.fresh e)
 ·exact w1.elim
end
def Ks:Key->D
 | .inl i=> .int i
 | .inr x=> .str x
def LV(H:Hp)(d:Addr)(od:Obj)(i:Nat)(x:V):Prop:=
 (∃aB k b,H d=some (.frz od (.dT aB))/\(aB.map (·.1))[i]? =some k/\x= .ref b/\H b=some (.tup (k.map kV)))\/
 ∃aB k,H d=some (.frz od (.dK aB))/\(aB.map (·.1))[i]? =some k/\x=kV k
def Vk(d:Addr)(od:Obj):It:=
 ⟨λi H=>(∃aB,H d=some (.frz od (.dT aB))/\i<aB.length)\/∃aB,H d=some (.frz od (.dK aB))/\i<aB.length,λi H x H'=>H'=H/\LV H d od i x,
  λi H=>(∃aB,H d=some (.frz od (.dT aB))/\aB.length<=i)\/∃aB,H d=some (.frz od (.dK aB))/\aB.length<=i⟩
theorem pR{R:α->β->Prop}(h:∀a b,R a b->f a=g b):∀{l:List α}{m:List β},aea R l m->l.map f=m.map g
 |_,_, .nil=>rfl
 |_,_, .cons r t=>by rw[Zu,Zu,h _ _ r,pR h t]
theorem mf:∀{l:List α}{m:List β}{i:Nat}{a:α},aea R l m->l[i]? =some a->∃b,m[i]? =some b/\R a b
 |_,_,i,_, .nil,e=>by simp at e
 |_,_,0,_, .cons r t,e=>by simp at e;subst e;exact⟨_,rfl,r⟩
 |_,_,i+1,_, .cons r t,e=>by
  obtain⟨b,e1,e2⟩:=mf t (by simpa using e);exact⟨b,by simpa using e1,e2⟩
theorem Fi{w:World}{κ:Type}[DecidableEq κ]{knd:KeyKind prog w κ}:∀{es:List adx}{aB:List (κ×Value)}{i:Nat}{kv:κ×Value},Pairs knd es aB->aB[i]? =some kv->∃e,es[i]? =some e/\knd.is kv.1 e.key=true:=by
 intro es aB i kv h e;induction h generalizing i with
 |nil=>simp at e
 | @cons en Zl J4 YG h1 h2 h3 ih=>
   cases i with
   |zero=>simp at e;subst e;exact⟨en,rfl,h1⟩
   |succ i=>
    obtain⟨q,e1,e2⟩:=ih (by simpa using e);exact⟨q,by simpa using e1,e2⟩
theorem N4(h:rL k u=true):RelV (kV k) u:=by
 rcases cp h with⟨i,t,rfl,rfl⟩ | ⟨x,t,rfl,rfl⟩
 ·exact⟨t,rfl⟩
 ·exact⟨t,rfl⟩
theorem qZ{σ:St}{H:Hp}(I:Inv X f8 σ H s)
 (h:(∃aB,H d=some (.frz od (.dT aB))/\n=aB.length)\/∃aB,H d=some (.frz od (.dK aB))/\n=aB.length):
 ∃es ep,(d==aa3)=false/\s.heap.get? d=some od/\od.ExactDict/\od.data= .dict es ep/\es.size=n/\∀i,i<n->∃e x,es[i]? =some e/\RelV x e.key/\LV H d od i x:=by
 rcases h with⟨aB,e,rfl⟩ | ⟨aB,e,rfl⟩
 ·obtain⟨ho,z,lo,xs,rel,o,es,ep,h1,h2,h3,h4,h5⟩:=(show ObjOk X.prog X.w H s.heap d (.frz od (.dT aB)) from I.hok d _ e)
  rw[ho] at h1;cases h1;have hl:es.size=aB.length:=by
   rw[<-ZC,h4,Zo];exact(abB rel).symm
  refine⟨es,ep,lo,ho,h2,h3,hl,λi hi=>?_⟩;obtain⟨q,e1,e2,e3,e4⟩:=mf rel (Zy hi);refine⟨afA (abO (bo X.prog X.w)) q, .ref q.2.1,?_,rfl, .inl ⟨aB,aB[i].1,q.2.1,e,?_,rfl,e3⟩⟩
  ·rw[<-aaC,h4,ZJ,e1];rfl
  ·rw[ZJ,Zy hi];rfl
 ·obtain⟨ho,z,lo,vs,rel,o,es,ep,h1,h2,h3,h4,h5,h6⟩:=(show ObjOk X.prog X.w H s.heap d (.frz od (.dK aB)) from I.hok d _ e)
  rw[ho] at h1;cases h1;have hl:es.size=aB.length:=by
   rw[<-ZC,h5.length];exact(abB rel).symm
  refine⟨es,ep,lo,ho,h2,h3,hl,λi hi=>?_⟩;obtain⟨q,e1,e2,e3⟩:=mf rel (Zy hi);obtain⟨en,e4,e5⟩:=Fi h5 e1;refine⟨en,kV aB[i].1,by rw[<-aaC];exact e4,?_, .inr ⟨aB,aB[i].1,e,by rw[ZJ,Zy hi];rfl,rfl⟩⟩;rw[e2];exact N4 e5
theorem FG{K:ZE}(d it:Addr)(od:Obj)(es:Array adx)(ep:Nat)(qg:od.data= .dict es ep):
 Turn P w K tg (Vk d od) [it] it (λi h=>h.IsKeyIter it d i es.size ep) where
 mem:=by simp
 obj:=λi h st b hb=>by
  have e:b=it:=by simpa using hb
  subst e;obtain⟨o,e,c,dd⟩:=st;exact⟨o,e,λv z=>by rw[dd] at z;cases z⟩
 keep:=λi h h' st k=>st.at λo e=>k it (by simp) o e
 item:=by
  intro X hP hw hK hc i f8 s σ H E I hf st hg;subst hP hw hK;obtain⟨n,hn,hi⟩:∃n,((∃aB,H d=some (.frz od (.dT aB))/\n=aB.length)\/∃aB,H d=some (.frz od (.dK aB))/\n=aB.length)/\i<n:=by
   rcases hg with⟨aB,e,hi⟩ | ⟨aB,e,hi⟩
   ·exact⟨_, .inl ⟨aB,e,rfl⟩,hi⟩
   ·exact⟨_, .inr ⟨aB,e,rfl⟩,hi⟩
  obtain⟨J4,J0,lo,ho,hx,u7,hsz,hk⟩:=qZ I hn;rw[qg] at u7;cases u7;obtain⟨en,x,e1,rx,ka⟩:=hk i hi;obtain⟨f0,f1,f2,f3,f4,f5⟩:=hf it (by simp);refine zM st ho qg e1 λh' th sb=>?_;have I1:Inv X f8 σ H {s with heap:=h'}:=I.turned (λb o hb e=>(sb.2 b hb).trans e) f0 f1 f3 f4 f5;obtain⟨o,e2,c,dd⟩:=id th;exact⟨_,rfl,u5 e2 c dd (by decide) ⟨x,H,I1,rx,⟨rfl,ka⟩,th,λb hb=>(hf b hb).1⟩⟩
 done:=by
  intro X hP hw hK hc i f8 s σ H E I hf st hg;subst hP hw hK;obtain⟨n,hn,hi⟩:∃n,((∃aB,H d=some (.frz od (.dT aB))/\n=aB.length)\/∃aB,H d=some (.frz od (.dK aB))/\n=aB.length)/\n<=i:=by
   rcases hg with⟨aB,e,hi⟩ | ⟨aB,e,hi⟩
   ·exact⟨_, .inl ⟨aB,e,rfl⟩,hi⟩
   ·exact⟨_, .inr ⟨aB,e,rfl⟩,hi⟩
  obtain⟨J4,J0,lo,ho,hx,u7,hsz,hk⟩:=qZ I hn;rw[qg] at u7;cases u7;obtain⟨f0,f1,f2,f3,f4,f5⟩:=hf it (by simp);exact uU (I.ok.hd hc) st (by omega) ho qg λh' eb=>⟨rfl,I.turned (λb o hb e=>eb b o hb e) f0 f1 f3 f4 f5⟩
 self:=λ_ _ _ _ _ st h=>wpAny_pyIter_keyiter st h
def tupK(k:List Key):D:= .tup (k.map Ks)
def Dx:Key->Bool
 | .inl _=>true
 | .inr x=>decide (x.length<=lim)
def mO:D->M (List D)
 | .dct ks _=>if ks.all (λk=>decide (k.length<=lim)&&k.all Dx) then ae (ks.map tupK) else ag
 | .dci ks _=>if ks.all Dx then ae (ks.map Ks) else ag
 |_=>ag
theorem zw{K:ZE}(h:Dx k=true):Den K F (Ks k) (kV k):=by
 cases k with
 |inl i=>exact rfl
 |inr x=>exact⟨rfl,agi h⟩
theorem vh{K:ZE}:∀{k:List Key},k.all Dx=true->DenL K F (k.map Ks) (k.map kV)
 |[],_=>rfl
 |x::k,h=>by
  rw[acJ,ZM] at h;exact .cons (zw h.1) (vh h.2)
theorem Hc{K:ZE}(hd:Den K F d (.ref a))(hF:∃u,F a=some (.frz ob u))(e:mO d=ae ds):ItD K F (Vk a ob) ds:=λF' H' i s1 s2=>by
 unfold mO at e;split at e
 ·rename_i ks es;split at e
  ·rename_i hok;obtain rfl:=hZ e;obtain⟨a',YK,vs,z,h2,h3,h4,h5⟩:=hd;cases z;obtain⟨u,hu⟩:=hF;rw[h2] at hu;cases hu;have hh:=s2 _ _ (s1 _ _ h2);have hz:=jT (b:=vs) (by rw[h4];exact h3.len);have hl:(ks.zip vs).length=ks.length:=by rw[<-Zo,hz]
   refine⟨λd e=>?_,λhle=> .inl ⟨_,hh,by rw[hl];simpa using hle⟩⟩;rw[ZJ] at e;cases q:ks[i]? with
   |none=>rw[q] at e;cases e
   |some k=>
    rw[q] at e;cases e;have hi:=(ZI.mp q).1;refine⟨.inl ⟨_,hh,by rw[hl];exact hi⟩,λx H'' ⟨y1,y2⟩=>?_⟩;subst y1;have hk:=aan.mp hok k (aak q);rw[ZM] at hk;rcases y2 with⟨aB,k',b,q1,q2,rfl,q3⟩ | ⟨aB,k',q1,q2,rfl⟩
    ·rw[hh] at q1;cases q1;rw[hz,q] at q2;cases q2;have E:=Ext.tup s2 q3;exact⟨_,E,b,_,rfl,aJ,vh hk.2,by rw[Zo];exact agi hk.1⟩
    ·rw[hh] at q1;cases q1
  ·exact(kK e).elim
 ·rename_i ks es;split at e
  ·rename_i hok;obtain rfl:=hZ e;obtain⟨a',YK,vs,z,h2,h3,h4,h5⟩:=hd;cases z;obtain⟨u,hu⟩:=hF;rw[h2] at hu;cases hu;have hh:=s2 _ _ (s1 _ _ h2);have hz:=jT (b:=vs) (by rw[h4];exact h3.len);have hl:(ks.zip vs).length=ks.length:=by rw[<-Zo,hz]
   refine⟨λd e=>?_,λhle=> .inr ⟨_,hh,by rw[hl];simpa using hle⟩⟩;rw[ZJ] at e;cases q:ks[i]? with
   |none=>rw[q] at e;cases e
   |some k=>
    rw[q] at e;cases e;have hi:=(ZI.mp q).1;refine⟨.inr ⟨_,hh,by rw[hl];exact hi⟩,λx H'' ⟨y1,y2⟩=>?_⟩;subst y1;have hk:=aan.mp hok k (aak q);rcases y2 with⟨aB,k',b,q1,q2,rfl,q3⟩ | ⟨aB,k',q1,q2,rfl⟩
    ·rw[hh] at q1;cases q1
    ·rw[hh] at q1;cases q1;rw[hz,q] at q2;cases q2;exact⟨F',Ext.refl s2,zw hk⟩
  ·exact(kK e).elim
 ·exact(kK e).elim
section
variable{X:Cx}{Xw:Nat->Hp->Prop}{tg l:Expr}{δ:DE}
theorem Ab(h:PD X Xw l δ):Cu X Xw tg l (λρ=>δ ρ>>=mO):=by
 intro f8 s σ H R I ⟨F,ρ,S,w⟩;refine cE (h f8 s σ H (λv H1=>∃F1 d,Ext F H F1 H1/\Den X.K F1 d v/\WPI X.K Xw F1 H1 (mO d) R) I ⟨F,ρ,S,WPI.bind w⟩) λu s1 ⟨v,H1,I1,r1,F1,d,e1,q1,w1⟩=>?_;rcases(mO d).cs with z | ⟨n,z⟩ | ⟨ds,z⟩
 ·rw[z] at w1;exact w1.elim
 ·exfalso
  unfold mO at z;split at z
  ·split at z<;>cases z
  ·split at z<;>cases z
  ·cases z
 ·rw[z] at w1;obtain⟨a,ob,u',rfl,hF,hn⟩:∃a ob u',v= .ref a/\F1 a=some (.frz ob u')/\∃n,((∃aB,H1 a=some (.frz ob (.dT aB))/\n=aB.length)\/∃aB,H1 a=some (.frz ob (.dK aB))/\n=aB.length):=by
   unfold mO at z;split at z
   ·obtain⟨a,ob,vs,e,h2,_⟩:=q1;exact⟨a,ob,_,e,h2,_, .inl ⟨_,e1.fh _ _ h2,rfl⟩⟩
   ·obtain⟨a,ob,vs,e,h2,_⟩:=q1;exact⟨a,ob,_,e,h2,_, .inr ⟨_,e1.fh _ _ h2,rfl⟩⟩
   ·exact(kK z).elim
  obtain⟨n,hn⟩:=hn;cases (show u=_ from r1);obtain⟨es,ep,lo,ho,hx,hd,hsz,hk⟩:=qZ I1 hn;refine vf lo ho hx hd ?_;refine⟨s1.heap.objs.size,[s1.heap.objs.size],_,_,H1,rfl,I1.kept (t':=s1.toks) λb o e=>Zr _ e,FG a _ ob es ep hd,⟨_,ZL _ rfl,rfl,rfl⟩,λb hb=>?_,w1 _ _ _ (Ext.refl e1.fh) (Hc q1 ⟨_,hF⟩ z)⟩;have e:b=s1.heap.objs.size:=by simpa using hb
  subst e;exact I1.fpOk (Zv _) (I1.hok.fresh (Zv _))
end
end L3
namespace L3
open PySem
section
variable{prog:Z5}{w:World}{K:Type}[DecidableEq K]{knd:HeapKind prog w K}{A:aao}{E:Value->Zt->Prop}{s:Zt}
theorem sY(hu:knd.room A)(EF:knd.is s.heap k a)(hm:s.heap.DictOfH knd d xs)(hsz:xs.length<=ZQ)
 (hQ:∀h',h'.DictOfH knd d (acN xs k a v)->abe d s.heap h'->Q () {s with heap:=h'}):wpAny (model prog w) A (aej d (.ref a) (knd.hash k) v) Q E s:=by
 obtain⟨o,es,ep,ho,hc,hd,he,TL,hn⟩:=hm;unfold aej;refine aaA (Zn (wpAny_dictFind_heap hu EF ho hd he TL hn (λwC=>?_) λj p hj=>?_))
 ·have e0:=atKey_none_of_get wC;have hz:es.size<=ZQ:=by rw[ae1 he];exact hsz
  refine Zn (wpAny_rule (wpAny_updateDictKeys ho hd (hQ _ ?_ (aah ..))));rw[storedH_new e0];refine⟨_,_,ep+1,aaE _ ho (adU (acI hd _)),hc.mapDictKeys _,acI hd _,by simp[he,afA],λx hx=>?_,?_⟩
  ·rcases Z9.mp hx with hx | hx
   ·exact knd.keeps (TL x hx) ho hd (aah ..)
   ·obtain rfl:x=(k,a,v):=by simpa using hx
    exact knd.keeps EF ho hd (aah ..)
  ·rw[aaw];refine aaY.mpr ⟨hn,by simp,λx hx y hy z=>?_⟩;have hy:y=k:=by simpa using hy
   exact not_mem_keys_of_get wC (by rw[<-hy,<-z];exact hx)
 ·have e0:=atKey_of_get hn hj;refine Zn (wpAny_rule (Zn (wpAny_updateDict ho hd (wpAny_point (hQ _ ?_ (aah ..))))));rw[storedH_old e0];refine⟨_,_,ep,aaE _ ho (adU (Obj.data_mapDict hd _)),hc.mapDict _,Obj.data_mapDict hd _,?_,λx hx=>?_,by rw[keys_map_putAt];exact hn⟩
  ·have:=modify_map_putAt (afA knd) (λe:adx=>{e with val:=v}) k v (λ_ _=>rfl) hn hj;rw[<-he] at this;obtain⟨l⟩:=es;simpa using this
  ·obtain⟨y,hy,rfl⟩:=Zx.mp hx;unfold putAt;split<;>exact knd.keeps (TL y hy) ho hd (aah ..)
def bQ(xs ys:List (K×Addr×Value)):List (K×Addr×Value):=ys.foldl (λu8 y=>acN u8 y.1 y.2.1 y.2.2) xs
theorem Aw(xs:List (K×Addr×Value))(k:K)(a:Addr)(v:Value):(acN xs k a v).length<=xs.length+1:=by
 unfold acN;split<;>simp
theorem ke:∀(ys xs:List (K×Addr×Value)),(bQ xs ys).length<=xs.length+ys.length
 |[],xs=>Zv _
 |y::ys,xs=>by
  have h1:=ke ys (acN xs y.1 y.2.1 y.2.2);have h2:=Aw xs y.1 y.2.1 y.2.2;show (bQ (acN xs y.1 y.2.1 y.2.2) ys).length<=_;rw[Zz];omega
theorem mT{xs ys:List (K×Addr×Value)}(h:ys[i]? =some y):bQ xs (ys.take (i+1))=acN (bQ xs (ys.take i)) y.1 y.2.1 y.2.2:=by
 rw[List.take_add_one,h];unfold bQ;rw[af9];rfl
theorem kf:∀(ys u8:List (K×Addr×Value)),((u8++ys).map (·.1)).Nodup->bQ u8 ys=u8++ys
 |[],u8,_=>by simp[bQ]
 |y::ys,u8,hn=>by
  show bQ (acN u8 y.1 y.2.1 y.2.2) ys=_;have TZ:y.1∉u8.map (·.1):=λh=>by
   rw[aaw] at hn;exact(aaY.mp hn).2.2 _ h _ (by simp) rfl
  have e0:atKey u8 y.1=none:=atKey_none_of_get λj p hj=>TZ (Zx.mpr ⟨_,aak hj,rfl⟩);rw[storedH_new e0,kf ys (u8++[(y.1,y.2.1,y.2.2)]) (by simpa using hn)];simp
theorem wj{id:String}(ho:s.heap.get? o=some ob)(hd:ob.data= .dict es ep)
 (hq:∀e∈es.toList,∃a,e.key= .ref a/\s.TypeIs (.ref a) "tuple")(hh:∀e∈es.toList,(es.filter (·.hash==e.hash)).size<=1)(h:Q es s):wpAny (model prog w) A (adM id o) Q E s:=by
 unfold adM;refine Zn (abm ho hd ?_);rw[<-adX];refine Zn (acf _ (λW1 _ s'=>s'=s/\∀e∈W1,e∈es.toList) _ ?_ ?_ _ _ ⟨rfl,λ_ h=>h⟩)
 ·rintro e W1 b s' ⟨rfl,hr⟩;obtain⟨a,ea,ta⟩:=hq e (hr e (Zq ..));have hf:=hh e (hr e (Zq ..));have dO:¬((es.filter (·.hash==e.hash)).size>1):=by omega
  rw[ea];unfold Builtin.Dict.quietEq;refine Zn (Zn (adQ ta F.slot_tuple_eq.lookup (Zs ?_)));simp only[dO,if_false];have:(some (ace "tuple.__eq__")==some (ace "object.__eq__"))=false:=by decide
  simp only[this,acW,if_true];exact Zs ⟨rfl,λx hx=>hr x (Zp _ hx)⟩
 ·rintro b s' ⟨rfl,_⟩;exact Zs h
theorem r_(hu:knd.room A)(VP:d≠o)(X9:(o==aa3)=false)(hd:s.heap.DictOfH knd d xs)(ho:s.heap.DictOfH knd o ys)
 (XU:∀{h:Heap}{k:K}{a:Addr},knd.is h k a->∃ob,h.get? a=some ob/\ob.cls= .type "tuple")(hh:xs=[]->(ys.map λy=>knd.hash y.1).Nodup)(hsz:xs.length+ys.length<=ZQ)
 (hQ:∀h',h'.DictOfH knd d (bQ xs ys)->abe d s.heap h'->Q () {s with heap:=h'}):wpAny (model prog w) A (aef nm d o) Q E s:=by
 obtain⟨od,WS,WO,EH,u6,qg,Xr,Za,zo⟩:=id hd;obtain⟨oo,Be,WQ,QE,Y8,ED,FP,TK,wC⟩:=id ho;have T0:=ae1 FP;unfold aef;rw[age (by simpa using VP)];unfold acV;rw[age (by rw[X9];exact Z1)];refine Zn (Zs (Zn (abm QE ED ?_)));have loop:∀(body:Nat->PUnit->Sem (ForInStep PUnit)),body=(λi (_:PUnit)=>(do
       let l'<-dictEntries o
       match l'[i]? with
        |some e=>do
         holding [e.key,e.val] (aej d e.key e.hash e.val)
         let J0<-dictEpoch o
         if (J0 !=WQ)=true then do (unsupported (ad1 nm++ad1 ":source-changed-during-callback"):Sem PUnit);pure (aaG acs) else pure (aaG acs)
        |_=>do
         (unsupported "internal:dict-merge":Sem PUnit)
         pure (aaG acs):Sem (ForInStep PUnit)))->wpAny (model prog w) A (forIn [:Be.size] acs body) (λ_ s'=>Q () s') E s:=by
  rintro _ rfl;rw[Std.Legacy.Range.forIn_eq_forIn_range'];simp only[Std.Legacy.Range.size,Nat.sub_zero,Nat.add_sub_cancel,Nat.div_one];refine acf _ (λW1 _ s'=>∃h' i,s'={s with heap:=h'}/\W1=aaD i (Be.size - i)/\i<=Be.size/\h'.DictOfH knd d (bQ xs (ys.take i))/\h'.get? o=some oo/\abe d s.heap h') _ ?_ ?_ _ _
   ⟨s.heap,0,rfl,by simp,aae _,by simpa[bQ] using hd,QE,aeJ _ _⟩
  ·rintro x W1 b s' ⟨h',i,rfl,hr,hi,u7,NK,C7⟩;have dO:i<Be.size:=by
    by_cases h:i<Be.size
    ·exact h
    ·rw[show Be.size - i=0 by omega] at hr;simp at hr
   rw[show Be.size - i=(Be.size - (i+1))+1 by omega,adl] at hr;injection hr with h1 h2
   subst h1;refine Zn (abm NK ED ?_);obtain⟨y,hy⟩:∃y,ys[x]? =some y:=⟨_,Zy (by omega)⟩
   rw[entry_at FP x,hy];have X5:(bQ xs (ys.take x)).length<=ZQ:=by
    have e1:=ke (ys.take x) xs;rw[ab6] at e1;omega
   have XW:knd.is h' y.1 y.2.1:=knd.keeps (TK y (aak hy)) EH qg C7;refine Zn (aaA (sY hu XW u7 X5 λVz Tw QK=>?_));have Mp:Vz.get? o=some oo:=(QK.2 o (aaz VP)).trans NK;refine Zn (acY Mp ED ?_);rw[age (by simp)];exact Zs ⟨Vz,x+1,rfl,h2,dO,by rw[mT hy];exact Tw,Mp,C7.trans QK⟩
  ·rintro b s' ⟨h',i,rfl,hr,hi,u7,NK,C7⟩;have jz:i=Be.size:=by
    by_cases h:i<Be.size
    ·rw[show Be.size - i=(Be.size - (i+1))+1 by omega,adl] at hr;exact nomatch hr
    ·omega
   refine hQ h' ?_ C7;rw[jz,T0,aeg] at u7;exact u7
 have go:wpAny (model prog w) A (do
  let Qa<-dictEpoch o
  let l<-dictEntries o
  forIn [:l.size] acs λi (_:PUnit)=>(do
   let l'<-dictEntries o
   match l'[i]? with
    |some e=>do
     holding [e.key,e.val] (aej d e.key e.hash e.val)
     let J0<-dictEpoch o
     if (J0 !=Qa)=true then do (unsupported (ad1 nm++ad1 ":source-changed-during-callback"):Sem PUnit);pure (aaG acs) else pure (aaG acs)
    |_=>do
     (unsupported "internal:dict-merge":Sem PUnit)
     pure (aaG acs):Sem (ForInStep PUnit))
  pure ()) Q E s:=by
  refine Zn (acY QE ED (Zn (abm QE ED (Zn ?_))));exact aaF (loop _ rfl) (λ_ _ h=>Zs h) λ_ _ h=>h
 dsimp only
 split
 ·refine Zn (abm EH qg ?_);split
  ·rename_i NA;have QP:xs=[]:=by
    have h0:WS= #[]:=af3.mp NA;have:=ae1 Xr;rw[h0] at this;exact adh.mp (by simpa using this.symm)
   subst QP;have X6:=hh rfl;refine Zn (wj QE ED (λe he=>?_) (λe he=>?_) ?_)
   ·rw[FP] at he;obtain⟨y,hy,rfl⟩:=Zx.mp he;obtain⟨ob,h1,h2⟩:=XU (TK y hy);exact⟨y.2.1,rfl,ob,h1,h2⟩
   ·have:(Be.filter (·.hash==e.hash)).size=((ys.map λy=>knd.hash y.1).filter (· ==e.hash)).length:=by
     rw[<-ZC,afy,FP,adD,adD,Zo,Zo];rfl
    rw[this];have hc:=List.nodup_iff_count.mp X6 e.hash;rw[List.count_eq_countP,List.countP_eq_length_filter] at hc;exact hc
   ·have hm:bQ ([]:List (K×Addr×Value)) ys=ys:=by
     rw[kf ys [] (by simpa using wC)];rfl
    rw[hm] at hQ;split
    ·have Yo:Be.size<=ZQ+1:=by simp at hsz;omega
     refine Zn (wpAny_updateDictKeysTo EH qg (Zs (hQ _ ⟨_,_,WO+1,aaE _ EH (adU (acI qg _)),u6.mapDictKeys _,acI qg _,FP,λx hx=>?_,wC⟩ (aah ..))) Yo);exact knd.keeps (TK x hx) EH qg (aah ..)
    ·rename_i iV;have h0:Be= #[]:=af3.mp (by simpa using iV);have X1:ys=[]:=adh.mp (by rw[<-T0,h0];rfl);subst X1;exact Zs (hQ _ hd (aeJ _ _))
  ·exact go
 ·exact go
end
end L3
namespace L3
open PySem PySem.Spec L2
open PyProof.Rows hiding St
theorem LP(h1:(abO (bo P w)).is h k a):∃ob,h.get? a=some ob/\ob.cls= .type "tuple":=by
 obtain⟨ob,aL,n,q1,q2,_⟩:=h1;exact⟨ob,q1,q2⟩
def kc(aB more:List (List Key×V)):List (List Key×V):=more.foldl (λu8 kv=>putK u8 kv.1 kv.2) aB
theorem Dr:∀{more:List (List Key×V)}{ys:List (List Key×Addr×Value)},KT H more ys->∀{aB:List (List Key×V)}{xs:List (List Key×Addr×Value)},KT H aB xs->KT H (kc aB more) (bQ xs ys)
 |_,_, .nil,_,_,q=>q
 |_,_, .cons h t,aB,xs,r=>by
  refine Dr t ?_;have:=KT.put r _ h.2.1 h.2.2;rw[h.1] at this;show KT H (putK aB _ _) (acN xs _ _ _);rw[h.1];exact this
theorem rO:∀(more aB:List (List Key×V)),(kc aB more).length<=aB.length+more.length
 |[],aB=>Zv _
 |p::r,aB=>by
  have h1:=rO r (putK aB p.1 p.2);have h2:=fS aB p.1 p.2;show (kc (putK aB p.1 p.2) r).length<=_;rw[Zz];omega
def fe(k:List Int):Int:=reduceHash (adW (k.map hashInt))
theorem GS(k:List Int):(abO (bo P w)).hash (qh k)=fe k:=by
 show reduceHash (adW ((qh k).map (QY w)))=_;unfold fe qh;rw[aap];rfl
section
variable{X:Cx}{f8:List (Addr×Obj)}{σ:St}{H:Hp}{s:Zt}{a b:Addr}{A:aao}{E:Value->Zt->Prop}
theorem Gn{ks:List (List Int)}(hu:A.units+2<cLine)(I:Inv X f8 σ H s)(ha:H a=some (.dT aB))(hb:Rd H b (.dT more))(Tq:a≠b)(hk:more.map (·.1)=ks.map qh)
 (hh:aB=[]->(ks.map fe).Nodup)(hz:aB.length+more.length<=ZQ)(h:∀s',Inv X f8 σ (upd H a (.dT (kc aB more))) s'->Q .none s'):
 wpAny (model X.prog X.w) A (call (.builtin "dict.update") [.ref a, .ref b]) Q E s:=by
 obtain⟨z1,lo1,xs,RM,Sf⟩:=Gs I.hok ha;obtain⟨z2,YI,ys,Lq,AU⟩:=mD I.hok hb;have l1:=abB RM;have l2:=abB Lq;have hT:=Sf.typeIs;refine acg aeo hT PySem.F.entry_dict_update ?_ (PySem.F.args_dict_update_2 _ _);unfold ac5.«dict.update»;refine Zn ?_;unfold ad7;refine Zn (adR hT ?_);show wpAny _ _ (pure (a,[Z6 b])) _ _ s;refine Zs ?_;show wpAny _ _ (abZ "dict.update" a (.ref b) [] .none) _ _ s;unfold abZ;refine Zn (aeE AU.typeIs ?_);rw[age (by decide)];refine Zn ?_;unfold Builtin.Dict.merge;refine Zn ?_;unfold Builtin.Dict.readDirectly;refine Zn (wpAny_isInstance AU.typeIs isSubtype_dict_dict ?_);simp only[adi,ZU,if_false];refine Zn (adQ AU.typeIs PySem.F.slot_dict_iter.lookup (Zs ?_));simp only[beq_self_eq_true,if_true];refine Zn (Zs ?_);refine r_ (show A.in1.units<cLine by show A.units+1<cLine;omega) Tq YI Sf AU LP (λe0=>?_) (by omega) λh' Eu C7=>?_
 ·have e1:aB=[]:=adh.mp (by rw[l1,e0];rfl);have:=hh e1;have e2:(ys.map λy=>(abO (bo X.prog X.w)).hash y.1)=ks.map fe:=by
   have e3:more.map (·.1)=ys.map (·.1):=pR (λ_ _ r=>r.1) Lq;rw[show (λy:List Key×Addr×Value=>(abO (bo X.prog X.w)).hash y.1)=(abO (bo X.prog X.w)).hash∘(·.1) from rfl,<-aap,<-e3,hk,aap];exact adN λk _=>GS k
  rw[e2];exact this
 ·show wpAny _ _ (ad8 a []>>=_) _ _ _;refine Zn (Zs (Zs ⟨.none,rfl,h _ ?_⟩));obtain⟨q,es,ep,hq,h2,h3,h4,_,h5⟩:=Eu;have hl:(kc aB more).length<=ZQ:=by have:=rO more aB;omega
  refine mC I (by rw[ha];exact abz) C7 ⟨q,hq⟩ ⟨hl,lo1,_,(Dr Lq RM).keeps λc ys ec=>?_,q,es,ep,hq,h2,h3,h4,h5⟩;rw[ax (Hx ec ha (λz=>nomatch z))];exact ec
end
def dj(ks:List (List Key))(ds:List D):List (List Key)->List D->List (List Key)×List D
 |k::ks',d::ds'=>dj (dH ks ds k) (cX ks ds k d) ks' ds'
 |_,_=>(ks,ds)
def Jo(ks:List (List Key))(ds:List D):D->Option C
 | .dct ks' ds'=>match fE ks' with
   |some ns=>if ds.length+ds'.length<=lim/\(ks.isEmpty=true->(ns.map fe).Nodup) then some (.dct (dj ks ds ks' ds').1 (dj ks ds ks' ds').2) else none
   |none=>none
 |_=>none
theorem rY{K:ZE}:∀{ks':List (List Key)}{ds':List D}{iH:List V}{ks:List (List Key)}{ds:List D}{vs:List V},DenL K F ds' iH->ks'.length=ds'.length->DenL K F ds vs->ks.length=ds.length->
 ∃ws,kc (ks.zip vs) (ks'.zip iH)=(dj ks ds ks' ds').1.zip ws/\DenL K F (dj ks ds ks' ds').2 ws/\(dj ks ds ks' ds').1.length=(dj ks ds ks' ds').2.length
 |[],[],iH,ks,ds,vs,h',_,h,hl=>⟨vs,rfl,h,hl⟩
 |k::ks',d::ds',iH,ks,ds,vs,⟨v,r,e,h1,h2⟩,zl,h,hl=>by
  subst e;obtain⟨ws,e1,e2,e3⟩:=xD h1 k h hl;obtain⟨us,q1,q2,q3⟩:=rY h2 (by simpa using zl) e2 e3;refine⟨us,?_,q2,q3⟩;show kc (putK (ks.zip vs) k v) (ks'.zip r)=_;rw[e1];exact q1
 |[],_::_,_,_,_,_,_,zl,_,_=>by simp at zl
 |_::_,[],_,_,_,_,_,zl,_,_=>by simp at zl
theorem ID[DecidableEq κ]{k:κ}(hl:ks.length=ds.length):(cX ks ds k d).length<=ds.length+1:=by
 unfold cX;split
 ·rw[ku ks ds k d hl];omega
 ·simp
theorem IE[DecidableEq κ]{k:κ}(hl:ks.length=ds.length):(dH ks ds k).length=(cX ks ds k d).length:=by
 unfold cX dH;split
 ·rw[ku ks ds k d hl];exact hl
 ·simp[hl]
theorem rZ:∀{ks':List (List Key)}{ds':List D}{ks:List (List Key)}{ds:List D},ks.length=ds.length->(dj ks ds ks' ds').2.length<=ds.length+ds'.length
 |[],ds',ks,ds,_=>by show ds.length<=_;omega
 |_::_,[],ks,ds,_=>by show ds.length<=_;simp
 |k::ks',d::ds',ks,ds,hl=>by
  have h1:=rZ (ks':=ks') (ds':=ds') (ks:=dH ks ds k) (ds:=cX ks ds k d) (IE hl);have h2:=ID (k:=k) (d:=d) hl;show (dj (dH ks ds k) (cX ks ds k d) ks' ds').2.length<=_;rw[Zz];omega
section
variable{X:Cx}{Xw:Nat->Hp->Prop}{o e:Expr}{δ:DE}{pos p apos bq:Pos}{x:Str}{i:Nat}
def Fv(i:Nat)(δ:DE):DS:=λρ=>match xo ρ i with
 |some (.dct ks ds)=>δ ρ>>=λd=>match Jo ks ds d with
  |some c'=>ae (.nx (ρ.set i (some (.ow c'))))
  |none=>ag
 |_=>ag
theorem OO(hu:X.A.units+2<cLine)(ho:PE X o td)(he:PE X e ty)(m:M1 X o "update" apos e bq):
 PE X (.Call (.Attribute o "update" apos) [e] [] bq) (λσ H Q=>td σ H λx H1=>∃a,x= .ref a/\PK H1 a/\ty σ H1 λy H2=>∃(b:Addr) (aB more:List (List Key×V)) (ks:List (List Int)),y= .ref b/\H2 a=some (.dT aB)/\Rd H2 b (.dT more)/\a≠b/\more.map (·.1)=ks.map qh/\(aB=[]->(ks.map fe).Nodup)/\aB.length+more.length<=ZQ/\Q .non (upd H2 a (.dT (kc aB more)))):=by
 intro f8 s σ H Q I h;refine aev m.base m.few m.line ac2 aeo (by rfl) (cE (ho f8 s σ H _ I h) λu s1 ⟨x,H1,I1,rx,a,ex,d,q1⟩=>?_);subst ex;obtain rfl:u=Z6 a:=rx;obtain⟨t1,t2,_⟩:=Bv I1 d;refine⟨t1,t2,?_⟩;rw[m.trees];refine acr rfl (abY (abr (cE (he f8 s1 σ H1 _ I1 q1) λiv s2 ⟨y,H2,I2,ry,b,aB,more,ks,ey,k1,k2,k3,k4,k5,k6,q2⟩=>abS ?_)));subst ey;obtain rfl:iv=Z6 b:=ry;exact Gn hu I2 k1 k2 k3 k4 k5 k6 λs3 I3=>⟨.non,_,I3,rfl,q2⟩
theorem DP(hu:X.A.units+64<cLine)(hv:PE X (.Name x p) (tu i))(he:PD X Xw e δ)(m:M1 X (.Name x p) "update" apos e bq)(hs:adq (.Call (.Attribute (.Name x p) "update" apos) [e] [] bq) none pos.line X.env=pure false:=by rfl):
 jm X Xw (.Expr (.Call (.Attribute (.Name x p) "update" apos) [e] [] bq) pos) (Fv i δ):=λs0 agn=>PS.weak (qF (OO (by omega) hv he m) hs) λD σ H ⟨F,ρ,s,w⟩=>by
 unfold Fv at w;split at w
 ·rename_i ks ds Sz;have hi:=vn Sz;obtain⟨v,SD,a,oh,rfl,hH,hF,vs,rfl,hd,hl,hz⟩:=s.st.den i _ hi;refine⟨.ref a,SD,a,rfl, .inr ⟨_, .inl hH⟩,F,ρ,s.st,?_⟩;rcases(δ ρ).cs with q | ⟨n,q⟩ | ⟨d,q⟩
  ·rw[q] at w;exact w.elim
  ·rw[q] at w⊢;exact λF' H' e'=>w F' H' (s.ext.trans e')
  ·rw[q] at w⊢;intro u H1 F1 e1 hq;have w:WPS X.K Xw s0 agn (match Jo ks ds d with | some c'=>ae (.nx (ρ.set i (some (.ow c')))) | none=>ag) D:=w;cases d with
   |dct ks' ds'=>
    obtain⟨b,ob,iH,rfl,k2,k3,k4,k5⟩:=hq;cases hc:Jo ks ds (.dct ks' ds') with
    |none=>rw[hc] at w;exact w.elim
    |some c'=>
     rw[hc] at w;have hc:(match fE ks' with | some ns=>if ds.length+ds'.length<=lim/\(ks.isEmpty=true->(ns.map fe).Nodup) then some (C.dct (dj ks ds ks' ds').1 (dj ks ds ks' ds').2) else none | none=>none)=some c':=hc;cases hn:fE ks' with
     |none=>rw[hn] at hc;cases hc
     |some ns=>
      rw[hn] at hc;have hc:(if ds.length+ds'.length<=lim/\(ks.isEmpty=true->(ns.map fe).Nodup) then some (C.dct (dj ks ds ks' ds').1 (dj ks ds ks' ds').2) else none)=some c':=hc;split at hc
      ·rename_i Qm;cases hc;have Sr:=DenL.mono e1.ff hd;have l1:=Sr.len;have l2:=k3.len;have Tq:a≠b:=λz=>by
        have:=e1.old hH (λ_ z=>nomatch z);rw[hF,z,k2] at this;cases this
       obtain⟨ws,m1,m2,m3⟩:=rY k3 k4 Sr hl;refine⟨b,ks.zip vs,ks'.zip iH,ns,rfl,e1.hh _ _ hH, .inr ⟨ob,e1.fh _ _ k2⟩,Tq,by rw[jT (by rw[k4];exact l2),kT hn],λz=>Qm.2 ?_,?_,?_⟩
       ·have:=jT (a:=ks) (b:=vs) (by rw[hl];exact l1);rw[z] at this;rw[<-this];rfl
       ·rw[abA,abA];have:=d_;omega
       ·rw[m1];exact w σ F1 _ ((s.ext' e1).chg hi SD ⟨ws,rfl,m2,m3,by have:=rZ (ks':=ks') (ds':=ds') hl;omega⟩)
      ·cases hc
   |_=>exact w.elim
 ·exact w.elim
end
section
variable{X:Cx}{Xw:Nat->Hp->Prop}{o e f:Expr}{δo δe δf:DE}{apos bq:Pos}{x:Str}
def G_:D->Bool
 | .dct _ _=>true
 | .dci _ _=>true
 |_=>false
theorem C_{K:ZE}{F H:Hp}{d:D}{x:V}(s:Same F H)(hd:Den K F d x)(e:G_ d=true):∃a,x= .ref a/\PK H a:=by
 cases d with
 |dct ks ds=>obtain⟨a,ob,vs,rfl,h2,_⟩:=hd;exact⟨a,rfl, .inr ⟨_, .inr ⟨ob,s _ _ h2⟩⟩⟩
 |dci ks ds=>obtain⟨a,ob,vs,rfl,h2,_⟩:=hd;exact⟨a,rfl, .inl ⟨_, .inr ⟨ob,s _ _ h2⟩⟩⟩
 |_=>cases e
def getM(d k v:D):M D:=match Cy d k with
 |some (some x)=>ae x
 |some none=>ae v
 |none=>ag
def P1(δo δe:DE):DE:=λρ=>δo ρ>>=λd=>if G_ d then δe ρ>>=λk=>getM d k .non else ag
def uQ(δo δe δf:DE):DE:=λρ=>δo ρ>>=λd=>if G_ d then δe ρ>>=λk=>δf ρ>>=λv=>getM d k v else ag
theorem zf{F H:Hp}{d k v:D}{a:Addr}{y z:V}{Q:VK}(s:Same F H)(q1:Den X.K F d (.ref a))(q2:Den X.K F k y)(q3:Den X.K F v z)(w:WP X.K Xw F H (getM d k v) Q):∃ov,lR H a y ov/\Q (ov.getD z) H:=by
 unfold getM at w;cases Ju:Cy d k with
 |none=>rw[Ju] at w;exact w.elim
 |some o'=>
  rw[Ju] at w;obtain⟨a',ov,zz,h2,h3,h4⟩:=vS s q1 q2 Ju;cases zz;refine⟨ov,h2,?_⟩;cases o' with
  |none=>
   cases ov with
   |none=>exact WP.now w s q3
   |some _=>cases h3
  |some d'=>
   obtain⟨v,rfl,hv⟩:=h4 d' rfl;exact WP.now w s hv
theorem SN(hu:X.A.units+64<cLine)(ho:PD X Xw o δo)(he:PD X Xw e δe)(m:M1 X o "get" apos e bq):PD X Xw (.Call (.Attribute o "get" apos) [e] [] bq) (P1 δo δe):=
 PE.weak (Ik (by omega) ho he m) λσ H Q ⟨F,ρ,s,w⟩=>by
  refine⟨F,ρ,s,WP.mono (WP.bind w) λx H1 ⟨F1,d,e1,q1,w1⟩=>?_⟩;split at w1
  ·rename_i hd;obtain⟨a,rfl,Uw⟩:=C_ e1.fh q1 hd;refine⟨a,rfl,Uw,F1,ρ,s.ext e1,WP.mono (WP.bind w1) λy H2 ⟨F2,k,e2,q2,w2⟩=>?_⟩;exact zf (v:= .non) (z:= .non) e2.fh (Den.mono e2.ff q1) q2 (show V.non=V.non from rfl) w2
  ·exact w1.elim
theorem K0(hu:X.A.units+64<cLine)(ho:PD X Xw o δo)(he:PD X Xw e δe)(hf:PD X Xw f δf)(m:M2 X o "get" apos e f bq):PD X Xw (.Call (.Attribute o "get" apos) [e,f] [] bq) (uQ δo δe δf):=
 PE.weak (Il (by omega) ho he hf m) λσ H Q ⟨F,ρ,s,w⟩=>by
  refine⟨F,ρ,s,WP.mono (WP.bind w) λx H1 ⟨F1,d,e1,q1,w1⟩=>?_⟩;split at w1
  ·rename_i hd;obtain⟨a,rfl,Uw⟩:=C_ e1.fh q1 hd;refine⟨a,rfl,Uw,F1,ρ,s.ext e1,WP.mono (WP.bind w1) λy H2 ⟨F2,k,e2,q2,w2⟩=>?_⟩;refine⟨F2,ρ,(s.ext e1).ext e2,WP.mono (WP.bind w2) λz H3 ⟨F3,v,e3,q3,w3⟩=>?_⟩;exact zf e3.fh (Den.mono e3.ff (Den.mono e2.ff q1)) (Den.mono e3.ff q2) q3 w3
  ·exact w1.elim
end
section
variable{a:Expr}
end
def Bm:List Nat->LX
 |[]=>Qh
 |i::is=>Mf (GL i) (Bm is)
def B7:List Nat->List D->cJ->cJ
 |i::is,d::ds,ρ=>B7 is ds (ρ.set i (some (.fz d)))
 |_,_,ρ=>ρ
def sP(is:List Nat):D->cJ->Option cJ
 | .tup ds,ρ=>if ds.length=is.length then some (B7 is ds ρ) else none
 |_,_=>none
theorem vF{K:ZE}{s0 agn F H:Hp}{Q:St->Hp->Prop}:∀(is:List Nat) (ds:List D) (vs:List V) (σ:St) (ρ:cJ),ds.length=is.length->StOk K s0 agn F H σ ρ->DenL K F ds vs->(∀σ',StOk K s0 agn F H σ' (B7 is ds ρ)->Q σ' H)->Bm is vs σ H Q
 |[],[],vs,σ,ρ,_,s,h,k=>⟨h,k σ s⟩
 |i::is,d::ds,vs,σ,ρ,hl,s,⟨v,r,e,h1,h2⟩,k=>by
  subst e;exact⟨v,r,rfl,vF is ds r _ _ (by simpa using hl) (s.set h1) h2 k⟩
 |[],_::_,_,_,_,hl,_,_,_=>by simp at hl
 |_::_,[],_,_,_,hl,_,_,_=>by simp at hl
theorem xE{K:ZE}{is:List Nat}:FV K (Qi K is.length (Bm is)) (sP is):=λs0 agn F H σ ρ ρ' d v Q s q e k=>by
 unfold sP at e;split at e
 ·rename_i ds;split at e
  ·rename_i hl;cases e;obtain⟨a,vs,rfl,hs,hd,_⟩:=q;exact⟨a,vs,rfl,SqT.of (s.st.fh _ _ hs),by rw[<-hd.len];exact hl,vF is ds vs σ ρ hl s hd k⟩
  ·cases e
 ·cases e
section
variable{prog:Z5}{w:World}{A:aao}{E:Value->Zt->Prop}{s:Zt}
theorem E5{good:Heap->Prop}(hh:A.handled=none)(iV:T≠I)(Sk:S≠I)(Xf:S≠T)
 (hg:∀h h',(∀c o,c≠I->c≠S->h.get? c=some o->h'.get? c=some o)->good h->good h')
 (Nz:∀(h':Heap) (tk:Nat) (Q':Value->Zt->Prop) (E':Value->Zt->Prop),good h'->Q' (.bool r) {s with heap:=h',toks:=tk}->wpAny (model prog w) A.in1 (ae2 .Lt b a) Q' E' {s with heap:=h',toks:=tk})
 (hR:∀h' tk,good h'->R (.ok (.ret (if r then b else a))) {s with heap:=h',toks:=tk})(g0:good h0)(qA:h0.IsTupleIter I T 0/\h0.IsTuple T #[a,b])
 (hS:h0.get? S=some {cls:= .type "list",dict:=none,data:= .seq #[] c,slots:= #[]}):
 acF (model prog w) A (.builtin "min.loop" ⟨[.ref I, .none, .ref S],[]⟩) R {s with heap:=h0,toks:=t0}:=by
 have zm:(ad1 "min"++ad1 ".loop":String)="min.loop":=by decide
 have W:=Walks.tuple (prog:=prog) (w:=w) (A:=A.in1) hh I T iV #[a,b];have nI:∀{c:Addr},c≠I->c∉[I]:=λq z=>q (Z0.mp z);have fr:∀{i:Nat}{h:Heap}{f:Obj->Obj},(h.IsTupleIter I T i/\h.IsTuple T #[a,b])->((h.update S f).IsTupleIter I T i/\(h.update S f).IsTuple T #[a,b]):=λ{i h f} q=>W.frame _ _ _ q λc hc o e=>(adp _ _ (λz:S=c=>by
  subst z;rcases Zw.mp hc with z | z
  ·exact Sk z
  ·exact Xf (Z0.mp z))).trans e
 have up:∀{h:Heap}{f:Obj->Obj},good h->good (h.update S f):=λq=>hg _ _ (λc o _ hc e=>(adp _ _ (aaz hc)).trans e) q;refine aa_ aeB ?_;rw[aaP abM _];show wpAny _ A.in1 (seqItems? (.ref S)>>=_) _ _ _;refine Zn (acH hS rfl ?_);show wpAny _ A.in1 (afK (ads (.ref I)) _>>=_) _ _ _;refine Zn (adj (W.item 0 _ _ _ (by simp) qA λv h1 t1 hP Ca k1=>?_));have hv:v=a:=(Z4 hP).symm;subst hv;have S1:=k1 S _ (nI Sk) hS;have g1:good h1:=hg _ _ (λc o hc _ e=>k1 c o (nI hc) e) g0;show wpAny _ A.in1 (updateSeq S (λ_=> #[v,v])>>=_) _ _ _;refine Zn ?_;refine aeX S1 rfl ?_;rw[zm];refine Zs ⟨abI abM _,?_⟩;refine aa_ aeB ?_;rw[aaP abM _];show wpAny _ A.in1 (seqItems? (.ref S)>>=_) _ _ _;refine Zn (acH (aaE _ S1 rfl) rfl ?_);show wpAny _ A.in1 (afK (ads (.ref I)) _>>=_) _ _ _;refine Zn (adj (W.item 1 _ _ _ (by simp) (fr Ca) λu h2 t2 Xa yx k2=>?_));have hu:u=b:=(Z4 Xa).symm;subst hu;have S2:=k2 S _ (nI Sk) (aaE _ S1 rfl);have g2:good h2:=hg _ _ (λc o hc _ e=>k2 c o (nI hc) e) (up g1);show wpAny _ A.in1 (afK (holding [u,u] (ae2 .Lt u v>>=_)) _>>=_) _ _ _;refine Zn (adj (aaA (Zn (Nz _ _ _ _ g2 ?_))));refine Zn (aaA (aaH ?_));refine Zn (aeZ (Zs ?_));have last:∀{h3:Heap}{t3 c3:Nat}{x y:Value},x=(if r then u else v)->good h3->(h3.IsTupleIter I T 2/\h3.IsTuple T #[v,u])->h3.get? S=some {cls:= .type "list",dict:=none,data:= .seq #[x,y] c3,slots:= #[]}->
  acF (model prog w) A (.builtin "min.loop" ⟨[.ref I, .none, .ref S],[]⟩) R {s with heap:=h3,toks:=t3}:=λ{h3 t3 c3 x y} ex g3 MF S3=>by
  refine aa_ aeB ?_;rw[aaP abM _];show wpAny _ A.in1 (seqItems? (.ref S)>>=_) _ _ _;refine Zn (acH S3 rfl ?_);show wpAny _ A.in1 (afK (ads (.ref I)) _>>=_) _ _ _;refine Zn (adj (W.done _ _ _ MF λh4 t4 k4=>?_));have S4:=k4 S _ (nI Sk) S3;show wpAny _ A.in1 (updateSeq S (λ_=> #[])>>=_) _ _ _;refine Zn ?_;refine aeX S4 rfl (Zn (aeZ (Zs ?_)));rw[ex];exact hR _ _ (up (hg _ _ (λc o hc _ e=>k4 c o (nI hc) e) g3))
 cases hr:r with
 |true=>
  simp only[if_true];refine Zn ?_;refine aeX S2 rfl (Zn (aeZ ?_));rw[zm];exact Zs ⟨abI abM _,last (by rw[hr];rfl) (up g2) (fr yx) (aaE _ S2 rfl)⟩
 |false=>
  simp only[ZU,if_false];refine Zn (aeZ ?_);rw[zm];exact Zs ⟨abI abM _,last (by rw[hr];rfl) g2 yx S2⟩
theorem zI{Q:Value->Zt->Prop}(hh:A.handled=none)
 (Nz:∀(h':Heap) (tk:Nat) (Q':Value->Zt->Prop) (E':Value->Zt->Prop),(∀c o,s.heap.get? c=some o->h'.get? c=some o)->Q' (.bool r) {s with heap:=h',toks:=tk}->wpAny (model prog w) A.in1 (ae2 .Lt b a) Q' E' {s with heap:=h',toks:=tk})
 (h:∀h' tk,(∀c o,s.heap.get? c=some o->h'.get? c=some o)->Q (if r then b else a) {s with heap:=h',toks:=tk}):
 wpAny (model prog w) A (call (.builtin "min") [a,b]) Q E s:=by
 have zm:(ad1 "min"++ad1 ".loop":String)="min.loop":=by decide
 have hT:(s.heap.push {cls:= .type "tuple",data:= .seq #[a,b]}).IsTuple s.heap.objs.size #[a,b]:=⟨_,ZL _ rfl,rfl,0,rfl⟩
 have hsz:(s.heap.push {cls:= .type "tuple",data:= .seq #[a,b]}).objs.size=s.heap.objs.size+1:=abu ..;refine call_function_tree F.kind_min F.plain_min F.entry_min (F.args_min2 _ _) ?_;show wpAny _ A.in1 (adE "min" ["key","default"] 0 ⟨[],[]⟩>>=_) _ _ s;refine Zn (aeY (show adE "min" ["key","default"] 0 ⟨[],[]⟩=pure [none,none] from rfl) ?_);show wpAny _ A.in1 (newTuple [a,b]>>=_) _ _ s;refine Zn (ab4 ?_);refine Zn (wpAny_pyIter_tuple hT ?_);refine Zn (ab4 ?_);rw[zm];refine Zs ⟨abI abM _,?_⟩;have Ws:∀{c:Addr}{o:Obj},s.heap.get? c=some o->c<s.heap.objs.size:=λe=>ZG e;refine E5 hh (T:=s.heap.objs.size) ?_ ?_ ?_ (λh1 h2 k g c o e=>k c o ?_ ?_ (g c o e)) Nz (λh' tk g=>h h' tk g) (λc o e=>Zr _ (Zr _ (Zr _ e))) ⟨?_,?_⟩ (ZL _ rfl)
 ·rw[hsz];exact ZW (abG _)
 ·rw[abu];exact abQ (abG _)
 ·rw[abu,hsz];exact abQ (abh (abG _))
 ·have:=Ws e;rw[hsz];exact ZW (abh this)
 ·have:=Ws e;rw[abu,hsz];exact ZW (abh (abh this))
 ·exact⟨_,Zr _ (ZL _ rfl),rfl,rfl⟩
 ·exact(hT.push _).push _
end
theorem wW:ad0 (.type "list") "keys"=pure none:=by rw[typeLookup_type,builtinLookup_eq_fast];kernel_rfl
theorem e9:entryFor table "dict.update.loop"=some ac5.«dict.update.loop» :=entryFor_of_tree (by kernel_rfl)
theorem cg:plainId "dict.update.loop"=true:=by decide+kernel
theorem t9:(ac0 "list" !=ac0 "dict")=true:=by decide
section
variable{prog:Z5}{w:World}{A:aao}{E:Value->Zt->Prop}{s:Zt}
theorem wQ{Q:Option Value->Zt->Prop}(hx:s.heap.get? a=some o)(hc:o.cls= .type "list")(EC:o.data= .seq xs k)(hd:o.dict=none)(hA:A.handled=none)
 (h:∀h' tk,(∀b ob,s.heap.get? b=some ob->h'.get? b=some ob)->Q none {s with heap:=h',toks:=tk}):wpAny (model prog w) A (getAttr? (.ref a) "keys") Q E s:=by
 obtain⟨c,dct,dat,sl⟩:=o;simp only at hc EC hd;subst hc EC hd;obtain⟨hp,g,d,tk,os⟩:=s;have hT:∀SS,(⟨hp,g,d,SS,os⟩:Zt).TypeIs (.ref a) "list":=λ_=>⟨_,hx,rfl⟩
 have f1:=sub_AttributeError;have f3:=F.slot_list_getattribute.lookup;have f4:=F.slot_list_getattribute.bind (.ref a);have f5:=am_list_getattr_none;unfold getAttr? getAttrBy? getAttrBy
 repeat (any_goals (first | assumption | exact hT _ | ((with_reducible show wpAny _ _ (call (ace "list.__getattribute__") _ _) _ _ _);refine adu F.slot_list_getattribute (hT _) am_entry_list_getattribute (F.args_list_getattribute_2 _ _) (meets_getattribute_miss_list a xs k sl "keys" _ wW (by decide) (by size_fits)) ⟨hx,hA,λh' SS e G5=>?_⟩) | wp_step))
 obtain⟨t',u',he⟩:=G5.there;show wpAny _ _ (getattributeRaised _ _ _ _ _ _ _) _ _ _;unfold getattributeRaised
 repeat (any_goals (first | assumption | wp_step))
 exact h _ _ λb ob e=>G5.keeps b ob e
abbrev Mu(prog:Z5)(w:World):HeapKind prog w (List Key):=abO (bo prog w)
theorem DictOfH.at'{h h':Heap}{xs:List (List Key×Addr×Value)}(x:h.DictOfH (Mu prog w) d xs)(k:∀c o,h.get? c=some o->(c=d\/∃y∈xs,y.2.1=c)->h'.get? c=some o):h'.DictOfH (Mu prog w) d xs:=by
 obtain⟨o,es,ep,h1,h2,h3,h4,h5,h6⟩:=x;refine⟨o,es,ep,k _ _ h1 (.inl rfl),h2,h3,h4,λy hy=>?_,h6⟩;obtain⟨oa,items,n,a1,a2⟩:=h5 y hy;exact⟨oa,items,n,k _ _ a1 (.inr ⟨y,hy,rfl⟩),a2⟩
theorem ye{x:List Key×Addr×Value}(h:x∈acN xs k a v):(∃z∈xs,z.2.1=x.2.1)\/x.2.1=a:=by
 unfold acN at h;split at h
 ·obtain⟨z,hz,rfl⟩:=Zx.mp h;refine .inl ⟨z,hz,?_⟩;unfold putAt;split<;>rfl
 ·rcases Z9.mp h with h | h
  ·exact .inl ⟨x,h,rfl⟩
  ·rw[Z0.mp h];exact .inr rfl
theorem mS:∀(ys u8:List (List Key×Addr×Value)) {x:List Key×Addr×Value},x∈bQ u8 ys->(∃z∈u8,z.2.1=x.2.1)\/∃z∈ys,z.2.1=x.2.1
 |[],u8,x,h=> .inl ⟨x,h,rfl⟩
 |y::ys,u8,x,h=>by
  rcases mS ys (acN u8 y.1 y.2.1 y.2.2) h with⟨z,hz,e⟩ | ⟨z,hz,e⟩
  ·rcases ye hz with⟨q,hq,e2⟩ | e2
   ·exact .inl ⟨q,hq,e2.trans e⟩
   ·exact .inr ⟨y,Zq ..,e2.symm.trans e⟩
  ·exact .inr ⟨z,Zp _ hz,e⟩
theorem z8{D I L:Addr}{vs:List Value}(hh:A.handled=none)(hu:A.units+1<cLine)(W_:L≠I)(Ti:D≠I)(W8:old.get? I=none)(W4:old.get? D=none)(hL:old.IsList L vs.toArray)
 (pairs:∀i,i<vs.length->∃p y,vs[i]? =some (.ref p)/\ys[i]? =some y/\old.IsTuple p #[.ref y.2.1,y.2.2]/\aa6 (bo prog w) old y.1 y.2.1)(hsz:ys.length<=ZQ)(hl:ys.length=vs.length)
 (hR:∀h' tk,(∀c o,old.get? c=some o->h'.get? c=some o)->h'.DictOfH (Mu prog w) D (bQ [] ys)->R (.ok (.ret .none)) {s with heap:=h',toks:=tk}):
 ∀(r i:Nat) (h:Heap) (tk:Nat) (j:Int) (tj:Tok),vs.length - i=r->i<=vs.length->(∀c o,old.get? c=some o->h.get? c=some o)->h.IsListIter I L i->h.DictOfH (Mu prog w) D (bQ [] (ys.take i))->
  acF (model prog w) A (.builtin "dict.update.loop" ⟨[.ref D, .ref I, .int j tj, .none],[]⟩) R {s with heap:=h,toks:=tk}:=by
 have W:=aeH (prog:=prog) (w:=w) (A:=A.in1) hh I L W_ vs.toArray;have QN:vs.toArray.size=vs.length:=ZD ..;have nI:∀{c:Addr},c≠I->c∉[I]:=λq z=>q (Z0.mp z);have KN:∀{c:Addr}{o:Obj},old.get? c=some o->c≠I:=λe z=>by rw[z,W8] at e;cases e
 have UH:∀{c:Addr}{o:Obj},old.get? c=some o->c≠D:=λe z=>by rw[z,W4] at e;cases e
 have listAt:∀{h:Heap},(∀c o,old.get? c=some o->h.get? c=some o)->h.IsList L vs.toArray:=λ{h} k=>by
  obtain⟨o,e,q⟩:=hL;exact⟨o,k _ _ e,q⟩
 have UI:∀y∈ys,∃o,old.get? y.2.1=some o:=λy hy=>by
  obtain⟨i,hi,rfl⟩:=adP hy;obtain⟨p,y,_,ey,_,⟨o,_,_,e,_⟩⟩:=pairs i (by omega);rw[Zy hi] at ey;cases ey;exact⟨o,e⟩
 have Rf:∀{i:Nat}(x:List Key×Addr×Value),x∈bQ [] (ys.take i)->∃o,old.get? x.2.1=some o:=λ{i} x hx=>by
  rcases mS _ _ hx with⟨z,hz,_⟩ | ⟨z,hz,e⟩
  ·cases hz
  ·rw[<-e];exact UI z (List.mem_of_mem_take hz)
 intro r;induction r with
 |zero=>
  intro i h tk j tj hr hi k it dd;have jz:i=vs.length:=by omega
  refine aa_ e9 ?_;rw[aaP cg _];show wpAny _ A.in1 (ads (.ref I)>>=_) _ _ _;refine Zn (W.done _ _ _ ⟨by rw[QN,<-jz];exact it,listAt k⟩ λh1 t1 k1=>?_);show wpAny _ A.in1 (ad8 D []>>=_) _ _ _;refine Zn (Zs (Zs ?_));have Eu:h.DictOfH (Mu prog w) D (bQ [] ys):=by
   rw[jz,<-hl,aeg] at dd;exact dd
  refine hR _ _ (λc o e=>k1 c o (nI (KN e)) (k c o e)) (DictOfH.at' Eu λc o e hc=>k1 c o (nI ?_) e);rcases hc with rfl | ⟨x,hx,rfl⟩
  ·exact Ti
  ·exact Rf x (by rw[aeg];exact hx) |>.elim λo e=>KN e
 |succ r ih=>
  intro i h tk j tj hr hi k it dd;have dO:i<vs.length:=by omega
  obtain⟨p,y,ep,ey,tp,ky⟩:=pairs i dO;refine aa_ e9 ?_;rw[aaP cg _];show wpAny _ A.in1 (ads (.ref I)>>=_) _ _ _;refine Zn (W.item i _ _ _ (by rw[QN];exact dO) ⟨it,listAt k⟩ λv h1 t1 hP Ca k1=>?_);have hv:v= .ref p:=by
   have:vs[i]? =some v:=by simpa using hP
   rw[ep] at this;exact(Z4 this).symm
  subst hv;have QZ:∀c o,old.get? c=some o->h1.get? c=some o:=λc o e=>k1 c o (nI (KN e)) (k c o e);show wpAny _ A.in1 (holding [Z6 p] (afK (aee (.ref p)) _>>=_)>>=_) _ _ _;have Sf:h1.DictOfH (Mu prog w) D (bQ [] (ys.take i)):=DictOfH.at' dd λc o e hc=>k1 c o (nI (by
   rcases hc with rfl | ⟨x,hx,rfl⟩
   ·exact Ti
   ·obtain⟨o',e'⟩:=Rf x hx;exact KN e')) e
  obtain⟨op,eo,Xm,np,Xo⟩:=tp;have Wy:=QZ _ _ eo;refine Zn (aaA (Zn (adj ?_)));unfold aee;refine Zn (aeE ⟨op,Wy,Xm⟩ ?_);rw[agd (by decide)];refine Zn (acH Wy Xo (Zs ?_));show wpAny _ A.in1 (holding [Z6 y.2.1,y.2.2] (dictSet D (.ref y.2.1) y.2.2)) _ _ _;have YH:aa6 (bo prog w) h1 y.1 y.2.1:=by
   obtain⟨oa,items,n,a1,a2⟩:=ky;exact⟨oa,items,n,QZ _ _ a1,a2⟩
  have hz:(bQ [] (ys.take i)).length<=ZQ:=by
   have:=ke (ys.take i) ([]:List (List Key×Addr×Value));rw[ab6] at this;have h3:min i ys.length<=ys.length:=Nat.min_le_right ..;simp only[aat] at this;omega
  refine aaA (wpAny_dictSet_heap (show A.in1.units<cLine from hu) YH Sf λh2 AU NO=>?_);show wpAny _ A.in1 (pure (Fin.again (.builtin "dict.update.loop" ⟨[.ref D, .ref I,aei (j+1), .none],[]⟩))) _ _ _;refine Zs ⟨abI cg _,?_⟩;rw[<-mT ey] at AU;refine ih (i+1) h2 _ _ _ (by omega) (by omega) (λc o e=>?_) ?_ AU
  ·rw[NO.2 c (UH e)];exact QZ c o e
  ·obtain⟨oI,eI,q⟩:=Ca.1;exact⟨oI,by rw[NO.2 I (aaz Ti)];exact eI,q⟩
theorem qc{L:Addr}{n:Nat}{vs:List Value}(hA:A.handled=none)(hu:A.units+8<cLine)(hx:s.heap.get? L=some o)(hc:o.cls= .type "list")(EC:o.data= .seq vs.toArray n)(hd:o.dict=none)
 (pairs:∀i,i<vs.length->∃p y,vs[i]? =some (.ref p)/\ys[i]? =some y/\s.heap.IsTuple p #[.ref y.2.1,y.2.2]/\aa6 (bo prog w) s.heap y.1 y.2.1)(hsz:ys.length<=ZQ)(hl:ys.length=vs.length)
 (h:∀h' tk,(∀c o,s.heap.get? c=some o->h'.get? c=some o)->h'.DictOfH (Mu prog w) s.heap.objs.size (bQ [] ys)->Q (.ref s.heap.objs.size) {s with heap:=h',toks:=tk}):
 wpAny (model prog w) A (call (.type "dict") [.ref L]) Q E s:=by
 refine callType_codes (Q₁:=λobj v6=>obj= .ref s.heap.objs.size/\v6={s with heap:=s.heap.push {cls:= .type "dict",data:= .dict #[]} }) F.kt_called_dict (F.kt_typeCall_dict_1 _) F.entry_dict_init (kt_code_dict_new _ ⟨rfl,rfl⟩) ?_;rintro obj v6 ⟨rfl,rfl⟩;have l7:(s.heap.push {cls:= .type "dict",data:= .dict #[]}).DictOfH (Mu prog w) s.heap.objs.size []:=⟨_,#[],0,ZL _ rfl,⟨rfl,rfl,rfl⟩,rfl,rfl,λx hx=>(by cases hx),abH⟩
 have hT:({s with heap:=s.heap.push {cls:= .type "dict",data:= .dict #[]} }:Zt).TypeIs (.ref s.heap.objs.size) "dict":=⟨_,ZL _ rfl,rfl⟩
 refine⟨hT,F.args_dict_init_2 _ _,?_⟩;have G5:(s.heap.push {cls:= .type "dict",data:= .dict #[]}).get? L=some o:=Zr _ hx;unfold ac5.«dict.__init__»;refine Zn ?_;unfold ad7;refine Zn (adR hT ?_);show wpAny _ _ (pure (s.heap.objs.size,[Z6 L])) _ _ _;refine Zs ?_;show wpAny _ _ (abZ "dict.__init__" s.heap.objs.size (.ref L) [] .none) _ _ _;unfold abZ;refine Zn (aeE ⟨o,G5,hc⟩ ?_);rw[agd t9];refine Zn (wQ G5 hc EC hd (by exact hA) λh1 t1 k1=>?_);show wpAny _ _ (rule _>>=_) _ _ _;refine Zn (wpAny_rule ?_);have W9:h1.IsList L vs.toArray:=⟨o,k1 _ _ G5,hc,n,EC⟩
 refine Zn (acE W9 ?_);refine Zs ⟨abI cg _,?_⟩;have QZ:∀c ob,s.heap.get? c=some ob->h1.get? c=some ob:=λc ob e=>k1 c ob (Zr _ e);have Du:∀{c:Addr},s.heap.objs.size<=c->s.heap.get? c=none:=λ{c} hc=>by
  cases e:s.heap.get? c with
  |none=>rfl
  |some ob=>exact agj (ZG e) (Nat.not_lt.mpr hc)
 have nD:s.heap.get? s.heap.objs.size=none:=Du (Zv _);have tZ:L<h1.objs.size:=ZG (k1 _ _ G5);have Wt:s.heap.objs.size<h1.objs.size:=ZG (k1 _ _ (ZL _ rfl));refine z8 (by exact hA) (by show A.units+1+1<cLine;omega) (ZW tZ) (ZW Wt) (Du (aa5 Wt)) nD ⟨o,hx,hc,n,EC⟩ pairs hsz hl (λh' tk k dd=>⟨rfl,h h' tk k dd⟩) vs.length 0 _ _ _ _ rfl (aae _) (λc ob e=>Zr _ (QZ c ob e)) ⟨_,ZL _ rfl,rfl,rfl⟩ ?_;refine DictOfH.at' l7 λc ob e hc=>Zr _ (k1 c ob e)
end
def Ob:D->D->Option Bool
 | .tup xs, .tup ys=>match nums xs,nums ys with
   |some a,some b=>some (HT.lexLt a b)
   |_,_=>none
 |_,_=>none
def tY(x y:D):M D:=match Ob x y with | some b=>ae (.bl b) | none=>ag
def zH:List D->M D
 |[x,y]=>match Ob y x with | some b=>ae (if b then y else x) | none=>ag
 |_=>ag
section
variable{X:Cx}{Xw:Nat->Hp->Prop}{a b e e2:Expr}{δa δb:DE}{δs:DA}{p pos:Pos}
theorem Dq{K:ZE}(e:Ob x y=some r)(hx:Den K F x v)(hy:Den K F y u):∃a b ns ms,v= .ref a/\u= .ref b/\F a=some (.tup (ns.map V.int))/\F b=some (.tup (ms.map V.int))/\r=HT.lexLt ns ms:=by
 unfold Ob at e;split at e
 ·rename_i xs ys;obtain⟨a,vs,rfl,h2,h3,h4⟩:=hx;obtain⟨b,us,rfl,k2,k3,k4⟩:=hy;split at e
  ·rename_i ns ms e1 e2;cases iX e1 h3;cases iX e2 k3;cases e;exact⟨a,b,ns,ms,rfl,rfl,h2,k2,rfl⟩
  ·cases e
 ·cases e
theorem KW{K:ZE}:yz K (RI K) tY:=λXw F H x y dx dy Q s hx hy w=>by
 unfold tY at w;split at w
 ·rename_i r e;obtain⟨a,b,ns,ms,rfl,rfl,h1,h2,rfl⟩:=Dq e hx hy;exact⟨a,b,ns,ms,rfl,rfl,SqT.of (s _ _ h1),SqT.of (s _ _ h2),WP.now w s rfl⟩
 ·exact w.elim
theorem Iw(hu:X.A.units+64<cLine)(ha:PD X Xw a δa)(hb:PD X Xw b δb):qu X Xw (.Compare a [.Lt] [b] pos) (cI (d2 tY δa δb)):=g_ (Oo (by omega)) KW ha hb
def RJ(K:ZE):List V->Hp->VK->Prop:=λxs H Q=>∃a b ns ms,xs=[.ref a, .ref b]/\SqT K H a (ns.map V.int)/\SqT K H b (ms.map V.int)/\Q (if HT.lexLt ms ns then .ref b else .ref a) H
theorem El(hc:X.calm=true)(hu:X.A.units+64<cLine):CallR X (.builtin "min") (RJ X.K):=by
 intro f8 s σ H xs us Q I r h;obtain⟨a,b,ns,ms,rfl,ha,hb,q⟩:=h;obtain⟨u,w',rfl,rx,ry⟩:=vals2 r;cases rx;cases ry;obtain⟨aL,r1,p1,_⟩:=I.tuple ha;obtain⟨gb,r2,p2,_⟩:=I.tuple hb;have i1:abF aL.toArray.toList ns:=intsAre_of r1;have i2:abF gb.toArray.toList ms:=intsAre_of r2;refine zI (r:=HT.lexLt ms ns) (I.ok.hd hc) (λh' tk Q' E' k hq=>?_) λh' tk k=>⟨_,H,I.kept k,?_,q⟩
 ·obtain⟨o1,e1,q1⟩:=p1;obtain⟨o2,e2,q2⟩:=p2;exact HT.lt_tupInts (s:={s with heap:=h',toks:=tk}) ⟨o2,k _ _ e2,q2⟩ ⟨o1,k _ _ e1,q1⟩ i2 i1 (by show X.A.units+1<cLine;omega) hq
 ·cases HT.lexLt ms ns<;>rfl
theorem K3(hu:X.A.units+64<cLine)(hc:X.calm=true)(hg:Gl X "min")(hm:X.mg "min"=none)(hb:aab "min"=some (.builtin "min"))(ha:gL X Xw [e,e2] δs)(he:jp e [e2] X.env:=by rfl)
 (j1:bv pos [e2] X.env:=by rfl):PD X Xw (.Call (.Name "min" p) [e,e2] [] pos) (dA zH δs):=
 dP (El hc hu) (λXw F H vs ds Q s h w=>by
  unfold zH at w;split at w
  ·rename_i x y;obtain⟨v,v',rfl,h1,h2⟩:=h.two;split at w
   ·rename_i r e;obtain⟨b,a,ms,ns,rfl,rfl,k1,k2,rfl⟩:=Dq e h2 h1;refine⟨a,b,ns,ms,rfl,SqT.of (s _ _ k2),SqT.of (s _ _ k1),?_⟩;cases hl:HT.lexLt ms ns with
    |true=>rw[hl] at w;exact WP.now w s h2
    |false=>rw[hl] at w;exact WP.now w s h1
   ·exact w.elim
  ·exact w.elim) hg hm hb ha (by decide) (by decide) he j1
def iw:List D->Option (List (List Key)×List D)
 |[]=>some ([],[])
 | .tup [k,v]::r=>match et k,iw r with
   |some kk,some q=>some (kk::q.1,v::q.2)
   |_,_=>none
 |_=>none
def uT:List D->M C
 |[.lst ds]=>match iw ds with
  |some q=>if q.1.Nodup/\q.2.length<=lim then ae (.dct q.1 q.2) else ag
  |none=>ag
 |_=>ag
def O0:List V->Hp->VK->Prop:=λxs H Q=>∃(a:Addr) (ps:List (Addr×List Key×Addr×V)),xs=[.ref a]/\H a=some (.lst (ps.map λp=>V.ref p.1))/\(∀p∈ps,H p.1=some (.tup [.ref p.2.2.1,p.2.2.2])/\H p.2.2.1=some (.tup (p.2.1.map kV)))/\
 (ps.map (·.2.1)).Nodup/\ps.length<=ZQ/\∀q,H q=none->Q (.ref q) (upd H q (.dT (ps.map λp=>(p.2.1,p.2.2.2))))
theorem pairs_at{P:Z5}(ok:HOk P w H h):∀(ps:List (Addr×List Key×Addr×V)) (us:List Value),Vals (ps.map λp=>V.ref p.1) us->(∀p∈ps,H p.1=some (.tup [.ref p.2.2.1,p.2.2.2])/\H p.2.2.1=some (.tup (p.2.1.map kV)))->
 ∃ys:List (List Key×Addr×Value),ys.length=us.length/\ys.map (·.1)=ps.map (·.2.1)/\(∀i,i<us.length->∃p y,us[i]? =some (.ref p)/\ys[i]? =some y/\h.IsTuple p #[.ref y.2.1,y.2.2]/\aa6 (bo P w) h y.1 y.2.1)/\
  aea (λ(p:List Key×V) (q:List Key×Addr×Value)=>p.1=q.1/\H q.2.1=some (.tup (p.1.map kV))/\RelV p.2 q.2.2) (ps.map λp=>(p.2.1,p.2.2.2)) ys
 |[],_, .nil,_=>⟨[],rfl,rfl,λi hi=>agj hi (Nat.not_lt_zero _), .nil⟩
 |p::ps,u::us, .cons r rs,hp=>by
  obtain⟨ys,l1,l2,l3,l4⟩:=pairs_at ok ps us rs λq hq=>hp q (Zp _ hq);obtain⟨e1,e2⟩:=hp p (Zq ..);have hr:u= .ref p.1:=r;obtain⟨_,aL,rv,o,h1,h2,n,h3⟩:=(show ObjOk P w H h p.1 (.tup [.ref p.2.2.1,p.2.2.2]) from ok _ _ e1)
  obtain⟨x,y,rfl,rx,ry⟩:=vals2 rv;have hx:x= .ref p.2.2.1:=rx;subst hx;refine⟨(p.2.1,p.2.2.1,y)::ys,by simp[l1],by simp[l2],λi hi=>?_, .cons ⟨rfl,e2,ry⟩ l4⟩;cases i with
  |zero=>exact⟨p.1,_,by rw[hr];rfl,rfl,⟨o,h1,h2,n,h3⟩,jA ok e2⟩
  |succ i=>
   obtain⟨q,y',a1,a2,a3⟩:=l3 i (by simpa using hi);exact⟨q,y',by simpa using a1,by simpa using a2,a3⟩
theorem A8(hc:X.calm=true)(hu:X.A.units+64<cLine):CallR X (.type "dict") O0:=by
 intro f8 s σ H xs us Q I r h;obtain⟨a,ps,rfl,ha,hp,hn,hz,q⟩:=h;obtain⟨u,rfl,rx⟩:=vals1 r;cases rx;obtain⟨_,aL,n,rv,e⟩:=(show ObjOk X.prog X.w H s.heap a (.lst _) from I.hok _ _ ha)
 obtain⟨ys,l1,l2,l3,l4⟩:=pairs_at I.hok ps aL rv hp;have Zd:ys.length=ps.length:=by
  have:=agl afE l2;simpa using this
 have zo:(ys.map (·.1)).Nodup:=by rw[l2];exact hn
 refine qc (vs:=aL) (I.ok.hd hc) (by omega) e rfl rfl rfl l3 (by omega) l1 λh' tk k dd=>?_;rw[kf ys [] (by simpa using zo),ZY] at dd;obtain⟨o,es,ep,d1,d2,d3,d4,_,d5⟩:=dd;refine⟨.ref s.heap.objs.size,_,I.laid k (Zv _) (o:= .dT (ps.map λp=>(p.2.1,p.2.2.2))) ⟨by rw[Zo];exact hz,?_,ys,?_,o,es,ep,d1,d2,d3,d4,d5⟩,rfl,q _ (I.hok.fresh (Zv _))⟩
 ·have:=I.big;exact beq_false_of_ne (abQ this)
 ·refine Paired.mapP l4 λx y z=>⟨z.1,?_,z.2.2⟩
  rw[ax (λzz=>?_)]
  ·exact z.2.1
  ·have:=I.hok.fresh (Zv _);rw[<-zz,z.2.1] at this;cases this
theorem vq{K:ZE}{F:Hp}:∀{ds:List D}{vs:List V}{q:List (List Key)×List D},iw ds=some q->DenL K F ds vs->∃ps:List (Addr×List Key×Addr×V),vs=ps.map (λp=>V.ref p.1)/\(∀p∈ps,F p.1=some (.tup [.ref p.2.2.1,p.2.2.2])/\F p.2.2.1=some (.tup (p.2.1.map kV)))/\
 ps.map (·.2.1)=q.1/\DenL K F q.2 (ps.map (·.2.2.2))/\q.1.length=q.2.length
 |[],_,_,e,h=>by
  cases e;cases (show _=_ from h);exact⟨[],rfl,(λp hp=>(by cases hp)),rfl,rfl,rfl⟩
 |d::ds,_,q,e,⟨v,r,h1,h2,h3⟩=>by
  unfold iw at e;split at e
  ·cases ‹_::_=[]›
  ·rename_i k x r' heq;cases heq;split at e
   ·rename_i kk q' e1 e2;cases e;obtain⟨ps,i1,i2,i3,i4,i5⟩:=vq e2 h3;obtain⟨b,ws,rfl,b2,b3,b4⟩:=h2;obtain⟨kv,r1,rfl,k1,r2⟩:=b3;obtain⟨xv,r3,rfl,x1,r4⟩:=r2;cases (show _=_ from r4);unfold et at e1;split at e1
    ·obtain⟨c,ws,rfl,c2,c3,c4⟩:=k1;have e5:=iY e1 c3;subst e5;refine⟨(b,kk,c,xv)::ps,by rw[h1,i1];rfl,λp hp=>?_,by simp[i3],⟨xv,_,rfl,x1,i4⟩,by simp[i5]⟩;rcases Zw.mp hp with rfl | hp
     ·exact⟨b2,c2⟩
     ·exact i2 p hp
    ·cases e1
   ·cases e
  ·cases e
theorem AF{α β γ:Type}(f:α->β)(g:α->γ):∀l:List α,(l.map f).zip (l.map g)=l.map λx=>(f x,g x)
 |[]=>rfl
 |a::l=>by rw[Zu,Zu,aaR,AF f g l];rfl
theorem z_(hu:X.A.units+64<cLine)(hc:X.calm=true)(hg:Gl X "dict")(hm:X.mg "dict"=none)(hb:aab "dict"=some (.type "dict"))(ha:gL X Xw [e] δs)(he:kt e X.env:=by rfl):
 MS X Xw (.Call (.Name "dict" p) [e] [] pos) (λρ=>δs ρ>>=uT):=
 PE.weak (vy (A8 hc hu) hg hm hb ha (by decide) (by decide) he rfl) λσ H Q ⟨F,ρ,s,w⟩=>by
  refine⟨F,ρ,s,WPL.mono (WPF.bindL w) λvs H1 ⟨F1,ds,e1,q1,w1⟩=>?_⟩;unfold uT at w1;split at w1
  ·rename_i ds;obtain⟨v,rfl,h1⟩:=q1.one;obtain⟨a,ws,rfl,h2,h3,h4⟩:=h1;split at w1
   ·rename_i q eq;split at w1
    ·rename_i hq;obtain⟨ps,rfl,i2,i3,i4,i5⟩:=vq eq h3;have T0:ps.length=q.2.length:=by rw[<-i5,<-i3,Zo]
     refine⟨a,ps,rfl,e1.fh _ _ h2,λp hp=>⟨e1.fh _ _ (i2 p hp).1,e1.fh _ _ (i2 p hp).2⟩,by rw[i3];exact hq.1,?_,λr hr=>?_⟩
     ·have:=d_;have:=hq.2;omega
     obtain⟨E,nF⟩:=Ext.fresh (o:= .dT (ps.map λp=>(p.2.1,p.2.2.2))) e1.fh hr;refine w1 r _ _ F1 E aJ nF hr ⟨ps.map (·.2.2.2),?_,i4,i5,hq.2⟩;rw[<-i3,AF]
    ·exact w1.elim
   ·exact w1.elim
  ·exact w1.elim
end
mutual
def uS:D->Bool
 | .non=>true
 | .bl _=>true
 | .int _=>true
 | .str _=>true
 | .tup ds=>qY ds
 | .lst ds=>qY ds
 | .raw _=>false
 | .exc _=>false
 | .scr _=>false
 | .dct _ _=>false
 | .dci _ _=>false
def qY:List D->Bool
 |[]=>true
 |d::ds=>uS d&&qY ds
end
def Gp(d:D):M D:=if uS d then ae d else ag
def ng(ρ:cJ):Bool:=ρ.all λx=>match x with
 |some (.ow (.lst _))=>false
 |_=>true
theorem HS{i:Nat}(h:ng ρ=true)(e:ρ[i]? =some (some (.ow (.lst ds)))):False:=by
 have:=aan.mp h _ (aak e);cases this
def P4(δ:DE):DE:=λρ=>if ng ρ then noex (δ (rj ρ))>>=Gp else ag
section
variable{K:ZE}{F H F' H':Hp}{σ:St}{ρ:cJ}{h:Heap}{b:Addr}
theorem OwnAt.dict(S:StE K F H σ ρ)(hd:ng ρ=true)(p:OwnAt σ ρ b):∃o,H b=some o/\((∃x,o= .dT x)\/∃x,o= .dK x):=by
 obtain⟨i,c,h1,h2⟩:=p;obtain⟨v,h3,a,o,rfl,h4,h5,h6⟩:=S.den i _ h1;rw[h3] at h2;cases h2;refine⟨o,h4,?_⟩;cases c with
 |lst ds=>exact(HS hd h1).elim
 |dct ks ds=>obtain⟨vs,rfl,_⟩:=h6;exact .inl ⟨_,rfl⟩
 |dci ks ds=>obtain⟨vs,rfl,_⟩:=h6;exact .inr ⟨_,rfl⟩
open Classical in
theorem Dv(S:StE K F H σ ρ)(hd:ng ρ=true)(E:Ext (fA σ ρ (refA h (OwnAt σ ρ) H) F) (refA h (OwnAt σ ρ) H) F' H'){o:HO}(e:F' a=some o)(iV:∀q u,o≠ .frz q u):(if OwnAt σ ρ a then none else F' a)=some o:=by
 rw[age,e];intro hp;obtain⟨o',k1,k2⟩:=OwnAt.dict S hd hp;have k3:fA σ ρ (refA h (OwnAt σ ρ) H) F a=some (qe ((h.get? a).getD {cls:= .none,data:= .fields #[]}) o'):=by
  unfold fA refA;rw[agd hp,agd hp,k1];rfl
 have k4:=E.ff a _ k3;rw[e] at k4;rcases k2 with⟨x,rfl⟩ | ⟨x,rfl⟩<;>cases k4<;>exact iV _ _ rfl
open Classical in
mutual
theorem yT(S:StE K F H σ ρ)(hd:ng ρ=true)(E:Ext (fA σ ρ (refA h (OwnAt σ ρ) H) F) (refA h (OwnAt σ ρ) H) F' H'):∀{d:D}{v:V},uS d=true->Den K F' d v->Den K (λb=>if OwnAt σ ρ b then none else F' b) d v
 | .non,_,_,q=>q
 | .bl _,_,_,q=>q
 | .int _,_,_,q=>q
 | .str _,_,_,q=>q
 | .tup ds,_,f,⟨a,vs,h1,h2,h3,h4⟩=>⟨a,vs,h1,Dv S hd E h2 (λ_ _ z=>nomatch z),ot S hd E f h3,h4⟩
 | .lst ds,_,f,⟨a,vs,h1,h2,h3,h4⟩=>⟨a,vs,h1,Dv S hd E h2 (λ_ _ z=>nomatch z),ot S hd E f h3,h4⟩
 | .raw _,_,f,_=>by cases f
 | .exc _,_,f,_=>by cases f
 | .scr _,_,f,_=>by cases f
 | .dct _ _,_,f,_=>by cases f
 | .dci _ _,_,f,_=>by cases f
theorem ot(S:StE K F H σ ρ)(hd:ng ρ=true)(E:Ext (fA σ ρ (refA h (OwnAt σ ρ) H) F) (refA h (OwnAt σ ρ) H) F' H'):∀{ds:List D}{vs:List V},qY ds=true->DenL K F' ds vs->DenL K (λb=>if OwnAt σ ρ b then none else F' b) ds vs
 |[],_,_,q=>q
 |d::ds,_,f,⟨v,r,h1,h2,h3⟩=>by
  unfold qY at f;rw[ZM] at f;exact⟨v,r,h1,yT S hd E f.1 h2,ot S hd E f.2 h3⟩
end
end
section
variable{X:Cx}{Xw:Nat->Hp->Prop}{e:Expr}{δ:DE}
theorem Rp(h:PD X Xw e δ):PD X Xw e (P4 δ):=λf8 s σ H Q I ⟨F,ρ,S,w⟩=>by
 classical
 have w:WP X.K Xw F H (if ng ρ then noex (δ (rj ρ))>>=Gp else ag) Q:=w;by_cases hd:ng ρ=true
 ·rw[agd hd] at w;rcases ma (δ (rj ρ)) with q | ⟨d,q,q2⟩
  ·rw[q] at w;exact w.elim
  ·rw[q2,av] at w;unfold Gp at w;split at w
   ·rename_i hf;refine cE (h f8 s σ _ (λv H'=>Q v (unA (OwnAt σ ρ) H')/\∀c,OwnAt σ ρ c->∀o u,H' c=some (.frz o u)->(∃k,u= .dT k)\/∃k,u= .dK k) (Inv.refA I) ⟨_,_,Bi (h:=s.heap) S,?_⟩) λu s' ⟨v,H',I',r,q1,q3⟩=>⟨v,_,Inv.unA I' (oK I S) q3,r,q1⟩
    rw[q];intro v H' F' E k;obtain⟨E1,q3⟩:=rk S E;exact⟨w _ _ _ E1 (yT S hd E hf k),q3⟩
   ·exact w.elim
 ·rw[age hd] at w;exact w.elim
end
def M4(δ:DE):DE:=λρ=>noex (δ (rj ρ))>>=rh
def FD(τ:DT):DT:=λρ=>noex (τ (rj ρ))
section
variable{a:Expr}
end
theorem tH:∀{xs:List V}{us:List Value},xs.length=us.length->(∀(i:Nat) x u,xs[i]? =some x->us[i]? =some u->RelV x u)->Vals xs us
 |[],[],_,_=> .nil
 |x::xs,u::us,hl,h=> .cons (h 0 x u rfl rfl) (tH (by simpa using hl) λi y v e1 e2=>h (i+1) y v (by simpa using e1) (by simpa using e2))
end L3
namespace L3
open PySem PySem.SetTable
theorem k8[DecidableEq α]:∀{l U:List α},l.Nodup->(∀x∈l,x∈U)->l.length<=U.length
 |[],_,_,_=>aae _
 |a::l,U,hn,h=>by
  have ha:=h a (Zq ..);have EG:=aaK.mp hn;have:=k8 EG.2 λx hx=>(afu (λe:x=a=>EG.1 (e▸hx))).mpr (h x (Zp _ hx));rw[ac6 ha] at this;have:0<U.length:=ae_ ha;rw[Zz];omega
def iK(m b:Nat):Nat->Nat×Nat
 |0=>(b % (m+1),b)
 |k+1=>leap m (iK m b k).1 (iK m b k).2
def PF(m i:Nat):Nat:=(i*5+1) % (m+1)
def it(m:Nat):Nat->Nat->Nat
 |0,x=>x
 |n+1,x=>PF m (it m n x)
theorem rG(m:Nat):∀a b x,it m (a+b) x=it m a (it m b x)
 |0,b,x=>by rw[acd];rfl
 |a+1,b,x=>by rw[acT];show PF m _=PF m _;rw[rG m a b x]
theorem QR(m b:Nat):∀k,(iK m b k).2=b / 32 ^ k
 |0=>by simp[iK]
 |k+1=>by
  show (iK m b k).2 / 32=_;rw[QR m b k,afh,Nat.pow_succ]
theorem C9{m b:Nat}(hb:b<2 ^ 64):∀k,(iK m b (k+13)).1=it m k (iK m b 13).1
 |0=>by rw[acd];rfl
 |k+1=>by
  rw[acT];have hq:(iK m b (k+13)).2 / 32=0:=by
   rw[QR];refine Nat.div_eq_of_lt ?_;refine acS (m:=b / 32 ^ 13) ?_ ?_
   ·rw[Nat.pow_add,afr,<-afh];exact Nat.div_le_self ..
   ·have:b / 32 ^ 13<1:=Nat.div_lt_of_lt_mul (by omega);omega
  show ((iK m b (k+13)).1*5+1+(iK m b (k+13)).2 / 32) % (m+1)=PF m _;rw[hq,C9 hb k];rfl
def Jp(m:Nat):Prop:=m=7\/m=31\/m=127
def UL(m:Nat):Nat->Nat->List Nat
 |0,_=>[]
 |n+1,x=>x::UL m n (PF m x)
theorem BP(m:Nat):∀(n x j:Nat),j∈UL m n x->∃a,a<n/\it m a x=j
 |0,x,j,h=>by cases h
 |n+1,x,j,h=>by
  rcases Zw.mp h with rfl | h
  ·exact⟨0,by omega,rfl⟩
  ·obtain⟨a,ha,e⟩:=BP m n (PF m x) j h;exact⟨a+1,by omega,by rw[rG m a 1 x];exact e⟩
theorem KY(hm:Jp m):(∀j,j<m+1->j∈UL m (m+1) 0)/\it m (m+1) 0=0:=by
 rcases hm with rfl | rfl | rfl
 ·exact⟨by decide+kernel,by decide+kernel⟩
 ·exact⟨by decide+kernel,by decide+kernel⟩
 ·exact⟨by decide+kernel,by decide+kernel⟩
theorem WK(hm:Jp m)(hi:i<m+1)(hj:j<m+1):∃n,n<=m/\it m n i=j:=by
 obtain⟨h1,h2⟩:=KY hm;obtain⟨a,ha,rfl⟩:=BP m _ 0 i (h1 i hi);obtain⟨b,hb,rfl⟩:=BP m _ 0 j (h1 j hj);by_cases h:a<=b
 ·exact⟨b - a,by omega,by rw[<-rG,Nat.sub_add_cancel h]⟩
 ·refine⟨m+1 - a+b,by omega,?_⟩;rw[<-rG,show m+1 - a+b+a=b+(m+1) by omega,rG,h2]
theorem Mr(m b k:Nat):(iK m b k).1<m+1:=by
 cases k with
 |zero=>exact Nat.mod_lt _ (by omega)
 |succ k=>exact Nat.mod_lt _ (by omega)
theorem reach(hm:Jp m)(hb:b<2 ^ 64)(hj:j<m+1):∃k,k<=m+13/\(iK m b k).1=j:=by
 obtain⟨n,hn,e⟩:=WK hm (Mr m b 13) hj;exact⟨n+13,by omega,by rw[C9 hb,e]⟩
theorem CD(h:Int):bits h<2 ^ 64:=by
 unfold bits;have h1:=adJ h (show (2 ^ 64:Int)≠0 by decide);have h2:=acU h (show (0:Int)<2 ^ 64 by decide);omega
def n_(t:ab5):Nat->Probe->Probe
 |0,p=>p
 |n+1,p=>n_ t n (t.advance p)
theorem uG(t:ab5)(p:Probe):(t.advance p).dummy=p.dummy:=by
 unfold advance;split<;>rfl
theorem my(t:ab5):∀a b p,n_ t (a+b) p=n_ t b (n_ t a p)
 |0,b,p=>by rw[acd];rfl
 |a+1,b,p=>by rw[acT];exact my t a b _
def sK(m:Nat)(h:Int)(k:Nat):Probe:={j:=(iK m (bits h) k).1,more:=runEnd m (iK m (bits h) k).1 - (iK m (bits h) k).1,i:=(iK m (bits h) k).1,perturb:=(iK m (bits h) k).2,dummy:=none}
theorem IT(m i:Nat):runEnd m i - i<=9:=by
 unfold runEnd;split<;>omega
theorem AY(t:ab5):∀(n:Nat) (p:Probe),n<=p.more->n_ t n p={p with j:=p.j+n,more:=p.more - n}
 |0,p,_=>rfl
 |n+1,p,h=>by
  show n_ t n (t.advance p)=_;have e:t.advance p={p with j:=p.j+1,more:=p.more - 1}:=by unfold advance;rw[agd (by omega)]
  rw[e,AY t n _ (by show n<=p.more - 1;omega)];show ({j:=p.j+1+n,more:=p.more - 1 - n,i:=p.i,perturb:=p.perturb,dummy:=p.dummy}:Probe)=_;rw[Nat.add_assoc,adH 1 n,Nat.sub_sub,adH 1 n]
theorem yB:n_ t ((sK t.mask h k).more+1) (sK t.mask h k)=sK t.mask h (k+1):=by
 rw[my,AY t _ _ (Zv _)];show t.advance _=_;unfold advance;rw[age (show¬(sK t.mask h k).more - (sK t.mask h k).more>0 by rw[Nat.sub_self];exact aaq 0)];rfl
theorem FZ:∀k,∃n,n<=10*k/\n_ t n (t.probeStart h)=sK t.mask h k
 |0=>⟨0,aae _,rfl⟩
 |k+1=>by
  obtain⟨n,hn,e⟩:=FZ k;have:=IT t.mask (iK t.mask (bits h) k).1;refine⟨n+((sK t.mask h k).more+1),?_,by rw[my,e,yB]⟩;show n+(runEnd t.mask (iK t.mask (bits h) k).1 - (iK t.mask (bits h) k).1+1)<=_;omega
theorem Kb(hd:∀j,t.slot j≠ .dummy)(hh:∀j i,t.slot j= .live i->(hashAt i==h)=false):
 ∀(n fuel:Nat) (p:Probe),n<fuel->p.dummy=none->t.slot (n_ t n p).j= .empty->∃j,probe.go t hashAt h fuel p=some (.empty j none)/\t.slot j= .empty
 |n,0,p,hn,_,_=>agj hn (by omega)
 |n,fuel+1,p,hn,hp,he=>by
  unfold probe.go;cases hs:t.slot p.j with
  |empty=>exact⟨p.j,by rw[hp],hs⟩
  |dummy=>exact agj hs (hd _)
  |live i=>
   dsimp only
   rw[hh p.j i hs];cases n with
   |zero=>rw[show (n_ t 0 p).j=p.j from rfl,hs] at he;cases he
   |succ n=>
    have:=Kb hd hh n fuel (t.advance p) (by omega) (by rw[uG];exact hp) he;simpa using this
theorem lg{t:ab5}(h:t.slot j= .live i):t.place[i]? =some j:=by
 unfold slot at h
 dsimp only at h
 split at h
 ·rename_i e;cases h;exact ae3 e
 ·split at h<;>cases h
theorem gn{t:ab5}(hd:t.dummies= #[])(j:Nat):t.slot j≠ .dummy:=by
 unfold slot
 dsimp only
 split
 ·exact λz=>by cases z
 ·split
  ·rename_i e;rw[hd] at e;unfold has at e;simp at e
  ·exact λz=>by cases z
theorem B_{t:ab5}(hd:t.dummies= #[])(hp:t.place.size<=t.mask):∃j,j<t.mask+1/\t.slot j= .empty:=by
 apply aav;intro wC;have:∀j∈ZX (t.mask+1),j∈t.place.toList:=λj hj=>by
  cases hs:t.slot j with
  |empty=>exact agj ⟨j,aa1.mp hj,hs⟩ wC
  |dummy=>exact agj hs (gn hd j)
  |live i=>exact aak ((aaC ..).trans (lg hs))
 have:=k8 List.nodup_range this;rw[aaZ,ZC] at this;omega
def vals(o:Array (Option Nat))(n:Nat):List Nat:=(ZX n).filterMap λj=>o.getD j none
theorem GF{α β:Type}[DecidableEq α]{f g:α->Option β}{a:α}{b:β}(h0:f a=none)(h1:g a=some b):∀{l:List α},l.Nodup->a∈l->(∀x∈l,x≠a->g x=f x)->(l.filterMap g).Perm (b::l.filterMap f)
 |[],_,h,_=>by cases h
 |x::l,hn,h,hg=>by
  have EG:=aaK.mp hn;by_cases e:x=a
  ·subst e;rw[aa7 h1,ab_ h0];have:l.filterMap g=l.filterMap f:=ri λy hy=>hg y (Zp _ hy) λz=>EG.1 (z▸hy);rw[this]
  ·have ih:=GF h0 h1 EG.2 ((Zw.mp h).resolve_left λz=>e z.symm) λy hy=>hg y (Zp _ hy);have hx:=hg x (Zq ..) e;cases hf:f x with
   |none=>rw[ab_ (hx.trans hf),ab_ hf];exact ih
   |some y=>rw[aa7 (hx.trans hf),aa7 hf];exact(ih.cons y).trans (List.Perm.swap ..)
theorem uY:∀(n fuel k:Nat),n<fuel->(o.getD (iK m b (k+n)).1 (some 0)).isNone=true->∃j,layClean.free m o fuel (iK m b k).1 (iK m b k).2=some j/\(o.getD j (some 0)).isNone=true
 |n,0,k,h,_=>agj h (by omega)
 |n,fuel+1,k,h,he=>by
  unfold layClean.free;cases hf:(ZX (runEnd m (iK m b k).1+1 - (iK m b k).1)).find? λq=>(o.getD ((iK m b k).1+q) (some 0)).isNone with
  |some q=>exact⟨_,rfl,List.find?_some (p:=λq=>(o.getD ((iK m b k).1+q) (some 0)).isNone) hf⟩
  |none=>
   cases n with
   |zero=>
    have:=afW.mp hf 0 (aa1.mpr (by unfold runEnd;split<;>omega));rw[Nat.add_zero] at this he;exact agj he this
   |succ n=>
    exact uY n fuel (k+1) (by omega) (by rw[acT];exact he)
theorem rF{o:Array (Option Nat)}(h:(o.getD j (some 0)).isNone=true):j<o.size/\o[j]? =some none:=by
 rw[ZN] at h;cases e:o[j]? with
 |none=>rw[e] at h;cases h
 |some v=>
  rw[e] at h;cases v with
  |none=>exact⟨(aau.mp e).1,rfl⟩
  |some v=>cases h
theorem Ho(hm:Jp m){k:Nat}(hs:o.size=m+1)(hp:(vals o (m+1)).Perm (ZX k))(hk:k<=m):
 ∃j,layClean.free m o (turns m) (bits h % (m+1)) (bits h)=some j/\(o.setIfInBounds j (some k)).size=m+1/\(vals (o.setIfInBounds j (some k)) (m+1)).Perm (ZX (k+1)):=by
 obtain⟨j0,TM,Ss⟩:∃j,j<m+1/\o.getD j none=none:=by
  apply aav;intro wC;have all:∀l:List Nat,(∀j∈l,j<m+1)->(l.filterMap λj=>o.getD j none).length=l.length:=by
   intro l;induction l with
   |nil=>exact λ_=>rfl
   |cons a l ih=>
    intro h;cases e:o.getD a none with
    |none=>exact agj ⟨a,h a (Zq ..),e⟩ wC
    |some v=>rw[aa7 (f:=λj=>o.getD j none) e,Zz,Zz,ih λj hj=>h j (Zp _ hj)]
  have h1:=hp.length_eq;rw[vals,all _ λj hj=>aa1.mp hj,aaZ,aaZ] at h1;omega
 have Qq:(o.getD j0 (some 0)).isNone=true:=by
  rw[ZN] at Ss⊢;rw[ZS (by omega)] at Ss⊢;rw[ac_] at Ss⊢;rw[Ss];rfl
 obtain⟨q,hq,e⟩:=reach hm (CD h) TM;obtain⟨j,ej,hj⟩:=uY q (turns m) 0 (by unfold turns;omega) (by rw[acd,e];exact Qq);obtain⟨dO,zk⟩:=rF hj;refine⟨j,ej,by rw[aeM];exact hs,?_⟩;have hP:=GF (f:=λi=>o.getD i none) (g:=λi=>(o.setIfInBounds j (some k)).getD i none) (by
  show o.getD j none=none;rw[ZN,zk];rfl) (by
  show (o.setIfInBounds j (some k)).getD j none=some k;rw[ZN,ady dO];rfl) (l:=ZX (m+1)) List.nodup_range (aa1.mpr (by omega)) λx _ hx=>by
  show (o.setIfInBounds j (some k)).getD x none=o.getD x none;rw[ZN,ZN,ad9 (λz=>hx z.symm)]
 refine hP.trans ((hp.cons k).trans ?_);rw[List.range_succ];exact List.perm_append_comm (l₁:=[k])
theorem Df{m:Nat}(hm:Jp m):∀(hs:List Int) (o:Array (Option Nat)) (k:Nat),o.size=m+1->(vals o (m+1)).Perm (ZX k)->k+hs.length<=m->
 ∃o',(hs.foldl (init:=some (o,k)) λu8 h=>do
  let (owner,k)<-u8
  let j<-layClean.free m owner (turns m) (bits h % (m+1)) (bits h)
  pure (owner.setIfInBounds j (some k),k+1))=some (o',k+hs.length)/\(vals o' (m+1)).Perm (ZX (k+hs.length))
 |[],o,k,h1,h2,h3=>⟨o,rfl,h2⟩
 |h::hs,o,k,h1,h2,h3=>by
  rw[Zz] at h3;obtain⟨j,ej,e1,e2⟩:=Ho hm h1 h2 (by omega);obtain⟨o',e3,e4⟩:=Df hm hs _ (k+1) e1 e2 (by omega);rw[Zz,show k+(hs.length+1)=k+1+hs.length by omega];refine⟨o',?_,e4⟩;rw[abj,<-e3];congr 1;show (layClean.free m o (turns m) (bits h % (m+1)) (bits h)>>=_)=_;rw[ej];rfl
theorem Cj(m:Nat):vals (aen (m+1) none) (m+1)=[]:=by
 unfold vals;refine List.filterMap_eq_nil_iff.mpr λj hj=>?_;rw[ZN,aeN];split<;>rfl
theorem Kt{led pl:Bool}(hm:Jp m)(hl:hs.size<=m):
 ∃t order,laid m f mv led pl hs=some (t,order)/\t.mask=m/\t.dummies= #[]/\t.place.size=hs.size/\order.toList.Perm (ZX hs.size)/\t.plain=pl/\t.led=led/\t.place.toList.Pairwise (· < ·):=by
 obtain⟨o,e1,e2⟩:=Df hm hs.toList (aen (m+1) none) 0 (by simp) (by rw[Cj];exact .refl _) (by rw[acd,ZC];exact hl);rw[acd,ZC] at e1 e2;have e3:layClean m hs=some o:=by
  unfold layClean;rw[<-afH,e1];rfl
 have e4:((ZX (m+1)).filterMap λj=>(o.getD j none).map (j,·)).map (·.2)=vals o (m+1):=by
  unfold vals;rw[List.map_filterMap];refine ri λj _=>?_;cases o.getD j none<;>rfl
 refine⟨_,_,by unfold laid;rw[e3];rfl,rfl,rfl,?_,?_,rfl,rfl,?_⟩
 ·show ((((ZX (m+1)).filterMap λj=>(o.getD j none).map (j,·)).map (·.1)).toArray).size=_;rw[ZD,Zo,<-Zo,e4,e2.length_eq,aaZ]
 ·show ((((ZX (m+1)).filterMap λj=>(o.getD j none).map (j,·)).map (·.2)).toArray).toList.Perm _;rw[e4];exact e2
 ·show ((((ZX (m+1)).filterMap λj=>(o.getD j none).map (j,·)).map (·.1)).toArray).toList.Pairwise (· < ·);have:∀l:List Nat,((l.filterMap λj=>(o.getD j none).map (j,·)).map (·.1)).Sublist l:=by
   intro l;induction l with
   |nil=>exact .slnil
   |cons a l ih=>
    cases e:o.getD a none with
    |none=>rw[ab_ (by show (o.getD a none).map (a,·)=none;rw[e];rfl)];exact ih.cons a
    |some v=>rw[aa7 (by show (o.getD a none).map (a,·)=some (a,v);rw[e];rfl)];exact List.cons_sublist_cons.mpr ih
  exact List.Pairwise.sublist (this _) ado
theorem qN(hs:xs.toList.Pairwise (· < ·)):∀(fuel lo hi:Nat),lo<=hi->hi<=xs.size->hi - lo<=fuel->(∀i (h:i<xs.size),i<lo->xs[i]<j)->(∀i (h:i<xs.size),hi<=i->j<=xs[i])->
 below.go xs j fuel lo hi<=xs.size/\(∀i (h:i<xs.size),i<below.go xs j fuel lo hi->xs[i]<j)/\∀i (h:i<xs.size),below.go xs j fuel lo hi<=i->j<=xs[i]
 |0,lo,hi,h1,h2,h3,h4,h5=>by
  have:lo=hi:=by omega
  subst this;exact⟨h2,h4,h5⟩
 |fuel+1,lo,hi,h1,h2,h3,h4,h5=>by
  have mono:∀i k (hk:k<xs.size) (h:i<k),xs[i]'(by omega)<xs[k]:=λi k hk h=>by
   have:=aax.mp hs i k (by simpa using (by omega:i<xs.size)) (by simpa using hk) h;simpa using this
  unfold below.go;by_cases dO:lo<hi
  ·rw[agd dO]
   dsimp only
   have hm:(lo+hi) / 2<xs.size:=by omega
   have hg:xs.getD ((lo+hi) / 2) j=xs[(lo+hi) / 2]:=by rw[ZN,ZS hm];rfl
   rw[hg];by_cases hc:xs[(lo+hi) / 2]<j
   ·rw[agd hc];refine qN hs fuel _ hi (by omega) h2 (by omega) (λi h qz=>?_) h5;by_cases e:i=(lo+hi) / 2
    ·subst e;exact hc
    ·exact abR (mono i _ hm (by omega)) hc
   ·rw[age hc];refine qN hs fuel lo _ (by omega) (by omega) (by omega) h4 λi h qz=>?_;by_cases e:i=(lo+hi) / 2
    ·subst e;omega
    ·have:=mono _ i h (by omega:(lo+hi) / 2<i);omega
  ·rw[age dO];have:lo=hi:=by omega
   subst this;exact⟨h2,h4,h5⟩
theorem yG(hs:xs.toList.Pairwise (· < ·))(j:Nat):below xs j<=xs.size/\(∀i (h:i<xs.size),i<below xs j->xs[i]<j)/\∀i (h:i<xs.size),below xs j<=i->j<=xs[i]:=
 qN hs xs.size 0 xs.size (aae _) (Zv _) (by omega) (λi h hi=>agj hi (by omega)) λi h hi=>agj h (by omega)
theorem IM{t:ab5}(hs:t.place.toList.Pairwise (· < ·))(h:t.slot j= .empty):(insertAt t.place (below t.place j) j).toList.Pairwise (· < ·):=by
 obtain⟨h1,h2,h3⟩:=yG hs j;have iV:t.place[below t.place j]? ≠some j:=λz=>by
  unfold slot at h
  dsimp only at h
  rw[z,beq_self_eq_true] at h;cases h
 rw[toList_insertAt];have C7:=hs;rw[<-adz (below t.place j) t.place.toList,aby] at C7;obtain⟨q1,q2,q3⟩:=C7;have lo:∀a∈t.place.toList.take (below t.place j),a<j:=λa ha=>by
  obtain⟨i,hi,e⟩:=List.mem_take_iff_getElem.mp ha;have qz:i<t.place.size:=by simp at hi;omega
  have:=h2 i qz (by omega);rw[<-e];simpa using this
 have hi:∀a∈t.place.toList.drop (below t.place j),j<a:=λa ha=>by
  obtain⟨i,hi,e⟩:=List.mem_drop_iff_getElem.mp ha;have qz:below t.place j+i<t.place.size:=by
   have:i+below t.place j<t.place.size:=by simpa using hi
   omega
  have:=h3 _ qz (by omega);have e':t.place[below t.place j+i]=a:=by simpa using e
  rw[e'] at this;refine Nat.lt_of_le_of_ne this λz=>?_;subst z;by_cases i0:i=0
  ·subst i0;refine iV ?_;rw[ZS (by simpa using qz)];exact agl some (by simpa using e')
  ·have h0:below t.place j<t.place.size:=by omega
   have m1:=h3 _ h0 (Zv _);have m2:=aax.mp hs (below t.place j) (below t.place j+i) (by simpa using h0) (by simpa using qz) (by omega);have m2:t.place[below t.place j]<t.place[below t.place j+i]:=by simpa using m2
   omega
 refine aby.mpr ⟨q1,aaI.mpr ⟨hi,q2⟩,λa ha b hb=>?_⟩;rcases Zw.mp hb with rfl | hb
 ·exact lo a ha
 ·exact q3 a ha b hb
structure TabOk (t:ab5) (n:Nat) (ld:Bool):Prop where
 msk:Jp t.mask
 size:t.place.size=n
 dum:t.dummies= #[]
 room:5*n<3*t.mask
 plain:t.plain=true
 led:t.led=ld
 rise:t.place.toList.Pairwise (· < ·)
theorem TabOk.fits{t:ab5}{n:Nat}{ld:Bool}(h:TabOk t n ld):t.fits n=true:=by
 unfold af5 fill;rw[h.dum,h.size];have:=h.room;simp;omega
def JE(ld:Bool)(h:Heap)(a:Addr)(xs:List (Int×Value)):Prop:=∃o es ep t,h.get? a=some o/\o.ExactSet/\o.data= .set es ep t/\es.toList.Perm xs/\TabOk t es.size ld
theorem lQ{α:Type}(xs:Array α)(p:Nat)(x:α):(insertAt xs p x).size=xs.size+1:=by
 have:=(insertAt_perm xs p x).length_eq;simpa using this
section
variable{prog:Z5}{w:World}{A:aao}{E:Value->Zt->Prop}{s:Zt}
theorem mI{ks:List Int}{b:Addr}{Q:Bool->Zt->Prop}(hk:aa6 (abo prog w) s.heap ks b)(h:Q true s):wpAny (model prog w) A (hashByValue 8 (.ref b)) Q E s:=by
 have hT:=hk.typeIs;obtain⟨o,items,n,ho,_,hd,hi⟩:=hk;unfold hashByValue;refine Zn (adQ hT F.slot_tuple_hash.lookup ?_)
 dsimp only
 refine Zn (acH ho hd ?_);refine Zn ?_;show wpAny _ _ (forIn items _ _) _ _ s;rw[<-adX];refine acf _ (λW1 r s'=>r.1=none/\s'=s/\∃ks',ItemsAre (abo prog w) ks' W1) _ ?_ ?_ _ _ ⟨rfl,rfl,ks,hi⟩
 ·rintro v W1 r s' ⟨hr,rfl,ks',hl⟩;cases hl with
  | @cons k v Ux vs h1 h2=>
    have hv:hashByValue 7 v=pure true:=by
     cases v<;>first | rfl | (exact agj h1 (by simp[abo,aek]))
    rw[hv];refine Zn (Zs ?_);simp only[adi,ZU,if_false];exact Zs ⟨rfl,rfl,_,h2⟩
 ·rintro⟨r1,r2⟩ s' ⟨hr,rfl,_⟩;simp only at hr;subst hr;exact Zs h
theorem JF:sizeAbove (grown 5)=32:=by decide
theorem FX:sizeAbove (grown 19)=128:=by decide
end
theorem o6{prog:Z5}{w:World}{h h':Heap}{ks:List Int}{b:Addr}(x:aa6 (abo prog w) h ks b)(e:∀o,h.get? b=some o->h'.get? b=some o):aa6 (abo prog w) h' ks b:=
 let ⟨o,items,n,ho,r⟩:=x
 ⟨o,items,n,e o ho,r⟩
section
variable{prog:Z5}{w:World}
def SJ(prog:Z5)(w:World)(ks:Nat->List Int)(ad:Nat->Addr)(i:Nat):List (Int×Value):=(ZX i).map λj=>(ada (abo prog w) (ks j), .ref (ad j))
end
def EU(w:World):Bool:=!w.params.followText "set-order"
section
variable{prog:Z5}{w:World}{A:aao}{E:Value->Zt->Prop}{s:Zt}
theorem Ap(a:Value){Q₁:Value->Zt->Prop}(h:Q₁ (.ref s.heap.objs.size) {s with heap:=s.heap.push {cls:= .type "set",dict:=none,data:= .set #[] 0 (.fresh 0 0 (EU w))} }):
 acF (model prog w) A (.call (.builtin "set.__new__") ⟨[.type "set",a],[]⟩) (wants Q₁ E) s:=by
 refine codeAny_of_tree (show wpAny _ A.in1 (do aeP "set.__new__" ⟨[.type "set",a],[]⟩;again (.builtin "set.__new__" ⟨[.type "set",a],[]⟩)) _ _ s from ?_);refine Zn (aeY (F.newCall_set_1 a) (Zs ⟨abI F.plain_set_new _,aa_ F.entry_set_new ?_⟩));rw[aaP F.plain_set_new _];unfold ac5.«set.__new__» Builtin.Frozenset.newClass;have G4:=sub_set_self;obtain⟨hp,g,d,tk,os⟩:=s
 dsimp only
 wp_walk
 refine wpAny_askSetting (Zs ?_);simp only[newObj];exact Zn (wpAny_alloc (Zs (Zs h)))
end
end L3
namespace L3
open PySem PySem.Spec L2 HT
open PyProof.Rows hiding St
theorem items_int{P:Z5}{w:World}:∀{us:List Value}{ns:List Int},abF us ns->ItemsAre (abo P w) ns us
 |_,_, .nil=> .nil
 |_,_, .cons n t h=> .cons (intKind_is _ _ _ _) (items_int h)
def PU:V->Addr
 | .ref a=>a
 |_=>0
theorem Af{X:Cx}{f8:List (Addr×Obj)}{σ:St}{H:Hp}{s:Zt}(I:Inv X f8 σ H s){vs:List V}{aL:List Value}{ks:List (List Int)}(hr:dh H vs ks)(rv:Vals vs aL){i:Nat}(hi:i<aL.toArray.size):
 aL.toArray[i]? =some (.ref (PU (vs.getD i .non)))/\aa6 (abo X.prog X.w) s.heap (ks.getD i []) (PU (vs.getD i .non)):=by
 have hl:=rv.length;have qz:i<aL.length:=by simpa using hi
 obtain⟨a,e1,e2⟩:=sT hr (i:=i) (by omega);have r:=o7 i rv (by omega);rw[e1] at r⊢;have r:aL.getD i aaN= .ref a:=r;refine⟨?_,?_⟩
 ·rw[Z3,Zy qz,ac_] at r;rw[adB,Zy qz,r];rfl
 ·obtain⟨us,ru,pt,_⟩:=I.tuple (SqT.of (K:=X.K) e2);obtain⟨o,q1,q2,m,q3⟩:=pt;exact⟨o,us.toArray,m,q1,q2,q3,by simpa using items_int (intsAre_of ru)⟩
end L3
namespace L3
open PySem PySem.SetTable PySem.W PyProof.Rows
def IsSI(h:Heap)(it a:Addr)(sl k n ep:Nat):Prop:=∃o,h.get? it=some o/\o.cls= .type "set_iterator"/\o.data= .fields #[aei sl,aei k, .ref a,aei n,aei ep]
theorem IsSI.typeIs{s:Zt}{it a:Addr}{sl k n ep:Nat}(x:IsSI s.heap it a sl k n ep):s.TypeIs (.ref it) "set_iterator":=let ⟨o,ho,hc,_⟩:=x;⟨o,ho,hc⟩
end L3
namespace L3
open PySem PySem.Spec L2 HT
open PyProof.Rows hiding St
end L3
namespace L3
open PySem PySem.Spec L2 SeqAt HT
open PyProof.Rows hiding St
def RH:List V->Hp->VK->Prop:=λxs H Q=>∃p aB ks,xs=[.ref p]/\Rd H p (.dT aB)/\aB.map (·.1)=ks.map qh/\ks.length<=lim/\∀(q:Addr) (ws:List V),H q=none->dh H ws ks->Q (.ref q) (upd H q (.lst ws))
section
variable{X:Cx}{Xw:Nat->Hp->Prop}{e:Expr}{δs:DA}{pos p:Pos}
theorem A9(hc:X.calm=true):CallR X (.type "list") RH:=by
 intro f8 s σ H xs us Q I r h;obtain⟨a,aB,ks,rfl,hH,CY,hk,q⟩:=h;obtain⟨u,rfl,r1⟩:=r.one;cases (show u=_ from r1);obtain⟨z,lo,xs,rel,o,es,ep,g1,g2,g3,g4,g5⟩:=(show ObjOk X.prog X.w H s.heap a (.dT aB) from hH.ok I.hok)
 have hr:=oC rel CY;have tZ:=ji hr;rw[Zo] at tZ;have Qu:es.size=xs.length:=by rw[<-ZC,g4,Zo]
 have C8:ZQ=16777216:=aa4;have VW:lim=4096:=rfl;refine PySem.W.kdl_call (Ar lo g2 g3) (I.ok.hd hc) g1 (by rw[Qu,C8];omega) λh1 tk u8 c Hi zk zi=>?_;have Mh:u8.toList.length=xs.length:=by rw[ZC,<-Qu];exact zi.1
 have rv:Vals (xs.map λx=>V.ref x.2.1) u8.toList:=by
  refine tH (by rw[Zo,Mh]) λi v u e1 e2=>?_;rw[aaC] at e2;obtain⟨en,q1,q2⟩:=zi.2 i u e2;rw[<-aaC,g4,ZJ] at q1;rw[ZJ] at e1;cases w:xs[i]? with
  |none=>rw[w] at e1;cases e1
  |some x=>
   rw[w] at e1 q1;cases e1;cases q1;exact q2
 refine⟨.ref s.heap.objs.size,_,I.laid (t':=tk) Hi (Zv _) (show ObjOk X.prog X.w _ h1 _ (.lst (xs.map λx=>V.ref x.2.1)) from⟨by rw[Zo];omega,u8.toList,c,rv,by simpa using zk⟩),rfl,q _ _ (I.hok.fresh (Zv _)) hr⟩
def Dm:List D->M D
 |[.dct kk ds]=>match fE kk with
  |some ks=>if ks.length<=lim/\ks.all (λk=>decide (k.length<=lim)) then ae (.lst (ks.map tupI)) else ag
  |none=>ag
 |_=>ag
theorem H0(hc:X.calm=true)(hg:Gl X "list")(hm:X.mg "list"=none)(hb:aab "list"=some (.type "list"))(ha:gL X Xw [e] δs)(he:kt e X.env:=by rfl):PD X Xw (.Call (.Name "list" p) [e] [] pos) (dA Dm δs):=
 oN (A9 hc) (λXw F H vs ds Q s h w=>by
  unfold Dm at w;split at w
  ·rename_i kk ds;obtain⟨v,rfl,h1⟩:=h.one;obtain⟨a,ob,ws,rfl,h2,h3,h4,h5⟩:=h1;split at w
   ·rename_i ks Jz;split at w
    ·rename_i hok;have hl:∀k∈ks,k.length<=lim:=λk hk=>agi (aan.mp hok.2 k hk);refine⟨a,_,ks,rfl, .inr ⟨ob,s _ _ h2⟩,by rw[jT (by rw[h4];exact h3.len),kT Jz],hok.1,λq us hq hr=>?_⟩;obtain⟨F1,e1,r1⟩:=sS s hr;have e2:=Ext.lay (o:= .lst us) e1.fh hq;exact WP.fin w (e1.trans e2) ⟨q,_,rfl,aJ,DenL.mono e2.ff (nL r1 hl),by rw[Zo];exact hok.1⟩
    ·exact w.elim
   ·exact w.elim
  ·exact w.elim) hg hm hb ha (by decide) (by decide) he rfl
end
end L3
namespace L3
open PySem PySem.Spec L2
open PyProof.Rows hiding St
end L3
namespace L3
open PySem PySem.Spec L2 SeqAt HT
open PyProof.Rows hiding St
section
variable{a:Expr}
end
section
variable{X:Cx}{Xw:Nat->Hp->Prop}{e:Expr}{es:List Expr}{δi:DE}{δs:DA}{pos:Pos}
theorem Ia
 (F0:au X.prog X.w X.K X.mg X.base cv k0 x0 m g0)(F1:au X.prog X.w X.K X.mg X.base cv k1 x1 m g1)
 (r0:Room k0 X.A)(r1:Room k1 X.A)(Xy:Gl X x0)(Xz:Gl X x1)(hx:Passes (cR X.prog X.w cv) X (EX cv Xw))(hi:PD X Xw ie δi)
 (ha:gL X Xw (e::es) δs)(hl:(e::es).length=m)(Xn:dL x0:=by decide)(Sr:dL x1:=by decide)
 (he:jp e es X.env:=by rfl)(j1:bv pos es X.env:=by rfl)(hs:jo ie:=by intro _ _;rfl)
 (Yi:eval (.Call (.Subscript (.List [.Name x0 p0, .Name x1 p1] pl) ie ps) (e::es) [] pos) X.env=(do callWith pos (<-eval (.Subscript (.List [.Name x0 p0, .Name x1 p1] pl) ie ps) X.env) [] (abk pos (ZF (e::es) X.env)) (ade pos (ab1 [] X.env))):=by rfl):
 PD X Xw (.Call (.Subscript (.List [.Name x0 p0, .Name x1 p1] pl) ie ps) (e::es) [] pos) (L9 [g0,g1] m δi δs):=by
 obtain⟨f0,WV,YM,a0,b0,c0,d0⟩:=F0;obtain⟨f1,WW,YN,a1,b1,c1,d1⟩:=F1;have hf:=MA (pos:=ps) wM (BY (pos:=pl) (nB (xy (pos:=p0) Xy a0 (v:= .ref f0) rfl Xn) (nB (xy (pos:=p1) Xz a1 (v:= .ref f1) rfl Sr) sH))) hi hs;intro f8 s σ H Q I ⟨F,ρ,S,w⟩;refine Call_ (cE (hf f8 s σ H (λv H1=>∃F1 kk gg f fd ps,Ext F H F1 H1/\v= .ref f/\aaO X.K (.ref f)=true/\Binds X.K fd ps []/\FnOk X.prog X.w X.K X.mg X.base (cR X.prog X.w cv) kk f fd ps (FU X.K cv m gg)/\Room kk X.A/\
  WP X.K Xw F1 H1 (δs ρ>>=λds=>if ds.length=m then gg ds else ag) Q) I ?_) λv s1 ⟨x,H1,I1,r,F1,kk,gg,f,fd,ps,e1,hv,hk,hb,hF,hr,w1⟩=>?_) Yi
 ·refine⟨by show 2<=ZQ;rw[aa4];decide,λq hq=>?_⟩;have E0:Ext F H F (upd H q (.lst [.ref f0, .ref f1])):=Ext.free S.fh hq;refine⟨F,ρ,S.ext E0,WP.mono (WP.bind (WP.ext E0 w)) λv H1 ⟨F1,d,e1,q1,w1⟩=>?_⟩;split at w1
  ·rename_i hok;unfold HG at hok;split at hok
   ·rename_i k;cases (show v=_ from q1);have V7:H1 q=some (.lst [.ref f0, .ref f1]):=e1.hh _ _ aJ;have w1:WP X.K Xw F1 H1 (δs ρ>>=λds=>match L2.atI [g0,g1] k with | some g=>if ds.length=m then g ds else ag | none=>ag) Q:=w1;obtain⟨g,hg⟩:=aar.mp hok;rw[hg] at w1;unfold L2.atI at hg;cases hj:Hf 2 k with
    |none=>
     have hg:(Hf 2 k).bind (λj=>[g0,g1][j]?)=some g:=hg;rw[hj] at hg;cases hg
    |some j=>
     have hg:(Hf 2 k).bind (λj=>[g0,g1][j]?)=some g:=hg;rw[hj] at hg;have Vq:∀v,[V.ref f0, .ref f1][j]? =some v->L2.atI [V.ref f0, .ref f1] k=some v:=λv hv=>by
      show (Hf 2 k).bind (λj=>[V.ref f0, .ref f1][j]?)=some v;rw[hj];exact hv
     have hg:[g0,g1][j]? =some g:=hg
     match j,hg with
     |0,hg=>cases hg;exact⟨q,_,k, .ref f0,rfl,rfl,SqL.of V7,Vq _ rfl,F1,k0,g0,f0,WV,YM,E0.trans e1,rfl,b0,c0,d0,r0,w1⟩
     |1,hg=>cases hg;exact⟨q,_,k, .ref f1,rfl,rfl,SqL.of V7,Vq _ rfl,F1,k1,g1,f1,WW,YN,E0.trans e1,rfl,b1,c1,d1,r1,w1⟩
     |n+2,hg=>cases hg
   ·cases hok
  ·exact w1.elim
 ·subst hv;cases (show v=_ from r);refine adL I1.ok.mod.kin hk (cE (ha pos f8 s1 σ H1 (λvs H2=>FU X.K cv m gg (vs++[]) H2 Q (EX cv Xw)) I1 ⟨F1,ρ,S.ext e1,WPL.mono (WP.bindL w1) λvs H2 ⟨F2,ds,e2,q2,w2⟩=>?_⟩) λus s2 ⟨vs,H2,I2,rr,q⟩=>⟨I2.kIn,?_⟩) he j1
  ·split at w2
   ·rename_i tZ;exact⟨F2,ds,e2.fh,by simpa using q2,by rw[Z_,<-q2.len];exact tZ,WP.xw w2 λn H h=>⟨n,rfl,h⟩⟩
   ·exact w2.elim
  ·exact B5 hF hr hb .nil hx I2 rr q
end
end L3
namespace L3
open PySem PySem.Spec L2 HT
open PyProof.Rows hiding St
section
variable{X:Cx}{Xw:Nat->Hp->Prop}{δa:DE}{δs:DA}{es J4:List Expr}{k:Nat}{p:Pos}
theorem CF{a:Expr}(ha:Box (PD X Xw a δa))(hr:Box (gL X Xw es δs))(hs:ZF (a::es) X.env=(false,eval a X.env)::ZF es X.env):Box (gL X Xw (a::es) (aC δa δs)):=⟨aa ha.1 hr.1 hs⟩
theorem j2(ha:Box (PD X Xw (.Tuple J4 k p) δa))(hr:Box (gL X Xw es δs)):Box (gL X Xw (.Tuple J4 k p::es) (aC δa δs)):=CF ha hr (by rfl)
theorem lU:Box (gL X Xw [] aN):=⟨ah⟩
theorem qO(h:Box (gL X Xw es δs)):Box (PD X Xw (.Tuple es k p) (dA aQ δs)):=⟨bB h.1⟩
theorem b6{x:Str}{j:Nat}{q:Pos}(hr:Box (gL X Xw es δs))(h:x.length<=lim:=by decide):Box (gL X Xw (.Constant (.str x) j q::es) (aC (dC (.str x)) δs)):=CF ⟨cf h⟩ hr (by rfl)
end
end L3
namespace L3
open PySem PySem.Spec L2 SeqAt HT
open PyProof.Rows hiding St
abbrev Y4:=List (Key×List Key)
def Vo(ρ:cJ):Bool:=ρ.all λx=>match x with | some (.ow _)=>false | _=>true
end L3
namespace L3
open PySem PySem.SetTable
def tM(m:Nat):ab5:={mask:=m,place:= #[],dummies:= #[],finger:=0,led:=false,moves:=0,plain:=true}
theorem L5(t:ab5):∀(n:Nat) (p:Probe),n_ t n p=n_ (tM t.mask) n p
 |0,_=>rfl
 |n+1,p=>L5 t n _
def pos(m:Nat)(h:Int)(n:Nat):Nat:=(n_ (tM m) n ((tM m).probeStart h)).j
theorem DM(t:ab5)(h:Int)(n:Nat):(n_ t n (t.probeStart h)).j=pos t.mask h n:=by rw[L5];rfl
def RchZ(m:Nat)(Z:List (Nat×Int)):Prop:=∀x∈Z,∃n,n<10*turns m/\pos m x.2 n=x.1/\∀n',n'<n->∃h',(pos m x.2 n',h')∈Z
def ue(t:ab5)(es:Array (Int×Value)):List (Nat×Int):=t.place.toList.zip (es.toList.map (·.1))
theorem slot_of{t:ab5}(hs:t.place.toList.Pairwise (· < ·))(h:t.place[i]? =some j):t.slot j= .live i:=by
 obtain⟨hi,e⟩:=aau.mp h;obtain⟨h1,h2,h3⟩:=yG hs j;have a1:below t.place j<=i:=by
  apply aav;intro z;have:=h2 i hi (by omega);omega
 have a2:below t.place j=i:=by
  apply aav;intro z;have hb:below t.place j<t.place.size:=by omega
  have m1:=h3 _ hb (Zv _);have m2:=aax.mp hs (below t.place j) i (by simpa using hb) (by simpa using hi) (by omega);have m2:t.place[below t.place j]<t.place[i]:=by simpa using m2
  omega
 unfold slot
 dsimp only
 rw[a2,h,beq_self_eq_true,agd rfl]
theorem zX(hs:t.place.toList.Pairwise (· < ·))(hx:(j,h)∈ue t es):∃i e,t.slot j= .live i/\es[i]? =some e/\e.1=h:=by
 obtain⟨i,hi,e⟩:=aal.mp hx;unfold ue at hi e;rw[abA,Zo,ZC,ZC] at hi;rw[acA,aba] at e;have h1:i<t.place.size:=by omega
 have h2:i<es.size:=by omega
 refine⟨i,es[i],slot_of hs ?_,ZS h2,?_⟩
 ·rw[ZS h1];exact agl some (by simpa using e.1)
 ·simpa using e.2
theorem IZ(hd:t.dummies= #[])(hz:t.place.size=es.size)(h:t.slot j≠ .empty):∃x,(j,x)∈ue t es:=by
 cases hs:t.slot j with
 |empty=>exact agj hs h
 |dummy=>exact agj hs (gn hd j)
 |live i=>
  obtain⟨hi,e⟩:=aau.mp (lg hs);have h2:i<es.size:=by omega
  refine⟨es[i].1,aal.mpr ⟨i,by unfold ue;rw[abA,Zo,ZC,ZC];omega,?_⟩⟩;unfold ue;rw[acA,aba];exact⟨by simpa using e,by simp⟩
theorem GQ(hd:∀j,t.slot j≠ .dummy)(hh:∀j i,t.slot j= .live i->(hashAt i==h)=false):
 ∀(n fuel:Nat) (p:Probe),n<fuel->p.dummy=none->t.slot (n_ t n p).j= .empty->∃n0,n0<=n/\probe.go t hashAt h fuel p=some (.empty (n_ t n0 p).j none)/\t.slot (n_ t n0 p).j= .empty/\∀n',n'<n0->t.slot (n_ t n' p).j≠ .empty
 |n,0,p,hn,_,_=>agj hn (by omega)
 |n,fuel+1,p,hn,hp,he=>by
  unfold probe.go;cases hs:t.slot p.j with
  |empty=>exact⟨0,aae _,by rw[hp];rfl,hs,λn' h'=>agj h' (by omega)⟩
  |dummy=>exact agj hs (hd _)
  |live i=>
   dsimp only
   rw[hh p.j i hs];cases n with
   |zero=>rw[show (n_ t 0 p).j=p.j from rfl,hs] at he;cases he
   |succ n=>
    obtain⟨n0,a1,a2,a3,a4⟩:=GQ hd hh n fuel (t.advance p) (by omega) (by rw[uG];exact hp) he;refine⟨n0+1,by omega,by simp only[ZU,if_false];exact a2,a3,λn' h'=>?_⟩;cases n' with
    |zero=>intro z;rw[show (n_ t 0 p).j=p.j from rfl,hs] at z;cases z
    |succ n'=>exact a4 n' (by omega)
theorem GR(hd:∀j,t.slot j≠ .dummy):
 ∀(n fuel:Nat) (p:Probe),n<fuel->(∀n',n'<n->t.slot (n_ t n' p).j≠ .empty)->(∃i,t.slot (n_ t n p).j= .live i/\hashAt i=h)->∃j i nx,probe.go t hashAt h fuel p=some (.candidate j i nx)/\t.slot j= .live i/\hashAt i=h
 |n,0,p,hn,_,_=>agj hn (by omega)
 |n,fuel+1,p,hn,hp,he=>by
  unfold probe.go;cases hs:t.slot p.j with
  |empty=>
   cases n with
   |zero=>obtain⟨i,e,_⟩:=he;rw[show (n_ t 0 p).j=p.j from rfl,hs] at e;cases e
   |succ n=>exact agj hs (hp 0 (by omega))
  |dummy=>exact agj hs (hd _)
  |live i=>
   dsimp only
   by_cases hi:hashAt i=h
   ·exact⟨p.j,i,_,by rw[agd (by rw[hi];exact beq_self_eq_true _)],hs,hi⟩
   ·rw[age (by simpa using hi)];cases n with
    |zero=>
     obtain⟨i',e,e'⟩:=he;rw[show (n_ t 0 p).j=p.j from rfl,hs] at e;cases e;exact agj e' hi
    |succ n=>exact GR hd n fuel (t.advance p) (by omega) (λn' h'=>hp (n'+1) (by omega)) he
theorem Fp(hm:Jp t.mask)(hd:t.dummies= #[])(hz:t.place.size=es.size)(hp:t.place.size<=t.mask)(hh:∀i,i<t.place.size->(hashAt i==h)=false):
 ∃j,t.probe hashAt h (t.probeStart h)=some (.empty j none)/\t.slot j= .empty/\∃n,n<10*turns t.mask/\pos t.mask h n=j/\∀n',n'<n->∃x,(pos t.mask h n',x)∈ue t es:=by
 obtain⟨j,hj,he⟩:=B_ hd hp;obtain⟨k,hk,e⟩:=reach hm (CD h) hj;obtain⟨n,hn,ea⟩:=FZ k;obtain⟨n0,a1,a2,a3,a4⟩:=GQ (gn hd) (λj i hs=>hh i (aau.mp (lg hs)).1) n (10*turns t.mask) (t.probeStart h) (by unfold turns;omega) rfl (by rw[ea];show t.slot (iK t.mask (bits h) k).1=_;rw[e];exact he);refine⟨_,a2,a3,n0,by unfold turns;omega,(DM t h n0).symm,λn' h'=>IZ hd hz ?_⟩;rw[<-DM];exact a4 n' h'
theorem Fq(hd:t.dummies= #[])(hz:t.place.size=es.size)(hs:t.place.toList.Pairwise (· < ·))(hr:RchZ t.mask (ue t es))(hx:(j0,h)∈ue t es):
 ∃j i nx,t.probe (λi=>(es[i]?.map (·.1)).getD 0) h (t.probeStart h)=some (.candidate j i nx)/\∃e,es[i]? =some e/\e.1=h:=by
 obtain⟨n,a1,a2,a3⟩:=hr _ hx;obtain⟨i0,e0,b1,b2,b3⟩:=zX hs hx;have ne:∀n',n'<n->t.slot (n_ t n' (t.probeStart h)).j≠ .empty:=λn' h'=>by
  obtain⟨x,G5⟩:=a3 n' h';obtain⟨i,e,c1,_⟩:=zX hs G5;rw[DM,c1];exact λz=>by cases z
 obtain⟨j,i,nx,c1,c2,c3⟩:=GR (hashAt:=λi=>(es[i]?.map (·.1)).getD 0) (gn hd) n (10*turns t.mask) (t.probeStart h) a1 ne ⟨i0,by rw[DM];exact(show pos t.mask h n=j0 from a2)▸b1,by show (es[i0]?.map (·.1)).getD 0=h;rw[b2];exact b3⟩;have hi:i<es.size:=hz▸(aau.mp (lg c2)).1;refine⟨j,i,nx,c1,es[i],ZS hi,?_⟩;have c3:(es[i]?.map (·.1)).getD 0=h:=c3;rw[ZS hi] at c3;exact c3
theorem RchZ.put(r:RchZ m Z)(hz:∀x,x∈Z'↔x=(j,h)\/x∈Z)(hn:∃n,n<10*turns m/\pos m h n=j/\∀n',n'<n->∃x,(pos m h n',x)∈Z):RchZ m Z':=λx hx=>by
 rcases(hz x).mp hx with rfl | hx
 ·obtain⟨n,a1,a2,a3⟩:=hn;exact⟨n,a1,a2,λn' h'=>let ⟨y,hy⟩:=a3 n' h';⟨y,(hz _).mpr (.inr hy)⟩⟩
 ·obtain⟨n,a1,a2,a3⟩:=r x hx;exact⟨n,a1,a2,λn' h'=>let ⟨y,hy⟩:=a3 n' h';⟨y,(hz _).mpr (.inr hy)⟩⟩
theorem KI(hz:t.place.size=es.size)(h:t'.place=insertAt t.place p j)(x:Nat×Int):x∈ue t' (insertAt es p e)↔x=(j,e.1)\/x∈ue t es:=by
 unfold ue;rw[h,toList_insertAt,toList_insertAt,aaw,Zu,List.map_take,List.map_drop];have hl:t.place.toList.length=(es.toList.map (·.1)).length:=by rw[Zo,ZC,ZC,hz]
 generalize t.place.toList=a at hl;generalize es.toList.map (·.1)=b at hl;have zl:(a.take p).length=(b.take p).length:=by rw[ab6,ab6,hl]
 have e2:a.zip b=(a.take p).zip (b.take p)++(a.drop p).zip (b.drop p):=by
  rw[<-acL zl,adz,adz]
 rw[acL zl,aaR,e2];simp only[Z9,Zw];constructor
 ·rintro(h | h | h)
  ·exact .inr (.inl h)
  ·exact .inl h
  ·exact .inr (.inr h)
 ·rintro(h | h | h)
  ·exact .inr (.inl h)
  ·exact .inl h
  ·exact .inr (.inr h)
def MQ(m:Nat)(o:Array (Option Nat))(x:Nat):Prop:=∃k,o.getD x none=some k
theorem HF(hs:o.size=m+1)(hx:x<m+1)(h:¬(o.getD x (some 0)).isNone=true):MQ m o x:=by
 rw[ZN,ZS (by omega),ac_] at h;unfold MQ;rw[ZN,ZS (by omega),ac_];cases e:o[x] with
 |none=>rw[e] at h;exact agj rfl h
 |some k=>exact⟨k,rfl⟩
theorem Fu(h:i<m+1):runEnd m i<m+1:=by
 unfold runEnd;split<;>omega
theorem B2(e:n_ (tM m) n0 ((tM m).probeStart h)=sK m h k)(hq:q<=runEnd m (iK m (bits h) k).1 - (iK m (bits h) k).1):pos m h (n0+q)=(iK m (bits h) k).1+q:=by
 unfold pos;rw[my,e,AY (tM m) q (sK m h k) hq];rfl
theorem u0(hs:o.size=m+1):∀(fuel k n0:Nat),layClean.free m o fuel (iK m (bits h) k).1 (iK m (bits h) k).2=some j->n0<=10*k->n_ (tM m) n0 ((tM m).probeStart h)=sK m h k->(∀n',n'<n0->MQ m o (pos m h n'))->
 (o.getD j (some 0)).isNone=true/\∃n1,n1<10*(k+fuel)/\pos m h n1=j/\∀n',n'<n1->MQ m o (pos m h n')
 |0,k,n0,e,_,_,_=>by unfold layClean.free at e;cases e
 |fuel+1,k,n0,e,h0,ha,ho=>by
  have dO:=Mr m (bits h) k;have Zh:=Fu dO;have h9:=IT m (iK m (bits h) k).1;unfold layClean.free at e;cases hf:(ZX (runEnd m (iK m (bits h) k).1+1 - (iK m (bits h) k).1)).find? λq=>(o.getD ((iK m (bits h) k).1+q) (some 0)).isNone with
  |some q=>
   rw[hf] at e;have e:(iK m (bits h) k).1+q=j:=Z4 e;obtain⟨b1,b2,b3⟩:=List.find?_range_eq_some.mp hf;have b2:=aa1.mp b2;refine⟨e▸b1,n0+q,by omega,by rw[B2 ha (by omega)];exact e,λn' h'=>?_⟩;by_cases hn:n'<n0
   ·exact ho n' hn
   ·obtain⟨q',rfl⟩:∃q',n'=n0+q':=⟨n' - n0,by omega⟩
    rw[B2 ha (by omega)];refine HF hs (by omega) ?_;have:=b3 q' (by omega);intro z;rw[z] at this;cases this
  |none=>
   rw[hf] at e;have wy:=afW.mp hf;have:=u0 hs fuel (k+1) (n0+((sK m h k).more+1)) e (by show n0+(runEnd m (iK m (bits h) k).1 - (iK m (bits h) k).1+1)<=_;omega) (by rw[my,ha];exact yB) λn' h'=>by
    by_cases hn:n'<n0
    ·exact ho n' hn
    ·obtain⟨q',rfl⟩:∃q',n'=n0+q':=⟨n' - n0,by omega⟩
     have h':n0+q'<n0+(runEnd m (iK m (bits h) k).1 - (iK m (bits h) k).1+1):=h';rw[B2 ha (by omega)];have Y_:(iK m (bits h) k).1<=runEnd m (iK m (bits h) k).1:=by unfold runEnd;split<;>omega
     exact HF hs (by omega) (wy q' (aa1.mpr (by omega)))
   obtain⟨c0,n1,c1,c2⟩:=this;exact⟨c0,n1,by omega,c2⟩
def qJ(m:Nat)(hs:List Int)(o:Array (Option Nat)):Prop:=∀j k,o.getD j none=some k->∃h,hs[k]? =some h/\∃n,n<10*turns m/\pos m h n=j/\∀n',n'<n->MQ m o (pos m h n')
theorem Ku(hz:o.size=m+1)(L:qJ m hs o)(e:layClean.free m o (turns m) (bits h % (m+1)) (bits h)=some j):qJ m (hs++[h]) (o.setIfInBounds j (some hs.length)):=by
 obtain⟨h0,n1,a1,a2,a3⟩:=u0 hz (turns m) 0 0 e (Zv _) rfl λn' h'=>agj h' (by omega);obtain⟨dO,zk⟩:=rF h0;have self:(o.setIfInBounds j (some hs.length)).getD j none=some hs.length:=by rw[ZN,ady dO];rfl
 have JD:∀x,x≠j->(o.setIfInBounds j (some hs.length)).getD x none=o.getD x none:=λx hx=>by
  rw[ZN,ZN,ad9 (λz=>hx z.symm)]
 have mono:∀x,MQ m o x->MQ m (o.setIfInBounds j (some hs.length)) x:=λx ⟨k,hk⟩=>by
  by_cases hx:x=j
  ·subst hx;exact⟨_,self⟩
  ·exact⟨k,(JD x hx).trans hk⟩
 intro x k hk;by_cases hx:x=j
 ·subst hx;rw[self] at hk;cases hk;exact⟨h,by simp,n1,by omega,a2,λn' h'=>mono _ (a3 n' h')⟩
 ·rw[JD x hx] at hk;obtain⟨h',b1,n,b2,b3,b4⟩:=L x k hk;exact⟨h',by rw[aac (ZI.mp b1).1];exact b1,n,b2,b3,λn' h'=>mono _ (b4 n' h')⟩
theorem uX(f:Option α->β->Option α)(hf:∀b,f none b=none):∀l:List β,l.foldl f none=none
 |[]=>rfl
 |b::l=>by rw[abj,hf];exact uX f hf l
theorem Dg:∀(W1 pre:List Int) (o:Array (Option Nat)) (r:Array (Option Nat)×Nat),(W1.foldl (init:=some (o,pre.length)) λu8 h=>do
 let (owner,k)<-u8
 let j<-layClean.free m owner (turns m) (bits h % (m+1)) (bits h)
 pure (owner.setIfInBounds j (some k),k+1))=some r->o.size=m+1->qJ m pre o->qJ m (pre++W1) r.1/\r.1.size=m+1
 |[],pre,o,r,e,hz,L=>by
  cases e;rw[Z_];exact⟨L,hz⟩
 |h::W1,pre,o,r,e,hz,L=>by
  rw[abj] at e;cases ej:layClean.free m o (turns m) (bits h % (m+1)) (bits h) with
  |none=>
   have e':(some (o,pre.length)>>=λx:Array (Option Nat)×Nat=>layClean.free m x.1 (turns m) (bits h % (m+1)) (bits h)>>=λj=>pure (x.1.setIfInBounds j (some x.2),x.2+1))=none:=by
    show (layClean.free m o (turns m) (bits h % (m+1)) (bits h)>>=_)=none;rw[ej];rfl
   erw [e',uX _ (λ_=>rfl)] at e
   cases e
  |some j=>
   have e':(some (o,pre.length)>>=λx:Array (Option Nat)×Nat=>layClean.free m x.1 (turns m) (bits h % (m+1)) (bits h)>>=λj=>pure (x.1.setIfInBounds j (some x.2),x.2+1))=some (o.setIfInBounds j (some pre.length),(pre++[h]).length):=by
    show (layClean.free m o (turns m) (bits h % (m+1)) (bits h)>>=_)=_;rw[ej,ZA];rfl
   erw [e'] at e
   have:=Dg W1 (pre++[h]) _ r e (by rw[aeM];exact hz) (Ku hz L ej);rw[aa0] at this;exact this
theorem Hm{m f mv:Nat}{led pl:Bool}(e:laid m f mv led pl hs=some (t,order)):
 ∃live:List (Nat×Nat),t.place.toList=live.map (·.1)/\order.toList=live.map (·.2)/\∀x∈live,∃h,hs[x.2]? =some h/\∃n,n<10*turns m/\pos m h n=x.1/\∀n',n'<n->∃k',(pos m h n',k')∈live:=by
 unfold laid at e;cases eo:layClean m hs with
 |none=>rw[eo] at e;cases e
 |some o=>
  rw[eo] at e;have e:=Z4 e;rw[aba] at e;obtain⟨e1,e2⟩:=e;have L:qJ m hs.toList o/\o.size=m+1:=by
   unfold layClean at eo;rw[<-afH] at eo;obtain⟨r,hr,er⟩:=adf.mp eo;have:=Dg hs.toList [] (aen (m+1) none) r hr (by simp) λj k hk=>by
    rw[ZN,aeN] at hk;split at hk<;>cases hk
   rw[ZY,er] at this;exact this
  refine⟨_,by rw[<-e1],by rw[<-e2],λx hx=>?_⟩;obtain⟨j,hj,ej⟩:=aci.mp hx;obtain⟨k,hk,ek⟩:=adf.mp ej;subst ek;obtain⟨h,a1,n,a2,a3,a4⟩:=L.1 j k hk;refine⟨h,by rw[<-aaC];exact a1,n,a2,a3,λn' h'=>?_⟩;obtain⟨k',wB⟩:=a4 n' h';refine⟨k',aci.mpr ⟨pos m h n',aa1.mpr ?_,by rw[wB];rfl⟩⟩;have:pos m h n'<o.size:=by
   apply aav;intro z;rw[ZN,aeW (by omega)] at wB;cases wB
  omega
def SetR(ld:Bool)(h:Heap)(a:Addr)(xs:List (Int×Value)):Prop:=∃o es ep t,h.get? a=some o/\o.ExactSet/\o.data= .set es ep t/\es.toList.Perm xs/\TabOk t es.size ld/\RchZ t.mask (ue t es)
theorem SetR.set:SetR ld h a xs->JE ld h a xs:=λ⟨o,es,ep,t,a1,a2,a3,a4,a5,_⟩=>⟨o,es,ep,t,a1,a2,a3,a4,a5⟩
theorem SetR.at(x:SetR ld h a xs)(e:∀o,h.get? a=some o->h'.get? a=some o):SetR ld h' a xs:=
 let ⟨o,es,ep,t,ho,r⟩:=x
 ⟨o,es,ep,t,e o ho,r⟩
theorem Hl{led pl:Bool}{es:Array (Int×Value)}(e:laid m f mv led pl (es.map (·.1))=some (t,order)):RchZ m (ue t (order.filterMap (es[·]?))):=by
 obtain⟨live,h1,h2,h3⟩:=Hm e;have key:∀l:List (Nat×Nat),(∀x∈l,x.2<es.size)->(l.map (·.1)).zip (((l.map (·.2)).filterMap (es[·]?)).map (·.1))=l.map λx=>(x.1,(es.getD x.2 (0, .none)).1):=by
  intro l;induction l with
  |nil=>exact λ_=>rfl
  |cons x l ih=>
   intro h;have hx:=h x (Zq ..);have eg:es[x.2]? =some es[x.2]:=ZS hx;rw[Zu,Zu,aa7 eg,Zu,aaR,ih λy hy=>h y (Zp _ hy),Zu,ZN,eg];rfl
 have jz:∀x∈live,x.2<es.size:=λx hx=>by
  obtain⟨h,a,_⟩:=h3 x hx;simpa using (aau.mp a).1
 have eo:ue t (order.filterMap (es[·]?))=live.map λx=>(x.1,(es.getD x.2 (0, .none)).1):=by
  unfold ue;rw[aeV,h1,h2];exact key live jz
 rw[eo];intro y hy;obtain⟨x,hx,rfl⟩:=Zx.mp hy;obtain⟨h,a,n,b1,b2,b3⟩:=h3 x hx;have eh:(es.getD x.2 (0, .none)).1=h:=by
  rw[Array.getElem?_map,ZS (jz x hx)] at a;rw[ZN,ZS (jz x hx)];exact Z4 a
 rw[eh];exact⟨n,b1,b2,λn' h'=>let ⟨k',wB⟩:=b3 n' h';⟨_,Zx.mpr ⟨_,wB,rfl⟩⟩⟩
section
variable{prog:Z5}{w:World}{A:aao}{E:Value->Zt->Prop}{s:Zt}
theorem pS(hk:aa6 (abo prog w) s.heap ks b)(h:Q false s):wpAny (model prog w) A (aew 8 (.ref b)) Q E s:=by
 have hT:=hk.typeIs;obtain⟨o,items,n,ho,_,hd,hi⟩:=hk;unfold aew;refine Zn (aeE hT ?_)
 dsimp only
 rw[agd (by decide)];refine Zn (Zs ?_);simp only[adi,ZU,if_false];refine Zn (acH ho hd ?_)
 dsimp only
 refine Zn ?_;show wpAny _ _ (forIn items _ _) _ _ s;rw[<-adX];refine acf _ (λW1 r s'=>r.1=none/\s'=s/\∃ks',ItemsAre (abo prog w) ks' W1) _ ?_ ?_ _ _ ⟨rfl,rfl,ks,hi⟩
 ·rintro v W1 r s' ⟨hr,rfl,ks',hl⟩;cases hl with
  | @cons k v Ux vs h1 h2=>
    have hv:aew 7 v=pure false:=by
     cases v<;>first | rfl | (exact agj h1 (by simp[abo,aek]))
    rw[hv];refine Zn (Zs ?_);simp only[ZU,if_false];exact Zs ⟨rfl,rfl,_,h2⟩
 ·rintro⟨r1,r2⟩ s' ⟨hr,rfl,_⟩;simp only at hr;subst hr;exact Zs h
theorem xF(hb:aa6 (abo prog w) s.heap ks b)(hc:aa6 (abo prog w) s.heap ks c)(hl:∀v∈l,v= .ref c)(h:Q false s):wpAny (model prog w) A (searchCouldBeSeen (.ref b) l) Q E s:=by
 unfold searchCouldBeSeen;refine Zn ?_;refine acf _ (λW1 r s'=>r.1=none/\s'=s/\∀v∈W1,v= .ref c) _ ?_ ?_ _ _ ⟨rfl,rfl,hl⟩
 ·rintro v W1 r s' ⟨hr,rfl,wy⟩;obtain rfl:=wy v Zq;have Mi:∀v∈W1,v= .ref c:=λu hu=>wy u (Zp _ hu)
  dsimp only
  refine wpAny_ite_split (λ_=>Zs ⟨rfl,rfl,Mi⟩) λ_=>?_;refine Zn (wpAny_eqIsQuiet_tuple hb ?_);simp only[adi,ZU,if_false];refine Zn (wpAny_eqIsQuiet_tuple hc ?_);simp only[adi,ZU,if_false];refine Zn (pS hb ?_);simp only[ZU,if_false];refine Zn (pS hc ?_);simp only[ZU,if_false];exact Zs ⟨rfl,rfl,Mi⟩
 ·rintro⟨r1,r2⟩ s' ⟨hr,rfl,_⟩;simp only at hr;subst hr;exact Zs h
theorem o3(hu:A.units<cLine)(hb:aa6 (abo prog w) s.heap ks b)(hc:aa6 (abo prog w) s.heap ks c)(hS:SetR ld s.heap a xs)(jz:(hk, .ref c)∈xs)(T_:∀e∈xs,e.1=hk->e=(hk, .ref c))
 (h:Q false s):wpAny (model prog w) A (aeF a (.ref b) hk) Q E s:=by
 obtain⟨o,es,ep,t,ho,hex,hd,hp,ht,hr⟩:=hS;have hf:=ht.fits;have Mo:∀e∈es.toList,e.1=hk->e=(hk, .ref c):=λe he=>T_ e (hp.mem_iff.mp he);obtain⟨i0,VR,e0⟩:=aal.mp (hp.mem_iff.mpr jz);have T4:∃j0,(j0,hk)∈ue t es:=by
  rw[ZC] at VR;have h1:i0<t.place.size:=by rw[ht.size];exact VR
  refine⟨t.place[i0],aal.mpr ⟨i0,by unfold ue;rw[abA,Zo,ZC,ZC];omega,?_⟩⟩;unfold ue;rw[acA,aba];refine⟨by simp,?_⟩;rw[acB,e0]
 obtain⟨j0,TM⟩:=T4;obtain⟨j,i,nx,ej,e,Pq,Qq⟩:=Fq ht.dum ht.size ht.rise hr TM;have TV:e∈es.toList:=by
  rw[<-aaC] at Pq;exact aak Pq
 have Xs:=Mo e TV Qq;subst Xs;have TH:t.gaveWay=false:=by
  unfold afm;rcases ht.msk with e | e | e<;>rw[e]<;>rfl
 unfold aeF setAddHashedIn;refine aaA (Zn (abl ho hd hf ?_))
 dsimp only
 have Ts:byScan (.ref b) es=false:=rfl;rw[Ts];simp only[ZU,↓reduceIte];unfold setSearch setSearchFrom;refine Zn (Zn (abl ho hd hf ?_))
 dsimp only
 rw[TH];simp only[ZU,↓reduceIte];refine Zn (Zs ?_);split
 ·rename_i met heq;have e:met= .candidate j i nx:=Z4 (heq.symm.trans ej);subst e
  dsimp only
  rw[Pq]
  dsimp only
  have Qo:decide (ks=ks)=true:=agg rfl;refine wpAny_ite_split (λ_=>?_) λ_=>?_
  ·refine Zn (xF hb hc (λv hv=>?_) ?_)
   ·obtain⟨e,he,rfl⟩:=Zx.mp hv;rw[afy] at he;obtain⟨Qq,Su⟩:=ZT.mp he;rw[Mo e Qq (ae3 Su)]
   ·rw[age (by decide)];refine Zn (aaA (wpAny_eqBool_tuple hu hc hb ?_));rw[Qo];refine Zn (abl ho hd hf ?_);exact Zs (Zs h)
  ·refine Zn (aaA (wpAny_eqBool_tuple hu hc hb ?_));rw[Qo];refine Zn (abl ho hd hf ?_);exact Zs (Zs h)
 ·rename_i wC;exact agj ej (wC _)
theorem sZ(ho:s.heap.get? a=some o)(hd:o.data= .set es ep t)(ht:TabOk t es.size ld)(l7:∀e∈es.toList,e.1≠hk)
 (h:∀j,t.slot j= .empty->(∃n,n<10*turns t.mask/\pos t.mask hk n=j/\∀n',n'<n->∃x,(pos t.mask hk n',x)∈ue t es)->Q (.free j false) s):wpAny (model prog w) A (setSearch a (.ref b) hk true) Q E s:=by
 have hf:=ht.fits;obtain⟨hm,j1,Tz,h5,_,_,_⟩:=ht;have TH:t.gaveWay=false:=by
  unfold afm;rcases hm with e | e | e<;>rw[e]<;>rfl
 obtain⟨j,ej,hj,G3⟩:=Fp (hashAt:=λi=>(es[i]?.map (·.1)).getD 0) hm Tz j1 (by omega) λi hi=>by
  rw[ZS (by omega)];refine agk.mpr λz=>l7 (es[i]'(by omega)) (by rw[<-Array.getElem_toList];exact aaM _) z
 unfold setSearch setSearchFrom;refine Zn (abl ho hd hf ?_)
 dsimp only
 rw[TH];simp only[ZU,↓reduceIte];refine Zn (Zs ?_);split
 ·rename_i met heq;have e:met= .empty j none:=Z4 (heq.symm.trans ej);subst e;exact Zs (h j hj G3)
 ·rename_i wC;exact agj ej (wC _)
theorem xT(ho:s.heap.get? a=some o)(hex:o.ExactSet)(hd:o.data= .set es ep t)(hf:t.fits es.size=true)(Pt:t.plain=true)(hm:Jp (sizeAbove n - 1))(h5:5*es.size<3*(sizeAbove n - 1))
 (h:∀h',abe a s.heap h'->SetR t.led h' a es.toList->Q () {s with heap:=h'}):wpAny (model prog w) A (setRelay a n) Q E s:=by
 obtain⟨t',order,e1,e2,e3,e4,e5,e6,e7,e8⟩:=Kt hm (hs:=es.map (·.1)) (by rw[Array.size_map];omega);rw[Array.size_map] at e4 e5;have CZ:(order.filterMap (es[·]?)).toList.Perm es.toList:=by
  rw[aeV];have:=e5.filterMap (λi=>es[i]?)
  rwa [filterMap_getElem?_range] at this
 have hsz:(order.filterMap (es[·]?)).size=es.size:=by rw[<-ZC,CZ.length_eq,ZC]
 have Ud:RchZ t'.mask (ue t' (order.filterMap (es[·]?))):=by rw[e2];exact Hl e1
 have Xj:sizeAbove n<=128:=by rcases hm with e | e | e<;>omega
 unfold setRelay;refine Zn (abl ho hd hf ?_)
 dsimp only
 rw[age (by rw[aa4];omega)];have hr:t.relaid (es.map (·.1)) n=some (t',order):=e1;rw[hr];refine Zn (aeY (a:=(order.filterMap (es[·]?),t')) ?_ ?_)
 ·show (if ((order.filterMap (es[·]?)).size !=es.size)=true then(do (unsupported "internal:set-table-lost-an-element":Sem PUnit);pure (order.filterMap (es[·]?),t')) else pure (order.filterMap (es[·]?),t'))=_;rw[hsz,bne_self_eq_false];rfl
 ·dsimp only
  refine wpAny_storeSet_of ho hd (h _ (aah ..) ?_) (by rw[hsz,aa4];rcases hm with e | e | e<;>omega);have hg:(s.heap.update a (aed (order.filterMap (es[·]?)) t')).get? a=some {o with data:= .set (order.filterMap (es[·]?)) (ep+1) t'}:=by
   have:=aaE (aed (order.filterMap (es[·]?)) t') ho (by rw[putSet_of _ t' hd];rfl);rw[putSet_of _ t' hd] at this;exact this
  exact⟨_,_,ep+1,t',hg,hex,rfl,CZ,⟨by rw[e2];exact hm,by rw[hsz];exact e4,e3,by rw[hsz,e2];exact h5,e6.trans Pt,e7,e8⟩,Ud⟩
theorem nR(EF:aa6 (abo prog w) s.heap ks b)(hS:SetR ld s.heap a xs)(l7:hk∉xs.map (·.1))(hl:xs.length<64)
 (h:∀h',abe a s.heap h'->SetR ld h' a (xs++[(hk, .ref b)])->Q true {s with heap:=h'}):wpAny (model prog w) A (aeF a (.ref b) hk) Q E s:=by
 obtain⟨o,es,ep,t,ho,hex,hd,hp,ht,Yb⟩:=hS;have hf:=ht.fits;have hsz:es.size=xs.length:=by rw[<-ZC,hp.length_eq]
 unfold aeF setAddHashedIn;refine aaA (Zn (abl ho hd hf ?_))
 dsimp only
 have Ts:byScan (.ref b) es=false:=rfl;rw[Ts];simp only[ZU,↓reduceIte];refine Zn (sZ ho hd ht (λe he z=>l7 (Zx.mpr ⟨e,hp.mem_iff.mp he,z⟩)) λj NA G3=>?_);obtain⟨hm,j1,Tz,h5,Pt,NC,Yh⟩:=ht
 dsimp only
 refine Zn (abl ho hd hf ?_)
 dsimp only
 have NM:(t.put j).1.mask=t.mask/\(t.put j).1.place.size=es.size+1/\(t.put j).1.dummies= #[]/\(t.put j).1.plain=true/\(t.put j).1.led=ld/\(t.put j).1.place.toList.Pairwise (· < ·)/\RchZ t.mask (ue (t.put j).1 (insertAt es (t.put j).2 (hk, .ref b))):=by
  refine⟨rfl,?_,?_,Pt,NC,IM Yh NA,Yb.put (λx=>KI j1 rfl x) G3⟩
  ·show (insertAt t.place (below t.place j) j).size=_;rw[lQ,j1]
  ·show (if has t.dummies j then eraseAt t.dummies (below t.dummies j) else t.dummies)= #[];rw[Tz];rfl
 have fin:wpAny (model prog w) A (do
  storeSet a (insertAt es (t.put j).2 (hk, .ref b)) (t.put j).1
  if (!false&&(t.put j).1.tooFull)=true then do
      setRelay a (grown (es.size+1))
      pure true
   else pure true) Q E s:=by
  obtain⟨q1,q2,q3,q4,q5,q6,q7⟩:=NM;generalize (t.put j).1=t1 at q1 q2 q3 q4 q5 q6 q7;have QL:=lQ es (t.put j).2 (hk,Z6 b);have Ua:(insertAt es (t.put j).2 (hk,Z6 b)).toList.Perm (xs++[(hk, .ref b)]):=by
   refine(insertAt_perm es _ _).trans ?_;rw[Array.toList_push];exact hp.append_right _
  generalize insertAt es (t.put j).2 (hk,Z6 b)=Nf at QL Ua q7;have hg:(s.heap.update a (aed Nf t1)).get? a=some {o with data:= .set Nf (ep+1) t1}:=by
   have:=aaE (aed Nf t1) ho (by rw[putSet_of _ t1 hd];rfl);rw[putSet_of _ t1 hd] at this;exact this
  have wD:=aah s.heap a (aed Nf t1);have V0:t.mask<=127:=by rcases hm with e | e | e<;>omega
  refine Zn (wpAny_storeSet_of ho hd ?_ (by rw[aa4];omega));have GW:t1.fill=es.size+1:=by unfold fill;rw[q2,q3];rfl
  by_cases jW:t1.tooFull=true
  ·rw[jW];simp only[acW,Bool.and_self,↓reduceIte];unfold tooFull at jW;rw[GW,q1] at jW;have jW:t.mask*3<=(es.size+1)*5:=agi jW;have Xv:t1.fits Nf.size=true:=by
    unfold af5;rw[GW,q2,q1,QL];simp;omega
   have hr:Jp (sizeAbove (grown (es.size+1)) - 1)/\5*Nf.size<3*(sizeAbove (grown (es.size+1)) - 1):=by
    rw[QL];rcases hm with e | e | e
    ·have:es.size=4:=by omega
     rw[this,JF];exact⟨.inr (.inl rfl),by decide⟩
    ·have:es.size=18:=by omega
     rw[this,FX];exact⟨.inr (.inr rfl),by decide⟩
    ·omega
   refine Zn (xT hg hex rfl Xv q4 hr.1 hr.2 λh' C7 Ke=>Zs (h h' (wD.trans C7) ?_));obtain⟨o2,WR,WN,t2,k1,k2,k3,k4,k5,k6⟩:=Ke;exact⟨o2,WR,WN,t2,k1,k2,k3,k4.trans Ua,q5▸k5,k6⟩
  ·have jW:t1.tooFull=false:=by simpa using jW
   rw[jW];simp only[acW,aeL,ZU,↓reduceIte];unfold tooFull at jW;rw[GW,q1] at jW;have jW:¬t.mask*3<=(es.size+1)*5:=of_decide_eq_false jW;exact Zs (h _ wD ⟨_,Nf,ep+1,t1,hg,hex,rfl,Ua,⟨by rw[q1];exact hm,by rw[q2,QL],q3,by rw[QL,q1];omega,q4,q5,q6⟩,by rw[q1];exact q7⟩)
 split
 ·refine Zn (mI EF ?_);exact fin
 ·refine Zn (Zs ?_);exact fin
end
def Hk(prog:Z5)(w:World)(ks:Nat->List Int)(ad:Nat->Addr)(is:List Nat):List (Int×Value):=is.map λj=>(ada (abo prog w) (ks j), .ref (ad j))
def ll(ks:Nat->List Int):Nat->List Nat
 |0=>[]
 |i+1=>if (ll ks i).any (λj=>decide (ks j=ks i))=true then ll ks i else ll ks i++[i]
theorem oy:∀{i j:Nat},j∈ll ks i->j<i
 |0,j,h=>by cases h
 |i+1,j,h=>by
  unfold ll at h;split at h
  ·have:=oy h;omega
  ·rcases Z9.mp h with h | h
   ·have:=oy h;omega
   ·rw[Z0.mp h];omega
theorem wo:∀{i j j':Nat},j∈ll ks i->j'∈ll ks i->ks j=ks j'->j=j'
 |0,j,j',h,_,_=>by cases h
 |i+1,j,j',h,h',e=>by
  unfold ll at h h';split at h
  ·rename_i hc;rw[agd hc] at h';exact wo h h' e
  ·rename_i hc;rw[age hc] at h';have no:∀x,x∈ll ks i->ks x≠ks i:=λx hx z=>hc (acD.mpr ⟨x,hx,agg z⟩);rcases Z9.mp h with h | h<;>rcases Z9.mp h' with h' | h'
   ·exact wo h h' e
   ·rw[Z0.mp h'] at e;exact agj e (no j h)
   ·rw[Z0.mp h] at e;exact agj e.symm (no j' h')
   ·rw[Z0.mp h,Z0.mp h']
theorem GD(i:Nat):(ll ks i).length<=(ll ks (i+1)).length:=by
 show _<=(if _ then _ else _:List Nat).length;split
 ·exact Zv _
 ·rw[ZA];omega
theorem y6:∀{n:Nat},i<=n->(ll ks i).length<=(ll ks n).length
 |0,h=>by
  obtain rfl:i=0:=by omega
  exact Zv _
 |n+1,h=>by
  by_cases e:i=n+1
  ·rw[e];exact Zv _
  ·exact Z2 (y6 (by omega)) (GD n)
section
variable{prog:Z5}{w:World}{A:aao}{R:Result->Zt->Prop}{I:Addr}{fp wr:List Addr}{G:Array afZ->Array afZ->Prop}{n:Nat}{P:Nat->Value->Prop}{St:Nat->Zt->Prop}{ld:Bool}
theorem Fy(W:WalksS prog w A.in1 I fp wr G n P St)(S:Addr)(Sm:S∉fp)(ks:Nat->List Int)(ad:Nat->Addr)(Uj:∀i v,P i v->v= .ref (ad i))(iV:∀i,i<n->ad i≠S/\ad i∉wr)(hu:A.in1.units<cLine)(hn:(ll ks n).length<=64)
 (Kf:∀i j,i<n->j<n->ada (abo prog w) (ks i)=ada (abo prog w) (ks j)->ks i=ks j):∀(k i:Nat) (s:Zt),n - i=k->i<=n->St i s->(∀j,j<n->aa6 (abo prog w) s.heap (ks j) (ad j))->SetR ld s.heap S (Hk prog w ks ad (ll ks i))->
  (∀s',Moved (S::wr) G s s'->SetR ld s'.heap S (Hk prog w ks ad (ll ks n))->R (.ok (.ret .none)) s')->acF (model prog w) A (.builtin "set.update.loop" ⟨[.ref S, .ref I],[]⟩) R s:=by
 have VI:S∉wr:=λh=>Sm (W.sub _ h);have G4:∀b∈wr,b∈S::wr:=λb hb=>Zp _ hb;intro k;induction k with
 |zero=>
  intro i s hk hi qA hT hS hR;obtain rfl:i=n:=by omega
  refine aa_ ac4 ?_;rw[aaP aa2 _];show wpAny _ A.in1 (ads (.ref I)>>=_) _ _ s;refine Zn (W.done s _ _ qA λs' hm=>?_);show wpAny _ A.in1 (ret aaN) _ _ s';exact Zs (hR s' (hm.mono G4) (hS.at λo e=>hm.heap S o VI e))
 |succ k ih=>
  intro i s hk hi qA hT hS hR;have dO:i<n:=by omega
  refine aa_ ac4 ?_;rw[aaP aa2 _];show wpAny _ A.in1 (ads (.ref I)>>=_) _ _ s;refine Zn (W.item i s _ _ dO qA λv s' hP QM hm=>?_);have ev:=Uj i v hP;subst ev;have Ke:SetR ld s'.heap S (Hk prog w ks ad (ll ks i)):=hS.at λo e=>hm.heap S o VI e;have Pp:∀j,j<n->aa6 (abo prog w) s'.heap (ks j) (ad j):=λj hj=>o6 (hT j hj) λo e=>hm.heap _ o (iV j hj).2 e;show wpAny _ A.in1 (holding [Z6 (ad i)] (setAdd S (.ref (ad i)))>>=_) _ _ s';refine Zn (aaA ?_);unfold setAdd;refine aaA (Zn (wpAny_pyHash_tuple hu (Pp i dO) ?_));by_cases hold:(ll ks i).any (λj=>decide (ks j=ks i))=true
  ·obtain⟨j,hj,ej⟩:=acD.mp hold;have ej:ks j=ks i:=agi ej;have XN:=oy hj;refine o3 hu (Pp i dO) (ej▸Pp j (by omega)) Ke (Zx.mpr ⟨j,hj,by rw[ej]⟩) (λe he z=>?_) ?_
   ·obtain⟨j',Qx,rfl⟩:=Zx.mp he;have XO:=oy Qx;have:=Kf j' i (by omega) dO z;obtain rfl:=wo Qx hj (this.trans ej.symm);rw[ej]
   ·have Tp:SetR ld s'.heap S (Hk prog w ks ad (ll ks (i+1))):=by
     rw[show ll ks (i+1)=ll ks i from agd hold];exact Ke
    refine Zs ⟨abI aa2 _,ih (i+1) _ (by omega) dO (W.frame _ s' _ _ QM (aaU ..) λb hb o e=>e) Pp Tp λO7 ND Nv=>?_⟩;exact hR O7 (Moved.trans W.gtrans ((hm.mono G4).then_heap (aaU ..) λb o hb e=>e) ND) Nv
  ·have V1:ll ks (i+1)=ll ks i++[i]:=age hold;have T0:(ll ks (i+1)).length<=64:=Z2 (y6 dO) hn;refine nR (Pp i dO) Ke (λjz=>?_) (by unfold Hk;rw[Zo];rw[V1,ZA,afj] at T0;omega) λh' wD VH=>?_
   ·obtain⟨e,he,z⟩:=Zx.mp jz;obtain⟨j,hj,rfl⟩:=Zx.mp he;have XN:=oy hj;exact hold (acD.mpr ⟨j,hj,agg (Kf j i (by omega) dO z)⟩)
   have Tp:SetR ld h' S (Hk prog w ks ad (ll ks (i+1))):=by
    rw[V1];unfold Hk at VH⊢;rw[aaw];exact VH
   have JD:∀b o,b≠S->s'.heap.get? b=some o->h'.get? b=some o:=λb o hb e=>(wD.2 b hb).trans e;refine Zs ⟨abI aa2 _,ih (i+1) _ (by omega) dO (W.frame _ s' _ _ QM (aaU ..) λb hb o e=>JD b o (λz=>Sm (z▸hb)) e) (λj hj=>o6 (Pp j hj) λo e=>JD _ o (iV j hj).1 e) Tp λO7 ND Nv=>?_⟩;exact hR O7 (Moved.trans W.gtrans ((hm.mono G4).then_heap (aaU ..) λb o hb e=>JD b o (λz=>hb (z▸Zq ..)) e) ND) Nv
end
section
variable{prog:Z5}{w:World}{A:aao}{E:Value->Zt->Prop}{s:Zt}
theorem qQ(hh:A.handled=none)(hu:A.units+8<cLine)(hl:s.heap.IsList l items)(hi:∀i,i<items.size->items[i]? =some (.ref (ad i)))
 (hT:∀j,j<items.size->aa6 (abo prog w) s.heap (ks j) (ad j))(hn:(ll ks items.size).length<=64)(Kf:∀i j,i<items.size->j<items.size->ada (abo prog w) (ks i)=ada (abo prog w) (ks j)->ks i=ks j)
 (h:∀(h':Heap) (tk:Nat),JE (EU w) h' s.heap.objs.size (Hk prog w ks ad (ll ks items.size))->(∀b o,b<s.heap.objs.size->s.heap.get? b=some o->h'.get? b=some o)->Q (.ref s.heap.objs.size) {s with heap:=h',toks:=tk}):
 wpAny (model prog w) A (call (.type "set") [.ref l]) Q E s:=by
 obtain⟨c,tl,X3⟩:=F.called_set.mro;have VZ:=F.called_set.made;have G4:=F.called_set.sub;refine wpAny_call (codeAny_of_tree ?_);show wpAny _ _ (callAny (.type "set") _) _ _ _;refine Zs ⟨af1 _ (by decide+kernel),aa_ F.entry_type_call ?_⟩;rw[Around.under_plain (weight_type_call_type "set" [.ref l] []) rfl];have h1:=F.called_set.notType;have h2:=F.called_set.canCreate;have Y9:=F.typeCall_set_1 (.ref l)
 repeat (any_goals (first | assumption | wp_step))
 refine adb (Ap (.ref l) (E:=E) (Q₁:=λobj v6=>∃led:Bool,led=EU w/\obj= .ref s.heap.objs.size/\v6={s with heap:=s.heap.push {cls:= .type "set",dict:=none,data:= .set #[] 0 (.fresh 0 0 led)} }) ⟨_,rfl,rfl,rfl⟩) λr v6 hr=>?_;cases r with
 |error e=>exact hr
 |ok fl=>
  cases fl with
  |ret obj=>
   obtain⟨led,NC,rfl,rfl⟩:=hr;have hS:(s.heap.push {cls:= .type "set",dict:=none,data:= .set #[] 0 (.fresh 0 0 led)}).get? s.heap.objs.size=some {cls:= .type "set",dict:=none,data:= .set #[] 0 (.fresh 0 0 led)}:=ZL _ rfl;have Xg:Shared.TypeIs {s with heap:=s.heap.push {cls:= .type "set",dict:=none,data:= .set #[] 0 (.fresh 0 0 led)} } (.ref s.heap.objs.size) "set":=⟨_,hS,rfl⟩
   have Zb:=F.called_set.init.lookup;have So:=F.called_set.init.bind (.ref s.heap.objs.size)
   repeat (any_goals (first | assumption | wp_step))
   refine adb (ad6 (R:=wants (λr v4=>r= .none/\∃h' tk,v4={s with heap:=h',toks:=tk}/\JE (EU w) h' s.heap.objs.size (Hk prog w ks ad (ll ks items.size))/\(∀b o,b<s.heap.objs.size->s.heap.get? b=some o->h'.get? b=some o)) E) F.called_set.init.plain F.entry_set_init (check_set_init_1 Xg ?_)) λr₂ v4 Ue=>?_
   ·obtain⟨ol,V3,Bo,nl,VO⟩:=hl;obtain⟨YL,Ra,Ww,Oy⟩:=ol;simp only at Bo VO;subst Bo;subst VO;have T9:(s.heap.push {cls:= .type "set",dict:=none,data:= .set #[] 0 (.fresh 0 0 led)}).get? l=some {cls:= .type "list",dict:=Ra,data:= .seq items nl,slots:=Oy}:=Zr _ V3;have Yk:=F.sub_list_set;have Yj:=F.sub_list_frozenset;have iV:(ac0 "list"==ac0 "dict")=false:=by decide
    have tZ:(s.heap.push {cls:= .type "set",dict:=none,data:= .set #[] 0 (.fresh 0 0 led)}).IsList l items:=⟨_,T9,rfl,nl,rfl⟩
    unfold ac5.«set.__init__» noKeywords Builtin.Frozenset.updateFrom;generalize Xb:pyIter=PI
    wp_walk
    subst Xb;refine acE tZ (Zn (wpAny_runValue ?_));have VT:l<s.heap.objs.size:=ZG V3;have XH:A.in1.in1.in1.handled=none:=by simp[hh]
    have TY:l≠(s.heap.push {cls:= .type "set",dict:=none,data:= .set #[] 0 (.fresh 0 0 led)}).objs.size:=by
     rw[abu];exact ZW (abh VT)
    have Sm:s.heap.objs.size∉[(s.heap.push {cls:= .type "set",dict:=none,data:= .set #[] 0 (.fresh 0 0 led)}).objs.size,l]:=by
     rw[abu];simp only[Zw,Z0,Z7,or_false,not_or];exact⟨ZW (abG _),abQ VT⟩
    have Tr:∀i,i<items.size->ad i<s.heap.objs.size:=λi qz=>let ⟨o,_,_,ho,_⟩:=hT i qz;ZG ho
    refine Fy (ld:=EU w) ((aeH XH _ l TY items).toS) s.heap.objs.size Sm ks ad (λi v hv=>?_) (λi qz=>?_) ?_ hn Kf (items.size - 0) 0 _ (by omega) (aae _) ⟨⟨_,ZL _ rfl,rfl,rfl⟩,(tZ.push _)⟩ (λj hj=>o6 (hT j hj) λo e=>Zr _ (Zr _ e)) ?hS0 ?hR
    case hS0=>exact⟨_,#[],0,_,Zr _ hS,⟨rfl,rfl,rfl⟩,rfl, .refl _,⟨.inl rfl,rfl,rfl,by show 5*0<3*7;decide,rfl,NC,adw⟩,λx hx=>by cases hx⟩
    case hR=>
     intro s' hm Ke;obtain⟨h',g',d',SS,UM⟩:=s';obtain rfl:g'=s.gens:=hm.gens;obtain rfl:d'=s.drawn:=hm.drawn;obtain rfl:UM=s.os:=hm.os;show wpAny _ _ _ _ _ _;refine Zs ?_;show wpAny _ _ (ret aaN) _ _ _;refine Zs ⟨rfl,h',SS,rfl,Ke.set,λb o hb e=>?_⟩;have Sn:b≠s.heap.objs.size:=ZW hb;have Nx:b≠(s.heap.push {cls:= .type "set",dict:=none,data:= .set #[] 0 (.fresh 0 0 led)}).objs.size:=by
      rw[abu];exact ZW (abh hb)
     exact hm.heap b o (by simp only[Zw,Z0,Z7,or_false,not_or];exact⟨Sn,Nx⟩) (Zr _ (Zr _ e))
    ·have dO:i<items.size:=(aau.mp hv).1;exact Z4 ((show items[i]? =some v from hv).symm.trans (hi i dO))
    ·have:=Tr i qz;refine⟨ZW this,?_⟩;rw[abu];simp only[Zw,Z0,Z7,or_false];exact ZW (abh this)
    ·show A.units+1+1+1<cLine;omega
   ·cases r₂ with
    |error e=>exact Ue
    |ok WX=>
     cases WX with
     |ret r=>
      obtain⟨rfl,h',tk,rfl,Ke,wB⟩:=Ue
      repeat (any_goals (first | assumption | wp_step))
      exact h _ _ Ke wB
     |_=>exact Ue.elim
  |_=>exact hr.elim
end
end L3
namespace L3
open PySem PySem.Spec L2 SeqAt HT
open PyProof.Rows hiding St
def JB(ks:List (List Int)):List Nat:=ll (λi=>ks.getD i []) ks.length
def mx(ks:List (List Int)):List (List Int):=(JB ks).map λi=>ks.getD i []
theorem Bh:∀i,((ll ks i).map ks).Nodup
 |0=>abH
 |i+1=>by
  unfold ll;split
  ·exact Bh i
  ·rename_i hc;rw[aaw];refine aaY.mpr ⟨Bh i,by simp,λa ha b hb e=>?_⟩;obtain⟨j,hj,rfl⟩:=Zx.mp ha;rw[List.map_singleton,Z0] at hb;subst hb;exact hc (acD.mpr ⟨j,hj,agg e⟩)
theorem CP:∀{i j:Nat},j<i->∃j'∈ll ks i,ks j'=ks j
 |0,j,h=>agj h (by omega)
 |i+1,j,h=>by
  unfold ll;by_cases e:j=i
  ·subst e;split
   ·rename_i hc;obtain⟨j',h1,h2⟩:=acD.mp hc;exact⟨j',h1,agi h2⟩
   ·exact⟨j,aai _ (Z0.mpr rfl),rfl⟩
  ·obtain⟨j',h1,h2⟩:=CP (i:=i) (j:=j) (by omega);split
   ·exact⟨j',h1,h2⟩
   ·exact⟨j',abb _ h1,h2⟩
theorem He(h:i∈JB ks):i<ks.length:=oy h
theorem Bb(ks:List (List Int)):(mx ks).Nodup:=Bh ks.length
theorem wx{ks:List (List Int)}(h:i<ks.length):ks.getD i []=ks[i]:=by rw[Z3,Zy h];rfl
theorem qB{ks:List (List Int)}:k∈mx ks↔k∈ks:=by
 constructor
 ·intro h;obtain⟨i,hi,rfl⟩:=Zx.mp h;rw[wx (He hi)];exact aaM _
 ·intro h;obtain⟨j,hj,rfl⟩:=aal.mp h;obtain⟨j',h1,h2⟩:=CP hj;exact Zx.mpr ⟨j',h1,by rw[<-wx hj];exact h2⟩
theorem map_inj:∀{l:List α},(l.map f).Nodup->∀{a b:α},a∈l->b∈l->f a=f b->a=b
 |x::l,hn,a,b,ha,hb,e=>by
  rw[Zu] at hn;have hn:=aaK.mp hn;rcases Zw.mp ha with ea | VJ<;>rcases Zw.mp hb with eb | zj
  ·exact ea.trans eb.symm
  ·exact agj (Zx.mpr ⟨b,zj,by rw[<-e,ea]⟩) hn.1
  ·exact agj (Zx.mpr ⟨a,VJ,by rw[e,eb]⟩) hn.1
  ·exact map_inj hn.2 VJ zj e
def RS:D->M D
 | .lst ds=>match eJ ds with
   |some ks=>if ei (mx ks)=true/\((mx ks).map fe).Nodup then ae (.lst ((sortI (mx ks)).map tupI)) else ag
   |none=>ag
 |_=>ag
def i7:D->M D
 | .lst ds=>match eJ ds with
   |some ks=>if (mx ks).length<=64/\((mx ks).map fe).Nodup then ae (.int (mx ks).length) else ag
   |none=>ag
 |_=>ag
section
variable{X:Cx}{Xw:Nat->Hp->Prop}{e:Expr}{δ:DE}{pos B1 p p2:Pos}
theorem FA(I:Inv X f8 σ H s)(hc:X.calm=true)(hu:X.A.units+64<cLine)(hl:SqL X.K H a ws)(hr:dh H ws ks)(hn:(mx ks).length<=64)(zo:((mx ks).map fe).Nodup)
 (h:∀h' tk us,dh H us (mx ks)->JE (EU X.w) h' s.heap.objs.size (SJ X.prog X.w (λi=>(mx ks).getD i []) (λi=>PU (us.getD i .non)) (mx ks).length)->(∀b o,s.heap.get? b=some o->h'.get? b=some o)->Q (.ref s.heap.objs.size) {s with heap:=h',toks:=tk}):
 wpAny (model X.prog X.w) X.A (call (.type "set") [.ref a]) Q E s:=by
 obtain⟨aL,rv,pl,hz⟩:=I.list hl;have h1:=ji hr;have h2:=rv.length;have hsz:aL.toArray.size=ks.length:=by rw[ZD];omega
 have XJ:(JB ks).length=(mx ks).length:=by unfold mx;rw[Zo]
 refine qQ (I.ok.hd hc) (by omega) pl.isList (λi hi=>(Af I hr rv hi).1) (λi hi=>(Af I hr rv hi).2) (by rw[hsz];show (JB ks).length<=64;omega) (λi j hi hj z=>?_) λh' tk hS hk=>?_
 ·rw[hsz] at hi hj;have m:∀i,i<ks.length->ks.getD i []∈mx ks:=λi hi=>qB.mpr (by rw[wx hi];exact aaM _);exact map_inj zo (m i hi) (m j hj) z
 ·rw[hsz] at hS;refine h h' tk _ (k_ hr λi hi=>by have:=He hi;omega) ?_ λb o q=>hk b o (ZG q) q;have e:Hk X.prog X.w (λi=>ks.getD i []) (λi=>PU (ws.getD i .non)) (JB ks)=SJ X.prog X.w (λi=>(mx ks).getD i []) (λi=>PU (((JB ks).map λi=>ws.getD i .non).getD i .non)) (mx ks).length:=by
   unfold Hk SJ;refine List.ext_getElem (by simp[XJ]) λi a1 a2=>?_;have hi:i<(JB ks).length:=by simpa using a1
   have e1:(mx ks).getD i []=ks.getD (JB ks)[i] []:=by
    unfold mx;rw[Z3,ZJ,Zy hi];rfl
   have e2:((JB ks).map λi=>ws.getD i V.non).getD i .non=ws.getD (JB ks)[i] .non:=by
    rw[Z3,ZJ,Zy hi];rfl
   rw[acB,acB,List.getElem_range]
   dsimp only
   rw[e1,e2]
  rw[<-e];exact hS
theorem BV(hc:X.calm=true)(hu:X.A.units+64<cLine)(hg:Gl X "len")(hm:X.mg "len"=none)(XA:Gl X "set")(Mn:X.mg "set"=none)(hb:aab "len"=some (.builtin "len"))(Nx:aab "set"=some (.type "set"))(ha:PD X Xw e δ)
 (Su:kt e X.env:=by rfl)(he:ZF [.Call (.Name "set" p2) [e] [] B1] X.env=[(false,eval (.Call (.Name "set" p2) [e] [] B1) X.env)]:=by rfl):
 PD X Xw (.Call (.Name "len" p) [.Call (.Name "set" p2) [e] [] B1] [] pos) (d1 i7 δ):=λf8 s σ H Q I ⟨F,ρ,S,w⟩=>by
 have w:WP X.K Xw F H (δ ρ>>=i7) Q:=w;refine abv (j9 I hg hm hb ?_ (by decide) (by decide));refine adG ?_ he rfl;rw[he];refine abr (abv (j9 I XA Mn Nx ?_ (by decide) (by decide)));refine aa8 ?_ Su rfl;rw[Su];refine abr (cE (ha f8 s σ H _ I ⟨F,ρ,S,WP.bind w⟩) λu s1 ⟨v,H1,I1,r,F1,d,e1,q1,w1⟩=>abS ?_);unfold i7 at w1;split at w1
 ·rename_i ds;split at w1
  ·rename_i ks Jz;split at w1
   ·rename_i hok;obtain⟨a,ws,rfl,h2,h3,h4⟩:=q1;cases (show u=_ from r);have hr:=(oA e1.fh Jz h3).1;refine FA I1 hc hu (SqL.of (e1.fh _ _ h2)) hr hok.1 hok.2 λh' tk vs Zf hS hk=>abS ?_;obtain⟨o,es,ep,t,ho,hex,hd,hp,ht⟩:=hS;have hsz:es.size=(mx ks).length:=by rw[<-ZC,hp.length_eq];unfold SJ;rw[Zo,aaZ]
    refine call_len_set ho hex hd ht.fits (by rw[hsz];have:=hok.1;omega) ⟨.int es.size,H1,I1.kept hk,⟨_,rfl⟩,?_⟩;rw[hsz];exact WP.now w1 e1.fh rfl
   ·exact w1.elim
  ·exact w1.elim
 ·exact w1.elim
end
end L3
namespace L3
open PySem PySem.Spec L2
open PyProof.Rows hiding St
section
variable{X:Cx}{Xw:Nat->Hp->Prop}{δs:DA}{es:List Expr}{p:Pos}
theorem F7(h:Box (gL X Xw es δs)):Box (PD X Xw (.List es p) (dA bN δs)):=⟨dm h.1⟩
end
end L3
namespace L3
open PySem PySem.Spec L2 SeqAt
open PyProof.Rows hiding St
def anyM:List D->M D
 |[.lst ds]=>match bools ds with
  |some bs=>ae (.bl (bs.any id))
  |none=>ag
 |_=>ag
section
variable{X:Cx}{Xw:Nat->Hp->Prop}{e:Expr}{δs:DA}{pos p:Pos}
def UQ:List V->Hp->VK->Prop:=λxs H Q=>∃(a:Addr) (bs:List Bool),xs=[.ref a]/\H a=some (.lst (bs.map V.bl))/\Q (.bl (bs.any id)) H
theorem any_range{bs:List Bool}:(ZX bs.length).any (λi=>bs.getD i false)=bs.any id:=by
 induction bs with
 |nil=>rfl
 |cons b bs ih=>
  rw[Zz,adn,abC,afk,abC];congr 1
theorem Eg(hc:X.calm=true):CallR X (.builtin "any") UQ:=by
 intro f8 s σ H xs us Q I r h;obtain⟨a,bs,rfl,hH,q⟩:=h;obtain⟨u,rfl,r1⟩:=vals1 r;cases (show u=_ from r1);obtain⟨aL,r2,pl,hz⟩:=I.list (SqL.of (K:=X.K) hH);obtain rfl:=nZ r2;have iV:a≠s.heap.objs.size:=ZW (I.hok.lt hH);refine call_any_walk (acE pl.isList ?_);refine⟨s.heap.objs.size,_,_,_,_,_,λi=>bs.getD i false,rfl,aeH (A:=X.A.in1) (show X.A.in1.handled=none from I.ok.hd hc) s.heap.objs.size a iV (bs.map abc).toArray,⟨⟨_,ZL _ rfl,rfl,rfl⟩,afl pl.isList λo e=>Zr _ e⟩,?_,λh' tk k=>?_⟩
 ·intro i v s' Q' E' hv hq;have hv:(bs.map abc).toArray[i]? =some v:=hv;rw[adB,ZJ] at hv;cases q':bs[i]? with
  |none=>rw[q'] at hv;cases hv
  |some b=>
   rw[q'] at hv;cases hv;have:bs.getD i false=b:=by rw[Z3,q'];rfl
   have hq:Q' (bs.getD i false) s':=hq;rw[this] at hq;exact aaH hq
 ·have e:(ZX (bs.map abc).toArray.size).any (λi=>bs.getD i false)=bs.any id:=by
   rw[ZD,Zo];exact any_range
  rw[e];refine⟨.bl (bs.any id),H,I.kept (h':=h') (t':=tk) λb o e'=>k b o (λz=>?_) (Zr _ e'),rfl,q⟩;have z:b=s.heap.objs.size:=by simpa using z
  exact agj (ZG e') (by rw[z];exact aaq _)
theorem OA(hc:X.calm=true)(hg:Gl X "any")(hm:X.mg "any"=none)(hb:aab "any"=some (.builtin "any"))(ha:gL X Xw [e] δs)(he:kt e X.env:=by rfl):PD X Xw (.Call (.Name "any" p) [e] [] pos) (dA anyM δs):=
 dP (Eg hc) (λXw F H vs ds Q s h w=>by
  unfold anyM at w;split at w
  ·rename_i ds;obtain⟨v,rfl,h1⟩:=h.one;obtain⟨a,ws,rfl,h2,h3,_⟩:=h1;split at w
   ·rename_i bs hb;exact⟨a,bs,rfl,by rw[<-iI hb h3];exact s _ _ h2,WP.now w s rfl⟩
   ·exact w.elim
  ·exact w.elim) hg hm hb ha (by decide) (by decide) he rfl
end
section
variable{X:Cx}{Xw:Nat->Hp->Prop}{a b:Expr}{δa δb:DE}{pos:Pos}
theorem HZ(ha:PD X Xw a δa)(hb:PD X Xw b δb)(hm:aaB .In b=false:=by rfl):PD X Xw (.Compare a [.In] [b] pos) (d2 (tX false) δa δb):=BU Fd G6 ha hb hm
end
end L3
namespace L3
open PySem PySem.Spec L2 SeqAt HT
open PyProof.Rows hiding St
end L3
namespace L3
open PySem PySem.Spec L2
open PyProof.Rows hiding St
section
variable{X:Cx}{Xw:Nat->Hp->Prop}{cv:Nat->Value}{k:Nat}{g:List D->M D}{x:Str}{p pos:Pos}
theorem Rl(F:au X.prog X.w X.K X.mg X.base cv k x 0 g)(hr:Room k X.A)(hg:Gl X x)(hx:Passes (cR X.prog X.w cv) X (EX cv Xw))(lr:dL x:=by decide):
 PD X Xw (.Call (.Name x p) [] [] pos) (ay 0 g aN):=by
 obtain⟨f,fd,ps,h1,h2,h3,h4⟩:=F;exact PE.weak (Ih h4 hr hg h1 h2 h3 .nil hx lr) λσ H Q ⟨F,ρ,s,w⟩=>by
  have w:WP X.K Xw F H (g []) Q:=w;exact⟨F,[],s.fh,DenL.nil,rfl,WP.xw w λn H h=>⟨n,rfl,h⟩⟩
end
end L3
namespace L3
open PySem PySem.Spec L2 PySem.W
open PyProof.Rows hiding St
def Prs(es:Array adx)(lo:Addr)(h:Heap)(n:Nat)(as:List Addr):Prop:=as.length=n/\as.Nodup/\∀(j:Nat) (a:Addr),as[j]? =some a->lo<a/\∃e,es[j]? =some e/\h.get? a=some {cls:= .type "tuple",data:= .seq #[e.key,e.val]}
theorem Prs.keep{es:Array adx}{lo Wn:Addr}{h h':Heap}{n:Nat}{as:List Addr}(p:Prs es lo h n as)(hl:Wn<=lo)(hk:∀b o,lo<b->h.get? b=some o->h'.get? b=some o):Prs es Wn h' n as:=⟨p.1,p.2.1,λj a hj=>by
 obtain⟨h1,e,h2,h3⟩:=p.2.2 j a hj;exact⟨acS hl h1,e,h2,hk a _ h1 h3⟩⟩
end L3
namespace L3
open PySem PySem.Spec L2 PySem.W SeqAt
open PyProof.Rows hiding St
end L3
namespace L3
open PySem PySem.W PyProof.Rows
end L3
namespace L3
open PySem PySem.Spec L2 PySem.W SeqAt
open PyProof.Rows hiding St
end L3
namespace L3
def U0(n:Nat)(δs:DA):DS:=λρ=>δs ρ>>=λds=>if ds.length<=lim then bD n else ag
end L3
namespace K1
open PySem PySem.Spec L2 L3
open PyProof.Rows hiding St
def PB:Nat->Nat
 |1=>1
 |4=>4
 |_=>0
def cB(cA:Nat->Addr)(n:Nat):Addr:=cA (PB n)
def vU(cA:Nat->Addr):List Addr:=[cA 0,cA 1,cA 4]
def Jy(k:Nat):M D:=ae (.tup [.str "refused", .int ((PB k:Nat):Int)])
def Cq:DS:=(bE (fY (dA l8 (aC (dV 0) (aC (dC (.raw (.ty "int"))) aN))) (L8 (dA l8 (aC (dV 0) (aC (dC (.raw (.ty "bool"))) aN))))))
def fB:List D->M D:=bX 1 (Cq)
def AI:DS:=(bE (fY (dA l8 (aC (dV 0) (aC (dC (.raw (.ty "str"))) aN))) (fY (d2 ik (dA bO (aC (dV 0) aN)) (dC (.int 1))) (d2 (GJ false) (dV 0) (dC (.str "abcdef"))))))
def dN:List D->M D:=bX 1 (AI)
def tJ:DS:=(bE (bb 0 (λρ=>(aC (dA bO (aC (d2 a8 (dV 0) (dC (.int 0))) aN)) aN) ρ>>=dD) bC (dA aQ (aC (dV 2) (aC (dV 0) aN)))))
def c9:List D->M D:=bX 2 (tJ)
def AO:DS:=(bE (d2 iQ (d2 a8 (dV 0) (d2 a8 (dV 1) (dC (.int 0)))) (d2 a8 (dV 1) (dC (.int 1)))))
def eP:List D->M D:=bX 2 (AO)
def Co:DS:=(aF (a_ 3 (dA FY (aC (d2 lq (d2 a8 (dV 0) (dC (.int 0))) (d2 a8 (dV 1) (dC (.int 0)))) aN))) (aF (a_ 4 (dA FY (aC (d2 lq (d2 a8 (dV 0) (dC (.int 1))) (d2 a8 (dV 1) (dC (.int 1)))) aN))) (aF (gK (cI (d2 ik (dV 2) (dC (.int 4)))) (bE (d2 ik (d2 cU (dV 3) (dV 4)) (dC (.int 1)))) dr) (bE (d2 ik (dA BC (aC (dV 3) (aC (dV 4) aN))) (dC (.int 1)))))))
def eG:List D->M D:=bX 5 (Co)
def LR:DS:=(aF (vE 1) (aF (λρ=>noex ((cw (putN 2) (Kk (cK (dV 0)) (λρ=>(dV 0) ρ>>=mO)) (bS [2] (ft 1 (dV 2) (dC (.bl true))))) ρ)) (uw 1 (bE (dV 1)))))
def fJ:List D->M D:=bX 3 (LR)
def tL:DS:=(aF (gK (cI (d2 ik (dV 0) (dA bN aN))) (bE (d2 jy (dC (.int 7)) (dV 1))) dr) (bE (d2 cU (d2 GK (dV 0) (d2 mH (dV 1) (dA bO (aC (dV 0) aN)))) (d2 jy (dC (.int 6553)) (d2 tW (dV 1) (dA bO (aC (dV 0) aN)))))))
def gA:List D->M D:=bX 2 (tL)
def AJ:DS:=(aF (gK (oq (eV (c8 (dA l8 (aC (dV 0) (aC (dC (.raw (.ty "str"))) aN))))) (eV (cI (AS (λi j=>decide (i<=j)) (λi j=>decide (i<=j)) (dC (.int 1)) (dA bO (aC (dV 0) aN)) (dC (.int 8)))))) (bE (dC (.bl false))) dr) (bE (dA allM (aC (bb 0 (λρ=>(dV 0) ρ>>=Pa) bC (ay 1 dN (aC (dV 0) aN))) aN))))
def gz:List D->M D:=bX 1 (AJ)
def AQ:DS:=(gK (oq (eV (c8 (ay 1 fB (aC (dV 0) aN)))) (cI (d2 (tX true) (dV 0) (dA aQ (aC (dC (.int 4)) (aC (dC (.int 8)) aN)))))) (U0 1 (aC (dC (.str "ways are 4 or 8")) aN)) dr)
def gQ:List D->M D:=bX 1 (AQ)
def AG:DS:=(aF (qo 1) (aF (λρ=>noex ((cw (putN 2) (λρ=>(aC (dA bO (aC (dV 0) aN)) aN) ρ>>=dD) (bS [2] (B6 1 (ay 2 c9 (aC (dV 0) (aC (dV 2) aN)))))) ρ)) (uw 1 (bE (dV 1)))))
def eO:List D->M D:=bX 3 (AG)
def yq:DS:=(aF (qo 3) (aF (λρ=>noex ((cw (putN 4) (λρ=>(aC (dA BC (aC (d2 lq (d2 a8 (dV 1) (dC (.int 0))) (dC (.int 1))) (aC (dC (.int 0)) aN))) (aC (dA E4 (aC (d2 cU (d2 a8 (dV 1) (dC (.int 0))) (dC (.int 2))) (aC (dA bO (aC (dV 0) aN)) aN))) aN)) ρ>>=kA) (bS [4,5] (cw (putN 5) (λρ=>(aC (dA BC (aC (d2 lq (d2 a8 (dV 1) (dC (.int 1))) (dC (.int 1))) (aC (dC (.int 0)) aN))) (aC (dA E4 (aC (d2 cU (d2 a8 (dV 1) (dC (.int 1))) (dC (.int 2))) (aC (dA bO (aC (d2 a8 (dV 0) (dC (.int 0))) aN)) aN))) aN)) ρ>>=kA) (bS [5] (gK (c8 (ay 3 eG (aC (dV 1) (aC (dA aQ (aC (dV 4) (aC (dV 5) aN))) (aC (dV 2) aN))))) (nN 3 (dA aQ (aC (dV 4) (aC (dV 5) aN)))) dr))))) ρ)) (uw 3 (bE (dV 3)))))
def cM:List D->M D:=bX 6 (yq)
def pV:DS:=(aF (a_ 3 (d2 mH (d2 cU (d2 jy (d2 mH (ay 2 gA (aC (dV 0) (aC (dV 1) aN))) (dC (.int 2147483563))) (dC (.int 69069))) (d2 jy (dC (.int 104723)) (d2 cU (dV 1) (dC (.int 1))))) (dC (.int 2147483563)))) (aF (a_ 3 (d2 mH (d2 cU (d2 jy (dV 3) (dV 3)) (d2 tW (dV 3) (dC (.int 3)))) (dC (.int 2147483399)))) (bE (d2 mH (d2 tW (d2 mH (d2 cU (d2 jy (dV 3) (dV 3)) (d2 tW (dV 3) (dC (.int 7)))) (dC (.int 2147483647))) (dC (.int 11))) (dV 2)))))
def aO:List D->M D:=bX 4 (pV)
def tK:DS:=(aF (gK (oq (eV (c8 (dA l8 (aC (dV 0) (aC (dC (.raw (.ty "tuple"))) aN))))) (eV (cI (AS (λi j=>decide (i<=j)) (λi j=>decide (i<=j)) (dC (.int 1)) (dA bO (aC (dV 0) aN)) (dC (.int 8)))))) (bE (dC (.bl false))) dr) (aF (gK (eV (c8 (dA allM (aC (bb 0 (lj (dV 0)) bC (ay 1 gz (aC (dV 0) aN))) aN)))) (bE (dC (.bl false))) dr) (bE (dA allM (aC (bb 0 (lj (dV 0)) bC (d2 ik (dA bO (aC (dV 0) aN)) (dA bO (aC (d2 a8 (dV 1) (dC (.int 0))) aN)))) aN)))))
def jw:List D->M D:=bX 1 (tK)
def yn:DS:=(aF (a_ 3 (ay 2 eP (aC (dV 0) (aC (dV 1) aN)))) (bE (bb 0 (cK (ay 3 cM (aC (dV 0) (aC (dV 1) (aC (dV 2) aN))))) (cI (d2 ik (ay 2 eP (aC (dV 1) (aC (dV 0) aN))) (dV 4))) (dV 0))))
def di:List D->M D:=bX 4 (yn)
def Vj:DS:=a_ 6 (d2 u4 (dV 6) (dA aQ (aC (dM SI joinM (dC (.str "")) (aC (dV 8) aN)) aN)))
def Vi:DE:=bb 0 (λρ=>(aC (dV 4) aN) ρ>>=dD) bC (d2 iQ (dV 6) (ay 3 aO (aC (dV 1) (aC (d2 cU (d2 cU (d2 cU (dV 2) (dC (.int 3))) (d2 jy (dC (.int 7)) (dV 8))) (dV 0)) (aC (dA bO (aC (dV 6) aN)) aN)))))
def AK:DS:=(aF (a_ 3 (d2 cU (dC (.int 1)) (ay 3 aO (aC (dV 0) (aC (dV 1) (aC (dV 2) aN)))))) (aF (a_ 4 (d2 cU (dC (.int 1)) (ay 3 aO (aC (dV 0) (aC (d2 cU (dV 1) (dC (.int 1))) (aC (dV 2) aN)))))) (aF (a_ 5 (d2 fX (dA bN (aC (dC (.str "ab")) (aC (dC (.str "abc")) (aC (dC (.str "aab")) (aC (dC (.str "fa")) aN))))) (ay 3 aO (aC (dV 0) (aC (d2 cU (dV 1) (dC (.int 2))) (aC (dC (.int 4)) aN)))))) (aF (a_ 6 (dA aQ aN)) (aF (λρ=>noex ((cw (putN 7) (λρ=>(aC (dV 3) aN) ρ>>=dD) (bS [7,8] (aF (a_ 8 (Vi)) (Vj)))) ρ)) (bE (dV 6)))))))
def df:List D->M D:=bX 9 (AK)
def yp:DS:=(gK (eV (c8 (ay 1 jw (aC (dV 0) aN)))) (U0 0 (aC (dC (.str "a tuple of 1 to 8 texts of 1 to 8 letters, all as long, is asked for")) aN)) dr)
def fb:List D->M D:=bX 1 (yp)
def O9:DS:=bS [7] (gK (FD (cI (d2 (iO true) (dV 7) (dV 3)))) (aF (ft 3 (dV 7) (dV 6)) (nN 5 (dV 7))) dr)
def yt:DS:=(aF (pT 3 (λρ=>(dV 1) ρ>>=λx=>(dC .non) ρ>>=λy=>pb x y)) (aF (a_ 4 (dA bN (aC (dV 1) aN))) (aF (λρ=>noex ((sV (c8 (dV 4)) (bS [5,6,7] (aF (qo 5) (aF (cw (putN 6) (cK (dV 4)) (bS [6,7] (cw (putN 7) (cK (ay 3 di (aC (dV 0) (aC (dV 6) (aC (dV 2) aN))))) (O9)))) (uw 5 (a_ 4 (dV 5))))))) ρ)) (uw 3 (bE (dV 3))))))
def dZ:List D->M D:=bX 8 (yt)
def P_:DS:=(bS [6] (gK (FD (cI (d2 (iO true) (dV 6) (dV 2)))) (aF (ft 2 (dV 6) (M4 (d2 cU (d2 cZ (dV 2) (dV 5)) (dC (.int 1))))) (nN 4 (dV 6))) dr))
def P9:DS:=(bS [5,6] (cw (putN 6) (Kk (cK (d2 cZ (dV 0) (dV 5))) (λρ=>(d2 cZ (dV 0) (dV 5)) ρ>>=mO)) P_))
def M9:DS:=(bS [4,5,6] (aF (qo 4) (aF (cw (putN 5) (cK (dV 3)) P9) (uw 4 (a_ 3 (dV 4))))))
def AH:DS:=(aF (pT 2 (Nh (λρ=>(dV 1) ρ>>=λx=>(dC (.int 0)) ρ>>=λy=>pb x y) (λρ=>(dV 1) ρ>>=λx=>(dC (.int 0)) ρ>>=λy=>q_ x y))) (aF (a_ 3 (dA bN (aC (dV 1) aN))) (aF (λρ=>noex ((sV (c8 (dV 3)) M9) ρ)) (uw 2 (bE (dV 2))))))
def gO:List D->M D:=bX 7 (AH)
def yk:DS:=(bE (JS (d2 (tX false) (d2 a8 (dV 1) (dC (.int 0))) (dA aQ (aC (dC (.int 0)) (aC (d2 lq (dA bO (aC (dV 0) aN)) (dC (.int 1))) aN)))) (d2 (tX false) (d2 a8 (dV 1) (dC (.int 1))) (dA aQ (aC (dC (.int 0)) (aC (d2 lq (dA bO (aC (d2 a8 (dV 0) (dC (.int 0))) aN)) (dC (.int 1))) aN))))))
def dW:List D->M D:=bX 2 (yk)
def AL:DS:=(aF (a_ 1 (dA bN aN)) (aF (λρ=>noex ((cw (putN 2) (λρ=>(aC (dA bO (aC (dV 0) aN)) aN) ρ>>=dD) (bS [2] (a_ 1 (d2 gS (dV 1) (bb 0 (λρ=>(aC (dA bO (aC (d2 a8 (dV 0) (dC (.int 0))) aN)) aN) ρ>>=dD) bC (dA aQ (aC (dV 3) (aC (dV 0) aN)))))))) ρ)) (bE (dV 1))))
def dg:List D->M D:=bX 3 (AL)
def F_:DS:=(bS [5,6,7,8] (aF (a_ 6 (d2 cU (d2 a8 (dV 1) (dC (.int 0))) (dV 4))) (aF (a_ 7 (d2 cU (d2 a8 (dV 1) (dC (.int 1))) (dV 5))) (aF (a_ 8 (fY (AS (λi j=>decide (i<=j)) (λi j=>decide (i<j)) (dC (.int 0)) (dV 6) (dA bO (aC (dV 0) aN))) (AS (λi j=>decide (i<=j)) (λi j=>decide (i<j)) (dC (.int 0)) (dV 7) (dA bO (aC (d2 a8 (dV 0) (dC (.int 0))) aN))))) (gK (lY (c8 (dV 8)) (lY (cI (d2 qf (dA aQ (aC (dV 4) (aC (dV 5) aN))) (dA aQ (aC (dC (.int 0)) (aC (dC (.int 0)) aN))))) (oq (cI (d2 ik (dV 2) (dC (.int 8)))) (cI (d2 ik (d2 jy (dV 4) (dV 5)) (dC (.int 0))))))) (nN 3 (dA aQ (aC (dV 6) (aC (dV 7) aN)))) dr)))))
def yl:DS:=(aF (qo 3) (aF (λρ=>noex ((cw (putN 4) (lj (dA aQ (aC (d1 gJ (dC (.int 1))) (aC (dC (.int 0)) (aC (dC (.int 1)) aN))))) (bS [4,5,6,7,8] (cw (putN 5) (lj (dA aQ (aC (d1 gJ (dC (.int 1))) (aC (dC (.int 0)) (aC (dC (.int 1)) aN))))) F_))) ρ)) (uw 3 (bE (dV 3)))))
def dX:List D->M D:=bX 9 (yl)
def fQ(K:ZE)(cA:Nat->Addr):DS:=(aF (a_ 1 (dA bN (aC (dA (oB K (vU cA)) (aC (dV 0) (aC (dC (.raw (.ref (cA 0)))) aN))) (aC (dA (oB K (vU cA)) (aC (dV 0) (aC (dC (.raw (.ref (cA 1)))) aN))) (aC (dA (oB K (vU cA)) (aC (dV 0) (aC (dC (.raw (.ref (cA 2)))) aN))) aN))))) (aF (a_ 1 (d2 gS (dV 1) (dA bN (aC (dA (oB K (vU cA)) (aC (dV 0) (aC (dC (.raw (.ref (cA 3)))) aN))) (aC (dA (oB K (vU cA)) (aC (dV 0) (aC (dC (.raw (.ref (cA 4)))) aN))) (aC (dA (oB K (vU cA)) (aC (dV 0) (aC (dC (.raw (.ref (cA 5)))) aN))) aN)))))) (aF (a_ 1 (d2 gS (dV 1) (dA bN (aC (dA (oB K (vU cA)) (aC (dV 0) (aC (dC (.raw (.ref (cA 6)))) aN))) aN)))) (aF (gK (oq (cI (d2 qf (dM pf En (dV 1) (aC (dC (.bl true)) aN)) (dC (.int 1)))) (eV (c8 (dA (oB K (vU cA)) (aC (dV 0) (aC (dC (.raw (.ty "ValueError"))) aN)))))) (bE (dA aQ (aC (dC (.str "refused")) (aC (d1 gJ (dC (.int 1))) aN)))) dr) (bE (dA aQ (aC (dC (.str "refused")) (aC (dM pf NR (dV 1) (aC (dC (.bl true)) aN)) aN))))))))
def bT(K:ZE)(cA:Nat->Addr):List D->M D:=bX 2 (fQ K cA)
def uF:DS:=(gK (oq (eV (c8 (ay 1 fB (aC (dV 1) aN)))) (eV (cI (AS (λi j=>decide (i<=j)) (λi j=>decide (i<j)) (dC (.int 0)) (dV 1) (dV 0))))) (U0 4 (aC (dC (.str "the number of a patch of the board is asked for")) aN)) dr)
def dF:List D->M D:=bX 2 (uF)
def qr:DS:=(bE (dA anyM (aC (bb 0 (cK (dV 1)) bC (ay 2 dW (aC (dV 1) (aC (dV 0) aN)))) aN)))
def dw:List D->M D:=bX 2 (qr)
def Wl:DS:=(bS [8,9,10] (gK (FD (cI (d2 qf (d2 cZ (dV 2) (dV 8)) (d2 cZ (dV 2) (dV 9))))) (aF (a_ 10 (M4 (dA zH (aC (d2 cZ (dV 2) (dV 8)) (aC (d2 cZ (dV 2) (dV 9)) aN))))) (aF (ft 2 (dV 8) (dV 10)) (aF (ft 2 (dV 9) (dV 10)) (a_ 7 (dC (.bl true)))))) dr))
def SO:DS:=(bS [5,6] (aF (a_ 6 (d2 iQ (d2 a8 (dV 0) (d2 a8 (dV 4) (dC (.int 0)))) (d2 a8 (dV 4) (dC (.int 1))))) (gK (lY (cI (d2 tY (dV 4) (dV 5))) (cI (d2 ik (dV 6) (d2 iQ (d2 a8 (dV 0) (d2 a8 (dV 5) (dC (.int 0)))) (d2 a8 (dV 5) (dC (.int 1))))))) (nN 3 (dA aQ (aC (dV 4) (aC (dV 5) aN)))) dr)))
def Uy:DS:=(bS [8,9,10] (aF (a_ 7 (dC (.bl false))) (uw 3 (cw (sP [8,9]) (cK (dV 3)) Wl))))
def ym:DS:=(aF (pT 2 (λρ=>(aC (bb 0 (cK (ay 1 dg (aC (dV 0) aN))) bC (dA aQ (aC (dV 0) (aC (dV 0) aN)))) aN) ρ>>=uT)) (aF (qo 3) (aF (λρ=>noex ((cw (putN 4) (cK (ay 1 dg (aC (dV 0) aN))) (bS [4,5,6] (cw (putN 5) (cK (ay 3 dX (aC (dV 0) (aC (dV 4) (aC (dV 1) aN))))) SO))) ρ)) (aF (a_ 7 (dC (.bl true))) (aF (λρ=>noex ((sV (c8 (dV 7)) Uy) ρ)) (uw 2 (bE (dV 2))))))))
def f9:List D->M D:=bX 11 (ym)
def Wv:DS:=(bS [5] (ft 4 (dV 5) (bb 0 (cK (ay 3 cM (aC (dV 0) (aC (dV 5) (aC (dV 2) aN))))) (cI (d2 (iO false) (dV 0) (dV 4))) (dV 0))))
def yo:DS:=(aF (a_ 3 (ay 1 fJ (aC (dV 1) aN))) (aF (vE 4) (aF (λρ=>noex ((cw (putN 5) (cK (dV 1)) Wv) ρ)) (uw 4 (bE (dV 4))))))
def f_:List D->M D:=bX 6 (yo)
def UB:DS:=(bS [4] (ft 3 (d2 cZ (dV 2) (dV 4)) (P4 (d2 gS (uQ (dV 3) (d2 cZ (dV 2) (dV 4)) (dA bN aN)) (dA bN (aC (dV 4) aN))))))
def uD:DS:=(aF (a_ 2 (ay 2 f9 (aC (dV 0) (aC (dV 1) aN)))) (aF (vE 3) (aF (λρ=>noex ((cw (putN 4) (cK (ay 1 dg (aC (dV 0) aN))) UB) ρ)) (uw 3 (bE (bb 0 (cK (dA vI (aC (dV 3) aN))) bC (d2 cZ (dV 4) (dV 0))))))))
def a9:List D->M D:=bX 5 (uD)
def UO:DS:=(bS [6,7] (gK (FD (cI (d2 (iO true) (dV 6) (dV 5)))) (aF (a_ 7 (dA Dm (aC (ay 2 gO (aC (dV 3) (aC (dV 6) aN))) aN))) (aF (nN 4 (dV 7)) (Fv 5 (ay 1 fJ (aC (dV 7) aN))))) dr))
def Cr:DS:=(aF (a_ 3 (ay 3 f_ (aC (dV 0) (aC (dV 1) (aC (dV 2) aN))))) (aF (qo 4) (aF (vE 5) (aF (λρ=>noex ((cw (putN 6) (cK (dV 1)) UO) ρ)) (uw 4 (bE (dV 4)))))))
def jx:List D->M D:=bX 8 (Cr)
def Tc:DS:=(bS [4,5] (gK (FD (cI (d2 (iO true) (dV 4) (dV 3)))) (aF (a_ 5 (dA vI (aC (ay 3 dZ (aC (dV 0) (aC (dV 4) (aC (dV 1) aN)))) aN))) (aF (nN 2 (dV 5)) (Fv 3 (ay 1 fJ (aC (dV 5) aN))))) dr))
def uC:DS:=(aF (qo 2) (aF (vE 3) (aF (λρ=>noex ((cw (putN 4) (cK (ay 1 eO (aC (dV 0) aN))) Tc) ρ)) (uw 2 (bE (dV 2))))))
def fI:List D->M D:=bX 6 (uC)
def yr:DS:=(aF (a_ 3 (ay 1 fJ (aC (dV 2) aN))) (aF (a_ 4 (bb 0 (cK (ay 1 eO (aC (dV 0) aN))) (cI (d2 (iO true) (dV 0) (dV 4))) (dV 0))) (aF (a_ 5 (Vt (cI (d2 ik (dV 1) (dC (.int 4)))) (dC (.int 8)) (dC (.int 4)))) (bE (bb 0 (cK (ay 3 jx (aC (dV 0) (aC (dV 4) (aC (dV 5) aN))))) (eV (c8 (ay 2 dw (aC (dV 1) (aC (dV 0) aN))))) (dV 0))))))
def dY:List D->M D:=bX 6 (yr)
def ij:DS:=(aF (uv (ay 1 fb (aC (dV 0) aN))) (aF (uv (ay 1 gQ (aC (dV 1) aN))) (aF (a_ 3 (ay 2 fI (aC (dV 0) (aC (dV 1) aN)))) (aF (uv (ay 2 dF (aC (dA bO (aC (dV 3) aN)) (aC (dV 2) aN)))) (bE (d2 fX (dV 3) (dV 2)))))))
def aV:List D->M D:=bX 4 (ij)
def FK:DS:=(aF (a_ 3 (ay 3 aV (aC (dV 0) (aC (dV 1) (aC (dV 2) aN))))) (aF (qo 4) (aF (λρ=>noex ((cw (putN 5) (cK (ay 3 dY (aC (dV 0) (aC (dV 1) (aC (dV 3) aN))))) (bS [5] (B6 4 (dV 5)))) ρ)) (uw 4 (bE (dA Au (aC (dV 4) aN)))))))
def eQ:List D->M D:=bX 6 (FK)
def LQ:DS:=(aF (a_ 3 (ay 3 aV (aC (dV 0) (aC (dV 1) (aC (dV 2) aN))))) (bE (dA bO (aC (ay 3 dY (aC (dV 0) (aC (dV 1) (aC (dV 3) aN)))) aN))))
def gP:List D->M D:=bX 4 (LQ)
def UC:DT:=FD (lY (cI (d2 (iO false) (dV 7) (dV 2))) (lY (oq (cI (d2 ik (dV 1) (dC (.int 8)))) (oq (cI (d2 ik (dV 5) (dC (.int 0)))) (cI (d2 ik (dV 6) (dC (.int 0)))))) (cI (d2 tY (d2 cZ (dV 2) (dV 7)) (d2 cZ (dV 2) (dV 4))))))
def AN:DS:=(aF (pT 2 (λρ=>(aC (bb 0 (cK (dV 0)) bC (dA aQ (aC (dV 0) (aC (dV 0) aN)))) aN) ρ>>=uT)) (aF (a_ 3 (dC (.bl true))) (aF (λρ=>noex ((sV (c8 (dV 3)) (bS [4,5,6,7] (aF (a_ 3 (dC (.bl false))) (cw (putN 4) (cK (dV 0)) (bS [4,5,6,7] (cw (putN 5) (lj (dA aQ (aC (d1 gJ (dC (.int 1))) (aC (dC (.int 0)) (aC (dC (.int 1)) aN))))) (bS [5,6,7] (cw (putN 6) (lj (dA aQ (aC (d1 gJ (dC (.int 1))) (aC (dC (.int 0)) (aC (dC (.int 1)) aN))))) (bS [6,7] (aF (a_ 7 (dA aQ (aC (d2 cU (d2 a8 (dV 4) (dC (.int 0))) (dV 5)) (aC (d2 cU (d2 a8 (dV 4) (dC (.int 1))) (dV 6)) aN)))) (gK (UC) (aF (ft 2 (dV 4) (M4 (d2 cZ (dV 2) (dV 7)))) (a_ 3 (dC (.bl true)))) dr))))))))))) ρ)) (uw 2 (bE (dV 2))))))
def fR:List D->M D:=bX 8 (AN)
def T2:DS:=(bS [5] (gK (cI (d2 (EA true) (dA aQ (aC (dV 4) (aC (dV 5) aN))) (dV 1))) (nN 3 (dA aQ (aC (dV 4) (aC (dV 5) aN)))) dr))
def T3:DS:=(bS [4,5] (cw (putN 5) (λρ=>(aC (d1 gJ (dC (.int 1))) (aC (d2 cU (dA bO (aC (d2 a8 (dV 0) (dC (.int 0))) aN)) (dC (.int 1))) aN)) ρ>>=kA) T2))
def AM:DS:=(aF (qo 3) (aF (λρ=>noex ((cw (putN 4) (λρ=>(aC (d1 gJ (dC (.int 1))) (aC (d2 cU (dA bO (aC (dV 0) aN)) (dC (.int 1))) aN)) ρ>>=kA) T3) ρ)) (aF (uw 3 (a_ 6 (ay 2 fR (aC (dV 3) (aC (dV 2) aN))))) (aF (uw 3 (a_ 7 (bb 0 (cK (dV 3)) (cI (d2 qf (d2 cZ (dV 7) (dV 0)) (dA aQ (aC (d1 gJ (dC (.int 1))) (aC (d1 gJ (dC (.int 1))) aN))))) (dV 0)))) (bE (dA aQ (aC (dA Au (aC (dV 7) aN)) (aC (d1 i7 (bb 0 (cK (dV 7)) bC (d2 cZ (dV 7) (dV 0)))) aN))))))))
def bU:List D->M D:=bX 8 (AM)
def uE:DS:=(O8 (bE (L9 [eQ,gP] 3 (dV 0) (aC (dV 1) (aC (dV 2) (aC (dV 3) aN))))) λk=>noex (Jy k))
def aD:List D->M D:=bX 5 (uE)
def Vp:DS:=(bS [3,4,5] (gK (cI (d2 ik (d2 iQ (d2 a8 (dV 1) (d2 a8 (d2 fX (dV 4) (dC (.int 0))) (dC (.int 0)))) (d2 a8 (d2 fX (dV 4) (dC (.int 0))) (dC (.int 1)))) (dC (.str "a")))) (aF (a_ 5 (ay 3 bU (aC (dV 1) (aC (dV 4) (aC (d2 lq (dC (.int 12)) (dV 2)) aN))))) (gK (cI (d2 qf (bb 0 (λρ=>(aC (dC (.int 2)) aN) ρ>>=dD) bC (ay 4 aD (aC (dV 0) (aC (dV 2) (aC (dV 3) (aC (dV 4) aN)))))) (dA rR (aC (dV 5) aN)))) (bE (dC (.bl false))) dr)) dr))
def MM:DS:=(a_ 0 (dA bN (aC (dA aQ (aC (dC (.str "aaaa")) (aC (dC (.str "abaa")) (aC (dC (.str "aaba")) (aC (dC (.str "aaaa")) aN))))) (aC (dA aQ (aC (dC (.str "aab")) (aC (dC (.str "aba")) (aC (dC (.str "aaa")) aN)))) (aC (dA aQ (aC (dC (.str "baa")) (aC (dC (.str "aba")) (aC (dC (.str "aaa")) aN)))) aN)))))
def MN:DS:=(a_ 0 (d2 gS (dV 0) (dA bN (aC (dA aQ (aC (dC (.str "aaa")) (aC (dC (.str "aba")) (aC (dC (.str "baa")) aN)))) (aC (dA aQ (aC (dC (.str "aaa")) (aC (dC (.str "aba")) (aC (dC (.str "aab")) aN)))) aN)))))
def jU:DS:=(aF MM (aF MN (aF (λρ=>noex ((cw (putN 1) (cK (dV 0)) (bS [1,2,3,4,5] (cw (putN 2) (lj (dA aQ (aC (dC (.int 4)) (aC (dC (.int 8)) aN)))) (bS [2,3,4,5] (cw (sP [3,4]) (λρ=>(aC (ay 2 a9 (aC (dV 1) (aC (dV 2) aN))) aN) ρ>>=rf) Vp))))) ρ)) (bE (dC (.bl true))))))
def e_:List D->M D:=bX 6 (jU)
def pW:DS:=(a_ 1 (ay 3 df (aC (dV 0) (aC (dC (.int 0)) (aC (dC (.int 5)) aN)))))
def kN:DS:=(gK (cI (d2 ik (ay 3 aO (aC (dV 0) (aC (dC (.int 60)) (aC (dC (.int 2)) aN)))) (dC (.int 0)))) (aF (a_ 2 (bb 0 (λρ=>(aC (dC (.int 6)) aN) ρ>>=dD) bC (d2 iQ (dC (.str "ab")) (ay 3 aO (aC (dV 1) (aC (d2 cU (dC (.int 61)) (dV 0)) (aC (dC (.int 2)) aN))))))) (aF (a_ 3 (bb 0 (λρ=>(aC (dC (.int 3)) aN) ρ>>=dD) bC (d2 gR (d2 gR (d2 gR (d2 gR (dC (.str "a")) (d2 fX (dV 3) (dV 0))) (dC (.str "b"))) (d2 fX (dV 3) (d2 cU (dV 0) (dC (.int 3))))) (dC (.str "a"))))) (aF (a_ 4 (d2 fX (dA bN (aC (dC (.str "aaaaa")) (aC (dC (.str "aabaa")) (aC (dC (.str "baaaa")) aN)))) (ay 3 aO (aC (dV 0) (aC (dC (.int 70)) (aC (dC (.int 3)) aN)))))) (a_ 1 (d2 u4 (d2 u4 (dA aQ (aC (dC (.str "aaaaa")) aN)) (dA Jm (aC (dV 3) aN))) (dA aQ (aC (dV 4) aN))))))) dr)
def pX:DS:=(a_ 5 (d2 fX (dA bN (aC (dC (.int 4)) (aC (dC (.int 8)) aN))) (ay 3 aO (aC (dV 0) (aC (dC (.int 71)) (aC (dC (.int 2)) aN))))))
def pY:DS:=(a_ 6 (ay 2 a9 (aC (dV 1) (aC (dV 5) aN))))
def Q1:DS:=(bS [7,8,9] (gK (oq (cI (d2 Tf (dA bO (aC (dV 8) aN)) (dC (.int 3)))) (cI (d2 ik (dV 7) (dC (.int 0))))) (aF (a_ 9 (ay 3 bU (aC (dV 1) (aC (dV 8) (aC (d2 lq (dC (.int 12)) (dV 5)) aN))))) (gK (cI (d2 qf (bb 0 (λρ=>(aC (dC (.int 2)) aN) ρ>>=dD) bC (ay 4 aD (aC (dV 0) (aC (dV 2) (aC (dV 6) (aC (dV 8) aN)))))) (dA rR (aC (dV 9) aN)))) (bE (dC (.bl false))) dr)) (gK (cI (d2 qf (bb 0 (λρ=>(aC (dC (.int 2)) aN) ρ>>=dD) bC (ay 4 aD (aC (dV 0) (aC (dV 2) (aC (dV 6) (aC (dV 8) aN)))))) (dA bN (aC (dA bN aN) (aC (dC (.int 0)) aN))))) (bE (dC (.bl false))) dr)))
def pZ:DS:=(λρ=>noex ((cw (sP [7,8]) (λρ=>(aC (dV 6) aN) ρ>>=rf) Q1) ρ))
def p5:DS:=(gK (eV (c8 (ay 0 e_ aN))) (bE (dC (.bl false))) dr)
def p6:DS:=(a_ 10 (d2 fX (dA bN (aC (d1 gJ (dC (.int 1))) (aC (dA bO (aC (dV 6) aN)) (aC (dC .non) (aC (dC (.bl false)) (aC (dC (.str "0")) aN)))))) (ay 3 aO (aC (dV 0) (aC (dC (.int 72)) (aC (dC (.int 5)) aN))))))
def p7:DS:=(gK (cI (d2 qf (bb 0 (λρ=>(aC (dC (.int 2)) aN) ρ>>=dD) bC (ay 4 aD (aC (dV 0) (aC (dV 2) (aC (dV 6) (aC (dV 11) aN)))))) (d2 GN (dA bN (aC (dA aQ (aC (dC (.str "refused")) (aC (dC (.int 4)) aN))) aN)) (dC (.int 2))))) (bE (dC (.bl false))) dr)
def p8:DS:=(gK (cI (d2 qf (bb 0 (λρ=>(aC (dC (.int 2)) aN) ρ>>=dD) bC (ay 4 aD (aC (dV 0) (aC (dV 2) (aC (dC (.int 5)) (aC (dV 11) aN)))))) (d2 GN (dA bN (aC (dA aQ (aC (dC (.str "refused")) (aC (dC (.int 1)) aN))) aN)) (dC (.int 2))))) (bE (dC (.bl false))) dr)
def p9:DS:=(bE (d2 ik (bb 0 (λρ=>(aC (dC (.int 2)) aN) ρ>>=dD) bC (ay 4 aD (aC (dV 0) (aC (dA rR (aC (dV 2) aN)) (aC (dC (.int 5)) (aC (dV 11) aN)))))) (d2 GN (dA bN (aC (dA aQ (aC (dC (.str "refused")) (aC (dC (.int 0)) aN))) aN)) (dC (.int 2)))))
def o9:DS:=(aF pW (aF kN (aF pX (aF pY (aF pZ (aF p5 (aF p6 (aF p7 (aF p8 p9)))))))))
def kP:List D->M D:=bX 11 o9
def Td:List Str:=["NoBoard","NoWays","NoCell","NoLetter","NoNumber","NoFit","Nothing"]
structure Bl (K:ZE) (mg:Str->Option Value) (base:Heap) (cv:Nat->Value) (cA:Nat->Addr) (Cp:Addr):Prop where
 len:mg "len"=none
 isinstance:mg "isinstance"=none
 all:mg "all"=none
 any:mg "any"=none
 abs:mg "abs"=none
 max:mg "max"=none
 min:mg "min"=none
 range:mg "range"=none
 str:mg "str"=none
 int:mg "int"=none
 bool:mg "bool"=none
 tuple:mg "tuple"=none
 list:mg "list"=none
 dict:mg "dict"=none
 set:mg "set"=none
 sorted:mg "sorted"=none
 enumerate:mg "enumerate"=none
 ValueError:mg "ValueError"=none
 LETTERS:∃t,mg "LETTERS"=some (.str "abcdef" t)
 MOST_ROWS:∃t,mg "MOST_ROWS"=some (.int 8 t)
 MOST_COLUMNS:∃t,mg "MOST_COLUMNS"=some (.int 8 t)
 cls:∀n x,Td[n]? =some x->mg x=some (.ref (cA n))
 own0:OwnCls "NoBoard" (cA 0) [.type "ValueError", .type "Exception", .type "BaseException", .type "object"] "ValueError.__new__" mg base
 own1:OwnCls "NoWays" (cA 1) [.type "ValueError", .type "Exception", .type "BaseException", .type "object"] "ValueError.__new__" mg base
 own4:OwnCls "NoNumber" (cA 4) [.type "ValueError", .type "Exception", .type "BaseException", .type "object"] "ValueError.__new__" mg base
 cvE:∀n,cv n= .ref (cB cA n)
 top:mg "PatchError"=some (.ref Cp)
 exm:∀n,acO K (cv n) (.ref Cp)=some true
 exs:∀C∈vU cA,ExcC K C
 kit:∀n m,n∈[0,1,4]->m<7->ZK K (.ref (cA n)) (.ref (cA m))=some (decide (n=m))
 kitV:∀n,n∈[0,1,4]->ZK K (.ref (cA n)) (.type "ValueError")=some true
section
variable{P:Z5}{w:World}{K:ZE}{mg:Str->Option Value}{base:Heap}{cv:Nat->Value}{cA:Nat->Addr}{Cp:Addr}{f:Addr}
abbrev mj:Stmt:=top 13
def si:List Str:=["thing"]
def sE:List Str:=["thing"]
theorem mR{j k:Nat}{A:aao}(r:Room k A)(h:j<=k:=by decide):Room j A:=r.mono h
theorem dB{N Q:List Str}{sc:Scope}(k:sc.kind= .function:=by rfl)(c:sc.isCoroutine=false:=by rfl)(g:sc.isGenerator=false:=by rfl)(p:N.take Q.length=Q:=by rfl)(h:N.Nodup/\(∀x∈Q,sc.names.lookup x=some .local\/sc.names.lookup x=some .cell)/\∀y∈sc.names,y.2≠ .free:=by decide+kernel):FnScope N Q sc:=⟨k,c,g,h.1,p,h.2.1,h.2.2⟩
theorem An:FnScope si sE (ai mj):=dB
theorem z3(B:Bl K mg base cv cA Cp)(T:bG K mg "is_whole" mj f):au P w K mg base cv 1 "is_whole" 1 (fB):=
 aI (N:=si) (ps:=sE) T An (λ_ _ _ _ _ _ us hl=>match us,hl with | [_],_=>rfl) λ_ _ _ _ _ _ hr=>
  (aq (aK (xp (sJ rfl B.isinstance rfl (aa (af (pv 0)) (aa (vw rfl B.int rfl) ah))) (xx (OF (sJ rfl B.isinstance rfl (aa (af (pv 0)) (aa (vw rfl B.bool rfl) ah))))))))
abbrev kD:Stmt:=top 14
def pw:List Str:=["thing"]
def pJ:List Str:=["thing"]
theorem xQ:FnScope pw pJ (ai kD):=dB
theorem xf(B:Bl K mg base cv cA Cp)(T:bG K mg "is_letter" kD f):au P w K mg base cv 1 "is_letter" 1 (dN):=
 aI (N:=pw) (ps:=pJ) T xQ (λ_ _ _ _ _ _ us hl=>match us,hl with | [_],_=>rfl) λ_ _ _ _ _ _ hr=>
  (aq (aK (xp (sJ rfl B.isinstance rfl (aa (af (pv 0)) (aa (vw rfl B.str rfl) ah))) (xp (z9 hr.units (cb rfl B.len (aa (af (pv 0)) ah)) ak) (xx (OD (af (pv 0)) (K4 rfl B.LETTERS (by decide))))))))
abbrev fj:Stmt:=top 19
def fi:List Str:=["board","row"]
def kh:List Str:=["board","row"]
theorem qp:FnScope fi kh (ai fj):=dB
theorem qj(B:Bl K mg base cv cA Cp)(T:bG K mg "cells_of_row" fj f):au P w K mg base cv 1 "cells_of_row" 2 (c9):=
 aI (N:=fi) (ps:=kh) T qp (λ_ _ _ _ _ _ us hl=>match us,hl with | [_,_],_=>rfl) λ_ _ _ _ _ _ hr=>
  (aq (aK (bY (tn:=["column"]) (n:=0) (aX (N:=fi) (osc:=(ai fj)) rfl rfl (by decide+kernel)) rfl rfl (bJ rfl B.range (aa (cb rfl B.len (aa (bA (af (pv 0)) ak) ah)) ah)) (λ_ _ _ _ _ _ _=>bF (show aaj (((["column"]:List Str))++b9 ["column"] fi) by decide+kernel) rfl rfl) (λ_ _ _ _ _ _=>bM) (λ_ _ _ _ _ _=>(bB (aa (af (pv 2)) (aa (af (pv 0)) ah)))))))
abbrev kF:Stmt:=top 21
def pA:List Str:=["board","cell"]
def pP:List Str:=["board","cell"]
theorem xR:FnScope pA pP (ai kF):=dB
theorem xl(B:Bl K mg base cv cA Cp)(T:bG K mg "letter_of" kF f):au P w K mg base cv 1 "letter_of" 2 (eP):=
 aI (N:=pA) (ps:=pP) T xR (λ_ _ _ _ _ _ us hl=>match us,hl with | [_,_],_=>rfl) λ_ _ _ _ _ _ hr=>
  (aq (aK (oO (bA (af (pv 0)) (bA (af (pv 1)) ak)) (bA (af (pv 1)) ak))))
abbrev mi:Stmt:=top 22
def sf:List Str:=["one","other","ways","down","along"]
def sC:List Str:=["one","other","ways"]
theorem kH:FnScope sf sC (ai mi):=dB
theorem zZ(B:Bl K mg base cv cA Cp)(T:bG K mg "are_next" mi f):au P w K mg base cv 1 "are_next" 3 (eG):=
 aI (N:=sf) (ps:=sC) T kH (λ_ _ _ _ _ _ us hl=>match us,hl with | [_,_,_],_=>rfl) λ_ _ _ _ _ _ hr=>
  (aj (aE kH.nd rfl (.inl rfl) (HV rfl B.abs (aa (km (bA (af (pv 0)) ak) (bA (af (pv 1)) ak)) ah) rfl)) (aj (aE kH.nd rfl (.inl rfl) (HV rfl B.abs (aa (km (bA (af (pv 0)) ak) (bA (af (pv 1)) ak)) ah) rfl)) (aj (bP (jd hr.units (af (pv 2)) ak) (aq (aK (z9 hr.units (b_ (af (pv 3)) (af (pv 4))) ak))) bw) (aq (aK (z9 hr.units (BW rfl rfl B.max rfl (aa (af (pv 3)) (aa (af (pv 4)) ah))) ak))))))
abbrev xP:Stmt:=top 24
def Dt:List Str:=["things","found","thing"]
def DD:List Str:=["things"]
theorem sW:FnScope Dt DD (ai xP):=dB
theorem HJ(B:Bl K mg base cv cA Cp)(T:bG K mg "keyed" xP f):au P w K mg base cv 1 "keyed" 1 (fJ):=
 aI (N:=Dt) (ps:=DD) T sW (λ_ _ _ _ _ _ us hl=>match us,hl with | [_],_=>rfl) λ_ _ _ _ _ _ hr=>
  (aj (kq sW.nd rfl (.inl rfl)) (aj (cj (bp ZP rfl (DK (bc (af (pv 0))) (Ab (af (pv 0)))) (aU sW.nd rfl (.inl rfl)) ba (aR (aq (fT hr.units (pv 1) (af (pv 2)) eT))))) (aq (cC (i:=1) (aK (af (pv 1)))))))
abbrev kC:Stmt:=top 30
def pq:List Str:=["near","start","far","ring","further","thing","other"]
def pI:List Str:=["near","start"]
theorem du:FnScope pq pI (ai kC):=dB
theorem xc(B:Bl K mg base cv cA Cp)(T:bG K mg "distances" kC f):au P w K mg base cv 1 "distances" 2 (gO):=
 aI (N:=pq) (ps:=pI) T du (λ_ _ _ _ _ _ us hl=>match us,hl with | [_,_],_=>rfl) λ_ _ _ _ _ _ hr=>
  (aj (nJ du.nd rfl (.inl rfl) (K5 (vx hr.units (af (pv 1)) ak) (Fl hr.units (af (pv 1)) ak))) (aj (aE du.nd rfl (.inl rfl) (dm (aa (af (pv 1)) ah))) (aj (cj (k9 ZP (dq (af (pv 3))) (aR (aj (fL du.nd rfl (.inl rfl)) (aj (bp ZP rfl (bc (af (pv 3))) (aU du.nd rfl (.inl rfl)) ba (aR (aq (bp ZP rfl (DK (bc (eK hr.units (af (pv 0)) (af (pv 5)))) (Ab (eK hr.units (af (pv 0)) (af (pv 5))))) (aU du.nd rfl (.inl rfl)) ba (aR (aq (bP (oQ (je hr.units (af (pv 6)) (af (pv 2)))) (aj (fT hr.units (pv 2) (af (pv 6)) (Ic (b_ (eK hr.units (af (pv 2)) (af (pv 5))) ak))) (aq (g8 (pv 4) (af (pv 6))))) bw))))))) (aq (cC (i:=4) (aE du.nd rfl (.inl rfl) (af (pv 4)))))))))) (aq (cC (i:=2) (aK (af (pv 2))))))))
abbrev jK:Stmt:=top 35
def mU:List Str:=["board","cell"]
def nh:List Str:=["board","cell"]
theorem uy:FnScope mU nh (ai jK):=dB
theorem uf(B:Bl K mg base cv cA Cp)(T:bG K mg "is_at_edge" jK f):au P w K mg base cv 1 "is_at_edge" 2 (dW):=
 aI (N:=mU) (ps:=nh) T uy (λ_ _ _ _ _ _ us hl=>match us,hl with | [_,_],_=>rfl) λ_ _ _ _ _ _ hr=>
  (aq (aK (Ro (HZ (bA (af (pv 1)) ak) (bB (aa ak (aa (km (cb rfl B.len (aa (af (pv 0)) ah)) ak) ah)))) (xx (HZ (bA (af (pv 1)) ak) (bB (aa ak (aa (km (cb rfl B.len (aa (bA (af (pv 0)) ak) ah)) ak) ah))))))))
abbrev mn:Stmt:=top 41
def sj:List Str:=["_law_script","_law_k"]
def sF:List Str:=["_law_script","_law_k"]
theorem Ao:FnScope sj sF (ai mn):=dB
theorem z4(B:Bl K mg base cv cA Cp)(T:bG K mg "_law_cell" mn f):au P w K mg base cv 1 "_law_cell" 2 (gA):=
 aI (N:=sj) (ps:=sF) T Ao (λ_ _ _ _ _ _ us hl=>match us,hl with | [_,_],_=>rfl) λ_ _ _ _ _ _ hr=>
  (aj (bP (jd hr.units (af (pv 0)) (dm ah)) (aq (aK (kl ak (af (pv 1))))) bw) (aq (aK (b_ (OE (af (pv 0)) (oP (af (pv 1)) (cb rfl B.len (aa (af (pv 0)) ah)))) (kl ak (xr (af (pv 1)) (cb rfl B.len (aa (af (pv 0)) ah))))))))
abbrev ib:Stmt:=top 44
def gW:List Str:=["_law_board_here","_law_found","_law_row"]
def pL:List Str:=["_law_board_here"]
theorem gm:FnScope gW pL (ai ib):=dB
theorem xh(B:Bl K mg base cv cA Cp)(T:bG K mg "_law_cells" ib f):au P w K mg base cv 1 "_law_cells" 1 (dg):=
 aI (N:=gW) (ps:=pL) T gm (λ_ _ _ _ _ _ us hl=>match us,hl with | [_],_=>rfl) λ_ _ _ _ _ _ hr=>
  (aj (aE gm.nd rfl (.inl rfl) (dm ah)) (aj (cj (bp ZP rfl (bJ rfl B.range (aa (cb rfl B.len (aa (af (pv 0)) ah)) ah)) (aU gm.nd rfl (.inr rfl)) ba (aR (aq (aE gm.nd rfl (.inl rfl) (nE (af (pv 1)) (bY (tn:=["_law_column"]) (n:=0) (aX (N:=gW) (osc:=(ai ib)) rfl rfl (by decide+kernel)) rfl rfl (bJ rfl B.range (aa (cb rfl B.len (aa (bA (af (pv 0)) ak) ah)) ah)) (λ_ _ _ _ _ _ _=>bF (show aaj (((["_law_column"]:List Str))++b9 ["_law_column"] gW) by decide+kernel) rfl rfl) (λ_ _ _ _ _ _=>bM) (λ_ _ _ _ _ _=>(bB (aa (af (pv 3)) (aa (af (pv 0)) ah))))))))))) (aq (aK (af (pv 1))))))
abbrev jL:Stmt:=top 45
def mW:List Str:=["_law_board_here","_law_cell_here","_law_ways","_law_found","_law_down","_law_right","_law_row","_law_column","_law_inside"]
def nj:List Str:=["_law_board_here","_law_cell_here","_law_ways"]
theorem cV:FnScope mW nj (ai jL):=dB
theorem uh(B:Bl K mg base cv cA Cp)(T:bG K mg "_law_beside" jL f):au P w K mg base cv 1 "_law_beside" 3 (dX):=
 aI (N:=mW) (ps:=nj) T cV (λ_ _ _ _ _ _ us hl=>match us,hl with | [_,_,_],_=>rfl) λ_ _ _ _ _ _ hr=>
  (aj (fL cV.nd rfl (.inl rfl)) (aj (cj (bp ZP rfl (jH (bB (aa (ix ak) (aa ak (aa ak ah))))) (aU cV.nd rfl (.inl rfl)) ba (aR (aq (bp ZP rfl (jH (bB (aa (ix ak) (aa ak (aa ak ah))))) (aU cV.nd rfl (.inl rfl)) ba (aR (aj (aE cV.nd rfl (.inl rfl) (b_ (bA (af (pv 1)) ak) (af (pv 4)))) (aj (aE cV.nd rfl (.inl rfl) (b_ (bA (af (pv 1)) ak) (af (pv 5)))) (aj (aE cV.nd rfl (.inl rfl) (xp (HY sA HN ak (af (pv 6)) (cb rfl B.len (aa (af (pv 0)) ah))) (xx (HY sA HN ak (af (pv 7)) (cb rfl B.len (aa (bA (af (pv 0)) ak) ah)))))) (aq (bP (PDW.t (nH (dq (af (pv 8))) (nH (nK hr.units (bB (aa (af (pv 4)) (aa (af (pv 5)) ah))) (bB (aa ak (aa ak ah)))) (sL (PDW.t (jI (jd hr.units (af (pv 2)) ak) (g7 (jd hr.units (kl (af (pv 4)) (af (pv 5))) ak)))))))) (aq (g8 (pv 3) (bB (aa (af (pv 6)) (aa (af (pv 7)) ah))))) bw))))))))))) (aq (cC (i:=3) (aK (af (pv 3)))))))
abbrev iB:Stmt:=top 48
def lD:List Str:=["_law_e","_law_flags"]
def lM:List Str:=["_law_e"]
theorem fq:FnScope lD lM (ai iB):=dB
theorem sv(B:Bl K mg base cv cA Cp)(T:bG K mg "_law_refused" iB f):qt P w K mg base cv 1 "_law_refused" 1 (bT K cA):=
 A7 (N:=lD) (ps:=lM) T fq (λ_ _ _ _ _ _ us hl=>match us,hl with | [_],_=>rfl) λb7 A outer s H hr=>
  (aj (aE fq.nd rfl (.inl rfl) (dm (aa (kj B.exs rfl B.isinstance rfl (aa (af (pv 0)) (aa (jE rfl (B.cls 0 "NoBoard" rfl)) ah))) (aa (kj B.exs rfl B.isinstance rfl (aa (af (pv 0)) (aa (jE rfl (B.cls 1 "NoWays" rfl)) ah))) (aa (kj B.exs rfl B.isinstance rfl (aa (af (pv 0)) (aa (jE rfl (B.cls 2 "NoCell" rfl)) ah))) ah))))) (aj (aE fq.nd rfl (.inl rfl) (nE (af (pv 1)) (dm (aa (kj B.exs rfl B.isinstance rfl (aa (af (pv 0)) (aa (jE rfl (B.cls 3 "NoLetter" rfl)) ah))) (aa (kj B.exs rfl B.isinstance rfl (aa (af (pv 0)) (aa (jE rfl (B.cls 4 "NoNumber" rfl)) ah))) (aa (kj B.exs rfl B.isinstance rfl (aa (af (pv 0)) (aa (jE rfl (B.cls 5 "NoFit" rfl)) ah))) ah)))))) (aj (aE fq.nd rfl (.inl rfl) (nE (af (pv 1)) (dm (aa (kj B.exs rfl B.isinstance rfl (aa (af (pv 0)) (aa (jE rfl (B.cls 6 "Nothing" rfl)) ah))) ah)))) (aj (bP (PDW.t (jI (nK hr.units (OB (af (pv 1)) (aa eT ah)) ak) (g7 (eD (dq (kj B.exs rfl B.isinstance rfl (aa (af (pv 0)) (aa (vw rfl B.ValueError rfl) ah)))))))) (aq (aK (bB (aa cf (aa (ix ak) ah))))) bw) (aq (aK (bB (aa cf (aa (OC (af (pv 1)) (aa eT ah)) ah)))))))))
abbrev ig:Stmt:=top 50
def gX:List Str:=["_law_cells_here","_law_ways","_law_found","_law_changed","_law_cell_here","_law_down","_law_right","_law_there"]
def pO:List Str:=["_law_cells_here","_law_ways"]
theorem ck:FnScope gX pO (ai ig):=dB
theorem xk(B:Bl K mg base cv cA Cp)(T:bG K mg "_law_parts" ig f):au P w K mg base cv 1 "_law_parts" 2 (fR):=
 aI (N:=gX) (ps:=pO) T ck (λ_ _ _ _ _ _ us hl=>match us,hl with | [_,_],_=>rfl) λ_ _ _ _ _ _ hr=>
  (aj (nJ ck.nd rfl (.inl rfl) (z_ hr.units rfl rfl B.dict rfl (aa (bY (tn:=["_law_cell_here"]) (n:=0) (aX (N:=gX) (osc:=(ai ig)) rfl rfl (by decide+kernel)) rfl rfl (bc (af (pv 0))) (λ_ _ _ _ _ _ _=>bF (show aaj (((["_law_cell_here"]:List Str))++b9 ["_law_cell_here"] gX) by decide+kernel) rfl rfl) (λ_ _ _ _ _ _=>bM) (λ_ _ _ _ _ _=>(bB (aa (af (pv 0)) (aa (af (pv 0)) ah))))) ah))) (aj (aE ck.nd rfl (.inl rfl) eT) (aj (cj (k9 ZP (dq (af (pv 3))) (aR (aj (aE ck.nd rfl (.inl rfl) eT) (aq (bp ZP rfl (bc (af (pv 0))) (aU ck.nd rfl (.inl rfl)) ba (aR (aq (bp ZP rfl (jH (bB (aa (ix ak) (aa ak (aa ak ah))))) (aU ck.nd rfl (.inl rfl)) ba (aR (aq (bp ZP rfl (jH (bB (aa (ix ak) (aa ak (aa ak ah))))) (aU ck.nd rfl (.inl rfl)) ba (aR (aj (aE ck.nd rfl (.inl rfl) (bB (aa (b_ (bA (af (pv 4)) ak) (af (pv 5))) (aa (b_ (bA (af (pv 4)) ak) (af (pv 6))) ah)))) (aq (bP (oQ (PDW.t (nH (Iv hr.units (af (pv 7)) (af (pv 2))) (nH (PDW.t (jI (jd hr.units (af (pv 1)) ak) (jI (jd hr.units (af (pv 5)) ak) (g7 (jd hr.units (af (pv 6)) ak))))) (sL (Iw hr.units (eK hr.units (af (pv 2)) (af (pv 7))) (eK hr.units (af (pv 2)) (af (pv 4))))))))) (aj (fT hr.units (pv 2) (af (pv 4)) (Ic (eK hr.units (af (pv 2)) (af (pv 7))))) (aq (aE ck.nd rfl (.inl rfl) eT))) bw)))))))))))))))) (aq (cC (i:=2) (aK (af (pv 2))))))))
abbrev nQ:Stmt:=top 15
def mV:List Str:=["thing"]
def z7:List Str:=["thing"]
theorem Fx:FnScope mV z7 (ai nQ):=dB
theorem E_(B:Bl K mg base cv cA Cp)(yM:au P w K mg base cv 1 "is_letter" 1 dN)(T:bG K mg "is_row" nQ f):au P w K mg base cv 2 "is_row" 1 (gz):=
 aI (N:=mV) (ps:=z7) T Fx (λ_ _ _ _ _ _ us hl=>match us,hl with | [_],_=>rfl) λ_ _ _ _ _ _ hr=>
  (aj (bP (PDW.t (jI (eD (dq (sJ rfl B.isinstance rfl (aa (af (pv 0)) (aa (vw rfl B.str rfl) ah))))) (g7 (eD (B3 sA sA ak (cb rfl B.len (aa (af (pv 0)) ah)) (DH rfl B.MOST_COLUMNS)))))) (aq (aK eT)) bw) (aq (aK (BS rfl rfl B.all rfl (aa (bY (tn:=["sign"]) (n:=0) (aX (N:=mV) (osc:=(ai nQ)) rfl rfl (by decide+kernel)) rfl rfl (K6 (af (pv 0))) (λ_ _ _ _ _ _ _=>bF (show aaj (((["sign"]:List Str))++b9 ["sign"] mV) by decide+kernel) rfl rfl) (λ_ _ _ _ _ _=>bM) (λ_ _ _ _ _ _=>(bI yM (mR hr) rfl cO (aa (af (pv 0)) ah) rfl))) ah)))))
abbrev kG:Stmt:=top 18
def pB:List Str:=["thing"]
def pQ:List Str:=["thing"]
theorem xS:FnScope pB pQ (ai kG):=dB
theorem xm(B:Bl K mg base cv cA Cp)(lV:au P w K mg base cv 1 "is_whole" 1 fB)(T:bG K mg "need_ways" kG f):au P w K mg base cv 2 "need_ways" 1 (gQ):=
 aI (N:=pB) (ps:=pQ) T xS (λ_ _ _ _ _ _ us hl=>match us,hl with | [_],_=>rfl) λ_ _ _ _ _ _ hr=>
  (aq (bP (PDW.t (jI (eD (dq (bI lV (mR hr) rfl cy (aa (af (pv 0)) ah) rfl))) (g7 (Fs (af (pv 0)) (bB (aa ak (aa ak ah))))))) (aq (oS B.own1 acK rfl rfl (B.cvE 1) Hv (aa cf ah))) bw))
abbrev kB:Stmt:=top 20
def pk:List Str:=["board","found","row"]
def pH:List Str:=["board"]
theorem jP:FnScope pk pH (ai kB):=dB
theorem xb(B:Bl K mg base cv cA Cp)(qP:au P w K mg base cv 1 "cells_of_row" 2 c9)(T:bG K mg "all_cells" kB f):au P w K mg base cv 2 "all_cells" 1 (eO):=
 aI (N:=pk) (ps:=pH) T jP (λ_ _ _ _ _ _ us hl=>match us,hl with | [_],_=>rfl) λ_ _ _ _ _ _ hr=>
  (aj (fL jP.nd rfl (.inl rfl)) (aj (cj (bp ZP rfl (bJ rfl B.range (aa (cb rfl B.len (aa (af (pv 0)) ah)) ah)) (aU jP.nd rfl (.inl rfl)) ba (aR (aq (DO (pv 1) (bI qP (mR hr) rfl cO (aa (af (pv 0)) (aa (af (pv 2)) ah)) rfl)))))) (aq (cC (i:=1) (aK (af (pv 1)))))))
abbrev jN:Stmt:=top 23
def mY:List Str:=["board","cell","ways","found","row","column"]
def ny:List Str:=["board","cell","ways"]
theorem fO:FnScope mY ny (ai jN):=dB
theorem uo(B:Bl K mg base cv cA Cp)(A3:au P w K mg base cv 1 "are_next" 3 eG)(T:bG K mg "next_cells" jN f):au P w K mg base cv 2 "next_cells" 3 (cM):=
 aI (N:=mY) (ps:=ny) T fO (λ_ _ _ _ _ _ us hl=>match us,hl with | [_,_,_],_=>rfl) λ_ _ _ _ _ _ hr=>
  (aj (fL fO.nd rfl (.inl rfl)) (aj (cj (bp ZP rfl (jG rfl B.range (aa (BW rfl rfl B.max rfl (aa (km (bA (af (pv 1)) ak) ak) (aa ak ah))) (aa (H8 rfl rfl B.min rfl (aa (b_ (bA (af (pv 1)) ak) ak) (aa (cb rfl B.len (aa (af (pv 0)) ah)) ah))) ah))) (aU fO.nd rfl (.inl rfl)) ba (aR (aq (bp ZP rfl (jG rfl B.range (aa (BW rfl rfl B.max rfl (aa (km (bA (af (pv 1)) ak) ak) (aa ak ah))) (aa (H8 rfl rfl B.min rfl (aa (b_ (bA (af (pv 1)) ak) ak) (aa (cb rfl B.len (aa (bA (af (pv 0)) ak) ah)) ah))) ah))) (aU fO.nd rfl (.inl rfl)) ba (aR (aq (bP (dq (bI A3 (mR hr) rfl cO (aa (af (pv 1)) (aa (bB (aa (af (pv 4)) (aa (af (pv 5)) ah))) (aa (af (pv 2)) ah))) rfl)) (aq (g8 (pv 3) (bB (aa (af (pv 4)) (aa (af (pv 5)) ah))))) bw)))))))) (aq (cC (i:=3) (aK (af (pv 3)))))))
abbrev iE:Stmt:=top 33
def lG:List Str:=["many","thing"]
def lO:List Str:=["many","thing"]
theorem sX:FnScope lG lO (ai iE):=dB
theorem sy(B:Bl K mg base cv cA Cp)(lV:au P w K mg base cv 1 "is_whole" 1 fB)(T:bG K mg "need_number" iE f):au P w K mg base cv 2 "need_number" 2 (dF):=
 aI (N:=lG) (ps:=lO) T sX (λ_ _ _ _ _ _ us hl=>match us,hl with | [_,_],_=>rfl) λ_ _ _ _ _ _ hr=>
  (aq (bP (PDW.t (jI (eD (dq (bI lV (mR hr) rfl cy (aa (af (pv 1)) ah) rfl))) (g7 (eD (B3 sA HN ak (af (pv 1)) (af (pv 0))))))) (aq (oS B.own4 acK rfl rfl (B.cvE 4) Hv (aa cf ah))) bw))
abbrev eE:Stmt:=top 36
def eC:List Str:=["board","some"]
def jZ:List Str:=["board","some"]
theorem oZ:FnScope eC jZ (ai eE):=dB
theorem oJ(B:Bl K mg base cv cA Cp)(vV:au P w K mg base cv 1 "is_at_edge" 2 dW)(T:bG K mg "comes_to_edge" eE f):au P w K mg base cv 2 "comes_to_edge" 2 (dw):=
 aI (N:=eC) (ps:=jZ) T oZ (λ_ _ _ _ _ _ us hl=>match us,hl with | [_,_],_=>rfl) λ_ _ _ _ _ _ hr=>
  (aq (aK (OA rfl rfl B.any rfl (aa (bY (tn:=["cell"]) (n:=0) (aX (N:=eC) (osc:=(ai eE)) rfl rfl (by decide+kernel)) rfl rfl (bc (af (pv 1))) (λ_ _ _ _ _ _ _=>bF (show aaj (((["cell"]:List Str))++b9 ["cell"] eC) by decide+kernel) rfl rfl) (λ_ _ _ _ _ _=>bM) (λ_ _ _ _ _ _=>(bI vV (mR hr) rfl cO (aa (af (pv 1)) (aa (af (pv 0)) ah)) rfl))) ah))))
abbrev kE:Stmt:=top 42
def pz:List Str:=["_law_script","_law_k","_law_many","_law_cell_here"]
def pM:List Str:=["_law_script","_law_k","_law_many"]
theorem jQ:FnScope pz pM (ai kE):=dB
theorem xi(B:Bl K mg base cv cA Cp)(A5:au P w K mg base cv 1 "_law_cell" 2 gA)(T:bG K mg "_law_drawn" kE f):au P w K mg base cv 2 "_law_drawn" 3 (aO):=
 aI (N:=pz) (ps:=pM) T jQ (λ_ _ _ _ _ _ us hl=>match us,hl with | [_,_,_],_=>rfl) λ_ _ _ _ _ _ hr=>
  (aj (aE jQ.nd rfl (.inl rfl) (oP (b_ (kl (oP (bI A5 (mR hr) rfl cy (aa (af (pv 0)) (aa (af (pv 1)) ah)) rfl) ak) ak) (kl ak (b_ (af (pv 1)) ak))) ak)) (aj (aE jQ.nd rfl (.inl rfl) (oP (b_ (kl (af (pv 3)) (af (pv 3))) (xr (af (pv 3)) ak)) ak)) (aq (aK (oP (xr (oP (b_ (kl (af (pv 3)) (af (pv 3))) (xr (af (pv 3)) ak)) ak) ak) (af (pv 2)))))))
abbrev gi:Stmt:=top 46
def gc:List Str:=["_law_board_here","_law_ways","_law_found","_law_pairs","_law_cell_here","_law_there","_law_mine","_law_changed","_law_one","_law_other","_law_least"]
def nk:List Str:=["_law_board_here","_law_ways"]
theorem bt:FnScope gc nk (ai gi):=dB
theorem ui(B:Bl K mg base cv cA Cp)(gN:au P w K mg base cv 1 "_law_cells" 1 dg)(vW:au P w K mg base cv 1 "_law_beside" 3 dX)(T:bG K mg "_law_labels" gi f):au P w K mg base cv 2 "_law_labels" 2 (f9):=
 aI (N:=gc) (ps:=nk) T bt (λ_ _ _ _ _ _ us hl=>match us,hl with | [_,_],_=>rfl) λ_ _ _ _ _ _ hr=>
  (aj (nJ bt.nd rfl (.inl rfl) (z_ hr.units rfl rfl B.dict rfl (aa (bY (tn:=["_law_cell_here"]) (n:=0) (aX (N:=gc) (osc:=(ai gi)) rfl rfl (by decide+kernel)) rfl rfl (bc (bI gN (mR hr) rfl cy (aa (af (pv 0)) ah) rfl)) (λ_ _ _ _ _ _ _=>bF (show aaj (((["_law_cell_here"]:List Str))++b9 ["_law_cell_here"] gc) by decide+kernel) rfl rfl) (λ_ _ _ _ _ _=>bM) (λ_ _ _ _ _ _=>(bB (aa (af (pv 0)) (aa (af (pv 0)) ah))))) ah))) (aj (fL bt.nd rfl (.inl rfl)) (aj (cj (bp ZP rfl (bc (bI gN (mR hr) rfl cO (aa (af (pv 0)) ah) rfl)) (aU bt.nd rfl (.inl rfl)) ba (aR (aq (bp ZP rfl (bc (bI vW (mR hr) rfl cO (aa (af (pv 0)) (aa (af (pv 4)) (aa (af (pv 1)) ah))) rfl)) (aU bt.nd rfl (.inl rfl)) ba (aR (aj (aE bt.nd rfl (.inl rfl) (oO (bA (af (pv 0)) (bA (af (pv 4)) ak)) (bA (af (pv 4)) ak))) (aq (bP (PDW.t (nH (Iw hr.units (af (pv 4)) (af (pv 5))) (sL (jd hr.units (af (pv 6)) (oO (bA (af (pv 0)) (bA (af (pv 5)) ak)) (bA (af (pv 5)) ak)))))) (aq (g8 (pv 3) (bB (aa (af (pv 4)) (aa (af (pv 5)) ah))))) bw))))))))) (aj (aE bt.nd rfl (.inl rfl) eT) (aj (cj (k9 ZP (dq (af (pv 7))) (aR (aj (aE bt.nd rfl (.inl rfl) eT) (aq (cC (i:=3) (bp ZP rfl (bc (af (pv 3))) (BZ rfl (jb (aU bt.nd rfl (.inl rfl)) (jb (aU bt.nd rfl (.inl rfl)) xA))) (xE (is:=[8,9])) (aR (aq (bP (oQ (nK hr.units (eK hr.units (af (pv 2)) (af (pv 8))) (eK hr.units (af (pv 2)) (af (pv 9))))) (aj (aE bt.nd rfl (.inl rfl) (Ic (K3 hr.units rfl rfl B.min rfl (aa (eK hr.units (af (pv 2)) (af (pv 8))) (aa (eK hr.units (af (pv 2)) (af (pv 9))) ah))))) (aj (fT hr.units (pv 2) (af (pv 8)) (af (pv 10))) (aj (fT hr.units (pv 2) (af (pv 9)) (af (pv 10))) (aq (aE bt.nd rfl (.inl rfl) eT))))) bw)))))))))) (aq (cC (i:=2) (aK (af (pv 2))))))))))
abbrev fU:Stmt:=top 51
def eS:List Str:=["_law_board_here","_law_patch","_law_ways","_law_free","_law_row","_law_column","_law_labels_here","_law_inner"]
def pN:List Str:=["_law_board_here","_law_patch","_law_ways"]
theorem d7:FnScope eS pN (ai fU):=dB
theorem xj(B:Bl K mg base cv cA Cp)(yN:au P w K mg base cv 1 "_law_parts" 2 fR)(T:bG K mg "_law_holes" fU f):au P w K mg base cv 2 "_law_holes" 3 (bU):=
 aI (N:=eS) (ps:=pN) T d7 (λ_ _ _ _ _ _ us hl=>match us,hl with | [_,_,_],_=>rfl) λ_ _ _ _ _ _ hr=>
  (aj (fL d7.nd rfl (.inl rfl)) (aj (cj (bp ZP rfl (jG rfl B.range (aa (ix ak) (aa (b_ (cb rfl B.len (aa (af (pv 0)) ah)) ak) ah))) (aU d7.nd rfl (.inl rfl)) ba (aR (aq (bp ZP rfl (jG rfl B.range (aa (ix ak) (aa (b_ (cb rfl B.len (aa (bA (af (pv 0)) ak) ah)) ak) ah))) (aU d7.nd rfl (.inl rfl)) ba (aR (aq (bP (Ft hr.units (bB (aa (af (pv 4)) (aa (af (pv 5)) ah))) (af (pv 1))) (aq (g8 (pv 3) (bB (aa (af (pv 4)) (aa (af (pv 5)) ah))))) bw)))))))) (aj (cC (i:=3) (aE d7.nd rfl (.inr rfl) (bI yN (mR hr) rfl cy (aa (af (pv 3)) (aa (af (pv 2)) ah)) rfl))) (aj (cC (i:=3) (g9 (tn:=["_law_cell_here"]) (n:=0) d7.nd rfl (.inl rfl) (aX (N:=eS) (osc:=(ai fU)) rfl rfl (by decide+kernel)) rfl rfl (bc (af (pv 3))) (λ_ _ _ _ _ _ _=>bF (show aaj (((["_law_cell_here"]:List Str))++b9 ["_law_cell_here"] eS) by decide+kernel) rfl rfl) (λ_ _ _ _ _ _=>(kL (nK hr.units (eK hr.units (af (pv 7)) (af (pv 0))) (bB (aa (ix ak) (aa (ix ak) ah)))))) (λ_ _ _ _ _ _=>(af (pv 0))))) (aq (aK (bB (aa (Ib rfl B.sorted rfl (aa (af (pv 7)) ah)) (aa (BV rfl hr.units rfl B.len rfl B.set rfl rfl (bY (tn:=["_law_cell_here"]) (n:=0) (aX (N:=eS) (osc:=(ai fU)) rfl rfl (by decide+kernel)) rfl rfl (bc (af (pv 7))) (λ_ _ _ _ _ _ _=>bF (show aaj (((["_law_cell_here"]:List Str))++b9 ["_law_cell_here"] eS) by decide+kernel) rfl rfl) (λ_ _ _ _ _ _=>bM) (λ_ _ _ _ _ _=>(eK hr.units (af (pv 7)) (af (pv 0)))))) ah)))))))))
abbrev gF:Stmt:=top 16
def fF:List Str:=["thing"]
def sD:List Str:=["thing"]
theorem Am:FnScope fF sD (ai gF):=dB
theorem z0(B:Bl K mg base cv cA Cp)(Ga:au P w K mg base cv 2 "is_row" 1 gz)(T:bG K mg "is_board" gF f):au P w K mg base cv 3 "is_board" 1 (jw):=
 aI (N:=fF) (ps:=sD) T Am (λ_ _ _ _ _ _ us hl=>match us,hl with | [_],_=>rfl) λ_ _ _ _ _ _ hr=>
  (aj (bP (PDW.t (jI (eD (dq (sJ rfl B.isinstance rfl (aa (af (pv 0)) (aa (vw rfl B.tuple rfl) ah))))) (g7 (eD (B3 sA sA ak (cb rfl B.len (aa (af (pv 0)) ah)) (DH rfl B.MOST_ROWS)))))) (aq (aK eT)) bw) (aj (bP (eD (dq (BS rfl rfl B.all rfl (aa (bY (tn:=["row"]) (n:=0) (aX (N:=fF) (osc:=(ai gF)) rfl rfl (by decide+kernel)) rfl rfl (jH (af (pv 0))) (λ_ _ _ _ _ _ _=>bF (show aaj (((["row"]:List Str))++b9 ["row"] fF) by decide+kernel) rfl rfl) (λ_ _ _ _ _ _=>bM) (λ_ _ _ _ _ _=>(bI Ga (mR hr) rfl cO (aa (af (pv 0)) ah) rfl))) ah)))) (aq (aK eT)) bw) (aq (aK (BS rfl rfl B.all rfl (aa (bY (tn:=["row"]) (n:=0) (aX (N:=fF) (osc:=(ai gF)) rfl rfl (by decide+kernel)) rfl rfl (jH (af (pv 0))) (λ_ _ _ _ _ _ _=>bF (show aaj (((["row"]:List Str))++b9 ["row"] fF) by decide+kernel) rfl rfl) (λ_ _ _ _ _ _=>bM) (λ_ _ _ _ _ _=>(z9 hr.units (cb rfl B.len (aa (af (pv 0)) ah)) (cb rfl B.len (aa (bA (af (pv 1)) ak) ah))))) ah))))))
abbrev gj:Stmt:=top 26
def gf:List Str:=["board","cell","ways","letter"]
def nq:List Str:=["board","cell","ways"]
theorem lP:FnScope gf nq (ai gj):=dB
theorem uj(B:Bl K mg base cv cA Cp)(o_:au P w K mg base cv 1 "letter_of" 2 eP)(jt:au P w K mg base cv 2 "next_cells" 3 cM)(T:bG K mg "like_cells" gj f):au P w K mg base cv 3 "like_cells" 3 (di):=
 aI (N:=gf) (ps:=nq) T lP (λ_ _ _ _ _ _ us hl=>match us,hl with | [_,_,_],_=>rfl) λ_ _ _ _ _ _ hr=>
  (aj (aE lP.nd rfl (.inr rfl) (bI o_ (mR hr) rfl cy (aa (af (pv 0)) (aa (af (pv 1)) ah)) rfl)) (aq (aK (bY (tn:=["near"]) (n:=0) (aX (N:=gf) (osc:=(ai gj)) rfl rfl (by decide+kernel)) rfl rfl (bc (bI jt (mR hr) rfl cy (aa (af (pv 0)) (aa (af (pv 1)) (aa (af (pv 2)) ah))) rfl)) (λ_ _ _ _ _ _ _=>bF (show aaj (((["near"]:List Str))++b9 ["near"] gf) by decide+kernel) rfl rfl) (λ_ _ _ _ _ _=>(kL (jd hr.units (bI o_ (mR hr) rfl cO (aa (af (pv 1)) (aa (af (pv 0)) ah)) rfl) (af (pv 4))))) (λ_ _ _ _ _ _=>(af (pv 0)))))))
abbrev gk:Stmt:=top 29
def gh:List Str:=["board","some","ways","among","near","cell"]
def nu:List Str:=["board","some","ways"]
theorem fN:FnScope gh nu (ai gk):=dB
theorem uk(B:Bl K mg base cv cA Cp)(jr:au P w K mg base cv 1 "keyed" 1 fJ)(jt:au P w K mg base cv 2 "next_cells" 3 cM)(T:bG K mg "near_among" gk f):au P w K mg base cv 3 "near_among" 3 (f_):=
 aI (N:=gh) (ps:=nu) T fN (λ_ _ _ _ _ _ us hl=>match us,hl with | [_,_,_],_=>rfl) λ_ _ _ _ _ _ hr=>
  (aj (aE fN.nd rfl (.inr rfl) (bI jr (mR hr) rfl cy (aa (af (pv 1)) ah) rfl)) (aj (kq fN.nd rfl (.inl rfl)) (aj (cj (bp ZP rfl (bc (af (pv 1))) (aU fN.nd rfl (.inl rfl)) ba (aR (aq (fT hr.units (pv 4) (af (pv 5)) (bY (tn:=["other"]) (n:=0) (aX (N:=gh) (osc:=(ai gk)) rfl rfl (by decide+kernel)) rfl rfl (bc (bI jt (mR hr) rfl cO (aa (af (pv 0)) (aa (af (pv 5)) (aa (af (pv 2)) ah))) rfl)) (λ_ _ _ _ _ _ _=>bF (show aaj (((["other"]:List Str))++b9 ["other"] gh) by decide+kernel) rfl rfl) (λ_ _ _ _ _ _=>(kL (Iv hr.units (af (pv 0)) (af (pv 4))))) (λ_ _ _ _ _ _=>(af (pv 0))))))))) (aq (cC (i:=4) (aK (af (pv 4))))))))
abbrev h7:Stmt:=top 43
def gV:List Str:=["_law_script","_law_at","_law_most","_law_rows","_law_wide","_law_alphabet","_law_found","_law_row","_law_signs"]
def pK:List Str:=["_law_script","_law_at","_law_most"]
theorem cQ:FnScope gV pK (ai h7):=dB
theorem xg(B:Bl K mg base cv cA Cp)(bg:au P w K mg base cv 2 "_law_drawn" 3 aO)(T:bG K mg "_law_board" h7 f):au P w K mg base cv 3 "_law_board" 3 (df):=
 aI (N:=gV) (ps:=pK) T cQ (λ_ _ _ _ _ _ us hl=>match us,hl with | [_,_,_],_=>rfl) λ_ _ _ _ _ _ hr=>
  (aj (aE cQ.nd rfl (.inl rfl) (b_ ak (bI bg (mR hr) rfl cy (aa (af (pv 0)) (aa (af (pv 1)) (aa (af (pv 2)) ah))) rfl))) (aj (aE cQ.nd rfl (.inl rfl) (b_ ak (bI bg (mR hr) rfl cy (aa (af (pv 0)) (aa (b_ (af (pv 1)) ak) (aa (af (pv 2)) ah))) rfl))) (aj (aE cQ.nd rfl (.inr rfl) (jF (dm (aa cf (aa cf (aa cf (aa cf ah))))) (bI bg (mR hr) rfl cy (aa (af (pv 0)) (aa (b_ (af (pv 1)) ak) (aa ak ah))) rfl))) (aj (aE cQ.nd rfl (.inl rfl) (bB ah)) (aj (cj (bp ZP rfl (bJ rfl B.range (aa (af (pv 3)) ah)) (aU cQ.nd rfl (.inr rfl)) ba (aR (aj (g9 (tn:=["_law_k"]) (n:=0) cQ.nd rfl (.inl rfl) (aX (N:=gV) (osc:=(ai h7)) rfl rfl (by decide+kernel)) rfl rfl (bJ rfl B.range (aa (af (pv 4)) ah)) (λ_ _ _ _ _ _ _=>bF (show aaj (((["_law_k"]:List Str))++b9 ["_law_k"] gV) by decide+kernel) rfl rfl) (λ_ _ _ _ _ _=>bM) (λ_ _ _ _ _ _=>(oO (af (pv 6)) (bI bg (mR hr) rfl cO (aa (af (pv 1)) (aa (b_ (b_ (b_ (af (pv 2)) ak) (kl ak (af (pv 8)))) (af (pv 0))) (aa (cb rfl B.len (aa (af (pv 6)) ah)) ah))) rfl)))) (aq (aE cQ.nd rfl (.inl rfl) (xq (af (pv 6)) (bB (aa (K2 cf (aa (af (pv 8)) ah)) ah))))))))) (aq (aK (af (pv 6)))))))))
abbrev fM:Stmt:=top 47
def fK:List Str:=["_law_board_here","_law_ways","_law_labels_here","_law_rows","_law_cell_here"]
def lL:List Str:=["_law_board_here","_law_ways"]
theorem fo:FnScope fK lL (ai fM):=dB
theorem su(B:Bl K mg base cv cA Cp)(vX:au P w K mg base cv 2 "_law_labels" 2 f9)(gN:au P w K mg base cv 1 "_law_cells" 1 dg)(T:bG K mg "_law_patches" fM f):au P w K mg base cv 3 "_law_patches" 2 (a9):=
 aI (N:=fK) (ps:=lL) T fo (λ_ _ _ _ _ _ us hl=>match us,hl with | [_,_],_=>rfl) λ_ _ _ _ _ _ hr=>
  (aj (aE fo.nd rfl (.inl rfl) (bI vX (mR hr) rfl cy (aa (af (pv 0)) (aa (af (pv 1)) ah)) rfl)) (aj (kq fo.nd rfl (.inr rfl)) (aj (cj (bp ZP rfl (bc (bI gN (mR hr) rfl cO (aa (af (pv 0)) ah) rfl)) (aU fo.nd rfl (.inl rfl)) ba (aR (aq (fT hr.units (pv 3) (eK hr.units (af (pv 2)) (af (pv 4))) (Rp (nE (K0 hr.units (af (pv 3)) (eK hr.units (af (pv 2)) (af (pv 4))) (dm ah) ⟨rfl,rfl,rfl,rfl⟩) (dm (aa (af (pv 4)) ah))))))))) (aq (cC (i:=3) (aK (bY (tn:=["_law_first"]) (n:=0) (aX (N:=fK) (osc:=(ai fM)) rfl rfl (by decide+kernel)) rfl rfl (bc (DJ rfl rfl B.sorted rfl (aa (af (pv 3)) ah))) (λ_ _ _ _ _ _ _=>bF (show aaj (((["_law_first"]:List Str))++b9 ["_law_first"] fK) by decide+kernel) rfl rfl) (λ_ _ _ _ _ _=>bM) (λ_ _ _ _ _ _=>(eK hr.units (af (pv 4)) (af (pv 0)))))))))))
abbrev jM:Stmt:=top 17
def mX:List Str:=["thing"]
def nv:List Str:=["thing"]
theorem uz:FnScope mX nv (ai jM):=dB
theorem um(B:Bl K mg base cv cA Cp)(A4:au P w K mg base cv 3 "is_board" 1 jw)(T:bG K mg "need_board" jM f):au P w K mg base cv 4 "need_board" 1 (fb):=
 aI (N:=mX) (ps:=nv) T uz (λ_ _ _ _ _ _ us hl=>match us,hl with | [_],_=>rfl) λ_ _ _ _ _ _ hr=>
  (aq (bP (eD (dq (bI A4 (mR hr) rfl cy (aa (af (pv 0)) ah) rfl))) (aq (oS B.own0 acK rfl rfl (B.cvE 0) Hv (aa cf ah))) bw))
abbrev jO:Stmt:=top 27
def mZ:List Str:=["board","start","ways","back","ring","further","cell","near"]
def nA:List Str:=["board","start","ways"]
theorem cW:FnScope mZ nA (ai jO):=dB
theorem ur(B:Bl K mg base cv cA Cp)(vY:au P w K mg base cv 3 "like_cells" 3 di)(T:bG K mg "steps_back" jO f):au P w K mg base cv 4 "steps_back" 3 (dZ):=
 aI (N:=mZ) (ps:=nA) T cW (λ_ _ _ _ _ _ us hl=>match us,hl with | [_,_,_],_=>rfl) λ_ _ _ _ _ _ hr=>
  (aj (nJ cW.nd rfl (.inl rfl) (vx hr.units (af (pv 1)) H_)) (aj (aE cW.nd rfl (.inl rfl) (dm (aa (af (pv 1)) ah))) (aj (cj (k9 ZP (dq (af (pv 4))) (aR (aj (fL cW.nd rfl (.inl rfl)) (aj (bp ZP rfl (bc (af (pv 4))) (aU cW.nd rfl (.inl rfl)) ba (aR (aq (bp ZP rfl (bc (bI vY (mR hr) rfl cO (aa (af (pv 0)) (aa (af (pv 6)) (aa (af (pv 2)) ah))) rfl)) (aU cW.nd rfl (.inl rfl)) ba (aR (aq (bP (oQ (je hr.units (af (pv 7)) (af (pv 3)))) (aj (fT hr.units (pv 3) (af (pv 7)) (af (pv 6))) (aq (g8 (pv 5) (af (pv 7))))) bw))))))) (aq (cC (i:=5) (aE cW.nd rfl (.inl rfl) (af (pv 5)))))))))) (aq (cC (i:=3) (aK (af (pv 3))))))))
abbrev mq:Stmt:=top 31
def sk:List Str:=["board","some","ways","near","parts","seen","cell","part"]
def sG:List Str:=["board","some","ways"]
theorem eU:FnScope sk sG (ai mq):=dB
theorem z5(B:Bl K mg base cv cA Cp)(vZ:au P w K mg base cv 3 "near_among" 3 f_)(yL:au P w K mg base cv 1 "distances" 2 gO)(jr:au P w K mg base cv 1 "keyed" 1 fJ)(T:bG K mg "parts_of" mq f):au P w K mg base cv 4 "parts_of" 3 (jx):=
 aI (N:=sk) (ps:=sG) T eU (λ_ _ _ _ _ _ us hl=>match us,hl with | [_,_,_],_=>rfl) λ_ _ _ _ _ _ hr=>
  (aj (aE eU.nd rfl (.inl rfl) (bI vZ (mR hr) rfl cy (aa (af (pv 0)) (aa (af (pv 1)) (aa (af (pv 2)) ah))) rfl)) (aj (fL eU.nd rfl (.inl rfl)) (aj (kq eU.nd rfl (.inl rfl)) (aj (cj (bp ZP rfl (bc (af (pv 1))) (aU eU.nd rfl (.inl rfl)) ba (aR (aq (bP (oQ (je hr.units (af (pv 6)) (af (pv 5)))) (aj (aE eU.nd rfl (.inl rfl) (H0 rfl rfl B.list rfl (aa (bI yL (mR hr) rfl cO (aa (af (pv 3)) (aa (af (pv 6)) ah)) rfl) ah))) (aj (g8 (pv 4) (af (pv 7))) (aq (DP hr.units (pv 5) (bI jr (mR hr) rfl cO (aa (af (pv 7)) ah) rfl) ⟨rfl,rfl,rfl,rfl⟩)))) bw))))) (aq (cC (i:=4) (aK (af (pv 4)))))))))
abbrev iA:Stmt:=top 28
def lC:List Str:=["board","ways","found","seen","cell","patch"]
def lK:List Str:=["board","ways"]
theorem dS:FnScope lC lK (ai iA):=dB
theorem sr(B:Bl K mg base cv cA Cp)(j3:au P w K mg base cv 2 "all_cells" 1 eO)(v8:au P w K mg base cv 4 "steps_back" 3 dZ)(jr:au P w K mg base cv 1 "keyed" 1 fJ)(T:bG K mg "all_patches" iA f):au P w K mg base cv 5 "all_patches" 2 (fI):=
 aI (N:=lC) (ps:=lK) T dS (λ_ _ _ _ _ _ us hl=>match us,hl with | [_,_],_=>rfl) λ_ _ _ _ _ _ hr=>
  (aj (fL dS.nd rfl (.inl rfl)) (aj (kq dS.nd rfl (.inl rfl)) (aj (cj (bp ZP rfl (bc (bI j3 (mR hr) rfl cO (aa (af (pv 0)) ah) rfl)) (aU dS.nd rfl (.inl rfl)) ba (aR (aq (bP (oQ (je hr.units (af (pv 4)) (af (pv 3)))) (aj (aE dS.nd rfl (.inl rfl) (DJ rfl rfl B.sorted rfl (aa (bI v8 (mR hr) rfl cO (aa (af (pv 0)) (aa (af (pv 4)) (aa (af (pv 1)) ah))) rfl) ah))) (aj (g8 (pv 2) (af (pv 5))) (aq (DP hr.units (pv 3) (bI jr (mR hr) rfl cO (aa (af (pv 5)) ah) rfl) ⟨rfl,rfl,rfl,rfl⟩)))) bw))))) (aq (cC (i:=2) (aK (af (pv 2))))))))
abbrev fm:Stmt:=top 37
def d6:List Str:=["board","ways","patch","inside","others","other_ways"]
def nz:List Str:=["board","ways","patch"]
theorem fP:FnScope d6 nz (ai fm):=dB
theorem uq(B:Bl K mg base cv cA Cp)(jr:au P w K mg base cv 1 "keyed" 1 fJ)(j3:au P w K mg base cv 2 "all_cells" 1 eO)(A6:au P w K mg base cv 4 "parts_of" 3 jx)(qb:au P w K mg base cv 2 "comes_to_edge" 2 dw)(T:bG K mg "shut_parts" fm f):au P w K mg base cv 5 "shut_parts" 3 (dY):=
 aI (N:=d6) (ps:=nz) T fP (λ_ _ _ _ _ _ us hl=>match us,hl with | [_,_,_],_=>rfl) λ_ _ _ _ _ _ hr=>
  (aj (aE fP.nd rfl (.inr rfl) (bI jr (mR hr) rfl cy (aa (af (pv 2)) ah) rfl)) (aj (g9 (tn:=["cell"]) (n:=0) fP.nd rfl (.inl rfl) (aX (N:=d6) (osc:=(ai fm)) rfl rfl (by decide+kernel)) rfl rfl (bc (bI j3 (mR hr) rfl cy (aa (af (pv 0)) ah) rfl)) (λ_ _ _ _ _ _ _=>bF (show aaj (((["cell"]:List Str))++b9 ["cell"] d6) by decide+kernel) rfl rfl) (λ_ _ _ _ _ _=>(kL (je hr.units (af (pv 0)) (af (pv 4))))) (λ_ _ _ _ _ _=>(af (pv 0)))) (aj (aE fP.nd rfl (.inl rfl) (Rm (jd hr.units (af (pv 1)) ak) ak ak)) (aq (aK (bY (tn:=["part"]) (n:=0) (aX (N:=d6) (osc:=(ai fm)) rfl rfl (by decide+kernel)) rfl rfl (bc (bI A6 (mR hr) rfl cy (aa (af (pv 0)) (aa (af (pv 4)) (aa (af (pv 5)) ah))) rfl)) (λ_ _ _ _ _ _ _=>bF (show aaj (((["part"]:List Str))++b9 ["part"] d6) by decide+kernel) rfl rfl) (λ_ _ _ _ _ _=>(kL (eD (dq (bI qb (mR hr) rfl cO (aa (af (pv 1)) (aa (af (pv 0)) ah)) rfl))))) (λ_ _ _ _ _ _=>(af (pv 0)))))))))
abbrev fk:Stmt:=top 34
def gY:List Str:=["board","ways","number","found"]
def g6:List Str:=["board","ways","number"]
theorem gG:FnScope gY g6 (ai fk):=dB
theorem me(B:Bl K mg base cv cA Cp)(v7:au P w K mg base cv 4 "need_board" 1 fb)(yO:au P w K mg base cv 2 "need_ways" 1 gQ)(tP:au P w K mg base cv 5 "all_patches" 2 fI)(tR:au P w K mg base cv 2 "need_number" 2 dF)(T:bG K mg "patch_of_number" fk f):au P w K mg base cv 6 "patch_of_number" 3 (aV):=
 aI (N:=gY) (ps:=g6) T gG (λ_ _ _ _ _ _ us hl=>match us,hl with | [_,_,_],_=>rfl) λ_ _ _ _ _ _ hr=>
  (aj (xC (bI v7 (mR hr) rfl cy (aa (af (pv 0)) ah) rfl)) (aj (xC (bI yO (mR hr) rfl cy (aa (af (pv 1)) ah) rfl)) (aj (aE gG.nd rfl (.inl rfl) (bI tP (mR hr) rfl cy (aa (af (pv 0)) (aa (af (pv 1)) ah)) rfl)) (aj (xC (bI tR (mR hr) rfl cy (aa (cb rfl B.len (aa (af (pv 3)) ah)) (aa (af (pv 2)) ah)) rfl)) (aq (aK (jF (af (pv 3)) (af (pv 2)))))))))
abbrev oY:Stmt:=top 38
def vm:List Str:=["board","ways","number","patch","told","part"]
def vp:List Str:=["board","ways","number"]
theorem jR:FnScope vm vp (ai oY):=dB
theorem BM(B:Bl K mg base cv cA Cp)(eY:au P w K mg base cv 6 "patch_of_number" 3 aV)(ju:au P w K mg base cv 5 "shut_parts" 3 dY)(T:bG K mg "shut_in" oY f):au P w K mg base cv 7 "shut_in" 3 (eQ):=
 aI (N:=vm) (ps:=vp) T jR (λ_ _ _ _ _ _ us hl=>match us,hl with | [_,_,_],_=>rfl) λ_ _ _ _ _ _ hr=>
  (aj (aE jR.nd rfl (.inl rfl) (bI eY (mR hr) rfl cy (aa (af (pv 0)) (aa (af (pv 1)) (aa (af (pv 2)) ah))) rfl)) (aj (fL jR.nd rfl (.inl rfl)) (aj (cj (bp ZP rfl (bc (bI ju (mR hr) rfl cO (aa (af (pv 0)) (aa (af (pv 1)) (aa (af (pv 3)) ah))) rfl)) (aU jR.nd rfl (.inl rfl)) ba (aR (aq (DO (pv 4) (af (pv 5))))))) (aq (cC (i:=4) (aK (Ib rfl B.sorted rfl (aa (af (pv 4)) ah))))))))
abbrev xO:Stmt:=top 39
def Ds:List Str:=["board","ways","number","patch"]
def DC:List Str:=["board","ways","number"]
theorem Al:FnScope Ds DC (ai xO):=dB
theorem HH(B:Bl K mg base cv cA Cp)(eY:au P w K mg base cv 6 "patch_of_number" 3 aV)(ju:au P w K mg base cv 5 "shut_parts" 3 dY)(T:bG K mg "holes" xO f):au P w K mg base cv 7 "holes" 3 (gP):=
 aI (N:=Ds) (ps:=DC) T Al (λ_ _ _ _ _ _ us hl=>match us,hl with | [_,_,_],_=>rfl) λ_ _ _ _ _ _ hr=>
  (aj (aE Al.nd rfl (.inl rfl) (bI eY (mR hr) rfl cy (aa (af (pv 0)) (aa (af (pv 1)) (aa (af (pv 2)) ah))) rfl)) (aq (aK (cb rfl B.len (aa (bI ju (mR hr) rfl cy (aa (af (pv 0)) (aa (af (pv 1)) (aa (af (pv 3)) ah))) rfl) ah)))))
theorem Kn(B:Bl K mg base cv cA Cp){n m:Nat}(hn:n∈[0,1,4])(hm:m<7):oB K (vU cA) [.exc (cA n), .raw (.ref (cA m))]=ae (.bl (decide (n=m))):=by
 have h:cA n∈vU cA:=by
  unfold vU;simp only[Zw,Z7,or_false] at hn;rcases hn with rfl | rfl | rfl<;>simp
 show (if cA n∈vU cA then(match ZK K (.ref (cA n)) (.ref (cA m)) with | some b=>ae (D.bl b) | none=>ag) else ag)=_;rw[agd h,B.kit n m hn hm]
theorem Ha(B:Bl K mg base cv cA Cp){n:Nat}(hn:n∈[0,1,4]):oB K (vU cA) [.exc (cA n), .raw (.ty "ValueError")]=ae (.bl true):=by
 have h:cA n∈vU cA:=by
  unfold vU;simp only[Zw,Z7,or_false] at hn;rcases hn with rfl | rfl | rfl<;>simp
 show (if cA n∈vU cA then(match ZK K (.ref (cA n)) (.type "ValueError") with | some b=>ae (D.bl b) | none=>ag) else ag)=_;rw[agd h,B.kitV n hn]
theorem DZ(k:Nat):PB k∈[0,1,4]:=by
 unfold PB;split<;>simp
theorem Ag(B:Bl K mg base cv cA Cp)(k:Nat):bT K cA [.exc (cB cA k)]=Jy k:=by
 unfold Jy cB;have hn:=DZ k;generalize PB k=n at hn;have hx:∀m (hm:m<7),oB K (vU cA) [.exc (cA n), .raw (.ref (cA m))]=ae (.bl (decide (n=m))):=λm hm=>Kn B hn hm;have hv:=Ha B hn;have x0:=hx 0 (by decide);have x1:=hx 1 (by decide);have x2:=hx 2 (by decide);have x3:=hx 3 (by decide);have x4:=hx 4 (by decide);have x5:=hx 5 (by decide);have x6:=hx 6 (by decide);clear hx B;simp only[Zw,Z7,or_false] at hn;rcases hn with rfl | rfl | rfl
 ·simp only[bT,fQ,hv,x0,x1,x2,x3,x4,x5,x6,bX,aF,a_,dA,aC,aN,dV,dC,d1,d2,dM,oq,eV,c8,gK,bE,dr,cI,av,Zu,abt,abq,ZY,ZH,Zz,aat,abK,abL,aaf,aag,bN,Nat.reduceSub,Nat.reduceAdd,lim,Nat.reduceLeDiff,if_true,gS,pf,En,bools,decide_true,decide_false,Nat.reduceEqDiff];rfl
 ·simp only[bT,fQ,hv,x0,x1,x2,x3,x4,x5,x6,bX,aF,a_,dA,aC,aN,dV,dC,d1,d2,dM,oq,eV,c8,gK,bE,dr,cI,av,Zu,abt,abq,ZY,ZH,Zz,aat,abK,abL,aaf,aag,bN,Nat.reduceSub,Nat.reduceAdd,lim,Nat.reduceLeDiff,if_true,gS,pf,En,bools,decide_true,decide_false,Nat.reduceEqDiff];rfl
 ·simp only[bT,fQ,hv,x0,x1,x2,x3,x4,x5,x6,bX,aF,a_,dA,aC,aN,dV,dC,d1,d2,dM,oq,eV,c8,gK,bE,dr,cI,av,Zu,abt,abq,ZY,ZH,Zz,aat,abK,abL,aaf,aag,bN,Nat.reduceSub,Nat.reduceAdd,lim,Nat.reduceLeDiff,if_true,gS,pf,En,bools,decide_true,decide_false,Nat.reduceEqDiff];rfl
theorem hh(B:Bl K mg base cv cA Cp){i:Nat}(k:Nat)(ρ:cJ)(e:ρ[i]? =some (some (.fz (.exc (cB cA k))))):bE (Gb 1 (bT K cA) (aC (dV i) aN)) ρ=(Jy k>>=λd=>ae (.rt d)):=by
 have h4:dV i ρ=ae (.exc (cB cA k)):=by unfold dV;rw[e]
 show ((dV i ρ>>=λx=>aN ρ>>=λxs=>ae (x::xs))>>=λds=>if ds.length=1 then noex (noex (bT K cA ds)) else ag)>>=_=_;rw[h4];show (if [D.exc (cB cA k)].length=1 then noex (noex (bT K cA [.exc (cB cA k)])) else ag)>>=_=_;rw[Ag B k];rfl
abbrev iC:Stmt:=top 49
def lF:List Str:=["_law_which","_law_board_here","_law_ways","_law_number","_law_e"]
def lN:List Str:=["_law_which","_law_board_here","_law_ways","_law_number"]
theorem kJ:FnScope lF lN (ai iC):=dB
theorem sx(B:Bl K mg base cv cA Cp)(tQ:qt P w K mg base cv 1 "_law_refused" 1 (bT K cA))(Ee:au P w K mg base cv 7 "shut_in" 3 eQ)(JN:au P w K mg base cv 7 "holes" 3 gP)(T:bG K mg "_law_told" iC f):au P w K mg base cv 8 "_law_told" 4 (aD):=
 aI (N:=lF) (ps:=lN) T kJ (λ_ _ _ _ _ _ us hl=>match us,hl with | [_,_,_,_],_=>rfl) λ_ _ _ _ _ _ hr=>
  (aq (Lg (i:=4) (hd:=Jy) B.cvE kJ.nd rfl rfl rfl B.top B.exm (λpn Ec Xw' hp=>(aq (aK (Ia Ee JN (mR hr) (mR hr) rfl rfl hp (af (pv 0)) (aa (af (pv 1)) (aa (af (pv 2)) (aa (af (pv 3)) ah))) rfl)))) (λea=>(aq (aK (JO tQ (RoomH.of (mR hr) _) rfl (aa (af (pv 4)) ah))))) (λk ρ _ e=>hh B k ρ e)))
abbrev aH:Stmt:=top 52
def aW:List Str:=["_law_boards","_law_board_here","_law_ways","_law_number","_law_patch","_law_due"]
def ni:List Str:=[]
theorem cq:FnScope aW ni (ai aH):=dB
def Se:Stmt->List Expr
 | .Assign t _ _=>t
 |_=>[]
def LZ:Stmt->Expr
 | .Assign _ v _=>v
 |_=> .Constant .none 0 ⟨0,0,0,0⟩
def Sd:Stmt->Pos
 | .Assign _ _ p=>p
 |_=>⟨0,0,0,0⟩
def bL:Expr->Expr
 | .BinOp a _ _ _=>a
 |_=> .Constant .none 0 ⟨0,0,0,0⟩
def bR:Expr->Expr
 | .BinOp _ _ b _=>b
 |_=> .Constant .none 0 ⟨0,0,0,0⟩
def Vs:Expr->Pos
 | .BinOp _ _ _ p=>p
 |_=>⟨0,0,0,0⟩
def R7:DS:=(λρ=>noex ((cw (putN 1) (cK (dV 0)) (bS [1,2,3,4,5] (cw (putN 2) (lj (dA aQ (aC (dC (.int 4)) (aC (dC (.int 8)) aN)))) (bS [2,3,4,5] (cw (sP [3,4]) (λρ=>(aC (ay 2 a9 (aC (dV 1) (aC (dV 2) aN))) aN) ρ>>=rf) (bS [3,4,5] (gK (cI (d2 ik (d2 iQ (d2 a8 (dV 1) (d2 a8 (d2 fX (dV 4) (dC (.int 0))) (dC (.int 0)))) (d2 a8 (d2 fX (dV 4) (dC (.int 0))) (dC (.int 1)))) (dC (.str "a")))) (aF (a_ 5 (ay 3 bU (aC (dV 1) (aC (dV 4) (aC (d2 lq (dC (.int 12)) (dV 2)) aN))))) (gK (cI (d2 qf (bb 0 (λρ=>(aC (dC (.int 2)) aN) ρ>>=dD) bC (ay 4 aD (aC (dV 0) (aC (dV 2) (aC (dV 3) (aC (dV 4) aN)))))) (dA rR (aC (dV 5) aN)))) (bE (dC (.bl false))) dr)) dr))))))) ρ))
def R8:DS:=(bE (dC (.bl true)))
abbrev Fw:Stmt:=((aY aH).getD 0 (.Pass ⟨0,0,0,0⟩))
theorem Ja{it:Expr}{δ:DE}(hI:Box (PD (a6 (cR P w cv) P w K mg base aW "_law_aslant" (ai aH) f b7 A outer s H E) (λn H'=>E (cv n) none H') it δ))(hs:adF (Se Fw) it (Sd Fw).line (a6 (cR P w cv) P w K mg base aW "_law_aslant" (ai aH) f b7 A outer s H E).env=pure false):
 Box (jm (a6 (cR P w cv) P w K mg base aW "_law_aslant" (ai aH) f b7 A outer s H E) (λn H'=>E (cv n) none H') (.Assign (Se Fw) it (Sd Fw)) (a_ 0 δ)):=
 ⟨aE cq.nd rfl (.inl rfl) hI.1 (by first | exact .inl rfl | exact .inr rfl) hs⟩
theorem Jb:Box (PD (a6 (cR P w cv) P w K mg base aW "_law_aslant" (ai aH) f b7 A outer s H E) (λn H'=>E (cv n) none H') (LZ Fw) (dA bN (aC (dA aQ (aC (dC (.str "aaaa")) (aC (dC (.str "abaa")) (aC (dC (.str "aaba")) (aC (dC (.str "aaaa")) aN))))) (aC (dA aQ (aC (dC (.str "aab")) (aC (dC (.str "aba")) (aC (dC (.str "aaa")) aN)))) (aC (dA aQ (aC (dC (.str "baa")) (aC (dC (.str "aba")) (aC (dC (.str "aaa")) aN)))) aN))))):=
 (F7 (j2 (qO (b6 (b6 (b6 (b6 lU))))) (j2 (qO (b6 (b6 (b6 lU)))) (j2 (qO (b6 (b6 (b6 lU)))) lU))))
theorem LA:Box (jm (a6 (cR P w cv) P w K mg base aW "_law_aslant" (ai aH) f b7 A outer s H E) (λn H'=>E (cv n) none H') ((aY aH).getD 0 (.Pass ⟨0,0,0,0⟩)) MM):=
 Ja (it:=LZ Fw) Jb rfl
abbrev ux:Stmt:=((aY aH).getD 1 (.Pass ⟨0,0,0,0⟩))
theorem Jc{it:Expr}{δ:DE}(hI:Box (PD (a6 (cR P w cv) P w K mg base aW "_law_aslant" (ai aH) f b7 A outer s H E) (λn H'=>E (cv n) none H') it δ))(hs:adF (Se ux) (.BinOp (bL (LZ ux)) .Add it (Vs (LZ ux))) (Sd ux).line (a6 (cR P w cv) P w K mg base aW "_law_aslant" (ai aH) f b7 A outer s H E).env=pure false):
 Box (jm (a6 (cR P w cv) P w K mg base aW "_law_aslant" (ai aH) f b7 A outer s H E) (λn H'=>E (cv n) none H') (.Assign (Se ux) (.BinOp (bL (LZ ux)) .Add it (Vs (LZ ux))) (Sd ux)) (a_ 0 (d2 gS (dV 0) δ))):=
 ⟨aE cq.nd rfl (.inl rfl) (nE (af (pv 0)) hI.1) (by first | exact .inl rfl | exact .inr rfl) hs⟩
theorem Jd:Box (PD (a6 (cR P w cv) P w K mg base aW "_law_aslant" (ai aH) f b7 A outer s H E) (λn H'=>E (cv n) none H') (bR (LZ ux)) (dA bN (aC (dA aQ (aC (dC (.str "aaa")) (aC (dC (.str "aba")) (aC (dC (.str "baa")) aN)))) (aC (dA aQ (aC (dC (.str "aaa")) (aC (dC (.str "aba")) (aC (dC (.str "aab")) aN)))) aN)))):=
 (F7 (j2 (qO (b6 (b6 (b6 lU)))) (j2 (qO (b6 (b6 (b6 lU)))) lU)))
theorem LD:Box (jm (a6 (cR P w cv) P w K mg base aW "_law_aslant" (ai aH) f b7 A outer s H E) (λn H'=>E (cv n) none H') ((aY aH).getD 1 (.Pass ⟨0,0,0,0⟩)) MN):=
 Jc (it:=bR (LZ ux)) Jd rfl
theorem LF(B:Bl K mg base cv cA Cp)(cS:au P w K mg base cv 3 "_law_patches" 2 a9)(dI:au P w K mg base cv 2 "_law_holes" 3 bU)(aS:au P w K mg base cv 8 "_law_told" 4 aD){b7:Value}{A:aao}{outer:List Env}{s:Zt}{H:Hp}{E:XK}(hr:Room 8 (A.deeper (abw "_law_aslant" (ai aH) s.heap.objs.size f b7))):Box (jm (a6 (cR P w cv) P w K mg base aW "_law_aslant" (ai aH) f b7 A outer s H E) (λn H'=>E (cv n) none H') ((aY aH).getD 2 (.Pass ⟨0,0,0,0⟩)) R7):=
 ⟨(cj (bp ZP rfl (bc (af (pv 0))) (aU cq.nd rfl (.inr rfl)) ba (aR (aq (bp ZP rfl (jH (bB (aa ak (aa ak ah)))) (aU cq.nd rfl (.inr rfl)) ba (aR (aq (bp ZP rfl (Aa rfl B.enumerate (aa (bI cS (mR hr) rfl cO (aa (af (pv 1)) (aa (af (pv 2)) ah)) rfl) ah)) (BZ rfl (jb (aU cq.nd rfl (.inr rfl)) (jb (aU cq.nd rfl (.inl rfl)) xA))) (xE (is:=[3,4])) (aR (aq (bP (jd hr.units (oO (bA (af (pv 1)) (bA (jF (af (pv 4)) ak) ak)) (bA (jF (af (pv 4)) ak) ak)) cf) (aj (aE cq.nd rfl (.inl rfl) (bI dI (mR hr) rfl cO (aa (af (pv 1)) (aa (af (pv 4)) (aa (km ak (af (pv 2))) ah))) rfl)) (aq (bP (nK hr.units (bY (tn:=["_law_which"]) (n:=0) (aX (N:=aW) (osc:=(ai aH)) rfl rfl (by decide+kernel)) rfl rfl (bJ rfl B.range (aa ak ah)) (λ_ _ _ _ _ _ _=>bF (show aaj (((["_law_which"]:List Str))++b9 ["_law_which"] aW) by decide+kernel) rfl rfl) (λ_ _ _ _ _ _=>bM) (λ_ _ _ _ _ _=>(bI aS (mR hr) rfl cO (aa (af (pv 0)) (aa (af (pv 2)) (aa (af (pv 3)) (aa (af (pv 4)) ah)))) rfl))) (xu rfl B.list rfl (aa (af (pv 5)) ah))) (aq (aK eT)) bw))) bw)))))))))))⟩
theorem LI:Box (jm (a6 (cR P w cv) P w K mg base aW "_law_aslant" (ai aH) f b7 A outer s H E) (λn H'=>E (cv n) none H') ((aY aH).getD 3 (.Pass ⟨0,0,0,0⟩)) R8):=
 ⟨(aK eT)⟩
theorem ug(B:Bl K mg base cv cA Cp)(cS:au P w K mg base cv 3 "_law_patches" 2 a9)(dI:au P w K mg base cv 2 "_law_holes" 3 bU)(aS:au P w K mg base cv 8 "_law_told" 4 aD)(T:bG K mg "_law_aslant" aH f):au P w K mg base cv 9 "_law_aslant" 0 (e_):=
 aI (N:=aW) (ps:=ni) (τ:=jU) T cq (λ_ _ _ _ _ _ us hl=>match us,hl with | [],_=>rfl) λb7 A outer s H E hr=>by
  obtain⟨Xk⟩:Box (PSDs (a6 (cR P w cv) P w K mg base aW "_law_aslant" (ai aH) f b7 A outer s H E) (λn H'=>E (cv n) none H') (aY aH) jU):=(fV LA (fV LD (fV (LF B cS dI aS hr) (F9 LI))))
  assumption
abbrev aw:Stmt:=top 53
def aT:List Str:=["_law_script","_law_board_here","_law_signs","_law_centre","_law_last","_law_ways","_law_rows","_law_number","_law_patch","_law_due","_law_odd"]
def oM:List Str:=["_law_script"]
theorem bZ:FnScope aT oM (ai aw):=dB
abbrev gl(A:aao)(s:Zt)(f:Addr)(b7:Value):Prop:=Room 9 (A.deeper (abw "law" (ai aw) s.heap.objs.size f b7))
theorem xV(B:Bl K mg base cv cA Cp)(j4:au P w K mg base cv 3 "_law_board" 3 df){b7:Value}{A:aao}{outer:List Env}{s:Zt}{H:Hp}{E:XK}(hr:gl A s f b7):
 Box (jm (a6 (cR P w cv) P w K mg base aT "law" (ai aw) f b7 A outer s H E) (λn H'=>E (cv n) none H') ((aY aw).getD 0 (.Pass ⟨0,0,0,0⟩)) pW):=
 ⟨(aE bZ.nd rfl (.inr rfl) (bI j4 (mR hr) rfl cy (aa (af (pv 0)) (aa ak (aa ak ah))) rfl))⟩
theorem xW(B:Bl K mg base cv cA Cp)(bg:au P w K mg base cv 2 "_law_drawn" 3 aO){b7:Value}{A:aao}{outer:List Env}{s:Zt}{H:Hp}{E:XK}(hr:gl A s f b7):
 Box (jm (a6 (cR P w cv) P w K mg base aT "law" (ai aw) f b7 A outer s H E) (λn H'=>E (cv n) none H') ((aY aw).getD 1 (.Pass ⟨0,0,0,0⟩)) kN):=
 ⟨(bP (jd hr.units (bI bg (mR hr) rfl cy (aa (af (pv 0)) (aa ak (aa ak ah))) rfl) ak) (aj (aE bZ.nd rfl (.inr rfl) (bY (tn:=["_law_k"]) (n:=0) (aX (N:=aT) (osc:=(ai aw)) rfl rfl (by decide+kernel)) rfl rfl (bJ rfl B.range (aa ak ah)) (λ_ _ _ _ _ _ _=>bF (show aaj (((["_law_k"]:List Str))++b9 ["_law_k"] aT) by decide+kernel) rfl rfl) (λ_ _ _ _ _ _=>bM) (λ_ _ _ _ _ _=>(oO cf (bI bg (mR hr) rfl cO (aa (af (pv 1)) (aa (b_ ak (af (pv 0))) (aa ak ah))) rfl))))) (aj (g9 (tn:=["_law_k"]) (n:=0) bZ.nd rfl (.inl rfl) (aX (N:=aT) (osc:=(ai aw)) rfl rfl (by decide+kernel)) rfl rfl (bJ rfl B.range (aa ak ah)) (λ_ _ _ _ _ _ _=>bF (show aaj (((["_law_k"]:List Str))++b9 ["_law_k"] aT) by decide+kernel) rfl rfl) (λ_ _ _ _ _ _=>bM) (λ_ _ _ _ _ _=>(qE (qE (qE (qE cf (jF (af (pv 3)) (af (pv 0)))) cf) (jF (af (pv 3)) (b_ (af (pv 0)) ak))) cf))) (aj (aE bZ.nd rfl (.inl rfl) (jF (dm (aa cf (aa cf (aa cf ah)))) (bI bg (mR hr) rfl cy (aa (af (pv 0)) (aa ak (aa ak ah))) rfl))) (aq (aE bZ.nd rfl (.inr rfl) (xq (xq (bB (aa cf ah)) (Ie rfl B.tuple rfl (aa (af (pv 3)) ah))) (bB (aa (af (pv 4)) ah)))))))) bw)⟩
theorem xX(B:Bl K mg base cv cA Cp)(bg:au P w K mg base cv 2 "_law_drawn" 3 aO){b7:Value}{A:aao}{outer:List Env}{s:Zt}{H:Hp}{E:XK}(hr:gl A s f b7):
 Box (jm (a6 (cR P w cv) P w K mg base aT "law" (ai aw) f b7 A outer s H E) (λn H'=>E (cv n) none H') ((aY aw).getD 2 (.Pass ⟨0,0,0,0⟩)) pX):=
 ⟨(aE bZ.nd rfl (.inr rfl) (jF (dm (aa ak (aa ak ah))) (bI bg (mR hr) rfl cy (aa (af (pv 0)) (aa ak (aa ak ah))) rfl)))⟩
theorem xY(B:Bl K mg base cv cA Cp)(cS:au P w K mg base cv 3 "_law_patches" 2 a9){b7:Value}{A:aao}{outer:List Env}{s:Zt}{H:Hp}{E:XK}(hr:gl A s f b7):
 Box (jm (a6 (cR P w cv) P w K mg base aT "law" (ai aw) f b7 A outer s H E) (λn H'=>E (cv n) none H') ((aY aw).getD 3 (.Pass ⟨0,0,0,0⟩)) pY):=
 ⟨(aE bZ.nd rfl (.inl rfl) (bI cS (mR hr) rfl cy (aa (af (pv 1)) (aa (af (pv 5)) ah)) rfl))⟩
theorem xZ(B:Bl K mg base cv cA Cp)(dI:au P w K mg base cv 2 "_law_holes" 3 bU)(aS:au P w K mg base cv 8 "_law_told" 4 aD){b7:Value}{A:aao}{outer:List Env}{s:Zt}{H:Hp}{E:XK}(hr:gl A s f b7):
 Box (jm (a6 (cR P w cv) P w K mg base aT "law" (ai aw) f b7 A outer s H E) (λn H'=>E (cv n) none H') ((aY aw).getD 4 (.Pass ⟨0,0,0,0⟩)) pZ):=
 ⟨(cj (bp ZP rfl (Aa rfl B.enumerate (aa (af (pv 6)) ah)) (BZ rfl (jb (aU bZ.nd rfl (.inr rfl)) (jb (aU bZ.nd rfl (.inl rfl)) xA))) (xE (is:=[7,8])) (aR (aq (bP (PDW.t (jI (Rx (cb rfl B.len (aa (af (pv 8)) ah)) ak) (g7 (jd hr.units (af (pv 7)) ak)))) (aj (aE bZ.nd rfl (.inl rfl) (bI dI (mR hr) rfl cO (aa (af (pv 1)) (aa (af (pv 8)) (aa (km ak (af (pv 5))) ah))) rfl)) (aq (bP (nK hr.units (bY (tn:=["_law_which"]) (n:=0) (aX (N:=aT) (osc:=(ai aw)) rfl rfl (by decide+kernel)) rfl rfl (bJ rfl B.range (aa ak ah)) (λ_ _ _ _ _ _ _=>bF (show aaj (((["_law_which"]:List Str))++b9 ["_law_which"] aT) by decide+kernel) rfl rfl) (λ_ _ _ _ _ _=>bM) (λ_ _ _ _ _ _=>(bI aS (mR hr) rfl cO (aa (af (pv 0)) (aa (af (pv 2)) (aa (af (pv 6)) (aa (af (pv 8)) ah)))) rfl))) (xu rfl B.list rfl (aa (af (pv 9)) ah))) (aq (aK eT)) bw))) (aq (bP (nK hr.units (bY (tn:=["_law_which"]) (n:=0) (aX (N:=aT) (osc:=(ai aw)) rfl rfl (by decide+kernel)) rfl rfl (bJ rfl B.range (aa ak ah)) (λ_ _ _ _ _ _ _=>bF (show aaj (((["_law_which"]:List Str))++b9 ["_law_which"] aT) by decide+kernel) rfl rfl) (λ_ _ _ _ _ _=>bM) (λ_ _ _ _ _ _=>(bI aS (mR hr) rfl cO (aa (af (pv 0)) (aa (af (pv 2)) (aa (af (pv 6)) (aa (af (pv 8)) ah)))) rfl))) (dm (aa (dm ah) (aa ak ah)))) (aq (aK eT)) bw)))))))⟩
theorem x_(B:Bl K mg base cv cA Cp)(js:au P w K mg base cv 9 "_law_aslant" 0 e_){b7:Value}{A:aao}{outer:List Env}{s:Zt}{H:Hp}{E:XK}(hr:gl A s f b7):
 Box (jm (a6 (cR P w cv) P w K mg base aT "law" (ai aw) f b7 A outer s H E) (λn H'=>E (cv n) none H') ((aY aw).getD 5 (.Pass ⟨0,0,0,0⟩)) p5):=
 ⟨(bP (eD (dq (Rl js (mR hr) rfl cy))) (aq (aK eT)) bw)⟩
theorem ya(B:Bl K mg base cv cA Cp)(bg:au P w K mg base cv 2 "_law_drawn" 3 aO){b7:Value}{A:aao}{outer:List Env}{s:Zt}{H:Hp}{E:XK}(hr:gl A s f b7):
 Box (jm (a6 (cR P w cv) P w K mg base aT "law" (ai aw) f b7 A outer s H E) (λn H'=>E (cv n) none H') ((aY aw).getD 6 (.Pass ⟨0,0,0,0⟩)) p6):=
 ⟨(aE bZ.nd rfl (.inr rfl) (jF (dm (aa (ix ak) (aa (cb rfl B.len (aa (af (pv 6)) ah)) (aa H_ (aa eT (aa cf ah)))))) (bI bg (mR hr) rfl cy (aa (af (pv 0)) (aa ak (aa ak ah))) rfl)))⟩
theorem yb(B:Bl K mg base cv cA Cp)(aS:au P w K mg base cv 8 "_law_told" 4 aD){b7:Value}{A:aao}{outer:List Env}{s:Zt}{H:Hp}{E:XK}(hr:gl A s f b7):
 Box (jm (a6 (cR P w cv) P w K mg base aT "law" (ai aw) f b7 A outer s H E) (λn H'=>E (cv n) none H') ((aY aw).getD 7 (.Pass ⟨0,0,0,0⟩)) p7):=
 ⟨(bP (nK hr.units (bY (tn:=["_law_which"]) (n:=0) (aX (N:=aT) (osc:=(ai aw)) rfl rfl (by decide+kernel)) rfl rfl (bJ rfl B.range (aa ak ah)) (λ_ _ _ _ _ _ _=>bF (show aaj (((["_law_which"]:List Str))++b9 ["_law_which"] aT) by decide+kernel) rfl rfl) (λ_ _ _ _ _ _=>bM) (λ_ _ _ _ _ _=>(bI aS (mR hr) rfl cO (aa (af (pv 0)) (aa (af (pv 2)) (aa (af (pv 6)) (aa (af (pv 11)) ah)))) rfl))) (BX (dm (aa (bB (aa cf (aa ak ah))) ah)) ak)) (aq (aK eT)) bw)⟩
theorem yc(B:Bl K mg base cv cA Cp)(aS:au P w K mg base cv 8 "_law_told" 4 aD){b7:Value}{A:aao}{outer:List Env}{s:Zt}{H:Hp}{E:XK}(hr:gl A s f b7):
 Box (jm (a6 (cR P w cv) P w K mg base aT "law" (ai aw) f b7 A outer s H E) (λn H'=>E (cv n) none H') ((aY aw).getD 8 (.Pass ⟨0,0,0,0⟩)) p8):=
 ⟨(bP (nK hr.units (bY (tn:=["_law_which"]) (n:=0) (aX (N:=aT) (osc:=(ai aw)) rfl rfl (by decide+kernel)) rfl rfl (bJ rfl B.range (aa ak ah)) (λ_ _ _ _ _ _ _=>bF (show aaj (((["_law_which"]:List Str))++b9 ["_law_which"] aT) by decide+kernel) rfl rfl) (λ_ _ _ _ _ _=>bM) (λ_ _ _ _ _ _=>(bI aS (mR hr) rfl cO (aa (af (pv 0)) (aa (af (pv 2)) (aa ak (aa (af (pv 11)) ah)))) rfl))) (BX (dm (aa (bB (aa cf (aa ak ah))) ah)) ak)) (aq (aK eT)) bw)⟩
theorem yd(B:Bl K mg base cv cA Cp)(aS:au P w K mg base cv 8 "_law_told" 4 aD){b7:Value}{A:aao}{outer:List Env}{s:Zt}{H:Hp}{E:XK}(hr:gl A s f b7):
 Box (jm (a6 (cR P w cv) P w K mg base aT "law" (ai aw) f b7 A outer s H E) (λn H'=>E (cv n) none H') ((aY aw).getD 9 (.Pass ⟨0,0,0,0⟩)) p9):=
 ⟨(aK (z9 hr.units (bY (tn:=["_law_which"]) (n:=0) (aX (N:=aT) (osc:=(ai aw)) rfl rfl (by decide+kernel)) rfl rfl (bJ rfl B.range (aa ak ah)) (λ_ _ _ _ _ _ _=>bF (show aaj (((["_law_which"]:List Str))++b9 ["_law_which"] aT) by decide+kernel) rfl rfl) (λ_ _ _ _ _ _=>bM) (λ_ _ _ _ _ _=>(bI aS (mR hr) rfl cO (aa (af (pv 0)) (aa (xu rfl B.list rfl (aa (af (pv 2)) ah)) (aa ak (aa (af (pv 11)) ah)))) rfl))) (BX (dm (aa (bB (aa cf (aa ak ah))) ah)) ak)))⟩
theorem zY{fd:abW}(B:Bl K mg base cv cA Cp)(j4:au P w K mg base cv 3 "_law_board" 3 df)(cS:au P w K mg base cv 3 "_law_patches" 2 a9)(bg:au P w K mg base cv 2 "_law_drawn" 3 aO)(js:au P w K mg base cv 9 "_law_aslant" 0 e_)(dI:au P w K mg base cv 2 "_law_holes" 3 bU)(aS:au P w K mg base cv 8 "_law_told" 4 aD)(Fn:Fun K "law" "law" aw f fd):FnOk P w K mg base (cR P w cv) 10 f fd oM (FU K cv 1 kP):=
 Qe (N:=aT) (ps:=oM) (τ:=o9) Fn bZ λb7 A outer s H E hr=>by
  obtain⟨Xk⟩:Box (PSDs (a6 (cR P w cv) P w K mg base aT "law" (ai aw) f b7 A outer s H E) (λn H'=>E (cv n) none H') (aY aw) o9):=(fV (xV B j4 hr) (fV (xW B bg hr) (fV (xX B bg hr) (fV (xY B cS hr) (fV (xZ B dI aS hr) (fV (x_ B js hr) (fV (ya B bg hr) (fV (yb B aS hr) (fV (yc B aS hr) (F9 (yd B aS hr)))))))))))
  assumption
end
end K1
namespace K1
open PySem L2 L3
theorem Hw{ds:List D}(h:ds.length<=lim):bN ds=ae (.lst ds):=agd h
theorem cu:lim=4096:=rfl
theorem gw{i:Nat}{x:α}(h:xs[i]? =some x):L2.atI xs (i:Int)=some x:=by
 obtain⟨hi,e⟩:=ZI.mp h;unfold L2.atI Hf;rw[agd (Int.natCast_nonneg i),agd (by exact Int.ofNat_lt.mpr hi)];exact h
theorem ar{δs:DA}(h:δs ρ=ae ds)(hl:ds.length=m):ay m g δs ρ=g ds:=by
 unfold ay;rw[h];exact agd hl
theorem a7{ρ:cJ}(h1:a ρ=ae x)(h2:r ρ=ae xs):aC a r ρ=ae (x::xs):=by
 unfold aC;rw[h1,av,h2];rfl
theorem aA{ρ:cJ}{x y:D}(h1:a ρ=ae x)(h2:b ρ=ae y):d2 g a b ρ=g x y:=by
 unfold d2;rw[h1,av,h2];rfl
theorem cx{ρ:cJ}{xs:List D}(h:a ρ=ae xs):dA g a ρ=g xs:=by
 unfold dA;rw[h];rfl
theorem iR{i j:Int}(h:0<j):mH (.int i) (.int j)=ae (.int (i % j)):=by
 show (if decide (0<j)=true then _ else _)=_;rw[agd (agg h)]
theorem mG{i j:Int}(h:0<j)(h2:j<1073741824):tW (.int i) (.int j)=ae (.int (i / j)):=by
 show (if decide (0<j/\j<1073741824)=true then _ else _)=_;rw[agd (agg ⟨h,h2⟩)]
theorem gB{i j:Int}(h:(-(2 ^ 64)<i/\i<2 ^ 64)\/(-(2 ^ 64)<j/\j<2 ^ 64)):jy (.int i) (.int j)=ae (.int (i*j)):=by
 show (if decide _=true then _ else _)=_;rw[agd (agg h)]
theorem j6{i j:Int}:cU (.int i) (.int j)=ae (.int (i+j)):=rfl
theorem Gj(ns:List Int)(hl:ns.length<=63)(k:Nat):∃v,gA [.scr ns, .int (k:Int)]=ae (.int v):=by
 cases ns with
 |nil=>
  refine⟨7*(k:Int),?_⟩;rfl
 |cons n r=>
  have hp:0<(n::r).length:=Nat.succ_pos _;generalize e:(n::r)=ns at*;have he:iF 6 (.scr ns) (.lst [])=some false:=by subst e;rfl
  obtain⟨y,hy⟩:∃y,ns[k % ns.length]? =some y:=⟨_,Zy (Nat.mod_lt _ hp)⟩
  have V6:(0:Int)<(ns.length:Int):=by omega
  have h1:mH (.int (k:Int)) (.int (ns.length:Int))=ae (.int ((k % ns.length:Nat):Int)):=iR V6;have h2:tW (.int (k:Int)) (.int (ns.length:Int))=ae (.int ((k:Int) / (ns.length:Int))):=mG V6 (by omega);have h3:GK (.scr ns) (.int ((k % ns.length:Nat):Int))=ae (.int y):=by
   show (match L2.atI ns ((k % ns.length:Nat):Int) with | some n=>ae (D.int n) | none=>ag)=_;rw[gw hy]
  have h4:jy (.int 6553) (.int ((k:Int) / (ns.length:Int)))=ae (.int (6553*((k:Int) / (ns.length:Int)))):=gB (.inl ⟨by decide,by decide⟩);refine⟨y+6553*((k:Int) / (ns.length:Int)),?_⟩;simp only[gA,tL,bX,aF,gK,bE,dr,cI,d2,dV,dC,dA,aC,aN,bN,bO,FL,ik,he,av,h1,h2,h3,h4,Zu,abt,abq,ZY,Zz,aat,aaf,aag,cu,Nat.reduceAdd,aae,if_true,ZU,if_false,cU,gI]
theorem dU(ns:List Int)(hl:ns.length<=63)(k m:Nat)(hm:0<m):∃v:Nat,v<m/\aO [.scr ns, .int (k:Int), .int (m:Int)]=ae (.int (v:Int)):=by
 obtain⟨c,hc⟩:=Gj ns hl k;have b1:=adJ (c % 2147483563*69069+104723*((k:Int)+1)) (b:=2147483563) (by decide);have b2:=acU (c % 2147483563*69069+104723*((k:Int)+1)) (b:=2147483563) (by decide);generalize hx:(c % 2147483563*69069+104723*((k:Int)+1)) % 2147483563=x at b1 b2;have b3:=adJ (x*x+x / 3) (b:=2147483399) (by decide);have b4:=acU (x*x+x / 3) (b:=2147483399) (by decide);generalize hy:(x*x+x / 3) % 2147483399=y at b3 b4;have m1:jy (.int (c % 2147483563)) (.int 69069)=_:=gB (.inr ⟨by decide,by decide⟩);have m2:jy (.int 104723) (.int ((k:Int)+1))=_:=gB (.inl ⟨by decide,by decide⟩);have m3:jy (.int x) (.int x)=_:=gB (.inl ⟨by omega,by omega⟩);have m4:jy (.int y) (.int y)=_:=gB (.inl ⟨by omega,by omega⟩);have hM:(0:Int)<(m:Int):=Int.ofNat_lt.mpr hm;have n1:=adJ ((y*y+y / 7) % 2147483647 / 11) (b:=(m:Int)) (by omega);have n2:=acU ((y*y+y / 7) % 2147483647 / 11) hM;have q1:mH (.int c) (.int 2147483563)=_:=iR (by decide);have q2:mH (.int (c % 2147483563*69069+104723*((k:Int)+1))) (.int 2147483563)=_:=iR (by decide);have q3:tW (.int x) (.int 3)=_:=mG (by decide) (by decide);have q4:mH (.int (x*x+x / 3)) (.int 2147483399)=_:=iR (by decide);have q5:tW (.int y) (.int 7)=_:=mG (by decide) (by decide);have q6:mH (.int (y*y+y / 7)) (.int 2147483647)=_:=iR (by decide);have q7:tW (.int ((y*y+y / 7) % 2147483647)) (.int 11)=_:=mG (by decide) (by decide);have q8:mH (.int ((y*y+y / 7) % 2147483647 / 11)) (.int (m:Int))=_:=iR hM;refine⟨((y*y+y / 7) % 2147483647 / 11 % (m:Int)).toNat,by omega,?_⟩;rw[adV n1];rw[hx] at q2;rw[hy] at q4;simp only[aO,pV,bX,aF,a_,bE,ay,d2,dV,dC,dA,aC,aN,av,hc,Zu,abt,abq,ZY,Zz,aat,aaf,aag,ZH,abK,abL,Nat.reduceAdd,Nat.reduceSub,if_true,j6,m1,m2,m3,m4,q1,q2,q3,q4,q5,q6,q7,q8]
theorem HB{α:Type}(a:α):noex (ae a)=ae a:=rfl
theorem zc{I:Nat->cJ->Prop}:∀(ds:List D) (i:Nat) (ρ:cJ),I i ρ->
 (∀j d,ds[j]? =some d->∀ρ,I (i+j) ρ->∃ρ1 ρ2,put d ρ=some ρ1/\body ρ1=ae (.nx ρ2)/\I (i+j+1) ρ2)->∃ρ',forL put body ds ρ=ae (.nx ρ')/\I (i+ds.length) ρ'
 |[],i,ρ,h,_=>⟨ρ,rfl,h⟩
 |d::ds,i,ρ,h,step=>by
  obtain⟨ρ1,ρ2,e1,e2,h2⟩:=step 0 d rfl ρ h;obtain⟨ρ',e3,h3⟩:=zc (I:=I) ds (i+1) ρ2 h2 λj d' hd ρ hI=>by
   have:=step (j+1) d' hd ρ (by rw[show i+(j+1)=i+1+j by omega];exact hI);rw[show i+(j+1)+1=i+1+j+1 by omega] at this;exact this
  refine⟨ρ',?_,?_⟩
  ·show (match put d ρ with | none=>ag | some ρ1=>body ρ1>>=λo=>match o with | .nx ρ2=>forL put body ds ρ2 | .rt v=>ae (.rt v))=_;rw[e1];show (body ρ1>>=λo=>match o with | .nx ρ2=>forL put body ds ρ2 | .rt v=>ae (.rt v))=_;rw[e2];exact e3
  ·rw[show i+(d::ds).length=i+1+ds.length by simp;omega];exact h3
theorem om{Pr:D->Prop}:∀(ds:List D),(∀d∈ds,∃y,f d=ae (some y)/\Pr y)->∃ys,d8 f ds=ae ys/\ys.length=ds.length/\∀y∈ys,Pr y
 |[],_=>⟨[],rfl,rfl,λ_ h=>by cases h⟩
 |d::ds,h=>by
  obtain⟨y,e,hy⟩:=h d (Zq ..);obtain⟨ys,e2,hl,hp⟩:=om ds λd' hd=>h d' (Zp _ hd);refine⟨y::ys,?_,by simp[hl],λz hz=>?_⟩
  ·rw[cT,e,av,e2];rfl
  ·cases hz with
   |head=>exact hy
   |tail _ hz=>exact hp z hz
theorem iJ{g:D->D}:∀(ds:List D),(∀d∈ds,f d=ae (some (g d)))->d8 f ds=ae (ds.map g)
 |[],_=>rfl
 |d::ds,h=>by
  rw[cT,h d (Zq ..),av,iJ ds λd' hd=>h d' (Zp _ hd)];rfl
def NS(x:Str):Bool:=!(ab3 ("abcdef":Str) x 0 ("abcdef":Str).length 1).isEmpty
structure Row (W:Nat) (r:Str):Prop where
 len:r.length=W
 let':∀c∈r.cps.toList,NS ⟨#[c]⟩=true
structure Good (bd:List Str) (W:Nat):Prop where
 r1:1<=bd.length
 r5:bd.length<=5
 w1:1<=W
 w5:W<=5
 rows:∀r∈bd,Row W r
abbrev lE(c:Nat):Prop:=NS ⟨#[c]⟩=true/\c≠101/\c≠100
def WG(r:Str):Prop:=∀c∈r.cps.toList,c≠101
def R_(r:Str):Prop:=∀c∈r.cps.toList,c≠101/\c≠100
theorem Az:∀(ys:List D),(∀y∈ys,∃c,y= .str ⟨#[c]⟩/\lE c)->∃xs,yh ys=some xs/\xs.length=ys.length/\(xs.map (·.length)).sum=ys.length/\Row ys.length (fW xs)/\R_ (fW xs)
 |[],_=>⟨[],rfl,rfl,rfl,⟨rfl,λc h=>by cases h⟩,λc h=>by cases h⟩
 |y::ys,h=>by
  obtain⟨c,e,hc⟩:=h y (Zq ..);obtain⟨xs,e1,e2,e3,e4,e5⟩:=Az ys λz hz=>h z (Zp _ hz);subst e;have jz:∀z,z∈((⟨#[c]⟩:Str)++fW xs).cps.toList->z=c\/z∈(fW xs).cps.toList:=λz hz=>by
   have:((⟨#[c]⟩:Str)++fW xs).cps= #[c]++(fW xs).cps:=rfl;rw[this] at hz;simpa using hz
  refine⟨⟨#[c]⟩::xs,?_,by simp[e2],?_,⟨?_,λz hz=>?_⟩,λz hz=>?_⟩
  ·show (yh ys).map _=_;rw[e1];rfl
  ·rw[Zu,aaS,e3];show 1+ys.length=_;simp;omega
  ·show ((⟨#[c]⟩:Str)++fW xs).length=_;rw[bK,e4.len];show 1+ys.length=_;simp;omega
  ·rcases jz z hz with rfl | q
   ·exact hc.1
   ·exact e4.let' z q
  ·rcases jz z hz with rfl | q
   ·exact hc.2
   ·exact e5 z q
theorem IQ{n:Nat}{d:D}(h:d∈iz lo n):∃i:Nat,i<n/\d= .int (lo+(i:Int)):=by
 unfold iz at h;obtain⟨i,hi,e⟩:=Zx.mp h;exact⟨i,aa1.mp hi,e.symm⟩
theorem Lu{n j:Nat}{d:D}(h:(iz lo n)[j]? =some d):j<n/\d= .int (lo+(j:Int)):=by
 unfold iz at h;rw[ZJ] at h;by_cases hj:j<n
 ·rw[afF hj] at h;cases h;exact⟨hj,rfl⟩
 ·rw[adC (by simpa using hj)] at h;cases h
theorem kz(lo:Int)(n:Nat):(iz lo n).length=n:=by simp[iz]
abbrev iW(w:Nat):D:= .int w
abbrev fz(d:D):Option Sl:=some (.fz d)
theorem fw{ρ:cJ}{d:D}:gx 0 bC δe ρ d=(δe (fz d::ρ)>>=λy=>ae (some y)):=rfl
theorem oj{ρ:cJ}{d:D}:gx 0 δt δe ρ d=(δt (fz d::ρ)>>=λb=>if b then δe (fz d::ρ)>>=λy=>ae (some y) else ae none):=rfl
theorem ao{ρ ρ':cJ}{o:M Out}(h:a ρ=ae (.nx ρ'))(h2:b ρ'=o):aF a b ρ=o:=by
 unfold aF;rw[h];exact h2
theorem la{ρ:cJ}{d:D}(h:a ρ=ae (.rt d)):aF a b ρ=ae (.rt d):=by
 unfold aF;rw[h];rfl
theorem aM{ρ:cJ}{d:D}(h:δ ρ=ae d):a_ i δ ρ=ae (.nx (ρ.set i (fz d))):=by
 unfold a_;rw[h];rfl
theorem eB{ρ:cJ}{o:M Out}(h:c ρ=ae true)(h2:a ρ=o):gK c a b ρ=o:=by
 unfold gK;rw[h];exact h2
theorem dE{ρ:cJ}{o:M Out}(h:c ρ=ae false)(h2:b ρ=o):gK c a b ρ=o:=by
 unfold gK;rw[h];exact h2
theorem br{ρ:cJ}{d:D}(h:δ ρ=ae d):bE δ ρ=ae (.rt d):=by
 unfold bE;rw[h];rfl
theorem nO{ρ:cJ}{d:D}(h:δ ρ=ae d):uv δ ρ=ae (.nx ρ):=by
 unfold uv;rw[h];rfl
theorem bf{ds:List D}{d:D}(h:τ (ds.map (λd=>some (Sl.fz d))++ZH (n - ds.length) none)=ae (.rt d)):bX n τ ds=ae d:=by
 unfold bX;rw[h];rfl
theorem DY{ds:List D}{ρ:cJ}(h:τ (ds.map (λd=>some (Sl.fz d))++ZH (n - ds.length) none)=ae (.nx ρ)):bX n τ ds=ae .non:=by
 unfold bX;rw[h];rfl
theorem jJ{τ:DS}{ds:List D}(h:τ (ds.map (λd=>some (Sl.fz d))++ZH (n - ds.length) none)=bD k):bX n τ ds=bD k:=by
 unfold bX;rw[h];rfl
theorem IU{ρ:cJ}(h:δi ρ=ae ds)(h2:forL put b ds ρ=ae o):noex (cw put δi b ρ)=ae o:=by
 unfold cw;rw[h,av,h2];rfl
theorem aP{τ:DS}{ρ ρ':cJ}(h:τ ρ=ae (.nx ρ')):bS is τ ρ=ae (.nx (fgt is ρ')):=by
 unfold bS;rw[h];rfl
theorem bu{δe:DE}(h:δi ρ=ae ds)(h2:d8 (gx n δt δe ρ) ds=ae ys)(h3:ys.length<=lim):bb n δi δt δe ρ=ae (.lst ys):=by
 unfold bb;rw[h,av,h2,HB,av,Hw h3]
theorem oX{n:Nat}(h:n<=4096):dD [.int (n:Int)]=ae (iz 0 n):=by
 show (if -4096<=(n:Int)/\(n:Int)<=4096 then ae (iz 0 (n:Int).toNat) else ag)=_;rw[agd ⟨by omega,by omega⟩];rfl
structure Alpha (al:Str):Prop where
 pos:0<al.length
 ok:∀c∈al.cps.toList,lE c
theorem MT:Alpha "ab"/\Alpha "abc"/\Alpha "aab"/\Alpha "fa":=by
 refine⟨⟨by decide+kernel,?_⟩,⟨by decide+kernel,?_⟩,⟨by decide+kernel,?_⟩,⟨by decide+kernel,?_⟩⟩<;>decide+kernel
theorem ze{i:Nat}(h:i<x.length):∃c,c∈x.cps.toList/\x.cps.toList[i]? =some c/\iQ (.str x) (.int (i:Int))=ae (.str ⟨#[c]⟩):=by
 have h:i<x.cps.toList.length:=by rw[ZC];exact h
 refine⟨x.cps.toList[i],aaM h,Zy h,?_⟩;show (match L2.atI x.cps.toList (i:Int) with | some c=>ae (D.str ⟨#[c]⟩) | none=>ag)=_;rw[gw (Zy h)]
abbrev brd(bd:List Str):D:= .tup (bd.map D.str)
abbrev sgn(at' mo:Nat)(ns:List Int)(W:Nat)(al:Str)(bd:List Str)(R:Nat)(x7 x8:Option Sl):cJ:=[fz (.scr ns),fz (.int (at':Int)),fz (.int (mo:Int)),fz (.int (R:Int)),fz (.int (W:Int)),fz (.str al),fz (brd bd),x7,x8]
theorem FC(at' mo:Nat)(ns:List Int)(hl:ns.length<=63)(al:Str)(ha:Alpha al)(j W R:Nat)(hW:W<=5)(bd:List Str)(x8:Option Sl):
 ∃ys,Vi (sgn at' mo ns W al bd R (fz (.int (0+(j:Int)))) x8)=ae (.lst ys)/\ys.length=W/\∀y∈ys,∃c,y= .str ⟨#[c]⟩/\lE c:=by
 obtain⟨ys,e,zl,hp⟩:=om (f:=gx 0 bC (d2 iQ (dV 6) (ay 3 aO (aC (dV 1) (aC (d2 cU (d2 cU (d2 cU (dV 2) (dC (.int 3))) (d2 jy (dC (.int 7)) (dV 8))) (dV 0)) (aC (dA bO (aC (dV 6) aN)) aN)))))
  (sgn at' mo ns W al bd R (fz (.int (0+(j:Int)))) x8)) (Pr:=λy=>∃c,y= .str ⟨#[c]⟩/\lE c) (iz 0 W) λd hd=>by
  obtain⟨i,hi,rfl⟩:=IQ hd;obtain⟨v,hv,e⟩:=dU ns hl (at'+3+7*j+i) al.length ha.pos;obtain⟨c,hc,_,e2⟩:=ze hv;refine⟨.str ⟨#[c]⟩,?_,c,rfl,ha.ok c hc⟩;rw[fw];have k:(at':Int)+3+7*(0+(j:Int))+(0+(i:Int))=((at'+3+7*j+i:Nat):Int):=by omega
  have m1:jy (.int 7) (.int (0+(j:Int)))=ae (.int (7*(0+(j:Int)))):=gB (.inl ⟨by decide,by decide⟩);simp only[ay,d2,dV,dC,dA,aC,aN,av,Zz,aat,aaf,aag,Nat.reduceAdd,if_true,j6,m1,k,bO,e,e2]
 refine⟨ys,bu (oX (n:=W) (by omega)) e (by rw[zl,kz,cu];omega),by rw[zl,kz],hp⟩
theorem JP(at' mo:Nat)(ns:List Int)(W:Nat)(al:Str)(bd:List Str)(R:Nat)(x7:Option Sl)(ys:List D)(hb:bd.length<=5)(hy:ys.length<=5)(s3:∀y∈ys,∃c,y= .str ⟨#[c]⟩/\lE c):
 ∃r,(Row ys.length r/\R_ r)/\Vj (sgn at' mo ns W al bd R x7 (fz (.lst ys)))=ae (.nx (sgn at' mo ns W al (bd++[r]) R x7 (fz (.lst ys)))):=by
 obtain⟨xs,t1,t2,t3,t4⟩:=Az ys s3;refine⟨fW xs,t4,?_⟩;have jn:joinM (.str "") [.lst ys]=ae (.str (fW xs)):=by
  show (match yh ys with | some (xs:List Str)=>if ("":Str).length=0/\(xs.map (λx:Str=>x.length)).sum<=lim then ae (D.str (fW xs)) else ag | none=>ag)=_;rw[t1];show (if ("":Str).length=0/\(xs.map (λx:Str=>x.length)).sum<=lim then ae (D.str (fW xs)) else ag)=_;rw[agd ⟨rfl,by rw[t3,cu];omega⟩]
 have ct:u4 (brd bd) (.tup [.str (fW xs)])=ae (brd (bd++[fW xs])):=by
  show (if (bd.map D.str).length+1<=lim then ae (D.tup (bd.map D.str++[.str (fW xs)])) else ag)=_;rw[agd (by rw[Zo,cu];omega)];simp[brd]
 refine(aM (d:=brd (bd++[fW xs])) ?_).trans rfl;simp only[d2,dV,dC,dA,aC,aN,dM,SI,av,aaf,aag,if_true,jn,aQ,Zz,aat,cu,Nat.reduceAdd,Nat.reduceLeDiff,ct]
theorem A1(ns:List Int)(hl:ns.length<=63)(at' mo:Nat)(m0:0<mo)(m5:mo<=5):∃bd W,Good bd W/\(∀r∈bd,R_ r)/\bd.length<=mo/\W<=mo/\df [.scr ns, .int (at':Int), .int (mo:Int)]=ae (brd bd):=by
 obtain⟨r,hr,e1⟩:=dU ns hl at' mo m0;obtain⟨c,hc,e2⟩:=dU ns hl (at'+1) mo m0;obtain⟨a,ha,e3⟩:=dU ns hl (at'+2) 4 (by decide);obtain⟨al,Mh,e4⟩:∃al,Alpha al/\fX (.lst [.str "ab", .str "abc", .str "aab", .str "fa"]) (.int (a:Int))=ae (.str al):=by
  obtain⟨a1,a2,a3,a4⟩:=MT
  match a,ha with
  |0,_=>exact⟨_,a1,rfl⟩
  |1,_=>exact⟨_,a2,rfl⟩
  |2,_=>exact⟨_,a3,rfl⟩
  |3,_=>exact⟨_,a4,rfl⟩
 have k1:(1:Int)+(r:Int)=((r+1:Nat):Int):=by omega
 have k2:(1:Int)+(c:Int)=((c+1:Nat):Int):=by omega
 have FN:aO [.scr ns, .int (at':Int), .int (mo:Int)]=ae (.int (r:Int)):=e1;have Pn:aO [.scr ns, .int ((at':Int)+1), .int (mo:Int)]=ae (.int (c:Int)):=e2;have Sg:aO [.scr ns, .int ((at':Int)+2), .int 4]=ae (.int (a:Int)):=e3;obtain⟨ρ',f1,bd,f2,f3,f4⟩:=zc (put:=putN 7) (body:=bS [7,8] (aF (a_ 8 Vi) Vj))
  (I:=λi ρ=>∃bd,ρ=sgn at' mo ns (c+1) al bd (r+1) none none/\bd.length=i/\∀z∈bd,Row (c+1) z/\R_ z)
  (iz 0 (r+1)) 0 (sgn at' mo ns (c+1) al [] (r+1) none none) ⟨[],rfl,rfl,λ_ h=>by cases h⟩ λj d hd ρ ⟨bd,hρ,hb,hw⟩=>by
   obtain⟨hj,rfl⟩:=Lu hd;subst hρ;obtain⟨ys,s1,s2,s3⟩:=FC at' mo ns hl al Mh j (c+1) (r+1) (by omega) bd none;obtain⟨AW,t1,t2⟩:=JP at' mo ns (c+1) al bd (r+1) (fz (.int (0+(j:Int)))) ys (by omega) (by omega) s3;refine⟨_,_,rfl,aP (ao (aM s1) t2),bd++[AW],rfl,by simp[hb],λz hz=>?_⟩;rcases Z9.mp hz with h | h
   ·exact hw z h
   ·have h:z=AW:=by simpa using h
    subst h;rw[s2] at t1;exact t1
 refine⟨bd,c+1,⟨by rw[f3,kz];omega,by rw[f3,kz];omega,by omega,by omega,λr q=>(f4 r q).1⟩,λr q=>(f4 r q).2,by rw[f3,kz];omega,by omega,?_⟩;subst f2;refine bf ?_;refine ao (aM (d:= .int ((r+1:Nat):Int)) ?_) ?_
 ·simp only[ay,d2,dV,dC,aC,aN,av,Zu,abt,abq,ZY,Zz,aat,aaf,aag,Nat.reduceAdd,if_true,j6,FN,k1]
 refine ao (aM (d:= .int ((c+1:Nat):Int)) ?_) ?_
 ·simp only[ay,d2,dV,dC,aC,aN,av,Zu,abt,abq,ZY,Zz,aat,ZH,abK,abL,Nat.reduceSub,aaf,aag,Nat.reduceAdd,if_true,j6,Pn,k2]
 refine ao (aM (d:= .str al) ?_) ?_
 ·simp only[ay,d2,dV,dC,dA,aC,aN,av,Zu,abt,abq,ZY,Zz,aat,ZH,abK,abL,Nat.reduceSub,aaf,aag,Nat.reduceAdd,if_true,j6,Sg,bN,cu,Nat.reduceLeDiff,e4]
 refine ao (aM rfl) ?_;refine ao (IU (oX (by omega)) f1) ?_;exact br rfl
theorem A0(ns:List Int)(hl:ns.length<=63)(at' mo:Nat)(m0:0<mo)(m5:mo<=5):∃bd W,Good bd W/\(∀r∈bd,WG r)/\bd.length<=mo/\W<=mo/\df [.scr ns, .int (at':Int), .int (mo:Int)]=ae (brd bd):=
 let ⟨bd,W,h1,h3,h2⟩:=A1 ns hl at' mo m0 m5
 ⟨bd,W,h1,λr hr c hc=>(h3 r hr c hc).1,h2⟩
theorem A2(ns:List Int)(hl:ns.length<=63)(at' mo:Nat)(m0:0<mo)(m5:mo<=5):∃bd W,Good bd W/\bd.length<=mo/\W<=mo/\df [.scr ns, .int (at':Int), .int (mo:Int)]=ae (brd bd):=
 let ⟨bd,W,h1,_,h2⟩:=A0 ns hl at' mo m0 m5
 ⟨bd,W,h1,h2⟩
theorem Ea(ns:List Int)(hl:ns.length<=63)(at' mo:Nat)(m0:0<mo)(m5:mo<=5):∃bd W,Good bd W/\df [.scr ns, .int (at':Int), .int (mo:Int)]=ae (brd bd):=by
 obtain⟨bd,W,h1,_,_,h2⟩:=A2 ns hl at' mo m0 m5;exact⟨bd,W,h1,h2⟩
def Plain:D->Prop
 | .non | .bl _ | .int _ | .str _ | .tup _ | .lst _=>True
 |_=>False
def isStr:D->Bool
 | .str _=>true
 |_=>false
def isTup:D->Bool
 | .tup _=>true
 |_=>false
theorem gT{d:D}(h:Plain d):l8 [d, .raw (.ty "str")]=ae (.bl (isStr d)):=by
 cases d<;>first | rfl | exact h.elim
theorem Dc{d:D}(h:Plain d):l8 [d, .raw (.ty "tuple")]=ae (.bl (isTup d)):=by
 cases d<;>first | rfl | exact h.elim
def wU:D->Bool
 | .str x=>(x.length==1)&&NS x
 |_=>false
theorem we{i:Nat}{d:D}(h:ρ[i]? =some (fz d)):dV i ρ=ae d:=by
 unfold dV;rw[h]
theorem eq_int(i j:Int):ik (.int i) (.int j)=ae (.bl (i==j)):=rfl
theorem len_str(x:Str):bO [.str x]=ae (.int (x.length:Int)):=rfl
theorem in_str(x:Str):GJ false (.str x) (.str "abcdef")=ae (.bl (NS x)):=rfl
theorem m6(a b:Nat):((a:Int)==(b:Int))=(a==b):=by
 by_cases h:a=b
 ·subst h;simp
 ·have h2:¬(a:Int)=(b:Int):=by omega
  rw[agk.mpr h,agk.mpr h2]
theorem Ky(h:Plain d){i:Nat}{ρ:cJ}(hρ:ρ[i]? =some (fz d)):
 fY (dA l8 (aC (dV i) (aC (dC (.raw (.ty "str"))) aN))) (fY (d2 ik (dA bO (aC (dV i) aN)) (dC (.int 1))) (d2 (GJ false) (dV i) (dC (.str "abcdef")))) ρ=ae (.bl (wU d)):=by
 have hv:=we hρ;have e1:=m6;cases d with
 |str x=>
  have k:((x.length:Int)==1)=(x.length==1):=m6 x.length 1;simp only[fY,dA,aC,aN,dC,d2,hv,av,gT h,isStr,FL,if_true,len_str,eq_int,k,in_str,wU];cases x.length==1<;>rfl
 |non=>simp only[fY,dA,aC,aN,dC,d2,hv,av,gT h,isStr,FL,if_false,ZU,wU]
 |bl b=>simp only[fY,dA,aC,aN,dC,d2,hv,av,gT h,isStr,FL,if_false,ZU,wU]
 |int b=>simp only[fY,dA,aC,aN,dC,d2,hv,av,gT h,isStr,FL,if_false,ZU,wU]
 |tup b=>simp only[fY,dA,aC,aN,dC,d2,hv,av,gT h,isStr,FL,if_false,ZU,wU]
 |lst b=>simp only[fY,dA,aC,aN,dC,d2,hv,av,gT h,isStr,FL,if_false,ZU,wU]
 |raw _=>exact h.elim
 |exc _=>exact h.elim
 |scr _=>exact h.elim
 |dct _ _=>exact h.elim
 |dci _ _=>exact h.elim
theorem t5{d:D}(h:Plain d):dN [d]=ae (.bl (wU d)):=bf (br (Ky h rfl))
def kY(x:Str):Bool:=x.cps.toList.all λc=>NS ⟨#[c]⟩
def ql:D->Bool
 | .str x=>(decide (1<=x.length)&&decide (x.length<=8))&&kY x
 |_=>false
theorem uN(l:List Bool):bools (l.map D.bl)=some l:=by
 induction l with
 |nil=>rfl
 |cons b r ih=>show (bools (r.map D.bl)).map _=_;rw[ih];rfl
theorem all_map(l:List Bool):allM [.lst (l.map D.bl)]=ae (.bl (l.all id)):=by
 show (match bools (l.map D.bl) with | some bs=>ae (D.bl (bs.all id)) | none=>ag)=_;rw[uN]
theorem Gk{ρ:cJ}{n:Nat}(h:δ ρ=ae (.int (n:Int))):
 cI (AS (λi j=>decide (i<=j)) (λi j=>decide (i<=j)) (dC (.int 1)) δ (dC (.int 8))) ρ=ae (decide (1<=n)&&decide (n<=8)):=by
 have k1:decide ((1:Int)<=(n:Int))=decide (1<=n):=by by_cases h:1<=n<;>simp[h]<;>omega
 have k2:decide ((n:Int)<=8)=decide (n<=8):=by by_cases h:n<=8<;>simp[h]<;>omega
 simp only[cI,AS,dC,h,av,k1,k2,gI,FL];cases decide (1<=n)<;>rfl
theorem Bx(h:Plain d):gz [d]=ae (.bl (ql d)):=by
 refine bf ?_;have hρ:([d].map (λd=>some (Sl.fz d))++ZH (1 - [d].length) none)=[fz d]:=rfl;rw[hρ];have hv:dV 0 [fz d]=ae d:=rfl;have no:isStr d=false->AJ [fz d]=ae (.rt (.bl false)):=λhs=>by
  refine la (eB ?_ (br rfl));simp only[oq,eV,c8,dA,aC,aN,dC,hv,av,gT h,hs,Jl,acW,if_true]
 cases d with
 |str x=>
  have hi:c8 (dA l8 (aC (dV 0) (aC (dC (.raw (.ty "str"))) aN))) [fz (.str x)]=ae true:=by
   simp only[c8,dA,aC,aN,dC,hv,av,gT h,isStr,Jl]
  have hl:dA bO (aC (dV 0) aN) [fz (.str x)]=ae (.int (x.length:Int)):=rfl;have hc:=Gk hl;by_cases hr:(decide (1<=x.length)&&decide (x.length<=8))=true
  ·rw[hr] at hc;refine ao (dE ?_ rfl) (br ?_)
   ·unfold oq eV;rw[hi,av,av,hc];rfl
   ·have hb:x.length<=8:=by simp only[ZM,agf] at hr;exact hr.2
    have cm:bb 0 (λρ=>(dV 0) ρ>>=Pa) bC (ay 1 dN (aC (dV 0) aN)) [fz (.str x)]=ae (.lst ((x.cps.toList.map λc=>NS ⟨#[c]⟩).map D.bl)):=by
     refine bu rfl ?_ ?_
     ·have:=iJ (f:=gx 0 bC (ay 1 dN (aC (dV 0) aN)) [fz (.str x)]) (g:=λd=>D.bl (wU d)) (signs x) λd hd=>by
       rw[fw];obtain⟨c,_,rfl⟩:=Zx.mp hd;show (dN [.str ⟨#[c]⟩]>>=λy=>ae (some y))=_;rw[t5 (d:= .str ⟨#[c]⟩) trivial];rfl
      rw[this];unfold signs;rw[aap,aap];congr 1
     ·rw[Zo,Zo,ZC,cu];exact Z2 hb (by decide)
    rw[cx (a7 cm rfl),all_map];show ae (D.bl ((x.cps.toList.map λc=>NS ⟨#[c]⟩).all id))=ae (D.bl ((decide (1<=x.length)&&decide (x.length<=8))&&kY x));rw[hr];unfold kY;rw[acR];rfl
  ·have hr:(decide (1<=x.length)&&decide (x.length<=8))=false:=by simpa using hr
   rw[hr] at hc;have:ql (.str x)=false:=by
    show ((decide (1<=x.length)&&decide (x.length<=8))&&kY x)=false;rw[hr];rfl
   rw[this];refine la (eB ?_ (br rfl));unfold oq eV;rw[hi,av,av,hc];rfl
 |non=>exact no rfl
 |bl b=>exact no rfl
 |int b=>exact no rfl
 |tup b=>exact no rfl
 |lst b=>exact no rfl
 |raw _=>exact h.elim
 |exc _=>exact h.elim
 |scr _=>exact h.elim
 |dct _ _=>exact h.elim
 |dci _ _=>exact h.elim
def l9:D->Nat
 | .str x=>x.length
 |_=>0
def og:D->Bool
 | .tup ds=>(decide (1<=ds.length)&&decide (ds.length<=8))&&(ds.all ql&&ds.all λd=>l9 d==l9 (ds.headD .non))
 |_=>false
def Plain2:D->Prop
 | .tup ds=>∀d∈ds,Plain d
 |d=>Plain d
theorem Plain2.plain{d:D}(h:Plain2 d):Plain d:=by
 cases d<;>first | exact h | exact trivial
theorem Wk{r:List D}(h:ds=d::r):a8 (.tup ds) (.int 0)=ae d:=by
 subst h;show (match L2.atI (d::r) ((0:Nat):Int) with | some d=>ae d | none=>ag)=_;rw[gw (x:=d) rfl]
theorem Lv{d:D}(h:ql d=true):∃x,d= .str x:=by
 cases d<;>first | exact⟨_,rfl⟩ | cases h
theorem Ey{d:D}(h:Plain d):oq (eV (c8 (dA l8 (aC (dV 0) (aC (dC (.raw (.ty "tuple"))) aN))))) (eV (cI (AS (λi j=>decide (i<=j)) (λi j=>decide (i<=j)) (dC (.int 1)) (dA bO (aC (dV 0) aN)) (dC (.int 8))))) [fz d]=
 ae (match d with | .tup ds=>!(decide (1<=ds.length)&&decide (ds.length<=8)) | _=>true):=by
 have hv:dV 0 [fz d]=ae d:=rfl;have no:isTup d=false->oq (eV (c8 (dA l8 (aC (dV 0) (aC (dC (.raw (.ty "tuple"))) aN))))) (eV (cI (AS (λi j=>decide (i<=j)) (λi j=>decide (i<=j)) (dC (.int 1)) (dA bO (aC (dV 0) aN)) (dC (.int 8))))) [fz d]=ae true:=λhs=>by
  simp only[oq,eV,c8,dA,aC,aN,dC,hv,av,Dc h,hs,Jl,acW,if_true]
 cases d with
 |tup ds=>
  have hi:c8 (dA l8 (aC (dV 0) (aC (dC (.raw (.ty "tuple"))) aN))) [fz (.tup ds)]=ae true:=by
   simp only[c8,dA,aC,aN,dC,hv,av,Dc h,isTup,Jl]
  have hl:dA bO (aC (dV 0) aN) [fz (.tup ds)]=ae (.int (ds.length:Int)):=rfl;unfold oq eV;rw[hi,av,av,Gk hl];rfl
 |non=>exact no rfl
 |bl b=>exact no rfl
 |int b=>exact no rfl
 |str b=>exact no rfl
 |lst b=>exact no rfl
 |raw _=>exact h.elim
 |exc _=>exact h.elim
 |scr _=>exact h.elim
 |dct _ _=>exact h.elim
 |dci _ _=>exact h.elim
theorem all_rows(h:∀d∈ds,Plain d)(hl:ds.length<=8):dA allM (aC (bb 0 (lj (dV 0)) bC (ay 1 gz (aC (dV 0) aN))) aN) [fz (.tup ds)]=ae (.bl (ds.all ql)):=by
 have cm:bb 0 (lj (dV 0)) bC (ay 1 gz (aC (dV 0) aN)) [fz (.tup ds)]=ae (.lst ((ds.map ql).map D.bl)):=by
  refine bu (ds:=ds) rfl ?_ (by rw[Zo,Zo,cu];omega);rw[aap];refine iJ (g:=D.bl∘ql) ds λd hd=>?_;rw[fw];show (gz [d]>>=λy=>ae (some y))=_;rw[Bx (h d hd)];rfl
 rw[cx (a7 cm rfl),all_map,acR];rfl
theorem all_lens(hs:∀d∈ds,∃x,d= .str x)(h0:1<=ds.length)(hl:ds.length<=8):
 dA allM (aC (bb 0 (lj (dV 0)) bC (d2 ik (dA bO (aC (dV 0) aN)) (dA bO (aC (d2 a8 (dV 1) (dC (.int 0))) aN)))) aN) [fz (.tup ds)]=ae (.bl (ds.all λd=>l9 d==l9 (ds.headD .non))):=by
 obtain⟨d0,r,e0⟩:∃d0 r,ds=d0::r:=by
  cases ds with
  |nil=>simp at h0
  |cons a r=>exact⟨a,r,rfl⟩
 have hh:ds.headD .non=d0:=by rw[e0];rfl
 obtain⟨x0,Wb⟩:=hs d0 (by rw[e0];exact Zq ..);have cm:bb 0 (lj (dV 0)) bC (d2 ik (dA bO (aC (dV 0) aN)) (dA bO (aC (d2 a8 (dV 1) (dC (.int 0))) aN))) [fz (.tup ds)]=ae (.lst ((ds.map λd=>l9 d==l9 (ds.headD .non)).map D.bl)):=by
  refine bu (ds:=ds) rfl ?_ (by rw[Zo,Zo,cu];omega);rw[aap];refine iJ (g:=D.bl∘λd=>l9 d==l9 (ds.headD .non)) ds λd hd=>?_;rw[fw];obtain⟨x,rfl⟩:=hs d hd;have k:((x.length:Int)==(x0.length:Int))=(x.length==x0.length):=m6 _ _;have i0:a8 (.tup ds) (.int 0)=ae (.str x0):=by rw[Wk e0,Wb]
  have XG:ds.headD .non= .str x0:=by rw[hh,Wb]
  simp only[d2,dA,aC,aN,dC,dV,av,aaf,aag,len_str,i0,eq_int,k,agc,l9,XG]
 rw[cx (a7 cm rfl),all_map,acR];rfl
theorem mK{d:D}(h:Plain2 d):jw [d]=ae (.bl (og d)):=by
 refine bf ?_;have hρ:([d].map (λd=>some (Sl.fz d))++ZH (1 - [d].length) none)=[fz d]:=rfl;rw[hρ];have hf:=Ey h.plain;have no:(∀ds,d≠ .tup ds)->tK [fz d]=ae (.rt (.bl (og d))):=λhn=>by
  cases d<;>first | exact agj rfl (hn _) | exact la (eB hf (br rfl))
 cases d with
 |tup ds=>
  have hf:_=ae (!(decide (1<=ds.length)&&decide (ds.length<=8))):=hf;by_cases hr:(decide (1<=ds.length)&&decide (ds.length<=8))=true
  ·rw[hr] at hf;have hb:=hr;simp only[ZM,agf] at hb;have e:og (.tup ds)=(ds.all ql&&ds.all λd=>l9 d==l9 (ds.headD .non)):=by
    show ((decide (1<=ds.length)&&decide (ds.length<=8))&&_)=_;rw[hr,Bool.true_and]
   rw[e];have a1:=all_rows h hb.2;refine ao (dE hf rfl) ?_;cases hc:ds.all ql with
   |false=>
    rw[hc] at a1;refine la (eB ?_ (br rfl));unfold eV c8;rw[a1];rfl
   |true=>
    rw[hc] at a1;refine ao (dE ?_ rfl) (br ?_)
    ·unfold eV c8;rw[a1];rfl
    ·rw[Bool.true_and];exact all_lens (λd hd=>Lv (aan.mp hc d hd)) hb.1 hb.2
  ·have hr:(decide (1<=ds.length)&&decide (ds.length<=8))=false:=by simpa using hr
   rw[hr] at hf;have e:og (.tup ds)=false:=by
    show ((decide (1<=ds.length)&&decide (ds.length<=8))&&_)=_;rw[hr];rfl
   rw[e];exact la (eB hf (br rfl))
 |non=>exact no λ_ z=>by cases z
 |bl b=>exact no λ_ z=>by cases z
 |int b=>exact no λ_ z=>by cases z
 |str b=>exact no λ_ z=>by cases z
 |lst b=>exact no λ_ z=>by cases z
 |raw _=>exact h.elim
 |exc _=>exact h.elim
 |scr _=>exact h.elim
 |dct _ _=>exact h.elim
 |dci _ _=>exact h.elim
structure Brd (ob:List Str) (V:Nat):Prop where
 r1:1<=ob.length
 r8:ob.length<=8
 w1:1<=V
 w8:V<=8
 rows:∀r∈ob,Row V r
theorem Good.brd(hg:Good bd W):Brd bd W:=⟨hg.r1,by have:=hg.r5;omega,hg.w1,by have:=hg.w5;omega,hg.rows⟩
theorem Brd.board{V:Nat}(h:Brd ob V):og (brd ob)=true:=by
 have NN:∀r∈ob,ql (.str r)=true:=λr hr=>by
  have q:=h.rows r hr;show ((decide (1<=r.length)&&decide (r.length<=8))&&kY r)=true;rw[q.len];have a:decide (1<=V)=true:=agg h.w1;have b:decide (V<=8)=true:=agg h.w8;rw[a,b];show kY r=true;exact aan.mpr λc hc=>q.let' c hc
 have h0:l9 ((ob.map D.str).headD .non)=V:=by
  have:=h.r1;have hr:=h.rows;cases ob with
  |nil=>simp at this
  |cons x l=>exact(hr x (Zq ..)).len
 show ((decide (1<=(ob.map D.str).length)&&decide ((ob.map D.str).length<=8))&&((ob.map D.str).all ql&&(ob.map D.str).all λd=>l9 d==l9 ((ob.map D.str).headD .non)))=true;rw[h0,Zo,agg h.r1,agg h.r8];have a:(ob.map D.str).all ql=true:=aan.mpr λd hd=>by
  obtain⟨r,hr,rfl⟩:=Zx.mp hd;exact NN r hr
 have b:((ob.map D.str).all λd=>l9 d==V)=true:=aan.mpr λd hd=>by
  obtain⟨r,hr,rfl⟩:=Zx.mp hd;show (r.length==V)=true;rw[(h.rows r hr).len];simp
 rw[a,b];rfl
theorem Ed:Plain2 (brd bd):=λd hd=>by
 obtain⟨r,_,rfl⟩:=Zx.mp hd;trivial
theorem gy(h:δ ρ=ae (.bl b)):c8 δ ρ=ae b:=by
 unfold c8;rw[h];rfl
theorem el(h:δ ρ=ae (.bl b)):cI δ ρ=ae b:=by
 unfold cI;rw[h];rfl
theorem j5(h:τ ρ=ae b):eV τ ρ=ae (!b):=by
 unfold eV;rw[h];rfl
theorem uR(h1:a ρ=ae p)(h2:c ρ=ae q):oq a c ρ=ae (p||q):=by
 unfold oq;rw[h1,av];cases p
 ·exact h2
 ·rfl
theorem qW(h1:a ρ=ae p)(h2:c ρ=ae q):lY a c ρ=ae (p&&q):=by
 unfold lY;rw[h1,av];cases p
 ·rfl
 ·exact h2
theorem M0(h1:a ρ=ae false):lY a c ρ=ae false:=by
 unfold lY;rw[h1];rfl
theorem JR(h1:a ρ=ae (.bl p))(h2:c ρ=ae (.bl q)):fY a c ρ=ae (.bl (p&&q)):=by
 unfold fY;rw[h1,av];cases p
 ·rfl
 ·exact h2
theorem M3(h1:a ρ=ae (.bl p))(h2:c ρ=ae (.bl q)):JS a c ρ=ae (.bl (p||q)):=by
 unfold JS;rw[h1,av];cases p
 ·exact h2
 ·rfl
theorem Brd.nb{V:Nat}(h:Brd ob V):fb [brd ob]=ae .non:=by
 refine DY (dE (j5 (gy (b:=true) ?_)) rfl);refine(ar (ds:=[brd ob]) rfl rfl).trans ?_;rw[mK Ed,h.board]
structure Ln (V:Nat) (r:Str):Prop where
 len:r.length=V
structure Wd (ob:List Str) (V:Nat):Prop where
 r1:1<=ob.length
 r8:ob.length<=8
 w1:1<=V
 w8:V<=8
 rows:∀r∈ob,Ln V r
theorem Brd.wd{V:Nat}(h:Brd ob V):Wd ob V:=⟨h.r1,h.r8,h.w1,h.w8,λr hr=>⟨(h.rows r hr).len⟩⟩
theorem Wd.len0{V:Nat}(h:Wd ob V)(hρ:ρ[i]? =some (fz (brd ob))):dA bO (aC (d2 a8 (dV i) (dC (.int 0))) aN) ρ=ae (.int (V:Int)):=by
 have h1:=h.r1;have hr:=h.rows;obtain⟨x,l,e⟩:∃x l,ob=x::l:=by
  cases ob with
  |nil=>simp at h1
  |cons x l=>exact⟨x,l,rfl⟩
 have hx:x.length=V:=(hr x (by rw[e];exact Zq ..)).len;have i0:a8 (brd ob) (.int 0)=ae (.str x):=Wk (show ob.map D.str=D.str x::l.map D.str by rw[e];rfl);have k:=aA (g:=a8) (we hρ) (show dC (.int 0) ρ=ae (.int 0) from rfl);rw[i0] at k;rw[cx (a7 k rfl)];show ae (D.int (x.length:Int))=_;rw[hx]
theorem Brd.len0{V:Nat}(h:Brd ob V)(hρ:ρ[i]? =some (fz (brd ob))):dA bO (aC (d2 a8 (dV i) (dC (.int 0))) aN) ρ=ae (.int (V:Int)):=h.wd.len0 hρ
theorem EV(hρ:ρ[i]? =some (fz (brd bd))):dA bO (aC (dV i) aN) ρ=ae (.int (bd.length:Int)):=by
 have:bO [brd bd]=ae (.int (bd.length:Int)):=by
  show ae (D.int ((bd.map D.str).length:Int))=_;rw[Zo]
 simp only[dA,aC,aN,we hρ,av,this]
def Pk:D->Bool
 | .int _=>true
 |_=>false
theorem vN(h:Plain d):fB [d]=ae (.bl (Pk d)):=by
 cases d<;>first | rfl | exact h.elim
theorem PY(h:δ ρ=ae (.int i))(h2:ε ρ=ae (.int n)):
 AS (λi j=>decide (i<=j)) (λi j=>decide (i<j)) (dC (.int 0)) δ ε ρ=ae (.bl (decide (0<=i)&&decide (i<n))):=by
 simp only[AS,dC,h,h2,av,gI];cases decide (0<=i)<;>rfl
theorem QX:a8 (.tup [d,e]) (.int 0)=ae d/\a8 (.tup [d,e]) (.int 1)=ae e:=⟨rfl,rfl⟩
abbrev Cell:=Nat×Nat
def cD(c:Cell):D:= .tup [.int (c.1:Int), .int (c.2:Int)]
def On(R W:Nat)(c:Cell):Prop:=c.1<R/\c.2<W
instance {R W:Nat}{c:Cell}:Decidable (On R W c):=by unfold On;infer_instance
def Ways(w:Nat):Prop:=w=4\/w=8
theorem Ways.nw(h:Ways w):gQ [iW w]=ae .non:=by
 rcases h with rfl | rfl<;>rfl
def ch(x:Str)(j:Nat):Nat:=x.cps.toList.getD j 0
def at2(bd:List Str)(i j:Nat):Nat:=ch (bd.getD i ⟨#[]⟩) j
abbrev lt(bd:List Str)(c:Cell):Nat:=at2 bd c.1 c.2
def sg(n:Nat):D:= .str ⟨#[n]⟩
theorem D2{c:Nat}(h:c<x.length):iQ (.str x) (.int (c:Int))=ae (sg (ch x c)):=by
 have h':c<x.cps.toList.length:=by rw[ZC];exact h
 show (match L2.atI x.cps.toList (c:Int) with | some c=>ae (D.str ⟨#[c]⟩) | none=>ag)=_;rw[gw (Zy h')];unfold sg ch;rw[Z3,Zy h'];rfl
theorem getD_mem{bd:List Str}(h:i<bd.length):bd.getD i ⟨#[]⟩∈bd:=by
 rw[Z3,Zy h];exact aaM h
theorem Hg{i:Nat}(h:i<bd.length):a8 (brd bd) (.int (i:Int))=ae (.str (bd.getD i ⟨#[]⟩)):=by
 show (match L2.atI (bd.map D.str) (i:Int) with | some d=>ae d | none=>ag)=_;rw[gw ?_];rw[ZJ,Zy h,Z3,Zy h];rfl
theorem lB(hg:Brd bd W)(h:On bd.length W c):eP [brd bd,cD c]=ae (sg (lt bd c)):=by
 refine bf (br ?_);refine(aA ((aA rfl rfl).trans (Hg h.1)) rfl).trans ?_;exact D2 (by rw[(hg.rows _ (getD_mem h.1)).len];exact h.2)
theorem Md(a b:Nat):ik (sg a) (sg b)=ae (.bl (decide (a=b))):=by
 show ae (D.bl (decide ((⟨#[a]⟩:Str)=⟨#[b]⟩)))=_;congr 2;by_cases h:a=b
 ·subst h;simp
 ·have:¬((⟨#[a]⟩:Str)=⟨#[b]⟩):=λz=>by
   injection z with z
   exact h (by simpa using z)
  rw[agh h,agh this]
def fZ(a b:Nat):Nat:=max a b - min a b
def jY(w:Nat)(a b:Cell):Bool:=if w=4 then decide (fZ a.1 b.1+fZ a.2 b.2=1) else decide (max (fZ a.1 b.1) (fZ a.2 b.2)=1)
theorem Cv(a b:Nat):FY [.int ((a:Int) - (b:Int))]=ae (.int (fZ a b:Int)):=by
 show ae (D.int _)=_;congr 2;unfold fZ;omega
theorem vQ(hw:Ways w)(a b:Cell):eG [cD a,cD b,iW w]=ae (.bl (jY w a b)):=by
 refine bf ?_;refine ao ((aM (Cv a.1 b.1)).trans rfl) ?_;refine ao ((aM (Cv a.2 b.2)).trans rfl) ?_;rcases hw with rfl | rfl
 ·refine la (eB (el rfl) (br ?_));show ae (D.bl (((fZ a.1 b.1:Int)+(fZ a.2 b.2:Int))==1))=_;unfold jY;rw[agd rfl];congr 2;have:((fZ a.1 b.1:Int)+(fZ a.2 b.2:Int))=((fZ a.1 b.1+fZ a.2 b.2:Nat):Int):=by omega
  rw[this];have e:=m6 (fZ a.1 b.1+fZ a.2 b.2) 1;exact e.trans rfl
 ·refine ao (dE (el rfl) rfl) (br ?_);show ae (D.bl ((if (fZ a.1 b.1:Int)<(fZ a.2 b.2:Int) then(fZ a.2 b.2:Int) else(fZ a.1 b.1:Int))==1))=_;have hn:jY 8 a b=decide (max (fZ a.1 b.1) (fZ a.2 b.2)=1):=rfl;rw[hn];congr 2;have:(if (fZ a.1 b.1:Int)<(fZ a.2 b.2:Int) then(fZ a.2 b.2:Int) else(fZ a.1 b.1:Int))=((max (fZ a.1 b.1) (fZ a.2 b.2):Nat):Int):=by split<;>omega
  rw[this];have e:=m6 (max (fZ a.1 b.1) (fZ a.2 b.2)) 1;exact e.trans rfl
theorem sm(w:Nat)(a b:Cell):jY w a b=jY w b a:=by
 have e:∀x y:Nat,fZ x y=fZ y x:=λx y=>by unfold fZ;rw[Nat.max_comm,Nat.min_comm]
 unfold jY;rw[e a.1,e a.2]
theorem Q_(h:jY 4 a b=true):jY 8 a b=true:=by
 unfold jY at h⊢;rw[agd rfl] at h;rw[age (by decide)];have h:=agi h;exact agg (by omega)
theorem Oh(hw:Ways w):jY w a a=false:=by
 unfold jY fZ;rcases hw with rfl | rfl<;>simp
theorem c_(h1:put d ρ=some ρ1)(h2:body ρ1=ae (.nx ρ2)):forL put body (d::ds) ρ=forL put body ds ρ2:=by
 show (match put d ρ with | none=>ag | some ρ1=>body ρ1>>=λo=>match o with | .nx ρ2=>forL put body ds ρ2 | .rt v=>ae (.rt v))=_;rw[h1];show (body ρ1>>=λo=>match o with | .nx ρ2=>forL put body ds ρ2 | .rt v=>ae (.rt v))=_;rw[h2];rfl
section
variable{α σ:Type}{put:D->cJ->Option cJ}{body:DS}
theorem iL(enc:α->D)(mk:σ->cJ)(step:σ->α->σ)(I:σ->Prop):∀(xs:List α) (s:σ),I s->(∀s,I s->∀x∈xs,I (step s x)/\∃ρ1,put (enc x) (mk s)=some ρ1/\body ρ1=ae (.nx (mk (step s x))))->
 I (xs.foldl step s)/\forL put body (xs.map enc) (mk s)=ae (.nx (mk (xs.foldl step s)))
 |[],s,h,_=>⟨h,rfl⟩
 |x::xs,s,h,st=>by
  obtain⟨h2,ρ1,e1,e2⟩:=st s h x (Zq ..);obtain⟨h3,e3⟩:=iL enc mk step I xs (step s x) h2 λs hs y hy=>st s hs y (Zp _ hy);exact⟨h3,(c_ e1 e2).trans e3⟩
theorem iM(enc:α->D)(ρ:cJ):∀(xs:List α),(∀x∈xs,∃ρ1,put (enc x) ρ=some ρ1/\body ρ1=ae (.nx ρ))->forL put body (xs.map enc) ρ=ae (.nx ρ)
 |[],_=>rfl
 |x::xs,st=>by
  obtain⟨ρ1,e1,e2⟩:=st x (Zq ..);exact(c_ e1 e2).trans (iM enc ρ xs λy hy=>st y (Zp _ hy))
theorem dz(enc:α->D)(mk:List D->cJ)(g:α->List D):∀(xs:List α) (u8:List D),(u8++xs.flatMap g).length<=B->(∀x∈xs,∀u8,(u8++g x).length<=B->∃ρ1,put (enc x) (mk u8)=some ρ1/\body ρ1=ae (.nx (mk (u8++g x))))->
 forL put body (xs.map enc) (mk u8)=ae (.nx (mk (u8++xs.flatMap g)))
 |[],u8,_,_=>by simp;rfl
 |x::xs,u8,hB,st=>by
  have VB:((u8++g x)++xs.flatMap g).length<=B:=by simpa[abf,aa0] using hB
  obtain⟨ρ1,e1,e2⟩:=st x (Zq ..) u8 (Z2 (by simp only[ZA];omega) VB);have e3:=dz enc mk g xs (u8++g x) VB λy hy=>st y (Zp _ hy);rw[Zu,c_ e1 e2,e3,abf,aa0]
end
theorem cP(h:δi ρ=ae ds)(h2:forL put b ds ρ=m):cw put δi b ρ=m:=by
 unfold cw;rw[h];exact h2
theorem cz{τ:DS}(h:τ ρ=ae o):(λρ=>noex (τ ρ)) ρ=ae o:=by
 show noex (τ ρ)=_;rw[h];rfl
theorem Ai(lo n:Nat):iz (lo:Int) n=(aaD lo n).map λ(k:Nat)=>D.int (k:Int):=by
 unfold iz;rw[aft];have:∀(n a:Nat),(aaD a n).map (λ(i:Nat)=>D.int ((lo:Int)+(i:Int)))=(aaD (lo+a) n).map λ(k:Nat)=>D.int (k:Int):=by
  intro n;induction n with
  |zero=>intro a;rfl
  |succ n ih=>
   intro a;rw[adl,adl,Zu,Zu,ih (a+1)];rfl
 exact this n 0
theorem B4(h:δ ρ=ae (.int (n:Int)))(hn:n<=4096):(aC δ aN ρ>>=dD)=ae ((ZX n).map λ(k:Nat)=>D.int (k:Int)):=by
 rw[a7 h rfl,av,oX hn,show iz 0 n=iz ((0:Nat):Int) n from rfl,Ai,aft]
theorem RN(h:δ ρ=ae (.int (i:Int)))(h2:ε ρ=ae (.int (j:Int)))(hi:i<=4096)(hj:j<=4096):(aC δ (aC ε aN) ρ>>=kA)=ae ((aaD i (j - i)).map λ(k:Nat)=>D.int (k:Int)):=by
 rw[a7 h (a7 h2 rfl),av];show (if (-4096<=(i:Int)/\(i:Int)<=4096)/\(-4096<=(j:Int)/\(j:Int)<=4096) then ae (iz (i:Int) ((j:Int) - (i:Int)).toNat) else ag)=_;rw[agd ⟨⟨by omega,by omega⟩,by omega,by omega⟩,show ((j:Int) - (i:Int)).toNat=j - i by omega,Ai]
def dQ(W r:Nat):List Cell:=(ZX W).map λk=>(r,k)
def az(R W:Nat):List Cell:=(ZX R).flatMap (dQ W)
theorem aG:c∈az R W↔On R W c:=by
 unfold az dQ On;simp only[acy,aa1,Zx];constructor
 ·rintro⟨r,hr,k,hk,rfl⟩;exact⟨hr,hk⟩
 ·rintro⟨h1,h2⟩;exact⟨c.1,h1,c.2,h2,rfl⟩
theorem bh(R W:Nat):(az R W).length=R*W:=by
 unfold az;have:∀l:List Nat,(l.flatMap (dQ W)).length=l.length*W:=by
  intro l;induction l with
  |nil=>simp
  |cons a l ih=>rw[abf,ZA,ih,Zz,afq];simp[dQ];omega
 rw[this,aaZ]
theorem oi(hg:Brd bd W)(r:Nat):c9 [brd bd, .int (r:Int)]=ae (.lst ((dQ W r).map cD)):=by
 have:=hg.w8;refine bf (br (bu (B4 (hg.len0 rfl) (by omega)) ?_ (by simp[dQ,cu];omega)));rw[show (dQ W r).map cD=((ZX W).map λ(k:Nat)=>D.int (k:Int)).map (λe=> .tup [.int (r:Int),e]) by simp[dQ,aap];intro a _;rfl];exact iJ _ λe _=>rfl
theorem lx(hg:Brd bd W):eO [brd bd]=ae (.lst ((az bd.length W).map cD)):=by
 have h8:=hg.r8;have w8:=hg.w8;have hm:bd.length*W<=64:=aaL h8 w8;have yu:(ZX bd.length).flatMap (λr=>(dQ W r).map cD)=(az bd.length W).map cD:=by
  unfold az;rw[acz]
 have e:=dz (put:=putN 2) (body:=bS [2] (B6 1 (ay 2 c9 (aC (dV 0) (aC (dV 2) aN))))) (λ(k:Nat)=>D.int (k:Int)) (λu8=>[fz (brd bd),some (.ow (.lst u8)),none]) (λr=>(dQ W r).map cD) (ZX bd.length) []
  (by rw[ZY,yu,Zo,bh];exact hm) λr hr u8 hB=>by
   refine⟨[fz (brd bd),some (.ow (.lst u8)),fz (.int (r:Int))],rfl,?_⟩;refine(aP (ρ':=[fz (brd bd),some (.ow (.lst (u8++(dQ W r).map cD))),fz (.int (r:Int))]) ?_).trans rfl;show (c9 [brd bd, .int (r:Int)]>>=λd=>lstM d>>=λes=>if u8.length+es.length<=lim then ae (Out.nx (List.set [fz (brd bd),some (.ow (.lst u8)),fz (.int (r:Int))] 1 (some (.ow (.lst (u8++es)))))) else ag)=_;rw[oi hg,av];show (if u8.length+((dQ W r).map cD).length<=lim then ae (Out.nx [fz (brd bd),some (.ow (.lst (u8++(dQ W r).map cD))),fz (.int (r:Int))]) else ag)=_;rw[agd (by rw[ZA] at hB;rw[cu];omega)]
 rw[ZY,yu] at e;refine bf (ao rfl (ao (cz (cP (B4 (EV rfl) (by omega)) e)) ?_));rfl
def lH(R W w:Nat)(c:Cell):List Cell:=
 (aaD (c.1 - 1) (min (c.1+2) R - (c.1 - 1))).flatMap λr=>((aaD (c.2 - 1) (min (c.2+2) W - (c.2 - 1))).map λk=>(r,k)).filter (jY w c)
theorem oG(hw:Ways w):x∈lH R W w c↔On R W x/\jY w c x=true:=by
 unfold lH On;simp only[acy,ZT,Zx,List.mem_range'_1];constructor
 ·rintro⟨r,⟨h1,h2⟩,⟨k,⟨h3,h4⟩,rfl⟩,h5⟩;refine⟨⟨?_,?_⟩,h5⟩
  ·show r<R;omega
  ·show k<W;omega
 ·rintro⟨⟨h1,h2⟩,h5⟩;have h6:fZ c.1 x.1<=1/\fZ c.2 x.2<=1:=by
   unfold jY at h5;rcases hw with rfl | rfl
   ·have h5:=agi h5;exact⟨h5▸aaU ..,h5▸Nat.le_add_left ..⟩
   ·have h5:=agi h5;exact⟨h5▸Nat.le_max_left ..,h5▸Nat.le_max_right ..⟩
  have g:∀{a b B:Nat},fZ a b<=1->b<B->a - 1<=b/\b<a - 1+(min (a+2) B - (a - 1)):=λ{a b B} h k=>by
   have h1:b<=a+1/\a<=b+1:=by unfold fZ at h;omega
   have h2:min (a+2) B=a+2\/min (a+2) B=B:=by omega
   omega
  exact⟨x.1,g h6.1 h1,⟨x.2,g h6.2 h2,rfl⟩,h5⟩
theorem oE(R W w:Nat)(c:Cell):(lH R W w c).length<=9:=by
 unfold lH;rw[adO];have h:∀r,(((aaD (c.2 - 1) (min (c.2+2) W - (c.2 - 1))).map λk=>(r,k)).filter (jY w c)).length<=3:=λr=>by
  refine Z2 (aad ..) ?_;rw[Zo,ad4];omega
 have:∀(l:List Nat),(l.map λr=>(((aaD (c.2 - 1) (min (c.2+2) W - (c.2 - 1))).map λk=>(r,k)).filter (jY w c)).length).sum<=3*l.length:=by
  intro l;induction l with
  |nil=>simp
  |cons a l ih=>rw[Zu,aaS,Zz];have:=h a;omega
 refine Z2 (this _) ?_;rw[ad4];omega
abbrev nc(b c w:D)(u8:List D)(x4 x5:Option Sl):cJ:=[fz b,fz c,fz w,some (.ow (.lst u8)),x4,x5]
theorem kg(hg:Brd bd W)(hw:Ways w)(hc:On bd.length W c):cM [brd bd,cD c,iW w]=ae (.lst ((lH bd.length W w c).map cD)):=by
 have h8:=hg.r8;have w8:=hg.w8;obtain⟨c1,c2⟩:=hc;have QA:∀n:Nat,BC [.int ((n:Int) - 1), .int 0]=ae (.int ((n - 1:Nat):Int)):=λn=>by
  show ae (D.int (if (0:Int)>(n:Int) - 1 then 0 else(n:Int) - 1))=_;congr 2;split<;>omega
 have QB:∀n m:Nat,E4 [.int ((n:Int)+2), .int (m:Int)]=ae (.int ((min (n+2) m:Nat):Int)):=λn m=>by
  show ae (D.int (if (m:Int)<(n:Int)+2 then(m:Int) else(n:Int)+2))=_;congr 2;split<;>omega
 have inner:∀(r:Nat) (u8:List D),u8.length<=16->forL (putN 5) (bS [5] (gK (c8 (ay 3 eG (aC (dV 1) (aC (dA aQ (aC (dV 4) (aC (dV 5) aN))) (aC (dV 2) aN))))) (nN 3 (dA aQ (aC (dV 4) (aC (dV 5) aN)))) dr))
  ((aaD (c.2 - 1) (min (c.2+2) W - (c.2 - 1))).map λ(k:Nat)=>D.int (k:Int)) (nc (brd bd) (cD c) (iW w) u8 (fz (.int (r:Int))) none)=
  ae (.nx (nc (brd bd) (cD c) (iW w) (u8++(aaD (c.2 - 1) (min (c.2+2) W - (c.2 - 1))).flatMap λk=>if jY w c (r,k) then [cD (r,k)] else []) (fz (.int (r:Int))) none)):=λr u8 zi=>by
  refine dz (λ(k:Nat)=>D.int (k:Int)) (λu8=>nc (brd bd) (cD c) (iW w) u8 (fz (.int (r:Int))) none) (λk=>if jY w c (r,k) then [cD (r,k)] else []) (B:=64) _ u8 ?_ λk hk u8 hB=>?_
  ·rw[ZA,adO];have:∀l:List Nat,(l.map λk=>(if jY w c (r,k) then [cD (r,k)] else []).length).sum<=l.length:=by
    intro l;induction l with
    |nil=>simp
    |cons a l ih=>rw[Zu,aaS,Zz];split<;>simp<;>omega
   have h2:=this (aaD (c.2 - 1) (min (c.2+2) W - (c.2 - 1)));rw[ad4] at h2;omega
  ·refine⟨nc (brd bd) (cD c) (iW w) u8 (fz (.int (r:Int))) (fz (.int (k:Int))),rfl,?_⟩;have ht:c8 (ay 3 eG (aC (dV 1) (aC (dA aQ (aC (dV 4) (aC (dV 5) aN))) (aC (dV 2) aN)))) (nc (brd bd) (cD c) (iW w) u8 (fz (.int (r:Int))) (fz (.int (k:Int))))=ae (jY w c (r,k)):=
    gy ((ar rfl rfl).trans (vQ hw c (r,k)))
   cases hn:jY w c (r,k) with
   |true=>
    rw[hn] at ht;rw[hn,agd rfl,ZA] at hB;refine(aP (ρ':=nc (brd bd) (cD c) (iW w) (u8++[cD (r,k)]) (fz (.int (r:Int))) (fz (.int (k:Int)))) (eB ht ?_)).trans rfl;show (if u8.length<lim then ae (Out.nx (nc (brd bd) (cD c) (iW w) (u8++[cD (r,k)]) (fz (.int (r:Int))) (fz (.int (k:Int))))) else ag)=_;rw[agd (by rw[cu];simp at hB;omega)]
   |false=>
    rw[hn] at ht;refine(aP (dE ht rfl)).trans ?_;simp;rfl
 have flt:∀r,((aaD (c.2 - 1) (min (c.2+2) W - (c.2 - 1))).flatMap λk=>if jY w c (r,k) then [cD (r,k)] else [])=(((aaD (c.2 - 1) (min (c.2+2) W - (c.2 - 1))).map λk=>(r,k)).filter (jY w c)).map cD:=λr=>by
  generalize aaD (c.2 - 1) (min (c.2+2) W - (c.2 - 1))=l;induction l with
  |nil=>rfl
  |cons a l ih=>
   rw[abf,ih,Zu,acC];cases jY w c (r,a)<;>rfl
 have tot:(aaD (c.1 - 1) (min (c.1+2) bd.length - (c.1 - 1))).flatMap (λr=>(((aaD (c.2 - 1) (min (c.2+2) W - (c.2 - 1))).map λk=>(r,k)).filter (jY w c)).map cD)=(lH bd.length W w c).map cD:=by
  unfold lH;rw[acz]
 have outer:=dz (put:=putN 4) (body:=bS [4,5] (cw (putN 5) (λρ=>(aC (dA BC (aC (d2 lq (d2 a8 (dV 1) (dC (.int 1))) (dC (.int 1))) (aC (dC (.int 0)) aN))) (aC (dA E4 (aC (d2 cU (d2 a8 (dV 1) (dC (.int 1))) (dC (.int 2))) (aC (dA bO (aC (d2 a8 (dV 0) (dC (.int 0))) aN)) aN))) aN)) ρ>>=kA) (bS [5] (gK (c8 (ay 3 eG (aC (dV 1) (aC (dA aQ (aC (dV 4) (aC (dV 5) aN))) (aC (dV 2) aN))))) (nN 3 (dA aQ (aC (dV 4) (aC (dV 5) aN)))) dr))))
  (λ(k:Nat)=>D.int (k:Int)) (λu8=>nc (brd bd) (cD c) (iW w) u8 none none) (λr=>(((aaD (c.2 - 1) (min (c.2+2) W - (c.2 - 1))).map λk=>(r,k)).filter (jY w c)).map cD) (aaD (c.1 - 1) (min (c.1+2) bd.length - (c.1 - 1))) []
  (by rw[ZY,tot,Zo];have:=oE bd.length W w c;omega) λr hr u8 hB=>by
   refine⟨nc (brd bd) (cD c) (iW w) u8 (fz (.int (r:Int))) none,rfl,?_⟩;have e:=inner r u8 (by rw[ZA] at hB;omega);rw[flt r] at e;refine(aP (cP (RN ?_ ?_ (by omega) (by omega)) e)).trans rfl
   ·exact(cx rfl).trans (QA c.2)
   ·refine(cx ?_).trans (QB c.2 W);exact a7 (show d2 cU (d2 a8 (dV 1) (dC (.int 1))) (dC (.int 2)) (nc (brd bd) (cD c) (iW w) u8 (fz (.int (r:Int))) none)=ae (.int ((c.2:Int)+2)) from rfl) (a7 (hg.len0 rfl) rfl)
 rw[ZY,tot] at outer;refine bf (ao rfl (ao (cz (cP (RN ?_ ?_ (by omega) (by omega)) outer)) ?_))
 ·exact(cx rfl).trans (QA c.1)
 ·refine(cx ?_).trans (QB c.1 bd.length);exact a7 (show d2 cU (d2 a8 (dV 1) (dC (.int 0))) (dC (.int 2)) (nc (brd bd) (cD c) (iW w) [] none none)=ae (.int ((c.1:Int)+2)) from rfl) (a7 (EV rfl) rfl)
 ·rfl
def bH(bd:List Str)(W w:Nat)(c:Cell):List Cell:=(lH bd.length W w c).filter λx=>decide (lt bd x=lt bd c)
theorem gq(hw:Ways w):x∈bH bd W w c↔On bd.length W x/\jY w c x=true/\lt bd x=lt bd c:=by
 unfold bH;rw[ZT,oG hw,agf,and_assoc]
theorem EY(bd:List Str)(W w:Nat)(c:Cell):(bH bd W w c).length<=9:=Z2 (aad ..) (oE ..)
theorem gp(enc:α->D)(p:α->Bool):∀(xs:List α),(∀x∈xs,f (enc x)=ae (if p x then some (enc x) else none))->d8 f (xs.map enc)=ae ((xs.filter p).map enc)
 |[],_=>rfl
 |x::xs,h=>by
  rw[Zu,cT,h x (Zq ..),av,gp enc p xs λy hy=>h y (Zp _ hy),acC];cases p x<;>rfl
theorem rQ(hg:Brd bd W)(hw:Ways w)(hc:On bd.length W c):di [brd bd,cD c,iW w]=ae (.lst ((bH bd W w c).map cD)):=by
 refine bf (ao (ρ':=[fz (brd bd),fz (cD c),fz (iW w),fz (sg (lt bd c))]) ((aM ((ar rfl rfl).trans (lB hg hc))).trans rfl) (br ?_));refine bu ?_ (gp cD _ _ λx hx=>?_) (by rw[Zo,cu];exact Z2 (EY bd W w c) (by decide))
 ·show (ay 3 cM _ _>>=lstM)=_;have e:ay 3 cM (aC (dV 0) (aC (dV 1) (aC (dV 2) aN))) [fz (brd bd),fz (cD c),fz (iW w),fz (sg (lt bd c))]=ae (.lst ((lH bd.length W w c).map cD)):=kg hg hw hc;rw[e];rfl
 ·have G5:=(oG hw).mp hx;rw[oj];have e:cI (d2 ik (ay 2 eP (aC (dV 1) (aC (dV 0) aN))) (dV 4)) (fz (cD x)::[fz (brd bd),fz (cD c),fz (iW w),fz (sg (lt bd c))])=ae (decide (lt bd x=lt bd c)):=by
   refine el ?_;exact(aA ((ar rfl rfl).trans (lB hg G5.1)) rfl).trans (Md _ _)
  rw[e,av];cases decide (lt bd x=lt bd c)<;>rfl
end K1
namespace K1
section
variable{α:Type}[DecidableEq α]
structure Bk (α:Type) where
 ks:List α
 ps:List (Option α)
 fu:List α
def de(c:α)(s:Bk α)(x:α):Bk α:=if x∈s.ks then s else⟨s.ks++[x],s.ps++[some c],s.fu++[x]⟩
variable(nb:α->List α)
def gM(s:Bk α)(c:α):Bk α:=(nb c).foldl (de c) s
def b5(s:Bk α)(P3:List α):Bk α:=P3.foldl (gM nb) s
def Rb(a:α):Nat->α->Prop
 |0,x=>x=a
 |k+1,x=>Rb a k x\/∃y,Rb a k y/\x∈nb y
variable{nb}{a:α}
theorem Rb.mono(h:i<=j)(r:Rb nb a i x):Rb nb a j x:=by
 induction h with
 |refl=>exact r
 |step _ ih=>exact .inl ih
structure Grown (P:α->α->Prop) (s t:Bk α):Prop where
 ex:∃fs:List (α×α),t.ks=s.ks++fs.map (·.1)/\t.ps=s.ps++fs.map (λp=>some p.2)/\t.fu=s.fu++fs.map (·.1)/\(∀p∈fs,P p.2 p.1)
 nd:s.ks.Nodup->t.ks.Nodup
theorem Grown.refl(s:Bk α):Grown P s s:=⟨⟨[],by simp,by simp,by simp,λ_ h=>by cases h⟩,id⟩
theorem Grown.trans(h1:Grown P s t)(h2:Grown P t u):Grown P s u:=by
 obtain⟨fs,a1,a2,a3,a4⟩:=h1.ex;obtain⟨gs,b1,b2,b3,b4⟩:=h2.ex;refine⟨⟨fs++gs,by rw[b1,a1];simp,by rw[b2,a2];simp,by rw[b3,a3];simp,λp hp=>?_⟩,λh=>h2.nd (h1.nd h)⟩;rcases Z9.mp hp with h | h
 ·exact a4 p h
 ·exact b4 p h
theorem yF(s:Bk α)(h:P c x):Grown P s (de c s x):=by
 unfold de;split
 ·exact Grown.refl s
 ·rename_i hx;refine⟨⟨[(x,c)],rfl,rfl,rfl,λp hp=>?_⟩,λhn=>?_⟩
  ·have:p=(x,c):=by simpa using hp
   subst this;exact h
  ·refine aaY.mpr ⟨hn,by simp,λy hy z hz e=>?_⟩;have hz:z=x:=by simpa using hz
   rw[e,hz] at hy;exact hx hy
theorem uI(s:Bk α):y∈(de c s x).ks↔y∈s.ks\/y=x:=by
 unfold de;split
 ·rename_i hx;exact⟨.inl,λh=>h.elim id λe=>by rw[e];exact hx⟩
 ·simp
theorem foldStep:∀(l:List α) (s:Bk α),(∀x∈l,P c x)->Grown P s (l.foldl (de c) s)/\∀y,y∈(l.foldl (de c) s).ks↔y∈s.ks\/y∈l
 |[],s,_=>⟨Grown.refl s,λy=>by simp⟩
 |x::l,s,h=>by
  obtain⟨h1,h2⟩:=foldStep l (de c s x) λy hy=>h y (Zp _ hy);refine⟨(yF s (h x (Zq ..))).trans h1,λy=>?_⟩;rw[abj,h2 y,uI];simp[or_assoc]
theorem za:∀(l:List α) (s:Bk α),(∀c∈l,∀x∈nb c,P c x)->Grown P s (b5 nb s l)/\∀y,y∈(b5 nb s l).ks↔y∈s.ks\/∃c∈l,y∈nb c
 |[],s,_=>⟨Grown.refl s,λy=>by simp[b5]⟩
 |c::l,s,h=>by
  obtain⟨g1,m1⟩:=foldStep (nb c) s (h c (Zq ..));obtain⟨g2,m2⟩:=za l (gM nb s c) λc' hc=>h c' (Zp _ hc);refine⟨g1.trans g2,λy=>?_⟩;show y∈(b5 nb (gM nb s c) l).ks↔_;rw[m2 y];show (y∈((nb c).foldl (de c) s).ks\/_)↔_;rw[m1 y];simp[or_assoc]
structure Rng (nb:α->List α) (a:α) (k:Nat) (ks:List α) (ps:List (Option α)) (P3:List α):Prop where
 len:ks.length=ps.length
 nd:ks.Nodup
 mem:∀x,x∈ks↔Rb nb a k x
 rg:∀x,x∈P3↔Rb nb a k x/\∀j,Rb nb a j x->k<=j
 par:∀x p,(x,some p)∈ks.zip ps->x∈nb p/\p∈ks/\∀j,Rb nb a j x->∃i,j=i+1/\Rb nb a i p
 non:∀x,(x,none)∈ks.zip ps->x=a
 sz:k<=ks.length/\(P3≠[]->k+1<=ks.length)
theorem Rng.zero(nb:α->List α)(a:α):Rng nb a 0 [a] [none] [a] where
 len:=rfl
 nd:=by simp
 mem:=λx=>by simp[Rb]
 rg:=λx=>by simp[Rb]
 par:=λx p h=>by simp at h
 non:=λx h=>by simpa using h
 sz:=⟨by simp,λ_=>by simp⟩
theorem Rng.next(h:Rng nb a k ks ps P3)(hr:P3≠[]):Rng nb a (k+1) (b5 nb ⟨ks,ps,[]⟩ P3).ks (b5 nb ⟨ks,ps,[]⟩ P3).ps (b5 nb ⟨ks,ps,[]⟩ P3).fu:=by
 obtain⟨g,m⟩:=za (P:=λc x=>c∈P3/\x∈nb c) P3 ⟨ks,ps,[]⟩ λc hc x hx=>⟨hc,hx⟩
 obtain⟨fs,e1,e2,e3,e4⟩:=g.ex;have zo:=g.nd h.nd;have hm:∀x,x∈(b5 nb ⟨ks,ps,[]⟩ P3).ks↔Rb nb a (k+1) x:=λx=>by
  rw[m x];show (x∈ks\/_)↔(Rb nb a k x\/_);constructor
  ·rintro(q | ⟨c,hc,hx⟩)
   ·exact .inl ((h.mem x).mp q)
   ·exact .inr ⟨c,((h.rg c).mp hc).1,hx⟩
  ·rintro(q | ⟨y,hy,hx⟩)
   ·exact .inl ((h.mem x).mpr q)
   ·by_cases hk:∀j,Rb nb a j y->k<=j
    ·exact .inr ⟨y,(h.rg y).mpr ⟨hy,hk⟩,hx⟩
    ·refine .inl ((h.mem x).mpr ?_);obtain⟨j,hj⟩:=aeK.mp hk;obtain⟨TN,XM⟩:=afb.mp hj;exact Rb.mono (i:=j+1) (by omega) (.inr ⟨y,TN,hx⟩)
 have FN:(b5 nb ⟨ks,ps,[]⟩ P3).ks=ks++fs.map (·.1):=e1;have Pn:(b5 nb ⟨ks,ps,[]⟩ P3).ps=ps++fs.map (λp=>some p.2):=e2;have Sg:(b5 nb ⟨ks,ps,[]⟩ P3).fu=fs.map (·.1):=e3;have new:∀x,x∈fs.map (·.1)->¬Rb nb a k x:=λx hx hk=>by
  rw[FN] at zo;exact(aaY.mp zo).2.2 x ((h.mem x).mpr hk) x hx rfl
 have Q0:∀x,¬Rb nb a k x->∀j,Rb nb a j x->k+1<=j:=λx hx j hj=>by
  by_cases XQ:k+1<=j
  ·exact XQ
  ·exact agj (Rb.mono (by omega) hj) hx
 have QQ:(b5 nb ⟨ks,ps,[]⟩ P3).ks.zip (b5 nb ⟨ks,ps,[]⟩ P3).ps=ks.zip ps++fs.map λp=>(p.1,some p.2):=by
  rw[FN,Pn,acL h.len];congr 1;rw[List.zip_map']
 refine⟨?_,zo,hm,λx=>?_,λx p hp=>?_,λx hx=>?_,?_⟩
 ·rw[FN,Pn,ZA,ZA,Zo,Zo,h.len]
 ·rw[Sg];constructor
  ·intro hx;exact⟨(hm x).mp (by rw[FN];exact aai _ hx),Q0 x (new x hx)⟩
  ·rintro⟨h1,h2⟩;have h3:=(hm x).mpr h1;rw[FN] at h3;rcases Z9.mp h3 with q | q
   ·have:=h2 k ((h.mem x).mp q);omega
   ·exact q
 ·rw[QQ] at hp;rcases Z9.mp hp with q | q
  ·obtain⟨q1,q2,q3⟩:=h.par x p q;exact⟨q1,by rw[FN];exact abb _ q2,q3⟩
  ·obtain⟨f,hf,e⟩:=Zx.mp q;cases e;obtain⟨f1,f2⟩:=e4 f hf;have hc:=(h.rg f.2).mp f1;refine⟨f2,by rw[FN];exact abb _ ((h.mem _).mpr hc.1),λj hj=>?_⟩;have:=Q0 f.1 (new f.1 (Zx.mpr ⟨f,hf,rfl⟩)) j hj;exact⟨j - 1,by omega,Rb.mono (by omega) hc.1⟩
 ·rw[QQ] at hx;rcases Z9.mp hx with q | q
  ·exact h.non x q
  ·obtain⟨f,hf,e⟩:=Zx.mp q;cases e
 ·have hs:=h.sz.2 hr;rw[FN,ZA,Zo];refine⟨by omega,λiV=>?_⟩;have:fs≠[]:=λz=>iV (by rw[Sg,z];rfl);have:=List.length_pos_iff.mpr this;omega
theorem Rng.last(h:Rng nb a k ks ps []):∀x,x∈ks↔∃j,Rb nb a j x:=by
 have none:∀x,¬(Rb nb a k x/\∀j,Rb nb a j x->k<=j):=λx q=>by
  have:=(h.rg x).mpr q;cases this
 have hk:∀x,Rb nb a k x->∃i,i<k/\Rb nb a i x:=λx hx=>by
  by_cases q:∀j,Rb nb a j x->k<=j
  ·exact agj ⟨hx,q⟩ (none x)
  ·obtain⟨j,hj⟩:=aeK.mp q;obtain⟨TN,XM⟩:=afb.mp hj;exact⟨j,by omega,TN⟩
 have all:∀j x,Rb nb a j x->Rb nb a k x:=by
  intro j;induction j with
  |zero=>intro x hx;exact Rb.mono (aae _) hx
  |succ j ih=>
   rintro x (q | ⟨y,hy,hx⟩)
   ·exact ih x q
   ·obtain⟨i,hi,hr⟩:=hk y (ih y hy);exact Rb.mono (i:=i+1) (by omega) (.inr ⟨y,hr,hx⟩)
 exact λx=>⟨λq=>⟨k,(h.mem x).mp q⟩,λ⟨j,hj⟩=>(h.mem x).mpr (all j x hj)⟩
theorem cN{l U:List α}(hn:l.Nodup)(h:∀x∈l,x∈U):l.length<=U.length:=by
 induction l generalizing U with
 |nil=>simp
 |cons a l ih=>
  rw[aaK] at hn;have hl:∀x∈l,x∈U.erase a:=λx hx=>by
   have iV:x≠a:=λz=>hn.1 (by rw[<-z];exact hx);exact(afu iV).mpr (h x (Zp _ hx))
  have h1:=ih hn.2 hl;have h2:=ac6 (h a (Zq ..));have h3:=ae_ (h a (Zq ..));rw[Zz];omega
end
end K1
namespace K1
open PySem L2 L3
def keyOf(c:Cell):List Key:=[.inl (c.1:Int), .inl (c.2:Int)]
theorem iZ(h:keyOf a=keyOf b):a=b:=by
 unfold keyOf at h;injection h with h1 h2
 injection h1 with h1
 injection h2 with h2 _
 injection h2 with h2
 exact abx (adI h1) (adI h2)
theorem gU(c:Cell):et (cD c)=some (keyOf c):=rfl
theorem gu:∀{ks:List Cell}{ds:List D},c∉ks->da (ks.map keyOf) ds (keyOf c)=none
 |[],_,_=>by simp[da]
 |k::ks,[],_=>by simp[da]
 |k::ks,d::ds,h=>by
  rw[Zu];unfold da;rw[age (λz=>h (by rw[iZ z];exact Zq ..))];exact gu λz=>h (Zp _ z)
theorem lh:∀{ks:List Cell}{ds:List D},ks.length=ds.length->c∈ks->∃d,da (ks.map keyOf) ds (keyOf c)=some d/\(c,d)∈ks.zip ds
 |[],_,_,h=>by cases h
 |k::ks,[],hl,_=>by simp at hl
 |k::ks,d::ds,hl,h=>by
  rw[Zu];unfold da;by_cases hk:k=c
  ·subst hk;rw[agd rfl];exact⟨d,rfl,by simp⟩
  ·rw[age (λz=>hk (iZ z))];have hc:c∈ks:=by
    rcases Zw.mp h with q | q
    ·exact agj q.symm hk
    ·exact q
   obtain⟨d',e1,e2⟩:=lh (by simpa using hl) hc;exact⟨d',e1,by simp[e2]⟩
theorem kQ{ks:List Cell}(hl:ks.length=ds.length):iO neg (cD c) (.dct (ks.map keyOf) ds)=ae (.bl (if neg then !decide (c∈ks) else decide (c∈ks))):=by
 show (match (et (cD c)).map (da (ks.map keyOf) ds) with | some o=>ae (D.bl (if neg then !o.isSome else o.isSome)) | none=>ag)=_;rw[gU];show ae (D.bl (if neg then !(da (ks.map keyOf) ds (keyOf c)).isSome else(da (ks.map keyOf) ds (keyOf c)).isSome))=_;by_cases h:c∈ks
 ·obtain⟨d,e,_⟩:=lh hl h;rw[e,agg h];rfl
 ·rw[gu h,agh h];rfl
theorem sO(h:c∉ks)(hl:ds.length<lim):jf (.dct (ks.map keyOf) ds) (cD c) d=some (.dct ((ks++[c]).map keyOf) (ds++[d])):=by
 show (match et (cD c) with | some kk=>if ds.length<lim then some (C.dct (dH (ks.map keyOf) ds kk) (cX (ks.map keyOf) ds kk d)) else none | none=>none)=_;rw[gU];show (if ds.length<lim then some (C.dct (dH (ks.map keyOf) ds (keyOf c)) (cX (ks.map keyOf) ds (keyOf c) d)) else none)=_;rw[agd hl];unfold dH cX;rw[gu h];simp
theorem vK(h:τ (rj ρ)=ae b):FD τ ρ=ae b:=by
 unfold FD;rw[h];rfl
theorem Gm(h:δ (rj ρ)=ae d)(hf:y8 d=true):M4 δ ρ=ae d:=by
 unfold M4;rw[h];show rh d=_;unfold rh;rw[hf];rfl
theorem J7(c:Cell):y8 (cD c)=true:=rfl
theorem jl(h1:c ρ=ae true)(h2:body ρ=ae (.nx ρ'))(h3:eM c body n ρ'=m):eM c body (n+1) ρ=m:=by
 show (c ρ>>=λb=>if b then body ρ>>=λo=>match o with | .nx ρ'=>eM c body n ρ' | .rt d=>ae (.rt d) else ae (.nx ρ))=_;rw[h1,av,agd rfl,h2];exact h3
theorem n4(h1:c ρ=ae false):eM c body (n+1) ρ=ae (.nx ρ):=by
 show (c ρ>>=λb=>if b then body ρ>>=λo=>match o with | .nx ρ'=>eM c body n ρ' | .rt d=>ae (.rt d) else ae (.nx ρ))=_;rw[h1];rfl
def HU:Option Cell->D
 |none=> .non
 |some c=>cD c
abbrev L6(ks:List Cell)(ps:List (Option Cell)):C:= .dct (ks.map keyOf) (ps.map HU)
abbrev L7(ks:List Cell)(ps:List (Option Cell)):D:= .dct (ks.map keyOf) (ps.map HU)
abbrev sb(b s w:D)(ks:List Cell)(ps:List (Option Cell))(x4 x5 x6 x7:Option Sl):cJ:=[fz b,fz s,fz w,some (.ow (L6 ks ps)),x4,x5,x6,x7]
structure Bok (R W:Nat) (s:Bk Cell):Prop where
 len:s.ks.length=s.ps.length
 nd:s.ks.Nodup
 on:∀x∈s.ks,On R W x
 fu:s.fu.length<=s.ks.length
theorem Bok.le(h:Bok R W s):s.ks.length<=R*W:=by
 rw[<-bh R W];exact cN h.nd λx hx=>aG.mpr (h.on x hx)
theorem Bok.step(h:Bok R W s)(hx:On R W x):Bok R W (de c s x):=by
 unfold de;split
 ·exact h
 ·rename_i hn;refine⟨by simp[h.len],?_,λy hy=>?_,by simp;exact h.fu⟩
  ·refine aaY.mpr ⟨h.nd,by simp,λy hy z hz e=>?_⟩;have hz:z=x:=by simpa using hz
   rw[e,hz] at hy;exact hn hy
  ·rcases Z9.mp hy with q | q
   ·exact h.on y q
   ·have:y=x:=by simpa using q
    rw[this];exact hx
theorem Lx(hg:Brd bd W)(h:Bok bd.length W s):
 O9 (sb (brd bd) (cD a) w s.ks s.ps r (some (.ow (.lst (s.fu.map cD)))) (fz (cD c)) (fz (cD x)))=ae (.nx (sb (brd bd) (cD a) w (de c s x).ks (de c s x).ps r (some (.ow (.lst ((de c s x).fu.map cD)))) (fz (cD c)) none)):=by
 have hle:=h.le;have hm:bd.length*W<=64:=aaL hg.r8 hg.w8;have ht:FD (cI (d2 (iO true) (dV 7) (dV 3))) (sb (brd bd) (cD a) w s.ks s.ps r (some (.ow (.lst (s.fu.map cD)))) (fz (cD c)) (fz (cD x)))=ae (!decide (x∈s.ks)):=
  vK (el ((aA rfl rfl).trans (kQ (by rw[Zo];exact h.len))))
 by_cases hx:x∈s.ks
 ·rw[agg hx] at ht;have e:de c s x=s:=agd hx;rw[e];exact(aP (dE ht rfl)).trans rfl
 ·rw[agh hx] at ht;have e:de c s x=⟨s.ks++[x],s.ps++[some c],s.fu++[x]⟩:=age hx;rw[e];refine(aP (ρ':=sb (brd bd) (cD a) w (s.ks++[x]) (s.ps++[some c]) r (some (.ow (.lst ((s.fu++[x]).map cD)))) (fz (cD c)) (fz (cD x))) (eB ht (ao (ρ':=sb (brd bd) (cD a) w (s.ks++[x]) (s.ps++[some c]) r (some (.ow (.lst (s.fu.map cD)))) (fz (cD c)) (fz (cD x))) ?_ ?_))).trans rfl
  ·show (match jf (L6 s.ks s.ps) (cD x) (cD c) with | some c'=>ae (Out.nx (List.set (sb (brd bd) (cD a) w s.ks s.ps r (some (.ow (.lst (s.fu.map cD)))) (fz (cD c)) (fz (cD x))) 3 (some (.ow c')))) | none=>ag)=_;rw[sO hx (by rw[Zo,<-h.len,cu];omega)];rw[show s.ps.map HU++[cD c]=(s.ps++[some c]).map HU by simp[HU]];rfl
  ·show (if (s.fu.map cD).length<lim then ae (Out.nx (sb (brd bd) (cD a) w (s.ks++[x]) (s.ps++[some c]) r (some (.ow (.lst (s.fu.map cD++[cD x])))) (fz (cD c)) (fz (cD x)))) else ag)=_;have:=h.fu;rw[agd (by rw[Zo,cu];omega)];rw[show s.fu.map cD++[cD x]=(s.fu++[x]).map cD by simp]
def RQ:DS:=bS [6,7] (cw (putN 7) (cK (ay 3 di (aC (dV 0) (aC (dV 6) (aC (dV 2) aN))))) O9)
theorem D1(hg:Brd bd W)(hw:Ways w)(hc:On bd.length W c)(h:Bok bd.length W s):
 Bok bd.length W (gM (bH bd W w) s c)/\RQ (sb (brd bd) (cD a) (iW w) s.ks s.ps r (some (.ow (.lst (s.fu.map cD)))) (fz (cD c)) none)=
  ae (.nx (sb (brd bd) (cD a) (iW w) (gM (bH bd W w) s c).ks (gM (bH bd W w) s c).ps r (some (.ow (.lst ((gM (bH bd W w) s c).fu.map cD)))) none none)):=by
 obtain⟨h1,e⟩:=iL (put:=putN 7) cD (λs:Bk Cell=>sb (brd bd) (cD a) (iW w) s.ks s.ps r (some (.ow (.lst (s.fu.map cD)))) (fz (cD c)) none) (de c) (Bok bd.length W) (bH bd W w c) s h λs hs x hx=>
  ⟨hs.step ((gq hw).mp hx).1,_,rfl,Lx hg hs⟩
 refine⟨h1,(aP (cP ?_ e)).trans rfl⟩;show (ay 3 di (aC (dV 0) (aC (dV 6) (aC (dV 2) aN))) (sb (brd bd) (cD a) (iW w) s.ks s.ps r (some (.ow (.lst (s.fu.map cD)))) (fz (cD c)) none)>>=lstM)=_;have e2:ay 3 di (aC (dV 0) (aC (dV 6) (aC (dV 2) aN))) (sb (brd bd) (cD a) (iW w) s.ks s.ps r (some (.ow (.lst (s.fu.map cD)))) (fz (cD c)) none)=ae (.lst ((bH bd W w c).map cD)):=rQ hg hw hc;rw[e2];rfl
def RP:DS:=bS [5,6,7] (aF (qo 5) (aF (cw (putN 6) (cK (dV 4)) RQ) (uw 5 (a_ 4 (dV 5)))))
theorem Lw(hg:Brd bd W)(hw:Ways w)(hr:∀c∈P3,On bd.length W c)(h:Bok bd.length W s)(hf:s.fu=[]):
 Bok bd.length W (b5 (bH bd W w) s P3)/\RP (sb (brd bd) (cD a) (iW w) s.ks s.ps (fz (.lst (P3.map cD))) none none none)=
  ae (.nx (sb (brd bd) (cD a) (iW w) (b5 (bH bd W w) s P3).ks (b5 (bH bd W w) s P3).ps (fz (.lst ((b5 (bH bd W w) s P3).fu.map cD))) none none none)):=by
 obtain⟨h1,e⟩:=iL (put:=putN 6) cD (λs:Bk Cell=>sb (brd bd) (cD a) (iW w) s.ks s.ps (fz (.lst (P3.map cD))) (some (.ow (.lst (s.fu.map cD)))) none none) (gM (bH bd W w)) (Bok bd.length W) P3 s h λs hs c hc=>
  ⟨(D1 (a:=a) (r:=fz (.lst (P3.map cD))) hg hw (hr c hc) hs).1,_,rfl,(D1 hg hw (hr c hc) hs).2⟩
 refine⟨h1,(aP (ρ':=sb (brd bd) (cD a) (iW w) (b5 (bH bd W w) s P3).ks (b5 (bH bd W w) s P3).ps (fz (.lst ((b5 (bH bd W w) s P3).fu.map cD))) (fz (.lst ((b5 (bH bd W w) s P3).fu.map cD))) none none) ?_).trans rfl⟩;refine ao rfl (ao (ρ':=sb (brd bd) (cD a) (iW w) (b5 (bH bd W w) s P3).ks (b5 (bH bd W w) s P3).ps (fz (.lst (P3.map cD))) (some (.ow (.lst ((b5 (bH bd W w) s P3).fu.map cD)))) none none) ?_ rfl);rw[hf] at e;exact cP rfl e
theorem Ak(hg:Brd bd W)(hw:Ways w)(ha:On bd.length W a):∀(fuel k:Nat) (ks:List Cell) (ps:List (Option Cell)) (P3:List Cell),bd.length*W+2<=fuel+k->Rng (bH bd W w) a k ks ps P3->(∀x∈ks,On bd.length W x)->
 ∃k' ks' MB,Rng (bH bd W w) a k' ks' MB []/\(∀x∈ks',On bd.length W x)/\eM (c8 (dV 4)) RP fuel (sb (brd bd) (cD a) (iW w) ks ps (fz (.lst (P3.map cD))) none none none)=ae (.nx (sb (brd bd) (cD a) (iW w) ks' MB (fz (.lst [])) none none none))
 |0,k,ks,ps,P3,hf,hR,gD=>by
  have h1:ks.length<=bd.length*W:=by
   rw[<-bh bd.length W];exact cN hR.nd λx hx=>aG.mpr (gD x hx)
  have:=hR.sz.1;omega
 |fuel+1,k,ks,ps,[],hf,hR,gD=>⟨k,ks,ps,hR,gD,n4 rfl⟩
 |fuel+1,k,ks,ps,c::P3,hf,hR,gD=>by
  have iV:c::P3≠[]:=by simp
  have hN:=hR.next iV;have QJ:∀x∈c::P3,On bd.length W x:=λx hx=>gD x ((hR.mem x).mpr ((hR.rg x).mp hx).1);obtain⟨hb,e⟩:=Lw hg hw QJ (s:=⟨ks,ps,[]⟩) ⟨hR.len,hR.nd,gD,aae _⟩ rfl;obtain⟨k',ks',MB,q1,q2,q3⟩:=Ak hg hw ha fuel (k+1) _ _ _ (by omega) hN hb.on;exact⟨k',ks',MB,q1,q2,jl rfl e q3⟩
theorem tm(hg:Brd bd W)(hw:Ways w)(ha:On bd.length W a):
 ∃k ks ps,Rng (bH bd W w) a k ks ps []/\(∀x∈ks,On bd.length W x)/\dZ [brd bd,cD a,iW w]=ae (L7 ks ps):=by
 have hm:bd.length*W<=64:=aaL hg.r8 hg.w8;obtain⟨k,ks,ps,h1,h2,h3⟩:=Ak hg hw ha lim 0 [a] [none] [a] (by rw[cu];omega) (Rng.zero _ _) (λx hx=>(show x=a by simpa using hx)▸ha);refine⟨k,ks,ps,h1,h2,bf (ao rfl (ao rfl (ao (cz h3) rfl)))⟩
def qI[DecidableEq α](n:Nat)(enc:α->D):Prop:=∀k x y,iF (n+k) (enc x) (enc y)=some (decide (x=y))
theorem J2(n:Nat)(xs ys:List D):iF (n+1) (.tup xs) (.tup ys)=n8 (iF n) xs ys:=rfl
theorem jv(n:Nat)(i j:Int):iF n (.int i) (.int j)=some (i==j):=by cases n<;>rfl
theorem J1(n:Nat)(i j:Str):iF n (.str i) (.str j)=some (i==j):=by cases n<;>rfl
theorem CM[DecidableEq α](h:∀x y,f (enc x) (enc y)=some (decide (x=y))):∀(xs ys:List α),n8 f (xs.map enc) (ys.map enc)=some (decide (xs=ys))
 |[],[]=>rfl
 |[],_::_=>by simp[n8]
 |_::_,[]=>by simp[n8]
 |x::xs,y::ys=>by
  rw[Zu,Zu];show (match f (enc x) (enc y),n8 f (xs.map enc) (ys.map enc) with | some b,some r=>some (b&&r) | _,_=>none)=_;rw[h,CM h xs ys];show some (decide (x=y)&&decide (xs=ys))=_;congr 1;by_cases h1:x=y<;>by_cases h2:xs=ys<;>simp[h1,h2]
theorem Gw:qI 1 cD:=λk a b=>by
 rw[adH];show (match iF k (.int (a.1:Int)) (.int (b.1:Int)),n8 (iF k) [.int (a.2:Int)] [.int (b.2:Int)] with | some b,some r=>some (b&&r) | _,_=>none)=_;rw[jv];show (match some ((a.1:Int)==(b.1:Int)),(match iF k (.int (a.2:Int)) (.int (b.2:Int)),n8 (iF k) [] [] with | some b,some r=>some (b&&r) | _,_=>none) with | some b,some r=>some (b&&r) | _,_=>none)=_;rw[jv];show some (((a.1:Int)==(b.1:Int))&&(((a.2:Int)==(b.2:Int))&&true))=_;rw[m6,m6,aeU];congr 1;obtain⟨a1,a2⟩:=a;obtain⟨b1,b2⟩:=b;by_cases h1:a1=b1<;>by_cases h2:a2=b2<;>simp[h1,h2]
theorem JY[DecidableEq α](h:qI n enc):qI (n+1) (λl:List α=> .lst (l.map enc)):=λk x y=>by
 rw[show n+1+k=(n+k)+1 by omega];exact CM (h k) x y
theorem JZ:qI 0 D.str:=λk x y=>by
 rw[J1];congr 1
theorem Na[DecidableEq α](h:qI n enc)(hn:n<=6)(x y:α):ik (enc x) (enc y)=ae (.bl (decide (x=y))):=by
 have:=h (6 - n) x y;rw[show n+(6 - n)=6 by omega] at this;unfold ik;rw[this]
theorem Gx[DecidableEq α](h:qI n enc)(hn:n<=6)(x y:α):qf (enc x) (enc y)=ae (.bl (!decide (x=y))):=by
 have:=h (6 - n) x y;rw[show n+(6 - n)=6 by omega] at this;unfold qf;rw[this]
abbrev cL(l:List Cell):D:= .lst (l.map cD)
theorem Q7(a b:Cell):qf (cD a) (cD b)=ae (.bl (!decide (a=b))):=Gx Gw (by decide) a b
def ic(c:Cell):List Int:=[(c.1:Int),(c.2:Int)]
def uO(a b:Cell):Bool:=if a.1=b.1 then decide (a.2<b.2) else decide (a.1<b.1)
def Kl(k:Cell):List Cell->List Cell
 |[]=>[k]
 |x::r=>if uO k x then k::x::r else x::Kl k r
def jk:List Cell->List Cell
 |[]=>[]
 |k::r=>Kl k (jk r)
theorem BA(a b:Cell):eW (ic a) (ic b)=uO a b:=by
 show (if (a.1:Int)=(b.1:Int) then(if (a.2:Int)=(b.2:Int) then false else decide ((a.2:Int)<(b.2:Int))) else decide ((a.1:Int)<(b.1:Int)))=_;unfold uO;by_cases h:a.1=b.1
 ·rw[agd h,agd (by omega)];by_cases h2:a.2=b.2
  ·rw[agd (by omega),h2];simp
  ·rw[age (by omega)];by_cases h3:a.2<b.2
   ·rw[agg h3,agg (by omega)]
   ·rw[agh h3,agh (by omega)]
 ·rw[age h,age (by omega)];by_cases h3:a.1<b.1
  ·rw[agg h3,agg (by omega)]
  ·rw[agh h3,agh (by omega)]
theorem G8(k:Cell):∀l:List Cell,insI (ic k) (l.map ic)=(Kl k l).map ic
 |[]=>rfl
 |x::r=>by
  rw[Zu];unfold insI Kl;rw[BA];cases uO k x with
  |true=>rfl
  |false=>rw[age (by decide),age (by decide),Zu,G8 k r]
theorem nS:∀l:List Cell,sortI (l.map ic)=(jk l).map ic
 |[]=>rfl
 |k::r=>by
  rw[Zu];unfold sortI jk;rw[nS r,G8]
theorem wG(h:ic a=ic b):a=b:=by
 unfold ic at h;injection h with h1 h2
 injection h2 with h2 _
 exact abx (adI h1) (adI h2)
theorem i9:x∈jk l↔x∈l:=by
 have h:=fG (x:=ic x) (l:=l.map ic);rw[nS] at h;constructor
 ·intro hx;obtain⟨y,hy,e⟩:=Zx.mp (h.mp (Zx.mpr ⟨x,hx,rfl⟩));rw[<-wG e];exact hy
 ·intro hx;obtain⟨y,hy,e⟩:=Zx.mp (h.mpr (Zx.mpr ⟨x,hx,rfl⟩));rw[<-wG e];exact hy
def RiseC(l:List Cell):Prop:=l.Pairwise λa b=>uO a b=true
theorem qH:vO (l.map ic)↔RiseC l:=by
 unfold vO RiseC;rw[aaX];constructor<;>intro h<;>refine abE ?_ h<;>intro a b q
 ·rw[<-BA];exact q
 ·rw[BA];exact q
theorem zN{l:List Cell}(h:l.Nodup):(l.map ic).Nodup:=by
 unfold aaj at h⊢;rw[aaX];exact abE (λh z=>h (wG z)) h
theorem mw{l:List Cell}(h:l.Nodup):RiseC (jk l):=by
 have:=jS (zN h);rw[nS] at this;exact qH.mp this
theorem vD(ha:RiseC a)(hb:RiseC b)(h:∀x,x∈a↔x∈b):a=b:=by
 have e:=kx (qH.mpr ha) (qH.mpr hb) λx=>by
  constructor
  ·intro hx;obtain⟨y,hy,rfl⟩:=Zx.mp hx;exact Zx.mpr ⟨y,(h y).mp hy,rfl⟩
  ·intro hx;obtain⟨y,hy,rfl⟩:=Zx.mp hx;exact Zx.mpr ⟨y,(h y).mpr hy,rfl⟩
 have inj:∀(a b:List Cell),a.map ic=b.map ic->a=b:=by
  intro a;induction a with
  |nil=>intro b h;cases b with
   |nil=>rfl
   |cons=>simp at h
  |cons x a ih=>intro b h;cases b with
   |nil=>simp at h
   |cons y b=>
    rw[Zu,Zu] at h;injection h with h1 h2
    rw[wG h1,ih b h2]
 exact inj a b e
theorem RiseC.nodup(h:RiseC l):l.Nodup:=by
 refine abE ?_ h;intro a b q z;subst z;unfold uO at q;rw[agd rfl] at q;have:=agi q;omega
theorem kU:∀ks:List Cell,fE (ks.map keyOf)=some (ks.map ic)
 |[]=>rfl
 |k::r=>by
  show (match u_ (keyOf k),fE (r.map keyOf) with | some x,some xs=>some (x::xs) | _,_=>none)=_;rw[kU r];rfl
theorem Mz{ks:List Cell}(h:ks.Nodup)(hl:ks.length<64):ei (ks.map ic)=true:=by
 unfold ei;rw[Zo,agg (zN h),agg hl];simp;intro a b _ z;cases z
theorem As(h:ks.Nodup)(hl:ks.length<64):vI [.dct (ks.map keyOf) ds]=ae (cL (jk ks)):=by
 show (match fE (ks.map keyOf) with | some ks=>if ei ks&&ks.all (λk=>decide (k.length<=lim)) then ae (D.lst ((sortI ks).map tupI)) else ag | none=>ag)=_;rw[kU];show (if ei (ks.map ic)&&(ks.map ic).all (λk=>decide (k.length<=lim)) then ae (D.lst ((sortI (ks.map ic)).map tupI)) else ag)=_;rw[Mz h hl];have:(ks.map ic).all (λk=>decide (k.length<=lim))=true:=by
  simp;intro a b _;show 2<=lim
  decide
 rw[this,aeU,agd rfl,nS,aap];rfl
def Cn(bd:List Str)(W w:Nat)(a b:Cell):Prop:=∃j,Rb (bH bd W w) a j b
theorem Cn.refl:Cn bd W w a a:=⟨0,rfl⟩
theorem BB(hw:Ways w)(ha:On bd.length W a)(h:b∈bH bd W w a):a∈bH bd W w b:=by
 obtain⟨h1,h2,h3⟩:=(gq hw).mp h;exact(gq hw).mpr ⟨ha,by rw[sm];exact h2,h3.symm⟩
theorem Ae(hw:Ways w)(ha:On bd.length W a):∀{j:Nat},Rb (bH bd W w) a j b->On bd.length W b
 |0,h=>by rw[show b=a from h];exact ha
 |j+1, .inl h=>Ae hw ha h
 |j+1, .inr ⟨y,_,hy⟩=>((gq hw).mp hy).1
theorem sQ(h:c∈bH bd W w a):∀{j:Nat},Rb (bH bd W w) c j b->Rb (bH bd W w) a (j+1) b
 |0,q=> .inr ⟨a,rfl,by rw[show b=c from q];exact h⟩
 |j+1, .inl q=> .inl (sQ h q)
 |j+1, .inr ⟨y,q,hy⟩=> .inr ⟨y,sQ h q,hy⟩
theorem xG(hw:Ways w)(ha:On bd.length W a):∀{j:Nat},Rb (bH bd W w) a j b->Rb (bH bd W w) b j a
 |0,h=>show a=b from(show b=a from h).symm
 |j+1, .inl h=> .inl (xG hw ha h)
 |j+1, .inr ⟨y,q,hy⟩=>sQ (BB hw (Ae hw ha q) hy) (xG hw ha q)
theorem sR(h:Rb (bH bd W w) a i b):∀{j:Nat},Rb (bH bd W w) b j c->Rb (bH bd W w) a (i+j) c
 |0,q=>by rw[show c=b from q];exact h
 |j+1, .inl q=> .inl (sR h q)
 |j+1, .inr ⟨y,q,hy⟩=> .inr ⟨y,sR h q,hy⟩
section
variable{bd:List Str}{W w:Nat}{a b c:Cell}
theorem Cn.on(hw:Ways w)(ha:On bd.length W a)(h:Cn bd W w a b):On bd.length W b:=let ⟨_,q⟩:=h;Ae hw ha q
theorem Cn.symm(hw:Ways w)(ha:On bd.length W a)(h:Cn bd W w a b):Cn bd W w b a:=let ⟨j,q⟩:=h;⟨j,xG hw ha q⟩
theorem Cn.trans(h:Cn bd W w a b)(h2:Cn bd W w b c):Cn bd W w a c:=let ⟨i,q⟩:=h;let ⟨j,r⟩:=h2;⟨i+j,sR q r⟩
theorem Cn.step(h:Cn bd W w a b)(h2:c∈bH bd W w b):Cn bd W w a c:=let ⟨j,q⟩:=h;⟨j+1, .inr ⟨b,q,h2⟩⟩
end
structure IsPatch (bd:List Str) (W w:Nat) (a:Cell) (P:List Cell):Prop where
 rise:RiseC P
 mem:∀x,x∈P↔Cn bd W w a x
theorem IsPatch.one(h:IsPatch bd W w a P)(h2:IsPatch bd W w a Q):P=Q:=vD h.rise h2.rise λx=>(h.mem x).trans (h2.mem x).symm
theorem qx{bd:List Str}{ks:List Cell}(hn:ks.Nodup)(gD:∀x∈ks,On bd.length W x):ks.length<=bd.length*W:=by
 rw[<-bh bd.length W];exact cN hn λx hx=>aG.mpr (gD x hx)
def Tb(w:Nat):List Cell->Bool
 |a::b::r=>jY w a b&&Tb w (b::r)
 |_=>true
abbrev wr(bd w a b k t:D):cJ:=[fz bd,fz w,fz a,fz b,fz k,fz t]
theorem eF(enc:α->D)(g:α->D):∀(xs:List α),(∀x∈xs,f (enc x)=ae (some (g x)))->d8 f (xs.map enc)=ae (xs.map g)
 |[],_=>rfl
 |x::xs,h=>by
  rw[Zu,cT,h x (Zq ..),av,eF enc g xs λy hy=>h y (Zp _ hy)];rfl
def cF(ks:List Cell)(c:Cell):List Cell:=if c∈ks then ks else ks++[c]
def bj(l:List Cell):List Cell:=l.foldl cF []
def aZ(ks:List Cell):List D:=ks.map λ_=> .bl true
theorem yA:x∈cF ks c↔x∈ks\/x=c:=by
 unfold cF;split
 ·rename_i h;exact⟨.inl,λq=>q.elim id λe=>by rw[e];exact h⟩
 ·simp
theorem lz:∀(l ks:List Cell),(ks.Nodup->(l.foldl cF ks).Nodup)/\(∀x,x∈l.foldl cF ks↔x∈ks\/x∈l)/\(l.foldl cF ks).length<=ks.length+l.length
 |[],ks=>⟨id,λx=>by simp,by simp⟩
 |c::l,ks=>by
  obtain⟨h1,h2,h3⟩:=lz l (cF ks c);refine⟨λhn=>h1 ?_,λx=>?_,?_⟩
  ·unfold cF;split
   ·exact hn
   ·rename_i hc;refine aaY.mpr ⟨hn,by simp,λy hy z hz e=>?_⟩;have hz:z=c:=by simpa using hz
    rw[e,hz] at hy;exact hc hy
  ·rw[abj,h2 x,yA];simp[or_assoc]
  ·rw[abj,Zz];have:(cF ks c).length<=ks.length+1:=by unfold cF;split<;>simp
   omega
theorem dG:x∈bj l↔x∈l:=by
 unfold bj;rw[(lz l []).2.1 x];simp
theorem m7(l:List Cell):(bj l).Nodup:=(lz l []).1 abH
theorem oD(l:List Cell):(bj l).length<=l.length:=by have:=(lz l []).2.2;simpa[bj] using this
theorem vC:∀{ks:List (List Key)}{l:List Cell},ks.length=l.length->lu ks (aZ l) k (.bl true)=aZ l
 |[],[],_=>rfl
 |k'::ks,c::l,h=>by
  show (if k'=k then D.bl true else D.bl true)::lu ks (aZ l) k (.bl true)=_;rw[vC (by simpa using h)];split<;>rfl
 |[],_::_,h=>by simp at h
 |_::_,[],h=>by simp at h
theorem IB(hl:ks.length<lim):jf (.dct (ks.map keyOf) (aZ ks)) (cD c) (.bl true)=some (.dct ((cF ks c).map keyOf) (aZ (cF ks c))):=by
 have T0:(aZ ks).length=ks.length:=by simp[aZ]
 unfold cF;by_cases h:c∈ks
 ·rw[agd h];show (match et (cD c) with | some kk=>if (aZ ks).length<lim then some (C.dct (dH (ks.map keyOf) (aZ ks) kk) (cX (ks.map keyOf) (aZ ks) kk (.bl true))) else none | none=>none)=_;rw[gU];show (if (aZ ks).length<lim then some (C.dct (dH (ks.map keyOf) (aZ ks) (keyOf c)) (cX (ks.map keyOf) (aZ ks) (keyOf c) (.bl true))) else none)=_;rw[agd (by rw[T0];exact hl)];obtain⟨d,e,_⟩:=lh T0.symm h;unfold dH cX;rw[e];show some (C.dct (ks.map keyOf) (lu (ks.map keyOf) (aZ ks) (keyOf c) (.bl true)))=_;rw[vC (by simp)]
 ·rw[age h,sO h (by rw[T0];exact hl)];simp[aZ]
abbrev rM(l:List Cell):D:= .dct ((bj l).map keyOf) (aZ (bj l))
theorem kW(hl:l.length<4000):fJ [cL l]=ae (rM l):=by
 have e:∀(xs ks:List Cell),ks.length+xs.length<4000->forL (putN 2) (bS [2] (ft 1 (dV 2) (dC (.bl true)))) (xs.map cD) [fz (cL l),some (.ow (.dct (ks.map keyOf) (aZ ks))),none]=ae (.nx [fz (cL l),some (.ow (.dct ((xs.foldl cF ks).map keyOf) (aZ (xs.foldl cF ks)))),none]):=by
  intro xs;induction xs with
  |nil=>intro ks _;rfl
  |cons x xs ih=>
   intro ks hk;rw[Zz] at hk;have hle:(cF ks x).length<=ks.length+1:=by unfold cF;split<;>simp
   refine(c_ rfl ?_).trans (ih (cF ks x) (by omega));refine(aP (ρ':=[fz (cL l),some (.ow (.dct ((cF ks x).map keyOf) (aZ (cF ks x)))),fz (cD x)]) ?_).trans rfl;show (match jf (.dct (ks.map keyOf) (aZ ks)) (cD x) (.bl true) with | some c'=>ae (Out.nx [fz (cL l),some (.ow c'),fz (cD x)]) | none=>ag)=_;rw[IB (by rw[cu];omega)]
 refine bf (ao rfl (ao (cz (cP rfl (e l [] (by simpa using hl)))) rfl))
theorem N_(l:List Cell):bO [cL l]=ae (.int (l.length:Int)):=by
 show ae (D.int ((l.map cD).length:Int))=_;rw[Zo]
theorem MZ(h:a.length+b.length<=4096):gS (cL a) (cL b)=ae (cL (a++b)):=by
 show (if (a.map cD).length+(b.map cD).length<=lim then ae (D.lst (a.map cD++b.map cD)) else ag)=_;rw[agd (by rw[Zo,Zo,cu];exact h),<-aaw]
def Ew(ks:List Cell)(f:Cell->D):C:= .dct (ks.map keyOf) (ks.map f)
def AV(ks:List Cell)(f:Cell->D):D:= .dct (ks.map keyOf) (ks.map f)
def fH(f:Cell->D)(x:Cell)(d:D):Cell->D:=λy=>if y=x then d else f y
theorem nV:∀{ks:List Cell},x∈ks->da (ks.map keyOf) (ks.map f) (keyOf x)=some (f x)
 |y::ks,h=>by
  show (if keyOf y=keyOf x then some (f y) else da (ks.map keyOf) (ks.map f) (keyOf x))=_;by_cases e:y=x
  ·subst e;rw[agd rfl]
  ·rw[age (λz=>e (iZ z))];rcases Zw.mp h with q | q
   ·exact agj q.symm e
   ·exact nV q
theorem rH(h:x∈ks):cZ (AV ks f) (cD x)=ae (f x):=by
 show (match ((et (cD x)).map λk=>da (ks.map keyOf) (ks.map f) k) with | some (some v)=>ae v | _=>ag)=_;rw[gU];show (match some (da (ks.map keyOf) (ks.map f) (keyOf x)) with | some (some v)=>ae v | _=>ag)=_;rw[nV h]
theorem Ka(h:x∈ks):getM (AV ks f) (cD x) v=ae (f x):=by
 show (match ((et (cD x)).map λk=>da (ks.map keyOf) (ks.map f) k) with | some (some x)=>ae x | some none=>ae v | none=>ag)=_;rw[gU];show (match some (da (ks.map keyOf) (ks.map f) (keyOf x)) with | some (some x)=>ae x | some none=>ae v | none=>ag)=_;rw[nV h]
theorem GP(h:x∉ks):getM (AV ks f) (cD x) v=ae v:=by
 show (match ((et (cD x)).map λk=>da (ks.map keyOf) (ks.map f) k) with | some (some x)=>ae x | some none=>ae v | none=>ag)=_;rw[gU];show (match some (da (ks.map keyOf) (ks.map f) (keyOf x)) with | some (some x)=>ae x | some none=>ae v | none=>ag)=_;rw[gu h]
theorem xJ:∀{ks:List Cell},lu (ks.map keyOf) (ks.map f) (keyOf x) d=ks.map (fH f x d)
 |[]=>rfl
 |y::ks=>by
  show (if keyOf y=keyOf x then d else f y)::lu (ks.map keyOf) (ks.map f) (keyOf x) d=_;rw[xJ,Zu];congr 1;unfold fH;by_cases e:y=x
  ·subst e;rw[agd rfl,agd rfl]
  ·rw[age (λz=>e (iZ z)),age e]
theorem Lk(hl:ks.length<lim):jf (Ew ks f) (cD x) d=some (Ew (cF ks x) (fH f x d)):=by
 show (match et (cD x) with | some kk=>if (ks.map f).length<lim then some (C.dct (dH (ks.map keyOf) (ks.map f) kk) (cX (ks.map keyOf) (ks.map f) kk d)) else none | none=>none)=_;rw[gU];show (if (ks.map f).length<lim then some (C.dct (dH (ks.map keyOf) (ks.map f) (keyOf x)) (cX (ks.map keyOf) (ks.map f) (keyOf x) d)) else none)=_;rw[agd (by rw[Zo];exact hl)];unfold Ew cF dH cX;by_cases h:x∈ks
 ·rw[nV h,agd h];show some (C.dct (ks.map keyOf) (lu (ks.map keyOf) (ks.map f) (keyOf x) d))=_;rw[xJ]
 ·rw[gu h,age h];show some (C.dct (ks.map keyOf++[keyOf x]) (ks.map f++[d]))=_;have e1:ks.map f=ks.map (fH f x d):=adN λy hy=>by
   unfold fH;rw[age (λz:y=x=>h (z▸hy))]
  have e2:(ks++[x]).map (fH f x d)=ks.map (fH f x d)++[d]:=by
   rw[aaw];congr 1;show [fH f x d x]=[d]
   unfold fH;rw[agd rfl]
  rw[aaw,e1,e2];rfl
theorem qG(h0:ρ[i]? =some (some (.ow (Ew ks f))))(hv:δv ρ=ae d)(hk:δk ρ=ae (cD x))(hl:ks.length<lim):
 ft i δk δv ρ=ae (.nx (ρ.set i (some (.ow (Ew (cF ks x) (fH f x d)))))):=by
 unfold ft xo;rw[h0];show (δv ρ>>=λv=>δk ρ>>=λk=>match jf (Ew ks f) k v with | some c'=>ae (Out.nx (ρ.set i (some (.ow c')))) | none=>ag)=_;rw[hv,av,hk,av,Lk hl]
theorem j8(hg:Wd bd W):dg [brd bd]=ae (cL (az bd.length W)):=by
 have h8:=hg.r8;have w8:=hg.w8;have hm:bd.length*W<=64:=aaL h8 w8;have yu:(ZX bd.length).flatMap (λr=>(dQ W r).map cD)=(az bd.length W).map cD:=by
  unfold az;rw[acz]
 have e:=dz (put:=putN 2) (body:=bS [2] (a_ 1 (d2 gS (dV 1) (bb 0 (λρ=>(aC (dA bO (aC (d2 a8 (dV 0) (dC (.int 0))) aN)) aN) ρ>>=dD) bC (dA aQ (aC (dV 3) (aC (dV 0) aN))))))) (λ(k:Nat)=>D.int (k:Int)) (λu8=>[fz (brd bd),fz (.lst u8),none]) (λr=>(dQ W r).map cD) (ZX bd.length) []
  (by rw[ZY,yu,Zo,bh];exact hm) λr hr u8 hB=>by
   refine⟨[fz (brd bd),fz (.lst u8),fz (.int (r:Int))],rfl,?_⟩;refine(aP (ρ':=[fz (brd bd),fz (.lst (u8++(dQ W r).map cD)),fz (.int (r:Int))]) ?_).trans rfl;have hc:bb 0 (λρ=>(aC (dA bO (aC (d2 a8 (dV 0) (dC (.int 0))) aN)) aN) ρ>>=dD) bC (dA aQ (aC (dV 3) (aC (dV 0) aN))) [fz (brd bd),fz (.lst u8),fz (.int (r:Int))]=ae (.lst ((dQ W r).map cD)):=by
    refine bu (B4 (hg.len0 rfl) (by omega)) ?_ (by simp[dQ,cu];omega);rw[show (dQ W r).map cD=(ZX W).map (λk=>cD (r,k)) by simp[dQ,aap]];exact eF (λ(k:Nat)=>D.int (k:Int)) (λk=>cD (r,k)) _ λk _=>rfl
   refine(aM ((aA rfl hc).trans ?_)).trans rfl;show (if u8.length+((dQ W r).map cD).length<=lim then ae (D.lst (u8++(dQ W r).map cD)) else ag)=_;rw[agd (by rw[ZA] at hB;rw[cu];omega)]
 rw[ZY,yu] at e;refine bf (ao rfl (ao (cz (cP (B4 (EV rfl) (by omega)) e)) ?_));rfl
def yH(R W w:Nat)(c:Cell)(d e:Int):Bool:=((decide (0<=(c.1:Int)+d)&&decide ((c.1:Int)+d<(R:Int)))&&(decide (0<=(c.2:Int)+e)&&decide ((c.2:Int)+e<(W:Int))))&&((!(d==0&&e==0))&&((w==8)||(d*e==0)))
def lT(R W w:Nat)(c:Cell)(d e:Int):List Cell:=if yH R W w c d e then [(((c.1:Int)+d).toNat,((c.2:Int)+e).toNat)] else []
def mB(R W w:Nat)(c:Cell):List Cell:=[-1,0,1].flatMap λd=>[-1,0,1].flatMap λe=>lT R W w c d e
theorem F4(R W w:Nat)(c:Cell)(d e:Int):(lT R W w c d e).length<=1:=by unfold lT;split<;>simp
theorem yI(R W w:Nat)(c:Cell):(mB R W w c).length<=9:=by
 have h:=F4 R W w c;simp only[mB,abf,List.flatMap_nil,ZA,Z_];have:=h (-1) (-1);have:=h (-1) 0;have:=h (-1) 1;have:=h 0 (-1);have:=h 0 0;have:=h 0 1;have:=h 1 (-1);have:=h 1 0;have:=h 1 1;omega
theorem qw(h:d.natAbs<=1):d∈[(-1:Int),0,1]:=by
 have:d= -1\/d=0\/d=1:=by omega
 rcases this with rfl | rfl | rfl<;>decide
theorem CB:∀d∈[(-1:Int),0,1],∀e∈[(-1:Int),0,1],∀w∈[4,8],((!(d==0&&e==0))&&((w==8)||(d*e==0)))=if w=4 then decide (d.natAbs+e.natAbs=1) else decide (max d.natAbs e.natAbs=1):=by decide
theorem CK{a x:Nat}(h:(x:Int)=a+d):fZ a x=d.natAbs:=by
 unfold fZ;rcases Nat.le_total a x with q | q
 ·rw[Nat.max_eq_right q,Nat.min_eq_left q];omega
 ·rw[Nat.max_eq_left q,Nat.min_eq_right q];omega
theorem qC{a1 a2 x1 x2:Nat}(h1:(x1:Int)=a1+d)(h2:(x2:Int)=a2+e):jY w (a1,a2) (x1,x2)=if w=4 then decide (d.natAbs+e.natAbs=1) else decide (max d.natAbs e.natAbs=1):=by
 show (if w=4 then decide (fZ a1 x1+fZ a2 x2=1) else decide (max (fZ a1 x1) (fZ a2 x2)=1))=_;rw[CK h1,CK h2]
theorem rV(hw:Ways w)(hc:On R W c):x∈mB R W w c↔On R W x/\jY w c x=true:=by
 obtain⟨c1,c2⟩:=c;obtain⟨x1,x2⟩:=x;have VL:c1<R:=hc.1;have GU:c2<W:=hc.2;have key:(x1,x2)∈mB R W w (c1,c2)↔∃d∈[(-1:Int),0,1],∃e∈[(-1:Int),0,1],yH R W w (c1,c2) d e=true/\(x1:Int)=c1+d/\(x2:Int)=c2+e:=by
  unfold mB lT;simp only[acy];constructor
  ·rintro⟨d,hd,e,he,h⟩;by_cases hb:yH R W w (c1,c2) d e=true
   ·rw[agd hb] at h;have zj:=hb;unfold yH at zj;simp only[ZM,agf] at zj;have h:=Z0.mp h;rw[aba] at h;exact⟨d,hd,e,he,hb,by omega,by omega⟩
   ·rw[age hb] at h;cases h
  ·rintro⟨d,hd,e,he,hb,h1,h2⟩;refine⟨d,hd,e,he,?_⟩;rw[agd hb];exact Z0.mpr (by rw[aba];exact⟨by omega,by omega⟩)
 rw[key];constructor
 ·rintro⟨d,hd,e,he,hb,h1,h2⟩;unfold yH at hb;rw[ZM] at hb;have h3:=hb.1;simp only[ZM,agf] at h3;refine⟨⟨show x1<R by omega,show x2<W by omega⟩,?_⟩;rw[qC h1 h2,<-CB d hd e he w (by rcases hw with rfl | rfl<;>decide)];exact hb.2
 ·rintro⟨⟨h1,h2⟩,h3⟩;have e1:(x1:Int)=c1+((x1:Int) - c1):=by omega
  have e2:(x2:Int)=c2+((x2:Int) - c2):=by omega
  rw[qC e1 e2] at h3;have hn:((x1:Int) - c1).natAbs<=1/\((x2:Int) - c2).natAbs<=1:=by
   rcases hw with rfl | rfl
   ·have:=agi h3;omega
   ·have:=agi h3;omega
  have m1:=qw hn.1;have m2:=qw hn.2;rw[<-CB _ m1 _ m2 w (by rcases hw with rfl | rfl<;>decide)] at h3;refine⟨_,m1,_,m2,?_,e1,e2⟩;unfold yH;rw[ZM];refine⟨?_,h3⟩;have h1:x1<R:=h1;have h2:x2<W:=h2;rw[<-e1,<-e2];simp only[ZM,agf];omega
section
variable{α:Type}[DecidableEq α]
theorem tF[DecidableEq β]{g:α->β}(hg:∀a b,g a=g b->a=b):∀{ks:List α}{ds:List D},da (ks.map g) ds (g x)=da ks ds x
 |[],ds=>by cases ds<;>rfl
 |k::ks,[]=>rfl
 |k::ks,d::ds=>by
  show (if g k=g x then some d else da (ks.map g) ds (g x))=if k=x then some d else da ks ds x
  by_cases e:k=x
  ·rw[agd (by rw[e]),agd e]
  ·rw[age (λz=>e (hg _ _ z)),age e,tF hg]
theorem yj{x:α}:∀{ks:List α}{ds:List D},x∉ks->da ks ds x=none
 |[],ds,_=>by cases ds<;>rfl
 |k::ks,[],_=>rfl
 |k::ks,d::ds,h=>by
  show (if k=x then some d else da ks ds x)=none;rw[age (λz:k=x=>h (z▸Zq)),yj λz=>h (Zp _ z)]
theorem AD:∀{ks:List α}{ds:List D},ks.length=ds.length->x∈ks->∃d,da ks ds x=some d/\(x,d)∈ks.zip ds
 |k::ks,d::ds,hl,h=>by
  by_cases e:k=x
  ·exact⟨d,by show (if k=x then some d else _)=_;rw[agd e],by rw[e];exact Zq⟩
  ·obtain⟨d',h1,h2⟩:=AD (ks:=ks) (by simpa using hl) ((Zw.mp h).resolve_left λz=>e z.symm);exact⟨d',by show (if k=x then some d else _)=_;rw[age e,h1],Zp _ h2⟩
 |k::ks,[],hl,h=>by simp at hl
structure KOk (enc:α->D) (mk:List α->List D->C):Prop where
 at':∀ks ds x,Cy (mk ks ds).d (enc x)=some (da ks ds x)
 put:∀ks ds x d,x∉ks->ds.length<lim->jf (mk ks ds) (enc x) d=some (mk (ks++[x]) (ds++[d]))
 Zk:∀x,orM (pb (enc x) (.int 0)) (q_ (enc x) (.int 0))=ae (mk [x] [.int 0])
def nI(n:Nat):D:= .int (n:Int)
variable{enc:α->D}{mk:List α->List D->C}
theorem KOk.get(k:KOk enc mk){x:α}(hl:ks.length=ds.length):(x∈ks->∃d,(x,d)∈ks.zip ds/\getM (mk ks ds).d (enc x) v=ae d)/\(x∉ks->getM (mk ks ds).d (enc x) v=ae v):=by
 unfold getM;rw[k.at'];constructor
 ·intro h;obtain⟨d,e,h2⟩:=AD hl h;exact⟨d,h2,by rw[e]⟩
 ·intro h;rw[yj h]
theorem Ll{ρ:cJ}(h0:ρ[i]? =some (some (.ow c)))(hv:δv ρ=ae d)(hk:δk ρ=ae k)(hp:jf c k d=some c'):ft i δk δv ρ=ae (.nx (ρ.set i (some (.ow c')))):=by
 unfold ft xo;rw[h0];show (δv ρ>>=λv=>δk ρ>>=λk=>match jf c k v with | some c'=>ae (Out.nx (ρ.set i (some (.ow c')))) | none=>ag)=_;rw[hv,av,hk,av,hp]
end
theorem KG(a b c d:Int):qf (.tup [.int a, .int b]) (.tup [.int c, .int d])=ae (.bl (!(a==c&&b==d))):=by
 show (match iF 6 (.tup [.int a, .int b]) (.tup [.int c, .int d]) with | some b=>ae (D.bl (!b)) | none=>ag)=_;have:iF 6 (.tup [.int a, .int b]) (.tup [.int c, .int d])=some (a==c&&b==d):=by
  rw[show (6:Nat)=5+1 from rfl,J2];unfold n8;rw[jv];cases h:(a==c)
  ·rfl
  ·unfold n8;rw[jv];cases h2:(b==d)
   ·rfl
   ·rfl
 rw[this]
theorem JM(hg:Wd bd W)(hd:d∈[(-1:Int),0,1])(he:e∈[(-1:Int),0,1])(hl:(u8++(lT bd.length W w c d e).map cD).length<=64):
 F_ [fz (brd bd),fz (cD c),fz (iW w),some (.ow (.lst u8)),fz (.int d),fz (.int e),none,none,none]=ae (.nx [fz (brd bd),fz (cD c),fz (iW w),some (.ow (.lst (u8++(lT bd.length W w c d e).map cD))),fz (.int d),none,none,none,none]):=by
 have jz:fY (AS (λi j=>decide (i<=j)) (λi j=>decide (i<j)) (dC (.int 0)) (dV 6) (dA bO (aC (dV 0) aN))) (AS (λi j=>decide (i<=j)) (λi j=>decide (i<j)) (dC (.int 0)) (dV 7) (dA bO (aC (d2 a8 (dV 0) (dC (.int 0))) aN))) [fz (brd bd),fz (cD c),fz (iW w),some (.ow (.lst u8)),fz (.int d),fz (.int e),fz (.int ((c.1:Int)+d)),fz (.int ((c.2:Int)+e)),none]=
  ae (.bl ((decide (0<=(c.1:Int)+d)&&decide ((c.1:Int)+d<(bd.length:Int)))&&(decide (0<=(c.2:Int)+e)&&decide ((c.2:Int)+e<(W:Int))))):=JR (PY rfl (EV rfl)) (PY rfl (hg.len0 rfl))
 have VW: -(2:Int) ^ 64<d/\d<2 ^ 64:=by
  simp only[Zw,Z7,or_false] at hd;rcases hd with rfl | rfl | rfl<;>decide
 have ht:∀{b8:Bool},lY (c8 (dV 8)) (lY (cI (d2 qf (dA aQ (aC (dV 4) (aC (dV 5) aN))) (dA aQ (aC (dC (.int 0)) (aC (dC (.int 0)) aN))))) (oq (cI (d2 ik (dV 2) (dC (.int 8)))) (cI (d2 ik (d2 jy (dV 4) (dV 5)) (dC (.int 0)))))) [fz (brd bd),fz (cD c),fz (iW w),some (.ow (.lst u8)),fz (.int d),fz (.int e),fz (.int ((c.1:Int)+d)),fz (.int ((c.2:Int)+e)),fz (.bl b8)]=
  ae (b8&&((!(d==0&&e==0))&&((w==8)||(d*e==0)))):=λ{b8}=>
  qW (gy rfl) (qW (el ((aA rfl rfl).trans (KG ..))) (uR (el ((aA rfl rfl).trans ((eq_int _ _).trans (by rw[show ((w:Int)==8)=(w==8) from m6 w 8])))) (el ((aA ((aA rfl rfl).trans (gB (.inl VW))) rfl).trans (eq_int _ _)))))
 have pre:∀{ρ':cJ},gK (lY (c8 (dV 8)) (lY (cI (d2 qf (dA aQ (aC (dV 4) (aC (dV 5) aN))) (dA aQ (aC (dC (.int 0)) (aC (dC (.int 0)) aN))))) (oq (cI (d2 ik (dV 2) (dC (.int 8)))) (cI (d2 ik (d2 jy (dV 4) (dV 5)) (dC (.int 0))))))) (nN 3 (dA aQ (aC (dV 6) (aC (dV 7) aN)))) dr [fz (brd bd),fz (cD c),fz (iW w),some (.ow (.lst u8)),fz (.int d),fz (.int e),fz (.int ((c.1:Int)+d)),fz (.int ((c.2:Int)+e)),fz (.bl ((decide (0<=(c.1:Int)+d)&&decide ((c.1:Int)+d<(bd.length:Int)))&&(decide (0<=(c.2:Int)+e)&&decide ((c.2:Int)+e<(W:Int)))))]=ae (.nx ρ')->
  F_ [fz (brd bd),fz (cD c),fz (iW w),some (.ow (.lst u8)),fz (.int d),fz (.int e),none,none,none]=ae (.nx (fgt [5,6,7,8] ρ')):=λ{ρ'} h=>
  aP (ao rfl
   (ao rfl (ao ((aM jz).trans rfl) h)))
 have Jv:yH bd.length W w c d e=(((decide (0<=(c.1:Int)+d)&&decide ((c.1:Int)+d<(bd.length:Int)))&&(decide (0<=(c.2:Int)+e)&&decide ((c.2:Int)+e<(W:Int))))&&((!(d==0&&e==0))&&((w==8)||(d*e==0)))):=rfl;have ht:=ht (b8:=(decide (0<=(c.1:Int)+d)&&decide ((c.1:Int)+d<(bd.length:Int)))&&(decide (0<=(c.2:Int)+e)&&decide ((c.2:Int)+e<(W:Int))));rw[<-Jv] at ht;by_cases hb:yH bd.length W w c d e=true
 ·have zj:=hb;rw[Jv] at zj;simp only[ZM,agf] at zj;have eg:(lT bd.length W w c d e).map cD=[.tup [.int ((c.1:Int)+d), .int ((c.2:Int)+e)]]:=by
   unfold lT;rw[agd hb];show [D.tup [.int ((((c.1:Int)+d).toNat:Nat):Int), .int ((((c.2:Int)+e).toNat:Nat):Int)]]=_;rw[adV (by omega),adV (by omega)]
  rw[eg] at hl⊢;rw[hb] at ht;refine(pre (ρ':=[fz (brd bd),fz (cD c),fz (iW w),some (.ow (.lst (u8++[.tup [.int ((c.1:Int)+d), .int ((c.2:Int)+e)]]))),fz (.int d),fz (.int e),fz (.int ((c.1:Int)+d)),fz (.int ((c.2:Int)+e)),fz (.bl ((decide (0<=(c.1:Int)+d)&&decide ((c.1:Int)+d<(bd.length:Int)))&&(decide (0<=(c.2:Int)+e)&&decide ((c.2:Int)+e<(W:Int)))))]) (eB ht ?_)).trans rfl;show (if u8.length<lim then ae (Out.nx [fz (brd bd),fz (cD c),fz (iW w),some (.ow (.lst (u8++[.tup [.int ((c.1:Int)+d), .int ((c.2:Int)+e)]]))),fz (.int d),fz (.int e),fz (.int ((c.1:Int)+d)),fz (.int ((c.2:Int)+e)),_]) else ag)=_;rw[agd (by rw[ZA] at hl;rw[cu];simp at hl;omega)]
 ·have eg:(lT bd.length W w c d e).map cD=[]:=by
   unfold lT;rw[age hb];rfl
  rw[eg,Z_];rw[ac7.mpr hb] at ht;exact(pre (dE ht rfl)).trans rfl
theorem wR{W w:Nat}(hg:Wd bd W):dX [brd bd,cD c,iW w]=ae (cL (mB bd.length W w c)):=by
 have jz:∀d∈[(-1:Int),0,1],∀u8:List D,(u8++([(-1:Int),0,1].flatMap λe=>(lT bd.length W w c d e).map cD)).length<=64->
  forL (putN 5) F_ ([(-1:Int),0,1].map D.int) [fz (brd bd),fz (cD c),fz (iW w),some (.ow (.lst u8)),fz (.int d),none,none,none,none]=
   ae (.nx [fz (brd bd),fz (cD c),fz (iW w),some (.ow (.lst (u8++([(-1:Int),0,1].flatMap λe=>(lT bd.length W w c d e).map cD)))),fz (.int d),none,none,none,none]):=λd hd u8 hl=>
  dz D.int (λu8=>[fz (brd bd),fz (cD c),fz (iW w),some (.ow (.lst u8)),fz (.int d),none,none,none,none]) (λe=>(lT bd.length W w c d e).map cD) [(-1:Int),0,1] u8 hl λe he Ta zl=>⟨_,rfl,JM hg hd he zl⟩
 have yu:([(-1:Int),0,1].flatMap λd=>[(-1:Int),0,1].flatMap λe=>(lT bd.length W w c d e).map cD)=(mB bd.length W w c).map cD:=by
  unfold mB;simp only[acz]
 have QG:=dz (put:=putN 4) (body:=bS [4,5,6,7,8] (cw (putN 5) (lj (dA aQ (aC (d1 gJ (dC (.int 1))) (aC (dC (.int 0)) (aC (dC (.int 1)) aN))))) F_)) D.int (λu8=>[fz (brd bd),fz (cD c),fz (iW w),some (.ow (.lst u8)),none,none,none,none,none]) (λd=>[(-1:Int),0,1].flatMap λe=>(lT bd.length W w c d e).map cD) [(-1:Int),0,1] []
  (by rw[ZY,yu,Zo];have:=yI bd.length W w c;omega) λd hd u8 hl=>⟨_,rfl,(aP (cP rfl (jz d hd u8 hl))).trans rfl⟩
 rw[ZY,yu] at QG;refine bf (ao rfl (ao (cz (cP rfl QG)) ?_));rfl
theorem IW(hg:Wd bd W)(hx:On bd.length W x)(hb:dV b ρ=ae (brd bd))(hi:dV i ρ=ae (cD x)):d2 iQ (d2 a8 (dV b) (d2 a8 (dV i) (dC (.int 0)))) (d2 a8 (dV i) (dC (.int 1))) ρ=ae (sg (lt bd x)):=by
 have h1:d2 a8 (dV i) (dC (.int 0)) ρ=ae (.int (x.1:Int)):=(aA hi rfl).trans QX.1;have h2:d2 a8 (dV i) (dC (.int 1)) ρ=ae (.int (x.2:Int)):=(aA hi rfl).trans QX.2;refine(aA ((aA hb h1).trans (Hg hx.1)) h2).trans (D2 ?_);rw[(hg.rows _ (getD_mem hx.1)).len];exact hx.2
theorem Hs(a b:Cell):HT.lexLt (ic a) (ic b)=uO a b:=by
 show (if (a.1:Int)=(b.1:Int) then(if (a.2:Int)=(b.2:Int) then false else decide ((a.2:Int)<(b.2:Int))) else decide ((a.1:Int)<(b.1:Int)))=_;unfold uO;by_cases h1:a.1=b.1
 ·rw[agd (by omega),agd h1];by_cases h2:a.2=b.2
  ·rw[agd (by omega),agh (by omega)]
  ·rw[age (by omega),agm];omega
 ·rw[age (by omega),age h1,agm];omega
theorem Hu(a b:Cell):Ob (cD a) (cD b)=some (uO a b):=by
 show some (HT.lexLt (ic a) (ic b))=_;rw[Hs]
theorem J9(a b:Cell):tY (cD a) (cD b)=ae (.bl (uO a b)):=by
 unfold tY;rw[Hu]
def cG(a b:Cell):Cell:=if uO b a then b else a
theorem KC(a b:Cell):zH [cD a,cD b]=ae (cD (cG a b)):=by
 show (match Ob (cD b) (cD a) with | some r=>ae (if r then cD b else cD a) | none=>ag)=_;rw[Hu];unfold cG;cases uO b a<;>rfl
def rank(W:Nat)(x:Cell):Nat:=x.1*W+x.2
theorem dJ(ha:On R W a)(hb:On R W b):uO a b=true↔rank W a<rank W b:=by
 unfold uO rank;have h1:=ha.2;have h2:=hb.2;by_cases h:a.1=b.1
 ·rw[agd h,agf,h];omega
 ·rw[age h,agf];constructor
  ·intro q;have:(a.1+1)*W<=b.1*W:=ab2 _ q;rw[afV,afT] at this;omega
  ·intro q;refine aav λz=>?_;have:(b.1+1)*W<=a.1*W:=ab2 _ (by omega);rw[afV,afT] at this;omega
theorem kr(ha:On R W a)(hb:On R W b)(h:rank W a=rank W b):a=b:=by
 have n1:¬uO a b=true:=λz=>by have:=(dJ ha hb).mp z;omega
 have n2:¬uO b a=true:=λz=>by have:=(dJ hb ha).mp z;omega
 unfold uO at n1 n2;obtain⟨a1,a2⟩:=a;obtain⟨b1,b2⟩:=b;simp only at n1 n2;by_cases h1:a1=b1
 ·rw[agd h1,agf] at n1;rw[agd h1.symm,agf] at n2;rw[aba];exact⟨h1,by omega⟩
 ·rw[age h1,agf] at n1;rw[age (aaz h1),agf] at n2;omega
theorem Lo(ha:On R W a):rank W a<R*W:=by
 unfold rank;have:(a.1+1)*W<=R*W:=ab2 _ ha.1;rw[afV,afT] at this;have:=ha.2;omega
theorem E2(a b:Cell):cG a b=a\/cG a b=b:=by unfold cG;split;exact .inr rfl;exact .inl rfl
theorem EZ(ha:On R W a)(hb:On R W b):rank W (cG a b)<=rank W a/\rank W (cG a b)<=rank W b:=by
 unfold cG;by_cases h:uO b a=true
 ·rw[agd h];have:=(dJ hb ha).mp h;omega
 ·rw[age h];have:¬rank W b<rank W a:=λz=>h ((dJ hb ha).mpr z);omega
theorem Cb{f g:α->Nat}:∀{l:List α},(∀x∈l,f x<=g x)->(l.map f).sum<=(l.map g).sum
 |[],_=>Zv _
 |a::l,h=>by
  rw[Zu,Zu,aaS,aaS];exact Nat.add_le_add (h a (Zq ..)) (Cb λx hx=>h x (Zp _ hx))
theorem Jf{f g:α->Nat}:∀{l:List α},(∀x∈l,f x<=g x)->(∃x∈l,f x<g x)->(l.map f).sum<(l.map g).sum
 |[],_,⟨x,hx,_⟩=>by cases hx
 |a::l,h,⟨x,hx,hl⟩=>by
  rw[Zu,Zu,aaS,aaS];have h1:=h a (Zq ..);have h2:=Cb λx hx=>h x (Zp _ hx);rcases Zw.mp hx with rfl | hx
  ·omega
  ·have:=Jf (λx hx=>h x (Zp _ hx)) ⟨x,hx,hl⟩;omega
section
variable{bd:List Str}{W w:Nat}
def d9(s:(Cell->Cell)×Bool)(p:Cell×Cell):(Cell->Cell)×Bool:=
 if s.1 p.1=s.1 p.2 then s else(λz=>if z=p.2 then cG (s.1 p.1) (s.1 p.2) else if z=p.1 then cG (s.1 p.1) (s.1 p.2) else s.1 z,true)
structure Lab (bd:List Str) (W w:Nat) (L:Cell->Cell):Prop where
 on:∀x,On bd.length W x->On bd.length W (L x)
 cn:∀x,On bd.length W x->Cn bd W w x (L x)
 le:∀x,On bd.length W x->rank W (L x)<=rank W x
def mu(R W:Nat)(L:Cell->Cell):Nat:=((az R W).map λx=>rank W (L x)).sum
def AX(bd:List Str)(W w:Nat)(p:Cell×Cell):Prop:=On bd.length W p.1/\On bd.length W p.2/\Cn bd W w p.1 p.2
theorem zG(hw:Ways w){p:Cell×Cell}(hp:AX bd W w p)(h:Lab bd W w s.1):
 Lab bd W w (d9 s p).1/\mu bd.length W (d9 s p).1<=mu bd.length W s.1/\((d9 s p).2=s.2/\(d9 s p).1=s.1/\s.1 p.1=s.1 p.2\/(d9 s p).2=true/\mu bd.length W (d9 s p).1<mu bd.length W s.1):=by
 obtain⟨h1,h2,h3⟩:=hp;unfold d9;by_cases e:s.1 p.1=s.1 p.2
 ·rw[agd e];exact⟨h,Zv _, .inl ⟨rfl,rfl,e⟩⟩
 ·rw[age e];have o1:=h.on _ h1;have o2:=h.on _ h2;have hle:=EZ o1 o2;have V5:=E2 (s.1 p.1) (s.1 p.2);have gD:On bd.length W (cG (s.1 p.1) (s.1 p.2)):=by rcases V5 with q | q<;>rw[q]<;>assumption
  have c1:Cn bd W w p.1 (cG (s.1 p.1) (s.1 p.2)):=by
   rcases V5 with q | q<;>rw[q]
   ·exact h.cn _ h1
   ·exact h3.trans (h.cn _ h2)
  have c2:Cn bd W w p.2 (cG (s.1 p.1) (s.1 p.2)):=(h3.symm hw h1).trans c1;have Wm:∀z,On bd.length W z->rank W (if z=p.2 then cG (s.1 p.1) (s.1 p.2) else if z=p.1 then cG (s.1 p.1) (s.1 p.2) else s.1 z)<=rank W (s.1 z):=λz hz=>by
   by_cases z1:z=p.2
   ·rw[agd z1,z1];exact hle.2
   ·rw[age z1];by_cases z2:z=p.1
    ·rw[agd z2,z2];exact hle.1
    ·rw[age z2];exact Zv _
  have lt':mu bd.length W (λz=>if z=p.2 then cG (s.1 p.1) (s.1 p.2) else if z=p.1 then cG (s.1 p.1) (s.1 p.2) else s.1 z)<mu bd.length W s.1:=by
   refine Jf (λx hx=>Wm x (aG.mp hx)) ?_;have iV:rank W (s.1 p.1)≠rank W (s.1 p.2):=λz=>e (kr o1 o2 z);by_cases q:rank W (s.1 p.1)<rank W (s.1 p.2)
   ·refine⟨p.2,aG.mpr h2,?_⟩;show rank W (if p.2=p.2 then _ else _)<_;rw[agd rfl];omega
   ·refine⟨p.1,aG.mpr h1,?_⟩;by_cases q2:p.1=p.2
    ·rw[q2] at iV;exact agj rfl iV
    ·show rank W (if p.1=p.2 then _ else if p.1=p.1 then _ else _)<_;rw[age q2,agd rfl];omega
  refine⟨⟨λx hx=>?_,λx hx=>?_,λx hx=>Z2 (Wm x hx) (h.le x hx)⟩,aa5 lt', .inr ⟨rfl,lt'⟩⟩
  ·show On _ _ (if x=p.2 then _ else if x=p.1 then _ else s.1 x);split
   ·exact gD
   ·split
    ·exact gD
    ·exact h.on x hx
  ·show Cn _ _ _ _ (if x=p.2 then _ else if x=p.1 then _ else s.1 x);by_cases z1:x=p.2
   ·rw[agd z1,z1];exact c2
   ·rw[age z1];by_cases z2:x=p.1
    ·rw[agd z2,z2];exact c1
    ·rw[age z2];exact h.cn x hx
theorem Mv(hw:Ways w):∀(ps:List (Cell×Cell)) (s:(Cell->Cell)×Bool),(∀p∈ps,AX bd W w p)->Lab bd W w s.1->
 Lab bd W w (ps.foldl d9 s).1/\mu bd.length W (ps.foldl d9 s).1<=mu bd.length W s.1/\((ps.foldl d9 s).2=s.2/\(ps.foldl d9 s).1=s.1/\(∀p∈ps,s.1 p.1=s.1 p.2)\/(ps.foldl d9 s).2=true/\mu bd.length W (ps.foldl d9 s).1<mu bd.length W s.1)
 |[],s,_,h=>⟨h,Zv _, .inl ⟨rfl,rfl,λp hp=>by cases hp⟩⟩
 |p::ps,s,hp,h=>by
  obtain⟨a1,a2,a3⟩:=zG hw (hp p (Zq ..)) h;obtain⟨b1,b2,b3⟩:=Mv hw ps (d9 s p) (λq hq=>hp q (Zp _ hq)) a1;rw[abj];refine⟨b1,Z2 b2 a2,?_⟩;rcases b3 with⟨c1,c2,c3⟩ | ⟨c1,c2⟩
  ·rcases a3 with⟨d1,d2,d3⟩ | ⟨d1,d2⟩
   ·refine .inl ⟨c1.trans d1,c2.trans d2,λq hq=>?_⟩;rcases Zw.mp hq with rfl | hq
    ·exact d3
    ·rw[<-d2];exact c3 q hq
   ·exact .inr ⟨c1.trans d1,by rw[c2];exact d2⟩
  ·exact .inr ⟨c1,aaa c2 a2⟩
def pD(p:Cell×Cell):D:= .tup [cD p.1,cD p.2]
def Kv(bd:List Str)(W w:Nat)(ps:List (Cell×Cell))(s:(Cell->Cell)×Bool)(x8 x9 Pl:Option Sl):cJ:=[fz (brd bd),fz (iW w),some (.ow (Ew (az bd.length W) λx=>cD (s.1 x))),fz (.lst (ps.map pD)),none,none,none,fz (.bl s.2),x8,x9,Pl]
theorem vP(h:x∈ks):cF ks x=ks:=agd h
theorem Kx(hg:Wd bd W)(h1:On bd.length W p.1)(h2:On bd.length W p.2):
 Wl (Kv bd W w ps s (fz (cD p.1)) (fz (cD p.2)) none)=ae (.nx (Kv bd W w ps (d9 s p) none none none)):=by
 have hm:bd.length*W<=64:=aaL hg.r8 hg.w8;have Bo:(az bd.length W).length<lim:=by rw[bh,cu];omega
 have m1:=aG.mpr h1;have m2:=aG.mpr h2;have i1:∀{Pl:Option Sl},d2 cZ (dV 2) (dV 8) (rj (Kv bd W w ps s (fz (cD p.1)) (fz (cD p.2)) Pl))=ae (cD (s.1 p.1)):=(aA (y:=cD p.1) rfl rfl).trans (rH m1);have i2:∀{Pl:Option Sl},d2 cZ (dV 2) (dV 9) (rj (Kv bd W w ps s (fz (cD p.1)) (fz (cD p.2)) Pl))=ae (cD (s.1 p.2)):=(aA (y:=cD p.2) rfl rfl).trans (rH m2);have ht:FD (cI (d2 qf (d2 cZ (dV 2) (dV 8)) (d2 cZ (dV 2) (dV 9)))) (Kv bd W w ps s (fz (cD p.1)) (fz (cD p.2)) none)=ae (!decide (s.1 p.1=s.1 p.2)):=vK (el ((aA i1 i2).trans (Q7 _ _)));unfold d9;by_cases e:s.1 p.1=s.1 p.2
 ·rw[agg e] at ht;rw[agd e];exact(aP (dE ht rfl)).trans rfl
 ·rw[agh e] at ht;rw[age e];have TX:M4 (dA zH (aC (d2 cZ (dV 2) (dV 8)) (aC (d2 cZ (dV 2) (dV 9)) aN))) (Kv bd W w ps s (fz (cD p.1)) (fz (cD p.2)) none)=ae (cD (cG (s.1 p.1) (s.1 p.2))):=
   Gm ((cx (a7 i1 (a7 i2 rfl))).trans (KC _ _)) (J7 _)
  refine(aP (eB ht (ao ((aM TX).trans rfl) (ao ((qG rfl rfl rfl Bo).trans rfl) (ao ((qG rfl rfl rfl (by rw[vP m1];exact Bo)).trans rfl) rfl))))).trans ?_;rw[vP m1,vP m2];unfold Kv;have ef:fH (fH (λx=>cD (s.1 x)) p.1 (cD (cG (s.1 p.1) (s.1 p.2)))) p.2 (cD (cG (s.1 p.1) (s.1 p.2)))=λx=>cD (if x=p.2 then cG (s.1 p.1) (s.1 p.2) else if x=p.1 then cG (s.1 p.1) (s.1 p.2) else s.1 x):=by
   funext x;unfold fH;by_cases z1:x=p.2
   ·rw[agd z1,agd z1]
   ·rw[age z1,age z1];by_cases z2:x=p.1
    ·rw[agd z2,agd z2]
    ·rw[age z2,age z2]
  rw[ef];rfl
end
abbrev IC:=Int×Int
def iD(p:IC):D:= .tup [.int p.1, .int p.2]
def kI(p:IC):List Key:=[.inl p.1, .inl p.2]
theorem rJ(a b:IC)(h:kI a=kI b):a=b:=by
 obtain⟨a1,a2⟩:=a;obtain⟨b1,b2⟩:=b;unfold kI at h;injection h with h1 h2
 injection h2 with h2 _
 cases h1;cases h2;rfl
def P7(ks:List IC)(f:IC->D):C:= .dct (ks.map kI) (ks.map f)
def Ex(ks:List IC)(f:IC->D):D:= .dct (ks.map kI) (ks.map f)
theorem AB[DecidableEq α]:∀{ks:List α},x∈ks->da ks (ks.map f) x=some (f x)
 |y::ks,h=>by
  show (if y=x then some (f y) else da ks (ks.map f) x)=_;by_cases e:y=x
  ·rw[agd e,e]
  ·rw[age e];exact AB ((Zw.mp h).resolve_left λz=>e z.symm)
theorem Ci{ks:List IC}(h:x∈ks):da (ks.map kI) (ks.map f) (kI x)=some (f x):=(tF rJ).trans (AB h)
theorem zv{ks:List IC}(h:x∈ks):cZ (Ex ks f) (iD x)=ae (f x):=by
 show (match some (da (ks.map kI) (ks.map f) (kI x)) with | some (some v)=>ae v | _=>ag)=_;rw[Ci h]
theorem QV{ks:List IC}:iO false (iD x) (Ex ks f)=ae (.bl (decide (x∈ks))):=by
 unfold iO;rw[show Cy (Ex ks f) (iD x)=some (da (ks.map kI) (ks.map f) (kI x)) from rfl];by_cases h:x∈ks
 ·rw[Ci h,agg h];rfl
 ·rw[tF rJ,yj h,agh h];rfl
def nT(l:IC->IC)(x y:IC):IC->IC:=λz=>if z=x then y else l z
theorem IJ:∀{ks:List IC},lu (ks.map kI) (ks.map λz=>iD (l z)) (kI x) (iD y)=ks.map λz=>iD (nT l x y z)
 |[]=>rfl
 |z::ks=>by
  show (if kI z=kI x then iD y else iD (l z))::lu (ks.map kI) (ks.map λz=>iD (l z)) (kI x) (iD y)=_;rw[IJ,Zu];congr 1;unfold nT;by_cases e:z=x
  ·rw[e,agd rfl,agd rfl]
  ·rw[age (λq=>e (rJ _ _ q)),age e]
theorem OW(h:x∈ks)(hl:ks.length<lim):jf (P7 ks λz=>iD (l z)) (iD x) (iD y)=some (P7 ks λz=>iD (nT l x y z)):=by
 show (if (ks.map λz=>iD (l z)).length<lim then some (C.dct (dH (ks.map kI) (ks.map λz=>iD (l z)) (kI x)) (cX (ks.map kI) (ks.map λz=>iD (l z)) (kI x) (iD y))) else none)=_;rw[agd (by rw[Zo];exact hl)];unfold P7 dH cX;rw[Ci h];show some (C.dct (ks.map kI) (lu (ks.map kI) (ks.map λz=>iD (l z)) (kI x) (iD y)))=_;rw[IJ]
def qk(W:Nat)(p:IC):Nat:=((p.1+1)*(W+2)+(p.2+1)).toNat
def AR(R W:Nat)(p:IC):Prop:= -1<=p.1/\p.1<=R/\ -1<=p.2/\p.2<=W
def ltI(a b:IC):Bool:=decide (a.1<b.1)||(decide (a.1=b.1)&&decide (a.2<b.2))
inductive Cc (U:List IC) (E:IC->IC->Prop) (a:IC):IC->Prop
 |refl:Cc U E a a
 |step {y x:IC}:Cc U E a y->y∈U->x∈U->E y x->Cc U E a x
section
variable{U:List IC}{E:IC->IC->Prop}{a b c:IC}
theorem Cc.trans(h:Cc U E a b)(h2:Cc U E b c):Cc U E a c:=by
 induction h2 with
 |refl=>exact h
 |step _ h1 h2 e ih=>exact .step ih h1 h2 e
theorem Cc.symm(hs:∀x y,E x y->E y x)(h:Cc U E a b):Cc U E b a:=by
 induction h with
 |refl=>exact .refl
 |step _ h1 h2 e ih=>exact(Cc.step .refl h2 h1 (hs _ _ e)).trans ih
structure Lb (W:Nat) (U:List IC) (E:IC->IC->Prop) (l:IC->IC):Prop where
 inn:∀x∈U,l x∈U
 cn:∀x∈U,Cc U E (l x) x
 le:∀x∈U,qk W (l x)<=qk W x
def Jq(W:Nat)(U:List IC)(E:IC->IC->Prop)(l:IC->IC):Prop:=∀x∈U,∀y∈U,E x y->¬qk W (l y)<qk W (l x)
theorem Lb.eq(h:Lb W U E l)(qA:Jq W U E l)(hs:∀x y,E x y->E y x)(hi:∀x∈U,∀y∈U,qk W x=qk W y->x=y)(hx:x∈U)(hy:y∈U):l x=l y↔Cc U E x y:=by
 constructor
 ·intro e;exact((h.cn x hx).symm hs).trans (e▸h.cn y hy)
 ·intro q;have:∀{z:IC},Cc U E x z->z∈U->l x=l z:=λ{z} q=>by
   induction q with
   |refl=>exact λ_=>rfl
   | @step u v _ h1 h2 e ih=>
     intro hv;refine(ih h1).trans (hi _ (h.inn u h1) _ (h.inn v hv) ?_);have n1:=qA u h1 v hv e;have n2:=qA v hv u h1 (hs _ _ e);omega
  exact this q hy
theorem Lb.low(h:Lb W U E l)(hs:∀x y,E x y->E y x)(hx:x∈U)(hy:y∈U)(e:E x y)(dO:qk W (l y)<qk W (l x)):Lb W U E (nT l x (l y)):=by
 have self:nT l x (l y) x=l y:=agd rfl;have JD:∀z,z≠x->nT l x (l y) z=l z:=λz hz=>age hz;refine⟨λz hz=>?_,λz hz=>?_,λz hz=>?_⟩<;>by_cases q:z=x
 ·subst q;rw[self];exact h.inn y hy
 ·rw[JD z q];exact h.inn z hz
 ·subst q;rw[self];exact(h.cn y hy).trans (.step .refl hy hx (hs _ _ e))
 ·rw[JD z q];exact h.cn z hz
 ·subst q;rw[self];have:=h.le z hz;omega
 ·rw[JD z q];exact h.le z hz
def uB(W:Nat)(U:List IC)(l:IC->IC):Nat:=(U.map λx=>qk W (l x)).sum
theorem D3{f g:IC->Nat}:∀{U:List IC},(∀x∈U,g x<=f x)->(U.map g).sum<=(U.map f).sum
 |[],_=>Zv _
 |x::U,h=>by
  rw[Zu,Zu,aaS,aaS];have:=h x (Zq ..);have:=D3 λy hy=>h y (Zp _ hy);omega
theorem D4{f g:IC->Nat}:∀{U:List IC},(∀x∈U,g x<=f x)->x∈U->g x<f x->(U.map g).sum<(U.map f).sum
 |y::U,h,hx,dO=>by
  rw[Zu,Zu,aaS,aaS];have h1:=h y (Zq ..);have h2:=D3 λy hy=>h y (Zp _ hy);rcases Zw.mp hx with rfl | hx
  ·omega
  ·have:=D4 (λy hy=>h y (Zp _ hy)) hx dO;omega
theorem Kz(hx:x∈U)(dO:qk W z<qk W (l x)):uB W U (nT l x z)<uB W U l:=by
 refine D4 (λy hy=>?_) hx (by unfold nT;rw[agd rfl];exact dO);unfold nT;by_cases q:y=x
 ·rw[agd q,q];omega
 ·rw[age q];exact Zv _
end
theorem DW(ha:AR R W a)(hb:AR R W b):ltI a b=true↔qk W a<qk W b:=by
 obtain⟨a1,a2⟩:=a;obtain⟨b1,b2⟩:=b;obtain⟨p1,p2,p3,p4⟩:=ha;obtain⟨q1,q2,q3,q4⟩:=hb;unfold ltI qk
 dsimp only at*
 rw[acp,ZM,agf,agf,agf];have e:∀u v:Int,-1<=u-> -1<=v->0<=(u+1)*(↑W+2)+(v+1):=λu v hu hv=>by
  have:=Int.mul_nonneg (show (0:Int)<=u+1 by omega) (show (0:Int)<=(W:Int)+2 by omega);omega
 have ea:=e a1 a2 p1 p3;have eb:=e b1 b2 q1 q3;rcases Int.lt_trichotomy a1 b1 with h | h | h
 ·have:=acx (show a1+1+1<=b1+1 by omega) (show (0:Int)<=(W:Int)+2 by omega);rw[afY (a1+1)] at this;exact⟨λ_=>by omega,λ_=> .inl h⟩
 ·subst h;exact⟨λz=>by omega,λz=> .inr ⟨rfl,by omega⟩⟩
 ·have:=acx (show b1+1+1<=a1+1 by omega) (show (0:Int)<=(W:Int)+2 by omega);rw[afY (b1+1)] at this;exact⟨λz=>by omega,λz=>by omega⟩
section
variable{R W w:Nat}{U:List IC}
def L4(w:Nat)(d e:Int):Bool:=decide (w=8)||(decide (d=0)||decide (e=0))
def Ei(w:Nat)(x y:IC):Prop:=∃d∈[(-1:Int),0,1],∃e∈[(-1:Int),0,1],y=(x.1+d,x.2+e)/\L4 w d e=true
theorem Ei.symm(x y:IC)(h:Ei w x y):Ei w y x:=by
 obtain⟨d,hd,e,he,rfl,q⟩:=h;refine⟨-d,?_,-e,?_,?_,?_⟩
 ·simp only[Zw,Z7,or_false] at hd⊢;omega
 ·simp only[Zw,Z7,or_false] at he⊢;omega
 ·obtain⟨x1,x2⟩:=x;simp only[aba];omega
 ·unfold L4 at q⊢;simp only[acp,agf] at q⊢;omega
theorem Oc(a b:IC):Ob (iD a) (iD b)=some (ltI a b):=by
 show some (HT.lexLt [a.1,a.2] [b.1,b.2])=_;show some (if a.1=b.1 then(if a.2=b.2 then false else decide (a.2<b.2)) else decide (a.1<b.1))=_;unfold ltI;congr 1;by_cases h1:a.1=b.1
 ·rw[agd h1,agh (show¬a.1<b.1 by omega),agg h1];by_cases h2:a.2=b.2
  ·rw[agd h2,agh (show¬a.2<b.2 by omega)];rfl
  ·rw[age h2];simp
 ·rw[age h1,agh h1];simp
theorem J_(a b:IC):tY (iD a) (iD b)=ae (.bl (ltI a b)):=by
 unfold tY;rw[Oc]
def UA:DS:=(bS [6,7] (aF (a_ 7 (dA aQ (aC (d2 cU (d2 a8 (dV 4) (dC (.int 0))) (dV 5)) (aC (d2 cU (d2 a8 (dV 4) (dC (.int 1))) (dV 6)) aN)))) (gK UC (aF (ft 2 (dV 4) (M4 (d2 cZ (dV 2) (dV 7)))) (a_ 3 (dC (.bl true)))) dr)))
def fg(w:Nat)(U:List IC)(l:IC->IC)(ch:Bool)(c4 c5 c6 c7:Option Sl):cJ:=[fz (.lst (U.map iD)),fz (iW w),some (.ow (P7 U λz=>iD (l z))),fz (.bl ch),c4,c5,c6,c7]
def cond(w:Nat)(U:List IC)(l:IC->IC)(x:IC)(d e:Int):Bool:=decide ((x.1+d,x.2+e)∈U)&&(L4 w d e&&ltI (l (x.1+d,x.2+e)) (l x))
theorem Oa(hl:U.length<64){ch:Bool}(hx:x∈U)(d e:Int):
 UA (fg w U l ch (fz (iD x)) (fz (.int d)) (fz (.int e)) none)=ae (.nx (fg w U (if cond w U l x d e then nT l x (l (x.1+d,x.2+e)) else l) (ch||cond w U l x d e) (fz (iD x)) (fz (.int d)) none none)):=by
 have Ug:a_ 7 (dA aQ (aC (d2 cU (d2 a8 (dV 4) (dC (.int 0))) (dV 5)) (aC (d2 cU (d2 a8 (dV 4) (dC (.int 1))) (dV 6)) aN))) (fg w U l ch (fz (iD x)) (fz (.int d)) (fz (.int e)) none)=ae (.nx (fg w U l ch (fz (iD x)) (fz (.int d)) (fz (.int e)) (fz (iD (x.1+d,x.2+e))))):=rfl;have ht:UC (fg w U l ch (fz (iD x)) (fz (.int d)) (fz (.int e)) (fz (iD (x.1+d,x.2+e))))=ae (cond w U l x d e):=by
  refine vK ?_;have h1:cI (d2 (iO false) (dV 7) (dV 2)) (rj (fg w U l ch (fz (iD x)) (fz (.int d)) (fz (.int e)) (fz (iD (x.1+d,x.2+e)))))=ae (decide ((x.1+d,x.2+e)∈U)):=el ((aA rfl rfl).trans QV);have h2:oq (cI (d2 ik (dV 1) (dC (.int 8)))) (oq (cI (d2 ik (dV 5) (dC (.int 0)))) (cI (d2 ik (dV 6) (dC (.int 0))))) (rj (fg w U l ch (fz (iD x)) (fz (.int d)) (fz (.int e)) (fz (iD (x.1+d,x.2+e)))))=ae (L4 w d e):=by
   refine uR (el ((aA rfl rfl).trans ?_)) (uR (el ((aA rfl rfl).trans ?_)) (el ((aA rfl rfl).trans ?_)))
   ·show ae (D.bl ((w:Int)==8))=_;congr 2;by_cases q:w=8
    ·subst q;rfl
    ·rw[agh q];exact agk.mpr λz=>q (by omega)
   ·rfl
   ·rfl
  unfold cond;by_cases jz:(x.1+d,x.2+e)∈U
  ·refine qW h1 (qW h2 (el ((aA ((aA rfl rfl).trans (zv jz)) ((aA rfl rfl).trans (zv hx))).trans (J_ _ _))))
  ·rw[agh jz] at h1⊢;exact M0 h1
 refine(aP (ρ':=fg w U (if cond w U l x d e then nT l x (l (x.1+d,x.2+e)) else l) (ch||cond w U l x d e) (fz (iD x)) (fz (.int d)) (fz (.int e)) (fz (iD (x.1+d,x.2+e)))) (ao Ug ?_)).trans rfl;by_cases hc:cond w U l x d e=true
 ·rw[hc] at ht⊢;have jz:(x.1+d,x.2+e)∈U:=by
   unfold cond at hc;rw[ZM] at hc;exact agi hc.1
  rw[Bool.or_true];refine eB ht (ao (ρ':=fg w U (nT l x (l (x.1+d,x.2+e))) ch (fz (iD x)) (fz (.int d)) (fz (.int e)) (fz (iD (x.1+d,x.2+e)))) ?_ rfl);exact(Ll (d:=iD (l (x.1+d,x.2+e))) rfl (Gm ((aA (x:=Ex U λz=>iD (l z)) (y:=iD (x.1+d,x.2+e)) rfl rfl).trans (zv (f:=λz=>iD (l z)) jz)) rfl) rfl (OW hx (by rw[cu];omega))).trans rfl
 ·have hc:cond w U l x d e=false:=by simpa using hc
  rw[hc] at ht⊢;rw[Bool.or_false];exact dE ht rfl
abbrev Sx:=(IC->IC)×Bool
def stI(w:Nat)(U:List IC)(x:IC)(d e:Int)(s:Sx):Sx:=(if cond w U s.1 x d e then nT s.1 x (s.1 (x.1+d,x.2+e)) else s.1,s.2||cond w U s.1 x d e)
def t3:List Int:=[-1,0,1]
def SR(w:Nat)(U:List IC)(x:IC)(d:Int)(s:Sx):Sx:=t3.foldl (λs e=>stI w U x d e s) s
def RU(w:Nat)(U:List IC)(x:IC)(s:Sx):Sx:=t3.foldl (λs d=>SR w U x d s) s
def Wo:DS:=(bS [5,6,7] (cw (putN 6) (lj (dA aQ (aC (d1 gJ (dC (.int 1))) (aC (dC (.int 0)) (aC (dC (.int 1)) aN))))) UA))
def Wq:DS:=(bS [4,5,6,7] (cw (putN 5) (lj (dA aQ (aC (d1 gJ (dC (.int 1))) (aC (dC (.int 0)) (aC (dC (.int 1)) aN))))) Wo))
theorem Di(hl:U.length<64)(hx:x∈U)(d:Int):∀(es:List Int) (s:Sx),forL (putN 6) UA (es.map D.int) (fg w U s.1 s.2 (fz (iD x)) (fz (.int d)) none none)=ae (.nx (fg w U (es.foldl (λs e=>stI w U x d e s) s).1 (es.foldl (λs e=>stI w U x d e s) s).2 (fz (iD x)) (fz (.int d)) none none))
 |[],s=>rfl
 |e::es,s=>(c_ rfl (Oa hl hx d e)).trans (Di hl hx d es (stI w U x d e s))
theorem Dj(hl:U.length<64)(hx:x∈U):∀(ds:List Int) (s:Sx),forL (putN 5) Wo (ds.map D.int) (fg w U s.1 s.2 (fz (iD x)) none none none)=ae (.nx (fg w U (ds.foldl (λs d=>SR w U x d s) s).1 (ds.foldl (λs d=>SR w U x d s) s).2 (fz (iD x)) none none none))
 |[],s=>rfl
 |d::ds,s=>(c_ rfl ((aP (cP rfl (Di hl hx d t3 s))).trans rfl)).trans (Dj hl hx ds (SR w U x d s))
theorem Dk(hl:U.length<64):∀(xs:List IC) (s:Sx),(∀x∈xs,x∈U)->forL (putN 4) Wq (xs.map iD) (fg w U s.1 s.2 none none none none)=ae (.nx (fg w U (xs.foldl (λs x=>RU w U x s) s).1 (xs.foldl (λs x=>RU w U x s) s).2 none none none none))
 |[],s,_=>rfl
 |x::xs,s,h=>(c_ rfl ((aP (cP rfl (Dj hl (h x (Zq ..)) t3 s))).trans rfl)).trans (Dk hl xs (RU w U x s) λy hy=>h y (Zp _ hy))
def Rn(w W:Nat)(U:List IC)(Q:(IC->IC)->Prop)(s s':Sx):Prop:=Lb W U (Ei w) s.1->Lb W U (Ei w) s'.1/\uB W U s'.1<=uB W U s.1/\(s'.2=true->s.2=true\/uB W U s'.1<uB W U s.1)/\(s'.2=false->s.2=false/\s'.1=s.1/\Q s.1)
theorem Rn.refl(hQ:∀l,Q l)(s:Sx):Rn w W U Q s s:=λh=>⟨h,Zv _,λh=> .inl h,λh=>⟨h,rfl,hQ _⟩⟩
theorem Rn.trans(h:Rn w W U Q s s1)(h2:Rn w W U Q' s1 s2)(hq:∀l,Q l->Q' l->Q2 l):Rn w W U Q2 s s2:=λq=>by
 obtain⟨a1,a2,a3,a4⟩:=h q;obtain⟨b1,b2,b3,b4⟩:=h2 a1;refine⟨b1,Z2 b2 a2,λq=>?_,λq=>?_⟩
 ·rcases b3 q with q | q
  ·rcases a3 q with q | q
   ·exact .inl q
   ·exact .inr (by omega)
  ·exact .inr (by omega)
 ·obtain⟨c1,c2,c3⟩:=b4 q;obtain⟨d1,d2,d3⟩:=a4 c1;exact⟨d1,c2.trans d2,hq _ d3 (d2▸c3)⟩
theorem Rn.fold{f:β->Sx->Sx}{Q:β->(IC->IC)->Prop}:∀(l:List β) (s:Sx),(∀b∈l,∀s,Rn w W U (Q b) s (f b s))->Rn w W U (λg=>∀b∈l,Q b g) s (l.foldl (λs b=>f b s) s)
 |[],s,_=> .refl (λ_ b hb=>by cases hb) s
 |b::l,s,h=>(h b (Zq ..) s).trans (Rn.fold l (f b s) λc hc=>h c (Zp _ hc)) λg q1 q2 c hc=>by
  rcases Zw.mp hc with rfl | hc
  ·exact q1
  ·exact q2 c hc
theorem Rn.one(hP:∀x∈U,AR R W x)(hx:x∈U)(hd:d∈t3)(he:e∈t3)(s:Sx):Rn w W U (λl=>cond w U l x d e=false) s (stI w U x d e s):=λhs=>by
 by_cases hc:cond w U s.1 x d e=true
 ·have es:stI w U x d e s=(nT s.1 x (s.1 (x.1+d,x.2+e)),true):=by unfold stI;rw[hc];simp
  rw[es];unfold cond at hc;rw[ZM,ZM] at hc;have hy:(x.1+d,x.2+e)∈U:=agi hc.1;have E:Ei w x (x.1+d,x.2+e):=⟨d,hd,e,he,rfl,hc.2.1⟩
  have dO:=(DW (hP _ (hs.inn _ hy)) (hP _ (hs.inn _ hx))).mp hc.2.2;have:=Kz hx dO;exact⟨hs.low Ei.symm hx hy E dO,aa5 this,λ_=> .inr this,λq=>by cases q⟩
 ·have hc:cond w U s.1 x d e=false:=by simpa using hc
  have es:stI w U x d e s=s:=by unfold stI;rw[hc];simp
  rw[es];exact⟨hs,Zv _,λh=> .inl h,λh=>⟨h,rfl,hc⟩⟩
theorem Lr(hP:∀x∈U,AR R W x)(s:Sx):Rn w W U (λl=>∀x∈U,∀d∈t3,∀e∈t3,cond w U l x d e=false) s (U.foldl (λs x=>RU w U x s) s):=
 Rn.fold U s λx hx s=>Rn.fold t3 s λd hd s=>Rn.fold t3 s λe he s=>Rn.one hP hx hd he s
theorem still_of(hP:∀x∈U,AR R W x)(h:Lb W U (Ei w) l)(hc:∀x∈U,∀d∈t3,∀e∈t3,cond w U l x d e=false):Jq W U (Ei w) l:=λx hx y hy ⟨d,hd,e,he,ey,q⟩ dO=>by
 have:=hc x hx d hd e he;unfold cond at this;rw[<-ey,agg hy,q,(DW (hP _ (h.inn y hy)) (hP _ (h.inn x hx))).mpr dO] at this;cases this
def Mw:DS:=(bS [4,5,6,7] (aF (a_ 3 (dC (.bl false))) (cw (putN 4) (cK (dV 0)) Wq)))
theorem zF(hl:U.length<64)(hP:∀x∈U,AR R W x):∀(n:Nat) (l:IC->IC),Lb W U (Ei w) l->uB W U l+2<=n->
 ∃l',Lb W U (Ei w) l'/\Jq W U (Ei w) l'/\eM (c8 (dV 3)) Mw n (fg w U l true none none none none)=ae (.nx (fg w U l' false none none none none))
 |0,l,_,hn=>agj hn (by omega)
 |n+1,l,h,hn=>by
  have e:=Dk (w:=w) hl U (l,false) λx hx=>hx;obtain⟨a1,a2,a3,a4⟩:=Lr hP (l,false) h;generalize U.foldl (λs x=>RU w U x s) (l,false)=s' at e a1 a2 a3 a4;have hb:Mw (fg w U l true none none none none)=ae (.nx (fg w U s'.1 s'.2 none none none none)):=(aP (ao rfl (cP rfl e))).trans rfl;cases hs:s'.2 with
  |true=>
   rw[hs] at hb;rcases a3 hs with q | q
   ·cases q
   ·obtain⟨l',k1,k2,k3⟩:=zF hl hP n s'.1 a1 (by have:uB W U s'.1<uB W U l:=q;omega);exact⟨l',k1,k2,jl rfl hb k3⟩
  |false=>
   rw[hs] at hb;obtain⟨_,q2,q3⟩:=a4 hs;cases n with
   |zero=>omega
   |succ n=>exact⟨s'.1,a1,by rw[q2];exact still_of hP h q3,jl rfl hb (n4 rfl)⟩
end
theorem zL(h:δ ρ=ae c):pT i δ ρ=ae (.nx (ρ.set i (some (.ow c)))):=by
 unfold pT;rw[h];rfl
theorem By(h:δ ρ=ae (cL l)):cK δ ρ=ae (l.map cD):=by
 show (δ ρ>>=lstM)=_;rw[h];rfl
theorem eN(R W:Nat):RiseC (az R W):=by
 unfold RiseC az dQ;rw[afi];constructor
 ·intro r _;rw[aaX];exact List.pairwise_lt_range.imp λh=>by show (if _ then _ else _)=true;rw[agd rfl,agf];exact h
 ·refine List.pairwise_lt_range.imp λ{a b} h x hx y hy=>?_;obtain⟨i,_,rfl⟩:=Zx.mp hx;obtain⟨j,_,rfl⟩:=Zx.mp hy;show (if a=b then _ else decide (a<b))=true;rw[age (by omega),agf];exact h
section
variable{bd:List Str}{W w:Nat}
def yK(bd:List Str)(x y:Cell):Bool:=uO x y&&decide (lt bd x=lt bd y)
def JL(bd:List Str)(x y:Cell):List D:=if yK bd x y then [pD (x,y)] else []
def bV(bd:List Str)(W w:Nat):List (Cell×Cell):=(az bd.length W).flatMap λx=>((mB bd.length W w x).filter (yK bd x)).map λy=>(x,y)
theorem l_(hw:Ways w):p∈bV bd W w↔On bd.length W p.1/\On bd.length W p.2/\jY w p.1 p.2=true/\lt bd p.1=lt bd p.2/\uO p.1 p.2=true:=by
 unfold bV yK;simp only[acy,Zx,ZT,ZM,agf];constructor
 ·rintro⟨x,hx,y,⟨hy,h1,h2⟩,rfl⟩;have hx:=aG.mp hx;have:=(rV hw hx).mp hy;exact⟨hx,this.1,this.2,h2,h1⟩
 ·rintro⟨h1,h2,h3,h4,h5⟩;exact⟨p.1,aG.mpr h1,p.2,⟨(rV hw h1).mpr ⟨h2,h3⟩,h5,h4⟩,rfl⟩
theorem sI(hw:Ways w)(h:p∈bV bd W w):AX bd W w p:=by
 obtain⟨h1,h2,h3,h4,_⟩:=(l_ hw).mp h;exact⟨h1,h2,Cn.refl.step ((gq hw).mpr ⟨h2,h3,h4.symm⟩)⟩
theorem yJ(x:Cell):∀l:List Cell,l.flatMap (JL bd x)=((l.filter (yK bd x)).map λy=>(x,y)).map pD
 |[]=>rfl
 |y::l=>by
  rw[abf,yJ x l];unfold JL;by_cases h:yK bd x y=true
  ·rw[agd h,acm h];rfl
  ·rw[age h,acn h];rfl
def FT(bd:List Str)(w:Nat)(o:Option Sl)(u8:List D)(x4 x5 x6:Option Sl):cJ:=[fz (brd bd),fz (iW w),o,some (.ow (.lst u8)),x4,x5,x6,none,none,none,none]
theorem Le(hg:Wd bd W)(hx:On bd.length W x)(hy:On bd.length W y)(hl:(u8++JL bd x y).length<=600):
 SO (FT bd w o u8 (fz (cD x)) (fz (cD y)) none)=ae (.nx (FT bd w o (u8++JL bd x y) (fz (cD x)) none none)):=by
 have ht:lY (cI (d2 tY (dV 4) (dV 5))) (cI (d2 ik (dV 6) (d2 iQ (d2 a8 (dV 0) (d2 a8 (dV 5) (dC (.int 0)))) (d2 a8 (dV 5) (dC (.int 1)))))) (FT bd w o u8 (fz (cD x)) (fz (cD y)) (fz (sg (lt bd x))))=ae (yK bd x y):=
  qW (el ((aA rfl rfl).trans (J9 _ _))) (el ((aA rfl (IW hg hy rfl rfl)).trans (Md _ _)))
 have h6:d2 iQ (d2 a8 (dV 0) (d2 a8 (dV 4) (dC (.int 0)))) (d2 a8 (dV 4) (dC (.int 1))) (FT bd w o u8 (fz (cD x)) (fz (cD y)) none)=ae (sg (lt bd x)):=IW hg hx rfl rfl;unfold JL at hl⊢;by_cases hb:yK bd x y=true
 ·rw[agd hb] at hl⊢;rw[hb] at ht;refine(aP (ρ':=FT bd w o (u8++[pD (x,y)]) (fz (cD x)) (fz (cD y)) (fz (sg (lt bd x)))) (ao ((aM h6).trans rfl) (eB ht ?_))).trans rfl;show (if u8.length<lim then ae (Out.nx (FT bd w o (u8++[pD (x,y)]) (fz (cD x)) (fz (cD y)) (fz (sg (lt bd x))))) else ag)=_;rw[agd (by rw[ZA] at hl;rw[cu];simp at hl;omega)]
 ·rw[age hb,Z_];rw[ac7.mpr hb] at ht;exact(aP (ao ((aM h6).trans rfl) (dE ht rfl))).trans rfl
theorem zC(f:α->List β)(h:∀a,(f a).length<=n):∀l:List α,(l.flatMap f).length<=n*l.length
 |[]=>aae _
 |a::l=>by
  rw[abf,ZA,Zz,Nat.mul_add,Nat.mul_one];have:=h a;have:=zC f h l;omega
theorem Ld(hg:Wd bd W)(hw:Ways w):forL (putN 4) (bS [4,5,6] (cw (putN 5) (cK (ay 3 dX (aC (dV 0) (aC (dV 4) (aC (dV 1) aN))))) SO)) ((az bd.length W).map cD) (FT bd w o [] none none none)=ae (.nx (FT bd w o ((bV bd W w).map pD) none none none)):=by
 have hm:bd.length*W<=64:=aaL hg.r8 hg.w8;have yu:(az bd.length W).flatMap (λx=>(mB bd.length W w x).flatMap (JL bd x))=(bV bd W w).map pD:=by
  unfold bV;rw[acz];congr 1;funext x;exact yJ x _
 have VX:((bV bd W w).map pD).length<=576:=by
  rw[Zo];have:=zC (λx=>((mB bd.length W w x).filter (yK bd x)).map λy=>(x,y)) (λx=>by rw[Zo];exact Z2 (aad ..) (yI ..)) (az bd.length W);rw[bh] at this;exact Z2 this (by omega)
 have:=dz (put:=putN 4) (body:=bS [4,5,6] (cw (putN 5) (cK (ay 3 dX (aC (dV 0) (aC (dV 4) (aC (dV 1) aN))))) SO)) (B:=600) cD (λu8=>FT bd w o u8 none none none) (λx=>(mB bd.length W w x).flatMap (JL bd x)) (az bd.length W) [] (by rw[ZY,yu];omega) λx hx u8 hl=>by
  have hx:=aG.mp hx;refine⟨FT bd w o u8 (fz (cD x)) none none,rfl,(aP (ρ':=FT bd w o (u8++(mB bd.length W w x).flatMap (JL bd x)) (fz (cD x)) none none) (cP (ds:=(mB bd.length W w x).map cD) ?_ ?_)).trans rfl⟩
  ·exact By ((ar rfl rfl).trans (wR hg))
  ·exact dz cD (λu8=>FT bd w o u8 (fz (cD x)) none none) (JL bd x) _ u8 hl λy hy Ta zl=>⟨_,rfl,Le hg hx ((rV hw hx).mp hy).1 zl⟩
 rw[ZY,yu] at this;exact this
def Q3(bd:List Str)(W w:Nat)(s:(Cell->Cell)×Bool)(x3:Option Sl):cJ:=[fz (brd bd),fz (iW w),some (.ow (Ew (az bd.length W) λx=>cD (s.1 x))),x3,none,none,none,fz (.bl s.2),none,none,none]
theorem Kw(hg:Wd bd W)(hw:Ways w)(h3:x3=some (.ow (.lst ((bV bd W w).map pD)))\/x3=fz (.lst ((bV bd W w).map pD)))(h:Lab bd W w L):
 Uy (Q3 bd W w (L,b) x3)=ae (.nx (Q3 bd W w ((bV bd W w).foldl d9 (L,false)) (fz (.lst ((bV bd W w).map pD))))):=by
 have hf:=(iL (put:=sP [8,9]) pD (λs=>Kv bd W w (bV bd W w) s none none none) d9 (λs=>Lab bd W w s.1) (bV bd W w) (L,false) h λs hs p hp=>by
  obtain⟨q1,q2,q3⟩:=sI hw hp;exact⟨(zG hw (sI hw hp) hs).1,_,rfl,Kx hg q1 q2⟩).2
 refine(aP (ρ':=Kv bd W w (bV bd W w) ((bV bd W w).foldl d9 (L,false)) none none none) (ao rfl ?_)).trans rfl;rcases h3 with rfl | rfl
 ·exact cP rfl hf
 ·exact cP rfl hf
theorem zB(hg:Wd bd W)(hw:Ways w):∀(fuel:Nat) (L:Cell->Cell) (x3:Option Sl),x3=some (.ow (.lst ((bV bd W w).map pD)))\/x3=fz (.lst ((bV bd W w).map pD))->Lab bd W w L->mu bd.length W L+2<=fuel->
 ∃L',Lab bd W w L'/\(∀p∈bV bd W w,L' p.1=L' p.2)/\eM (c8 (dV 7)) Uy fuel (Q3 bd W w (L,true) x3)=ae (.nx (Q3 bd W w (L',false) (fz (.lst ((bV bd W w).map pD)))))
 |0,_,_,_,_,hf=>by omega
 |1,_,_,_,_,hf=>by omega
 |fuel+2,L,x3,h3,h,hf=>by
  have hp:=Kw (b:=true) hg hw h3 h;obtain⟨a1,a2,a3⟩:=Mv hw (bV bd W w) (L,false) (λp hp=>sI hw hp) h;rcases a3 with⟨b1,b2,b3⟩ | ⟨b1,b2⟩
  ·have e:(bV bd W w).foldl d9 (L,false)=(L,false):=abx b2 b1;rw[e] at hp;exact⟨L,h,b3,jl (gy rfl) hp (n4 (gy rfl))⟩
  ·have e:(bV bd W w).foldl d9 (L,false)=(((bV bd W w).foldl d9 (L,false)).1,true):=abx rfl b1;obtain⟨L',c1,c2,c3⟩:=zB hg hw (fuel+1) _ _ (.inr rfl) a1 (by have b2:mu bd.length W _<mu bd.length W L:=b2;omega);rw[e] at hp;exact⟨L',c1,c2,jl (gy rfl) hp c3⟩
def Least(bd:List Str)(W w:Nat)(x m:Cell):Prop:=Cn bd W w x m/\∀z,Cn bd W w x z->rank W m<=rank W z
theorem tq(hw:Ways w){L:Cell->Cell}(h:∀p∈bV bd W w,L p.1=L p.2)(hx:On bd.length W x):∀{j:Nat}{y:Cell},Rb (bH bd W w) x j y->L x=L y
 |0,y,h0=>by rw[show y=x from h0]
 |j+1,y,h0=>by
  rcases h0 with q | ⟨z,q1,q2⟩
  ·exact tq hw h hx q
  ·rw[tq hw h hx q1];have hz:=Ae hw hx q1;obtain⟨y1,y2,y3⟩:=(gq hw).mp q2;by_cases dO:rank W z<rank W y
   ·exact h (z,y) ((l_ hw).mpr ⟨hz,y1,y2,y3.symm,(dJ hz y1).mpr dO⟩)
   ·have iV:rank W z≠rank W y:=λe=>by
     have:=kr hz y1 e;subst this;rw[Oh hw] at y2;cases y2
    exact(h (y,z) ((l_ hw).mpr ⟨y1,hz,by rw[sm];exact y2,y3,(dJ y1 hz).mpr (by omega)⟩)).symm
theorem rN(hg:Wd bd W)(hw:Ways w):∃L:Cell->Cell,(∀x,On bd.length W x->Least bd W w x (L x))/\f9 [brd bd,iW w]=ae (AV (az bd.length W) λx=>cD (L x)):=by
 have hm:bd.length*W<=64:=aaL hg.r8 hg.w8;have l0:Lab bd W w id:=⟨λx hx=>hx,λx hx=>Cn.refl,λx hx=>Zv _⟩
 have Ze:mu bd.length W id<=4032:=by
  unfold mu;have:=Cb (l:=az bd.length W) λx hx=>by
   have:=Lo (aG.mp hx);show rank W x<=63;omega
  refine Z2 this ?_;rw[List.map_const',ae9,bh];have:bd.length*W*63<=64*63:=ab2 _ hm;omega
 obtain⟨L,h1,h2,h3⟩:=zB hg hw lim id (some (.ow (.lst ((bV bd W w).map pD)))) (.inl rfl) l0 (by rw[cu];omega);refine⟨L,λx hx=>⟨h1.cn x hx,λz hz=>?_⟩,?_⟩
 ·obtain⟨j,q⟩:=hz;rw[tq hw h2 hx q];exact h1.le z (Ae hw hx q)
 ·have zo:((az bd.length W).map keyOf).Nodup:=by
   exact(eN _ _).nodup.map (f:=keyOf) λa b h z=>h (iZ z)
  have l7:(aC (bb 0 (cK (ay 1 dg (aC (dV 0) aN))) bC (dA aQ (aC (dV 0) (aC (dV 0) aN)))) aN) [fz (brd bd),fz (iW w),none,none,none,none,none,none,none,none,none]=ae [.lst ((az bd.length W).map λx=>pD (x,x))]:=by
   refine a7 (bu ?_ (eF cD (λx=>pD (x,x)) _ λx _=>rfl) (by rw[Zo,bh,cu];omega)) rfl;exact By ((ar rfl rfl).trans (j8 hg))
  have Ub:∀l:List Cell,iw (l.map λx=>pD (x,x))=some (l.map keyOf,l.map cD):=λl=>by
   induction l with
   |nil=>rfl
   |cons a l ih=>
    show (match et (cD a),iw (l.map λx=>pD (x,x)) with | some kk,some q=>some (kk::q.1,cD a::q.2) | _,_=>none)=_;rw[ih];rfl
  refine bf (ao (ρ':=[fz (brd bd),fz (iW w),some (.ow (Ew (az bd.length W) cD)),none,none,none,none,none,none,none,none]) ?_ (ao rfl (ao (cz (cP ?_ (Ld hg hw))) (ao rfl (ao (ρ':=Q3 bd W w (L,false) (fz (.lst ((bV bd W w).map pD)))) ?_ rfl)))))
  ·refine zL ?_;refine(agl (· >>=uT) l7).trans ?_;show (match iw ((az bd.length W).map λx=>pD (x,x)) with | some q=>if q.1.Nodup/\q.2.length<=lim then ae (C.dct q.1 q.2) else ag | none=>ag)=_;rw[Ub];show (if ((az bd.length W).map keyOf).Nodup/\((az bd.length W).map cD).length<=lim then ae (C.dct ((az bd.length W).map keyOf) ((az bd.length W).map cD)) else ag)=_;rw[agd ⟨zo,by rw[Zo,bh,cu];omega⟩];rfl
  ·exact By ((ar rfl rfl).trans (j8 hg))
  ·exact cz h3
end
section
variable{R W w:Nat}{U:List IC}
def iP(x:IC):D:= .tup [iD x,iD x]
theorem DG:∀l:List IC,iw (l.map iP)=some (l.map kI,l.map iD)
 |[]=>rfl
 |a::l=>by
  show (match et (iD a),iw (l.map iP) with | some kk,some q=>some (kk::q.1,iD a::q.2) | _,_=>none)=_;rw[DG l];rfl
theorem IP(h:AR R W p):qk W p<(R+2)*(W+2):=by
 obtain⟨p1,p2⟩:=p;obtain⟨h1,h2,h3,h4⟩:=h;unfold qk
 dsimp only at*
 have e1:=acx (show p1+1<=(R:Int)+1 by omega) (show (0:Int)<=(W:Int)+2 by omega);have e2:((R+2:Nat):Int)*((W+2:Nat):Int)=((R:Int)+1)*((W:Int)+2)+((W:Int)+2):=by
  rw[show ((R+2:Nat):Int)=((R:Int)+1)+1 by omega,show ((W+2:Nat):Int)=(W:Int)+2 by omega,afY,Int.one_mul]
 have e3:=Int.mul_nonneg (show (0:Int)<=p1+1 by omega) (show (0:Int)<=(W:Int)+2 by omega);rw[<-Int.natCast_mul] at e2;omega
theorem sum_bound:∀{l:List IC},(∀x∈l,f x<=m)->(l.map f).sum<=l.length*m
 |[],_=>by simp
 |x::l,h=>by
  rw[Zu,aaS,Zz,afq];have:=h x (Zq ..);have:=sum_bound λy hy=>h y (Zp _ hy);omega
theorem t7(hn:U.Nodup)(hP:∀x∈U,AR R W x)(hl:U.length<=49)(hs:(R+2)*(W+2)<=49):
 ∃l,Lb W U (Ei w) l/\Jq W U (Ei w) l/\fR [.lst (U.map iD),iW w]=ae (Ex U λz=>iD (l z)):=by
 have h0:Lb W U (Ei w) id:=⟨λx hx=>hx,λx _=> .refl,λx _=>Zv _⟩
 have hb:uB W U id<=49*48:=Z2 (sum_bound λx hx=>by have:=IP (hP x hx);show qk W x<=48;omega) (ab2 _ hl);obtain⟨l,h1,h2,h3⟩:=zF (by omega) hP lim id h0 (by rw[cu];omega);refine⟨l,h1,h2,bf (ao (ρ':=[fz (.lst (U.map iD)),fz (iW w),some (.ow (P7 U iD)),none,none,none,none,none]) ?_ (ao rfl (ao (cz h3) rfl)))⟩;have zo:(U.map kI).Nodup:=hn.map (f:=kI) λa b h z=>h (rJ _ _ z);have l7:(aC (bb 0 (cK (dV 0)) bC (dA aQ (aC (dV 0) (aC (dV 0) aN)))) aN) [fz (.lst (U.map iD)),fz (iW w),none,none,none,none,none,none]=ae [.lst (U.map iP)]:=
  a7 (bu rfl (eF iD iP _ λx _=>rfl) (by rw[Zo,cu];omega)) rfl
 refine zL ?_;refine(agl (· >>=uT) l7).trans ?_;show (match iw (U.map iP) with | some q=>if q.1.Nodup/\q.2.length<=lim then ae (C.dct q.1 q.2) else ag | none=>ag)=_;rw[DG];exact agd ⟨zo,by rw[Zo,cu];omega⟩
end
def eX(c:Cell):IC:=((c.1:Int),(c.2:Int))
theorem D5(h:eX a=eX b):a=b:=by
 obtain⟨a1,a2⟩:=a;obtain⟨b1,b2⟩:=b;unfold eX at h;simp only[aba] at h⊢;omega
theorem Nb:qI 1 iD:=λk a b=>by
 rw[adH];show (match iF k (.int a.1) (.int b.1),n8 (iF k) [.int a.2] [.int b.2] with | some b,some r=>some (b&&r) | _,_=>none)=_;rw[jv];show (match some (a.1==b.1),(match iF k (.int a.2) (.int b.2),n8 (iF k) [] [] with | some b,some r=>some (b&&r) | _,_=>none) with | some b,some r=>some (b&&r) | _,_=>none)=_;rw[jv];show some ((a.1==b.1)&&((a.2==b.2)&&true))=_;obtain⟨a1,a2⟩:=a;obtain⟨b1,b2⟩:=b;congr 1;by_cases h1:a1=b1<;>by_cases h2:a2=b2<;>simp[h1,h2]
theorem zx:∀l:List IC,mP (l.map iD)=some (l.map kI)
 |[]=>rfl
 |a::l=>by
  show (match et (iD a),mP (l.map iD) with | some k,some ks=>some (k::ks) | _,_=>none)=_;rw[zx l];rfl
theorem PV(l:List Cell):cL l= .lst ((l.map eX).map iD):=by
 unfold cL;rw[aap];rfl
def uu(R W:Nat):List IC:=(ZX (R+2)).flatMap λ(i:Nat)=>(ZX (W+2)).map λ(j:Nat)=>((-1+(i:Int),-1+(j:Int)):IC)
theorem rX:p∈uu R W↔AR R W p:=by
 unfold uu AR;simp only[acy,Zx,aa1];constructor
 ·rintro⟨i,hi,j,hj,rfl⟩
  dsimp only
  omega
 ·rintro⟨h1,h2,h3,h4⟩;exact⟨(p.1+1).toNat,by omega,(p.2+1).toNat,by omega,abx (by dsimp only;omega) (by dsimp only;omega)⟩
theorem Hr(R W:Nat):(uu R W).length=(R+2)*(W+2):=by
 unfold uu;rw[adO];simp only[Zo,aaZ];rw[List.map_const',ae9,aaZ]
theorem oW(R W:Nat):(uu R W).Pairwise λa b=>ltI a b=true:=by
 unfold uu;rw[afi];refine⟨λi _=>?_,?_⟩
 ·rw[aaX];refine abE (λ{a b} h=>?_) ado;unfold ltI;simp;omega
 ·refine abE (λ{a b} h x hx y hy=>?_) ado;obtain⟨j,_,rfl⟩:=Zx.mp hx;obtain⟨k,_,rfl⟩:=Zx.mp hy;unfold ltI;simp;omega
def freeC(R W:Nat)(P:List Cell):List IC:=(uu R W).filter λx=>!decide (x∈P.map eX)
theorem rm(h:x∈freeC R W P):AR R W x:=rX.mp (ZT.mp h).1
theorem J8(R W:Nat)(P:List Cell):(freeC R W P).Nodup:=by
 unfold freeC;refine aeh _ ((oW R W).imp λ{a b} h z=>?_);subst z;unfold ltI at h;simp at h
theorem zd(P:List Cell):(freeC R W P).length<=(R+2)*(W+2):=by
 rw[<-Hr];exact aad ..
section
variable{bd:List Str}{w:Nat}{P:List Cell}
theorem NU:EA true (iD x) (cL P)=ae (.bl (!decide (x∈P.map eX))):=by
 rw[PV];show (match et (iD x),mP ((P.map eX).map iD) with | some k,some ks=>ae (D.bl (if true then !rT k ks else rT k ks)) | _,_=>ag)=_;rw[zx];show ae (D.bl (!rT (kI x) ((P.map eX).map kI)))=_;congr 3;generalize P.map eX=l;induction l with
 |nil=>rfl
 |cons y l ih=>
  show (decide (kI y=kI x)||rT (kI x) (l.map kI))=_;rw[ih];by_cases e:x=y
  ·subst e;simp
  ·rw[agh (λz=>e (rJ _ _ z).symm)];simp[e]
def G1(bd:List Str)(P:List Cell)(w:Nat)(u8:List D)(c4 c5:Option Sl):cJ:=[fz (brd bd),fz (cL P),fz (iW w),some (.ow (.lst u8)),c4,c5,none,none]
def vg(P:List Cell)(x:IC):List D:=if x∈P.map eX then [] else [iD x]
theorem NH(r c:Int)(hl:u8.length<64):T2 (G1 bd P w u8 (fz (.int r)) (fz (.int c)))=ae (.nx (G1 bd P w (u8++vg P (r,c)) (fz (.int r)) none)):=by
 have ht:cI (d2 (EA true) (dA aQ (aC (dV 4) (aC (dV 5) aN))) (dV 1)) (G1 bd P w u8 (fz (.int r)) (fz (.int c)))=ae (!decide ((r,c)∈P.map eX)):=el ((aA rfl rfl).trans NU);unfold vg;by_cases h:(r,c)∈P.map eX
 ·rw[agd h,Z_];rw[agg h] at ht;exact(aP (dE ht rfl)).trans rfl
 ·rw[age h];rw[agh h] at ht;refine(aP (ρ':=G1 bd P w (u8++[iD (r,c)]) (fz (.int r)) (fz (.int c))) (eB ht ?_)).trans rfl;show (ae (iD (r,c))>>=λd=>if u8.length<lim then ae (Out.nx (G1 bd P w (u8++[d]) (fz (.int r)) (fz (.int c)))) else ag)=_;exact agd (by rw[cu];omega)
end
section
variable{bd:List Str}{W w:Nat}{P:List Cell}
def iN(j:Nat):D:= .int (-1+(j:Int))
def IS(P:List Cell)(W:Nat)(r:Int):List D:=(ZX (W+2)).flatMap λ(j:Nat)=>vg P (r,-1+(j:Int))
theorem QC(r:Int)(hl:(u8++IS P W r).length<=63):forL (putN 5) T2 ((ZX (W+2)).map iN) (G1 bd P w u8 (fz (.int r)) none)=ae (.nx (G1 bd P w (u8++IS P W r) (fz (.int r)) none)):=
 dz iN (λu8=>G1 bd P w u8 (fz (.int r)) none) (λj=>vg P (r,-1+(j:Int))) _ u8 hl λj _ u8 h=>⟨_,rfl,NH r _ (by rw[ZA] at h;omega)⟩
theorem DX(h:δ ρ=ae (.int (n:Int)))(hn:n<=8):(λρ=>(aC (d1 gJ (dC (.int 1))) (aC (d2 cU δ (dC (.int 1))) aN)) ρ>>=kA) ρ=ae ((ZX (n+2)).map iN):=by
 have e:(aC (d1 gJ (dC (.int 1))) (aC (d2 cU δ (dC (.int 1))) aN)) ρ=ae [.int (-1), .int ((n:Int)+1)]:=a7 rfl (a7 ((aA h rfl).trans rfl) rfl);show ((aC (d1 gJ (dC (.int 1))) (aC (d2 cU δ (dC (.int 1))) aN)) ρ>>=kA)=_;rw[e];show (if (-4096<=(-1:Int)/\(-1:Int)<=4096)/\(-4096<=(n:Int)+1/\(n:Int)+1<=4096) then ae (iz (-1) ((n:Int)+1 - (-1)).toNat) else ag)=_;rw[agd (by omega),show ((n:Int)+1 - (-1)).toNat=n+2 by omega];rfl
theorem uZ(R W:Nat):(ZX (R+2)).flatMap (λ(i:Nat)=>IS P W (-1+(i:Int)))=(freeC R W P).map iD:=by
 have key:∀l:List IC,l.flatMap (vg P)=(l.filter λx=>!decide (x∈P.map eX)).map iD:=by
  intro l;induction l with
  |nil=>rfl
  |cons x l ih=>
   rw[abf,ih,acC];unfold vg;by_cases h:x∈P.map eX
   ·rw[agd h,agg h];rfl
   ·rw[age h,agh h];rfl
 unfold freeC;rw[<-key];unfold uu IS;rw[List.flatMap_assoc];congr 1;funext i;rw[List.flatMap_map]
theorem NJ(hg:Brd bd W)(hs:(bd.length+2)*(W+2)<=49):
 cw (putN 4) (λρ=>(aC (d1 gJ (dC (.int 1))) (aC (d2 cU (dA bO (aC (dV 0) aN)) (dC (.int 1))) aN)) ρ>>=kA) T3 (G1 bd P w [] none none)=ae (.nx (G1 bd P w ((freeC bd.length W P).map iD) none none)):=by
 have hr:=hg.r8;have Yv:=hg.w8;have yu:=zd (R:=bd.length) (W:=W) P;refine cP (DX (EV rfl) hr) ?_;have:=dz (put:=putN 4) (body:=T3) iN (λu8=>G1 bd P w u8 none none) (λ(i:Nat)=>IS P W (-1+(i:Int))) (B:=63) (ZX (bd.length+2)) [] (by rw[ZY,uZ,Zo];omega) λi _ u8 h=>⟨_,rfl,?_⟩
 ·rw[ZY,uZ] at this;exact this
 ·exact(aP (cP (DX (hg.len0 rfl) Yv) (QC _ h))).trans rfl
end
theorem Qk:((az 8 8).map λc=>fe (ic c)).Nodup:=by decide+kernel
theorem oH:∀{l:List α},(l.map f).Nodup->∀a∈l,∀b∈l,f a=f b->a=b
 |x::l,h,a,ha,b,hb,e=>by
  rw[Zu,aaK] at h;by_cases h1:a=x
  ·by_cases h2:b=x
   ·rw[h1,h2]
   ·have hb:b∈l:=(Zw.mp hb).resolve_left h2;exact agj (Zx.mpr ⟨b,hb,by rw[<-h1];exact e.symm⟩) h.1
  ·have ha:a∈l:=(Zw.mp ha).resolve_left h1;by_cases h2:b=x
   ·exact agj (Zx.mpr ⟨a,ha,by rw[<-h2];exact e⟩) h.1
   ·exact oH h.2 a ha b ((Zw.mp hb).resolve_left h2) e
theorem CW(hR:R<=8)(hW:W<=8){l:List Cell}(hn:l.Nodup)(gD:∀x∈l,On R W x):(l.map λc=>fe (ic c)).Nodup:=by
 have h8:∀x∈l,x∈az 8 8:=λx hx=>aG.mpr ⟨by have:=(gD x hx).1;omega,by have:=(gD x hx).2;omega⟩;rw[aaj,aaX];refine acG (λ{a b} ha hb h z=>h ?_) hn;exact oH Qk a (h8 a ha) b (h8 b hb) z
theorem zr:∀l:List Cell,eJ (l.map cD)=some (l.map ic)
 |[]=>rfl
 |c::l=>by
  show (match G9 (cD c),eJ (l.map cD) with | some k,some ks=>some (k::ks) | _,_=>none)=_;rw[zr l];rfl
theorem Lz(h:l.Nodup)(hl:l.length<64):Au [cL l]=ae (cL (jk l)):=by
 show (match eJ (l.map cD) with | some ks=>if ei ks then ae (D.lst ((sortI ks).map tupI)) else ag | none=>ag)=_;rw[zr];refine(agd (Mz h hl)).trans ?_;rw[nS,aap];rfl
def jc(p:IC):List Int:=[p.1,p.2]
theorem Hh(h:jc a=jc b):a=b:=by
 obtain⟨a1,a2⟩:=a;obtain⟨b1,b2⟩:=b;unfold jc at h;simp only[List.cons.injEq,and_true] at h;exact abx h.1 h.2
theorem wI:∀l:List IC,eJ (l.map iD)=some (l.map jc)
 |[]=>rfl
 |c::l=>by
  show (match G9 (iD c),eJ (l.map iD) with | some k,some ks=>some (k::ks) | _,_=>none)=_;rw[wI l];rfl
theorem Nw:((uu 8 8).map λc=>fe (jc c)).Nodup:=by decide+kernel
theorem zP{l:List IC}(h:l.Nodup):(l.map jc).Nodup:=h.map (f:=jc) λa b h z=>h (Hh z)
theorem Rc{ks:List IC}(h:ks.Nodup)(hl:ks.length<64):ei (ks.map jc)=true:=by
 unfold ei;rw[Zo,agg (zP h),agg hl];simp;intro a b _ z;cases z
theorem Dp(a b:IC):eW (jc a) (jc b)=ltI a b:=by
 obtain⟨a1,a2⟩:=a;obtain⟨b1,b2⟩:=b;show (if a1=b1 then(if a2=b2 then false else decide (a2<b2)) else decide (a1<b1))=_;unfold ltI
 dsimp only
 by_cases h1:a1=b1
 ·rw[agd h1,agh (show¬a1<b1 by omega),agg h1];by_cases h2:a2=b2
  ·rw[agd h2,agh (show¬a2<b2 by omega)];rfl
  ·rw[age h2];simp
 ·rw[age h1,agh h1];simp
theorem RT{l:List IC}(h:l.Pairwise λa b=>ltI a b=true)(hl:l.length<64):Au [.lst (l.map iD)]=ae (.lst (l.map iD)):=by
 have hn:l.Nodup:=h.imp λ{a b} q z=>by
  subst z;unfold ltI at q;simp at q
 have hr:vO (l.map jc):=by
  show (l.map jc).Pairwise λa b=>eW a b=true;rw[aaX];exact h.imp λ{a b} q=>(Dp a b).trans q
 show (match eJ (l.map iD) with | some ks=>if ei ks then ae (D.lst ((sortI ks).map tupI)) else ag | none=>ag)=_;rw[wI];refine(agd (Rc hn hl)).trans ?_;rw[show sortI (l.map jc)=l.map jc from kx (jS (zP hn)) hr λx=>fG,aap];rfl
section
variable{bd:List Str}{W w:Nat}{P:List Cell}
def outI:IC:=(-1,-1)
theorem t6(hg:Brd bd W)(hs:(bd.length+2)*(W+2)<=49):
 ∃l,Lb W (freeC bd.length W P) (Ei w) l/\Jq W (freeC bd.length W P) (Ei w) l/\
  bU [brd bd,cL P,iW w]=ae (.tup [.lst (((freeC bd.length W P).filter λx=>!decide (l x=outI)).map iD),nI (mx ((((freeC bd.length W P).filter λx=>!decide (l x=outI)).map l).map jc)).length]):=by
 have yu:=zd (R:=bd.length) (W:=W) P;have hP:∀x∈freeC bd.length W P,AR bd.length W x:=λx hx=>rm hx;obtain⟨l,h1,h2,h3⟩:=t7 (J8 bd.length W P) hP (by omega) hs;refine⟨l,h1,h2,?_⟩;have lA:(freeC bd.length W P).Pairwise λa b=>ltI a b=true:=(oW bd.length W).filter _;have wy:=NJ (P:=P) (w:=w) hg hs;generalize freeC bd.length W P=U at h1 h2 h3 lA wy hP yu;have jz:∀x∈U.filter (λx=>!decide (l x=outI)),x∈U:=λx hx=>(ZT.mp hx).1;have Mm:(U.filter λx=>!decide (l x=outI)).length<=49:=Z2 (aad ..) (by omega);refine bf (ao rfl (ao (cz wy) (ao (ρ':=[fz (brd bd),fz (cL P),fz (iW w),fz (.lst (U.map iD)),none,none,fz (Ex U λz=>iD (l z)),none]) ?_ (ao (ρ':=[fz (brd bd),fz (cL P),fz (iW w),fz (.lst (U.map iD)),none,none,fz (Ex U λz=>iD (l z)),fz (.lst ((U.filter λx=>!decide (l x=outI)).map iD))]) ?_ (br ?_)))))
 ·show a_ 6 (ay 2 fR (aC (dV 3) (aC (dV 2) aN))) [fz (brd bd),fz (cL P),fz (iW w),fz (.lst (U.map iD)),none,none,none,none]=_;exact(aM ((ar rfl rfl).trans h3)).trans rfl
 ·show a_ 7 (bb 0 (cK (dV 3)) (cI (d2 qf (d2 cZ (dV 7) (dV 0)) (dA aQ (aC (d1 gJ (dC (.int 1))) (aC (d1 gJ (dC (.int 1))) aN))))) (dV 0)) [fz (brd bd),fz (cL P),fz (iW w),fz (.lst (U.map iD)),none,none,fz (Ex U λz=>iD (l z)),none]=_;refine(aM (bu rfl (gp iD (λx=>!decide (l x=outI)) _ λx hx=>?_) (by rw[Zo,cu];omega))).trans rfl;have ht:cI (d2 qf (d2 cZ (dV 7) (dV 0)) (dA aQ (aC (d1 gJ (dC (.int 1))) (aC (d1 gJ (dC (.int 1))) aN)))) [fz (iD x),fz (brd bd),fz (cL P),fz (iW w),fz (.lst (U.map iD)),none,none,fz (Ex U λz=>iD (l z)),none]=ae (!decide (l x=outI)):=el ((aA ((aA (y:=iD x) rfl rfl).trans (zv (f:=λz=>iD (l z)) hx)) rfl).trans (Gx Nb (by decide) _ _));rw[oj,ht];cases decide (l x=outI)<;>rfl
 ·generalize hI:U.filter (λx=>!decide (l x=outI))=J at jz Mm;have hJ:J.Pairwise λa b=>ltI a b=true:=hI▸lA.filter _;have e1:Au [.lst (J.map iD)]=ae (.lst (J.map iD)):=RT hJ (by omega);have e2:bb 0 (cK (dV 7)) bC (d2 cZ (dV 7) (dV 0)) [fz (brd bd),fz (cL P),fz (iW w),fz (.lst (U.map iD)),none,none,fz (Ex U λz=>iD (l z)),fz (.lst (J.map iD))]=ae (.lst ((J.map l).map iD)):=by
   have:=bu (n:=0) (δi:=cK (dV 7)) (δt:=bC) (δe:=d2 cZ (dV 7) (dV 0)) (ρ:=[fz (brd bd),fz (cL P),fz (iW w),fz (.lst (U.map iD)),none,none,fz (Ex U λz=>iD (l z)),fz (.lst (J.map iD))]) (ds:=J.map iD) rfl (eF iD (λx=>iD (l x)) J λx hx=>?_) (by rw[Zo,cu];omega)
   ·rw[aap];exact this
   ·rw[oj];show (d2 cZ (dV 7) (dV 0) _>>=λy=>ae (some y))=_;rw[show d2 cZ (dV 7) (dV 0) (fz (iD x)::[fz (brd bd),fz (cL P),fz (iW w),fz (.lst (U.map iD)),none,none,fz (Ex U λz=>iD (l z)),fz (.lst (J.map iD))])=ae (iD (l x)) from(aA (x:=Ex U λz=>iD (l z)) (y:=iD x) rfl rfl).trans (zv (f:=λz=>iD (l z)) (jz x hx))];rfl
  have e3:i7 (.lst ((J.map l).map iD))=ae (nI (mx ((J.map l).map jc)).length):=by
   show (match eJ ((J.map l).map iD) with | some ks=>if (mx ks).length<=64/\((mx ks).map fe).Nodup then ae (D.int (mx ks).length) else ag | none=>ag)=_;rw[wI];refine agd ⟨?_,?_⟩
   ·have:(mx ((J.map l).map jc)).length<=((J.map l).map jc).length:=cN (Bb _) λk hk=>qB.mp hk;rw[Zo,Zo] at this;omega
   ·rw[aaj,aaX];refine acG (λ{a b} ha hb h z=>h ?_) (Bb ((J.map l).map jc));have mem:∀k,k∈mx ((J.map l).map jc)->∃p,p∈uu 8 8/\jc p=k:=λk hk=>by
     obtain⟨p,hp,rfl⟩:=Zx.mp (qB.mp hk);obtain⟨x,hx,rfl⟩:=Zx.mp hp;obtain⟨q1,q2,q3,q4⟩:=hP _ (h1.inn x (jz x hx));have:=hg.r8;have:=hg.w8;exact⟨l x,rX.mpr ⟨q1,by omega,q3,by omega⟩,rfl⟩
    obtain⟨p,p1,rfl⟩:=mem a ha;obtain⟨q,q1,rfl⟩:=mem b hb;exact agl jc (oH Nw p p1 q q1 z)
  refine(cx (xs:=[.lst (J.map iD),nI (mx ((J.map l).map jc)).length]) (a7 ((cx (xs:=[.lst (J.map iD)]) rfl).trans e1) (a7 ?_ rfl))).trans rfl;show (bb 0 (cK (dV 7)) bC (d2 cZ (dV 7) (dV 0)) _>>=i7)=_;rw[e2];exact e3
end
section
variable{R W w:Nat}{P:List Cell}
theorem kZ:x∈freeC R W P↔AR R W x/\x∉P.map eX:=by
 unfold freeC;rw[ZT,rX,acu,decide_eq_false_iff_not]
def Sb(R W:Nat)(x:IC):Prop:=AR R W x/\(x.1= -1\/x.1=R\/x.2= -1\/x.2=W)
theorem jj(hP:∀c∈P,On R W c)(h:Sb R W x):x∈freeC R W P:=kZ.mpr ⟨h.1,λz=>by
 obtain⟨c,hc,rfl⟩:=Zx.mp z;have:=hP c hc;obtain⟨h1,h2⟩:=this;have:=h.2;unfold eX at this
 dsimp only at this
 omega⟩
theorem wg(x:IC):Ei w x (x.1+1,x.2):=⟨1,by simp,0,by simp,by simp,by unfold L4;simp⟩
theorem rb(x:IC):Ei w x (x.1,x.2+1):=⟨0,by simp,1,by simp,by simp,by unfold L4;simp⟩
theorem Gi(hP:∀c∈P,On R W c){r:Int}(hr:r= -1\/r=R):∀j:Nat,(j:Int)<=W+1->Cc (freeC R W P) (Ei w) (r,-1) (r,-1+(j:Int))
 |0,_=> .refl
 |j+1,h=>by
  have ih:=Gi hP hr j (by omega);have e:=rb (w:=w) (r,-1+(j:Int));have m1:((r,-1+(j:Int)):IC)∈freeC R W P:=jj hP ⟨by refine⟨?_,?_,?_,?_⟩<;>dsimp only<;>omega,by dsimp only;omega⟩;have e2:((r,-1+(j:Int)).1,(r,-1+(j:Int)).2+1)=(r,-1+((j+1:Nat):Int)):=abx rfl (by dsimp only;omega);rw[e2] at e;exact .step ih m1 (jj hP ⟨by refine⟨?_,?_,?_,?_⟩<;>dsimp only<;>omega,by dsimp only;omega⟩) e
theorem Gh(hP:∀c∈P,On R W c){c:Int}(hc:c= -1\/c=W):∀i:Nat,(i:Int)<=R+1->Cc (freeC R W P) (Ei w) (-1,c) (-1+(i:Int),c)
 |0,_=> .refl
 |i+1,h=>by
  have ih:=Gh hP hc i (by omega);have e:=wg (w:=w) (-1+(i:Int),c);have m1:((-1+(i:Int),c):IC)∈freeC R W P:=jj hP ⟨by refine⟨?_,?_,?_,?_⟩<;>dsimp only<;>omega,by dsimp only;omega⟩;have e2:((-1+(i:Int),c).1+1,(-1+(i:Int),c).2)=(-1+((i+1:Nat):Int),c):=abx (by dsimp only;omega) rfl;rw[e2] at e;exact .step ih m1 (jj hP ⟨by refine⟨?_,?_,?_,?_⟩<;>dsimp only<;>omega,by dsimp only;omega⟩) e
theorem DV(hP:∀c∈P,On R W c){x:IC}(h:Sb R W x):Cc (freeC R W P) (Ei w) outI x:=by
 obtain⟨x1,x2⟩:=x;obtain⟨⟨h1,h2,h3,h4⟩,h5⟩:=h
 dsimp only at*
 have row:∀r:Int,r= -1\/r=R->Cc (freeC R W P) (Ei w) (r,-1) (r,x2):=λr hr=>by
  have:=Gi (w:=w) hP hr (x2+1).toNat (by omega)
  rwa [show -1+((x2+1).toNat:Int)=x2 by omega] at this
 have col:∀c:Int,c= -1\/c=W->Cc (freeC R W P) (Ei w) (-1,c) (x1,c):=λc hc=>by
  have:=Gh (w:=w) hP hc (x1+1).toNat (by omega)
  rwa [show -1+((x1+1).toNat:Int)=x1 by omega] at this
 rcases h5 with e | e | e | e
 ·subst e;exact row _ (.inl rfl)
 ·subst e;exact(col (-1) (.inl rfl)).trans (row _ (.inr rfl))
 ·subst e;exact col _ (.inl rfl)
 ·subst e;exact(row (-1) (.inl rfl)).trans (col _ (.inr rfl))
theorem O6:qk W outI=0:=by
 unfold qk outI;simp
theorem DB(hP:∀c∈P,On R W c)(h:Lb W (freeC R W P) (Ei w) l)(qA:Jq W (freeC R W P) (Ei w) l)(hi:∀x∈freeC R W P,∀y∈freeC R W P,qk W x=qk W y->x=y)(hx:x∈freeC R W P):l x=outI↔Cc (freeC R W P) (Ei w) outI x:=by
 have ho:outI∈freeC R W P:=jj hP ⟨⟨by decide,by show (-1:Int)<=R;omega,by decide,by show (-1:Int)<=W;omega⟩, .inl rfl⟩;have hl:l outI=outI:=hi _ (h.inn _ ho) _ ho (by have:=h.le _ ho;rw[O6] at this⊢;omega);rw[<-h.eq qA Ei.symm hi ho hx,hl];exact eq_comm
end
theorem ou{S:α->Prop}(f:α->Nat):∀(n:Nat) (x:α),S x->f x<=n->∃y,S y/\∀z,S z->f y<=f z
 |0,x,h,hn=>⟨x,h,λz _=>by omega⟩
 |n+1,x,h,hn=>by
  by_cases q:∃y,S y/\f y<f x
  ·obtain⟨y,h1,h2⟩:=q;exact ou f n y h1 (by omega)
  ·exact⟨x,h,λz hz=>Nat.le_of_not_lt λc=>q ⟨z,hz,c⟩⟩
theorem m8(h:fZ a.1 b.1+fZ a.2 b.2=1):jY 4 a b=true:=by
 unfold jY;rw[agd rfl];exact agg h
theorem CL(a:Nat):fZ a a=0:=by unfold fZ;rw[Nat.max_self,Nat.min_self,Nat.sub_self]
theorem Ma(a:Nat):fZ a (a+1)=1:=by unfold fZ;omega
theorem L_(h:0<a):fZ a (a - 1)=1:=by unfold fZ;omega
theorem R6{S:Cell->Prop}{P:List Cell}(h0:S x0)(jz:∀x,S x->0<x.1/\x.1+1<R/\0<x.2/\x.2+1<W)(Bo:∀x y,S x->On R W y->jY 4 x y=true->S y\/y∈P):4<=P.length:=by
 obtain⟨u,u1,u2⟩:=ou (λx=>x.1) _ x0 h0 (Zv _);obtain⟨d,d1,d2⟩:=ou (λx=>R - x.1) _ x0 h0 (Zv _);obtain⟨l,l1,l2⟩:=ou (λx=>x.2) _ x0 h0 (Zv _);obtain⟨r,r1,r2⟩:=ou (λx=>W - x.2) _ x0 h0 (Zv _);have iu:=jz u u1;have Zj:=jz d d1;have il:=jz l l1;have ir:=jz r r1;have mu:(u.1 - 1,u.2)∈P:=(Bo u (u.1 - 1,u.2) u1 ⟨by show u.1 - 1<R;omega,by show u.2<W;omega⟩ (m8 (by dsimp only;rw[L_ iu.1,CL]))).resolve_left λq=>by
  have:=u2 _ q
  dsimp only at this
  omega
 have md:(d.1+1,d.2)∈P:=(Bo d (d.1+1,d.2) d1 ⟨by show d.1+1<R;omega,by show d.2<W;omega⟩ (m8 (by dsimp only;rw[Ma,CL]))).resolve_left λq=>by
  have:=d2 _ q;have:=(jz _ q).2.1
  dsimp only at*
  omega
 have ml:(l.1,l.2 - 1)∈P:=(Bo l (l.1,l.2 - 1) l1 ⟨by show l.1<R;omega,by show l.2 - 1<W;omega⟩ (m8 (by dsimp only;rw[L_ il.2.2.1,CL]))).resolve_left λq=>by
  have:=l2 _ q
  dsimp only at this
  omega
 have mr:(r.1,r.2+1)∈P:=(Bo r (r.1,r.2+1) r1 ⟨by show r.1<R;omega,by show r.2+1<W;omega⟩ (m8 (by dsimp only;rw[Ma,CL]))).resolve_left λq=>by
  have:=r2 _ q;have:=(jz _ q).2.2.2
  dsimp only at*
  omega
 have a1:=u2 d d1;have a2:=u2 l l1;have a3:=u2 r r1;have b2:=d2 l l1;have b3:=d2 r r1;have c0:=l2 u u1;have c1:=l2 d d1;have c3:=l2 r r1;have e0:=r2 u u1;have e1:=r2 d d1;have hn:[(u.1 - 1,u.2),(d.1+1,d.2),(l.1,l.2 - 1),(r.1,r.2+1)].Nodup:=by
  simp only[aaK,Zw,Z7,or_false,not_or,aba,abH,and_true,not_false_eq_true];omega
 exact cN hn λx hx=>by
  simp only[Zw,Z7,or_false] at hx;rcases hx with rfl | rfl | rfl | rfl
  ·exact mu
  ·exact md
  ·exact ml
  ·exact mr
theorem wt(enc:α->D)(I:σ->cJ->Prop)(step:σ->α->σ):∀(xs:List α) (s:σ) (ρ:cJ),I s ρ->(∀s ρ,I s ρ->∀x∈xs,∃ρ1 ρ2,put (enc x) ρ=some ρ1/\body ρ1=ae (.nx ρ2)/\I (step s x) ρ2)->
 ∃ρ',forL put body (xs.map enc) ρ=ae (.nx ρ')/\I (xs.foldl step s) ρ'
 |[],s,ρ,h,_=>⟨ρ,rfl,h⟩
 |x::xs,s,ρ,h,st=>by
  obtain⟨ρ1,ρ2,e1,e2,h2⟩:=st s ρ h x (Zq ..);obtain⟨ρ',e3,h3⟩:=wt enc I step xs (step s x) ρ2 h2 λs ρ h y hy=>st s ρ h y (Zp _ hy);exact⟨ρ',by rw[Zu,c_ e1 e2,e3],h3⟩
theorem IF(h0:ρ[i]? =some (some (.ow c)))(hv:δv ρ=ae d)(hk:δk ρ=ae k)(hp:jf c k d=some c'):ft i δk δv ρ=ae (.nx (ρ.set i (some (.ow c')))):=by
 unfold ft xo;rw[h0];show (δv ρ>>=λv=>δk ρ>>=λk=>match jf c k v with | some c'=>ae (Out.nx (ρ.set i (some (.ow c')))) | none=>ag)=_;rw[hv,av,hk,av,hp]
theorem Kq{ks:List Cell}{vs:List Int}(hl:ks.length=vs.length)(h:c∈ks):∃i:Int,cZ (.dct (ks.map keyOf) (vs.map D.int)) (cD c)=ae (.int i):=by
 obtain⟨d,e1,e2⟩:=lh (ds:=vs.map D.int) (by rw[Zo];exact hl) h;obtain⟨i,_,rfl⟩:=Zx.mp (acM e2).2;refine⟨i,?_⟩;show (match (et (cD c)).map (da (ks.map keyOf) (vs.map D.int)) with | some (some v)=>ae v | _=>ag)=_;rw[gU];show (match some (da (ks.map keyOf) (vs.map D.int) (keyOf c)) with | some (some v)=>ae v | _=>ag)=_;rw[e1]
structure Sok (S:List Cell) (s:Bk Cell):Prop where
 len:s.ks.length=s.ps.length
 nd:s.ks.Nodup
 on:∀x∈s.ks,x∈S
 fu:s.fu.length<=s.ks.length
theorem Sok.step(h:Sok S s)(hx:x∈S):Sok S (de c s x):=by
 unfold de;split
 ·exact h
 ·rename_i hn;refine⟨by simp[h.len],?_,λy hy=>?_,by simp;exact h.fu⟩
  ·refine aaY.mpr ⟨h.nd,by simp,λy hy z hz e=>?_⟩;have hz:z=x:=by simpa using hz
   rw[e,hz] at hy;exact hn hy
  ·rcases Z9.mp hy with q | q
   ·exact h.on y q
   ·have:y=x:=by simpa using q
    rw[this];exact hx
abbrev dR(nr a:D)(ks:List Cell)(vs:List Int)(x3 x4 x5 x6:Option Sl):cJ:=[fz nr,fz a,some (.ow (.dct (ks.map keyOf) (vs.map D.int))),x3,x4,x5,x6]
theorem JX(zg:S.length<=64)(h:Sok S s)(hc:c∈s.ks)(hv:s.ks.length=vs.length):
 ∃iH,(de c s x).ks.length=iH.length/\P_ (dR nr a s.ks vs r (some (.ow (.lst (s.fu.map cD)))) (fz (cD c)) (fz (cD x)))=ae (.nx (dR nr a (de c s x).ks iH r (some (.ow (.lst ((de c s x).fu.map cD)))) (fz (cD c)) none)):=by
 have hle:s.ks.length<=S.length:=cN h.nd h.on;have ht:FD (cI (d2 (iO true) (dV 6) (dV 2))) (dR nr a s.ks vs r (some (.ow (.lst (s.fu.map cD)))) (fz (cD c)) (fz (cD x)))=ae (!decide (x∈s.ks)):=
  vK (el ((aA rfl rfl).trans (kQ (by rw[Zo];exact hv))))
 by_cases hx:x∈s.ks
 ·rw[agg hx] at ht;have e:de c s x=s:=agd hx;rw[e];exact⟨vs,hv,(aP (dE ht rfl)).trans rfl⟩
 ·rw[agh hx] at ht;have e:de c s x=⟨s.ks++[x],s.ps++[some c],s.fu++[x]⟩:=age hx;rw[e];obtain⟨i,hi⟩:=Kq hv hc;have hp:jf (.dct (s.ks.map keyOf) (vs.map D.int)) (cD x) (.int (i+1))=some (.dct ((s.ks++[x]).map keyOf) ((vs++[i+1]).map D.int)):=by
   rw[sO hx (by rw[Zo,<-hv,cu];omega),aaw (f:=D.int)];rfl
  refine⟨vs++[i+1],by simp[hv],(aP (ρ':=dR nr a (s.ks++[x]) (vs++[i+1]) r (some (.ow (.lst ((s.fu++[x]).map cD)))) (fz (cD c)) (fz (cD x))) (eB ht (ao ((IF rfl (Gm ((aA ((aA rfl rfl).trans hi) rfl).trans rfl) rfl) rfl hp).trans rfl) ?_))).trans rfl⟩;show (if (s.fu.map cD).length<lim then ae (Out.nx (dR nr a (s.ks++[x]) (vs++[i+1]) r (some (.ow (.lst (s.fu.map cD++[cD x])))) (fz (cD c)) (fz (cD x)))) else ag)=_;have:=h.fu;rw[agd (by rw[Zo,cu];omega),show s.fu.map cD++[cD x]=(s.fu++[x]).map cD by simp]
def ez(S:List Cell)(nb:Cell->List Cell):D:=AV S λy=>cL (nb y)
section
variable{S:List Cell}{nb:Cell->List Cell}
theorem D_{s:Bk Cell}(h:y∈s.ks):y∈(de c s x).ks:=(uI s).mpr (.inl h)
theorem D9(h:y∈s.ks):y∈(gM nb s c).ks:=((foldStep (P:=λ_ _=>True) (nb c) s λ_ _=>trivial).2 y).mpr (.inl h)
theorem JV(zg:S.length<=64)(hS:∀y∈S,∀x∈nb y,x∈S)(h:Sok S s)(hc:c∈s.ks)(hv:s.ks.length=vs.length):
 Sok S (gM nb s c)/\∃iH,(gM nb s c).ks.length=iH.length/\P9 (dR (ez S nb) a s.ks vs r (some (.ow (.lst (s.fu.map cD)))) (fz (cD c)) none)=ae (.nx (dR (ez S nb) a (gM nb s c).ks iH r (some (.ow (.lst ((gM nb s c).fu.map cD)))) none none)):=by
 have VM:=h.on c hc;obtain⟨ρ',e,h1,h2,iH,h3,rfl⟩:=wt (put:=putN 6) cD (λ(s:Bk Cell) ρ=>Sok S s/\c∈s.ks/\∃vs:List Int,s.ks.length=vs.length/\ρ=dR (ez S nb) a s.ks vs r (some (.ow (.lst (s.fu.map cD)))) (fz (cD c)) none) (de c) (nb c) s _ ⟨h,hc,vs,hv,rfl⟩ λs ρ ⟨h,hc,vs,hv,e⟩ x hx=>by
  subst e;obtain⟨iH,h1,h2⟩:=JX zg h hc hv;exact⟨_,_,rfl,h2,h.step (hS c VM x hx),D_ hc,iH,h1,rfl⟩
 refine⟨h1,iH,h3,(aP (cP ?_ e)).trans rfl⟩;have e0:d2 cZ (dV 0) (dV 5) (dR (ez S nb) a s.ks vs r (some (.ow (.lst (s.fu.map cD)))) (fz (cD c)) none)=ae (cL (nb c)):=(aA rfl rfl).trans (rH VM);show orM (cK (d2 cZ (dV 0) (dV 5)) _) _=_;rw[show cK (d2 cZ (dV 0) (dV 5)) (dR (ez S nb) a s.ks vs r (some (.ow (.lst (s.fu.map cD)))) (fz (cD c)) none)=ae ((nb c).map cD) by
  show (d2 cZ (dV 0) (dV 5) _>>=lstM)=_;rw[e0];rfl]
 rfl
theorem JW(zg:S.length<=64)(hS:∀y∈S,∀x∈nb y,x∈S)(hr:∀c∈P3,c∈s.ks)(h:Sok S s)(hf:s.fu=[])(hv:s.ks.length=vs.length):
 Sok S (b5 nb s P3)/\∃iH,(b5 nb s P3).ks.length=iH.length/\M9 (dR (ez S nb) a s.ks vs (fz (.lst (P3.map cD))) none none none)=ae (.nx (dR (ez S nb) a (b5 nb s P3).ks iH (fz (.lst ((b5 nb s P3).fu.map cD))) none none none)):=by
 obtain⟨ρ',e,h1,h2,iH,h3,rfl⟩:=wt (put:=putN 5) cD (λ(s:Bk Cell) ρ=>Sok S s/\(∀c∈P3,c∈s.ks)/\∃vs:List Int,s.ks.length=vs.length/\ρ=dR (ez S nb) a s.ks vs (fz (.lst (P3.map cD))) (some (.ow (.lst (s.fu.map cD)))) none none) (gM nb) P3 s _ ⟨h,hr,vs,hv,rfl⟩ λs ρ ⟨h,hr,vs,hv,e⟩ c hc=>by
  subst e;obtain⟨g1,iH,g2,g3⟩:=JV zg hS h (hr c hc) hv;exact⟨_,_,rfl,g3,g1,λc' Jw=>D9 (hr c' Jw),iH,g2,rfl⟩
 rw[hf] at e;refine⟨h1,iH,h3,(aP (ρ':=dR (ez S nb) a (b5 nb s P3).ks iH (fz (.lst ((b5 nb s P3).fu.map cD))) (fz (.lst ((b5 nb s P3).fu.map cD))) none none) ?_).trans rfl⟩;refine ao rfl (ao (ρ':=dR (ez S nb) a (b5 nb s P3).ks iH (fz (.lst (P3.map cD))) (some (.ow (.lst ((b5 nb s P3).fu.map cD)))) none none) ?_ rfl);exact cP rfl e
theorem yX(zg:S.length<=64)(hS:∀y∈S,∀x∈nb y,x∈S)(ha:a∈S):∀(fuel k:Nat) (ks:List Cell) (ps:List (Option Cell)) (P3:List Cell) (vs:List Int),S.length+2<=fuel+k->Rng nb a k ks ps P3->(∀x∈ks,x∈S)->ks.length=vs.length->
 ∃k' ks' MB iH,Rng nb a k' ks' MB []/\(∀x∈ks',x∈S)/\ks'.length=iH.length/\eM (c8 (dV 3)) M9 fuel (dR (ez S nb) (cD a) ks vs (fz (.lst (P3.map cD))) none none none)=ae (.nx (dR (ez S nb) (cD a) ks' iH (fz (.lst [])) none none none))
 |0,k,ks,ps,P3,vs,hf,hR,gD,hv=>by
  have h1:ks.length<=S.length:=cN hR.nd gD;have:=hR.sz.1;omega
 |fuel+1,k,ks,ps,[],vs,hf,hR,gD,hv=>⟨k,ks,ps,vs,hR,gD,hv,n4 rfl⟩
 |fuel+1,k,ks,ps,c::P3,vs,hf,hR,gD,hv=>by
  have hN:=hR.next (by simp);have QJ:∀x∈c::P3,x∈ks:=λx hx=>(hR.mem x).mpr ((hR.rg x).mp hx).1;obtain⟨hb,Y2,Ys,e⟩:=JW zg hS (s:=⟨ks,ps,[]⟩) QJ ⟨hR.len,hR.nd,gD,aae _⟩ rfl hv;obtain⟨k',ks',MB,iH,q1,q2,q3,q4⟩:=yX zg hS ha fuel (k+1) _ _ _ Y2 (by omega) hN hb.on Ys;exact⟨k',ks',MB,iH,q1,q2,q3,jl rfl e q4⟩
theorem tU(zg:S.length<=64)(hS:∀y∈S,∀x∈nb y,x∈S)(ha:a∈S):
 ∃(ks:List Cell) (vs:List Int),ks.Nodup/\(∀x∈ks,x∈S)/\(∀x,x∈ks↔∃j,Rb nb a j x)/\ks.length=vs.length/\gO [ez S nb,cD a]=ae (.dct (ks.map keyOf) (vs.map D.int)):=by
 obtain⟨k,ks,ps,vs,h1,h2,h3,h4⟩:=yX zg hS ha lim 0 [a] [none] [a] [0] (by rw[cu];omega) (Rng.zero _ _) (λx hx=>(show x=a by simpa using hx)▸ha) rfl;refine⟨ks,vs,h1.nd,h2,h1.last,h3,bf (ao rfl (ao rfl (ao (cz h4) rfl)))⟩
end
theorem OX{ks:List Cell}{f:Cell->D}{x:Cell}{d:D}:dH (ks.map keyOf) (ks.map f) (keyOf x)=(cF ks x).map keyOf/\cX (ks.map keyOf) (ks.map f) (keyOf x) d=(cF ks x).map (fH f x d):=by
 unfold cF dH cX;by_cases h:x∈ks
 ·rw[nV h,agd h];exact⟨rfl,xJ⟩
 ·rw[gu h,age h];have e1:ks.map f=ks.map (fH f x d):=adN λy hy=>by
   unfold fH;rw[age (λz:y=x=>h (z▸hy))]
  have e2:(ks++[x]).map (fH f x d)=ks.map (fH f x d)++[d]:=by
   rw[aaw];congr 1;show [fH f x d x]=[d]
   unfold fH;rw[agd rfl]
  exact⟨by rw[aaw];rfl,by rw[e2,<-e1];rfl⟩
theorem sd:∀(l ks:List Cell),dj (ks.map keyOf) (aZ ks) (l.map keyOf) (aZ l)=((l.foldl cF ks).map keyOf,aZ (l.foldl cF ks))
 |[],ks=>rfl
 |x::l,ks=>by
  show dj (dH (ks.map keyOf) (aZ ks) (keyOf x)) (cX (ks.map keyOf) (aZ ks) (keyOf x) (.bl true)) (l.map keyOf) (aZ l)=_;have h:=OX (ks:=ks) (f:=λ_=>D.bl true) (x:=x) (d:= .bl true);have e:fH (λ_=>D.bl true) x (.bl true)=λ_=>D.bl true:=by
   funext y;unfold fH;split<;>rfl
  rw[e] at h;rw[show aZ ks=ks.map (λ_=>D.bl true) from rfl,h.1,h.2];exact sd l (cF ks x)
theorem zb{l ks:List Cell}(h:ks.Nodup):(l.foldl cF ks).Nodup:=(lz l ks).1 h
section
open Classical
variable{bd:List Str}{W w:Nat}
noncomputable def bW(bd:List Str)(W w:Nat)(m:Cell):List Cell:=(az bd.length W).filter λx=>decide (Cn bd W w m x)
noncomputable def eR(bd:List Str)(W w:Nat)(l:List Cell):List Cell:=l.filter λx=>decide (Least bd W w x x)
theorem i_(hw:Ways w){m:Cell}(hm:On bd.length W m):IsPatch bd W w m (bW bd W w m):=by
 refine⟨(eN _ _).filter _,λx=>?_⟩;unfold bW;rw[ZT,aG,agf];exact⟨λh=>h.2,λh=>⟨h.on hw hm,h⟩⟩
theorem Least.on(hw:Ways w){x m:Cell}(hx:On bd.length W x)(h:Least bd W w x m):On bd.length W m:=h.1.on hw hx
theorem Least.move(hw:Ways w){x y m:Cell}(hx:On bd.length W x)(h:Least bd W w x m)(hy:Cn bd W w x y):Least bd W w y m:=
 ⟨(hy.symm hw hx).trans h.1,λz hz=>h.2 z (hy.trans hz)⟩
theorem Least.one(hw:Ways w){x m n:Cell}(hx:On bd.length W x)(h:Least bd W w x m)(h2:Least bd W w x n):m=n:=
 kr (h.on hw hx) (h2.on hw hx) (acP (h.2 n h2.1) (h2.2 m h.1))
theorem Least.self(hw:Ways w){x m:Cell}(hx:On bd.length W x)(h:Least bd W w x m):Least bd W w m m:=h.move hw hx h.1
variable(L:Cell->Cell)
theorem ET(hw:Ways w):∃L:Cell->Cell,∀x,On bd.length W x->Least bd W w x (L x):=by
 have h:∀x,∃m,On bd.length W x->Least bd W w x m:=λx=>by
  by_cases hx:On bd.length W x
  ·have hP:=i_ hw hx;cases hp:bW bd W w x with
   |nil=>have:=(hP.mem x).mpr Cn.refl;rw[hp] at this;cases this
   |cons m r=>
    rw[hp] at hP;have hm:=(hP.mem m).mp (Zq ..);refine⟨m,λ_=>⟨hm,λz hz=>?_⟩⟩;rcases Zw.mp ((hP.mem z).mpr hz) with rfl | YA
    ·exact Zv _
    ·exact aa5 ((dJ (hm.on hw hx) (hz.on hw hx)).mp ((aaI.mp hP.rise).1 z YA))
  ·exact⟨x,λz=>agj z hx⟩
 exact⟨λx=>Classical.choose (h x),λx=>Classical.choose_spec (h x)⟩
noncomputable def qm(L:Cell->Cell)(s:List Cell):Cell->D:=λk=>cL (s.filter λx=>decide (L x=k))
noncomputable def Wr(L:Cell->Cell)(s:List Cell):C:=Ew (bj (s.map L)) (qm L s)
noncomputable def JC(bd:List Str)(W w:Nat)(L:Cell->Cell)(s:List Cell)(x4:Option Sl):cJ:=[fz (brd bd),fz (iW w),fz (AV (az bd.length W) λx=>cD (L x)),some (.ow (Wr L s)),x4]
theorem CJ:∀l:List Cell,qY (l.map cD)=true
 |[]=>rfl
 |x::l=>by
  show (uS (cD x)&&qY (l.map cD))=true;rw[CJ l];rfl
theorem JT{δ:DE}{ρ:cJ}{l:List Cell}(h1:ng ρ=true)(h:δ (rj ρ)=ae (cL l)):P4 δ ρ=ae (cL l):=by
 unfold P4;rw[agd h1,h];show (if uS (cL l) then ae (cL l) else ag)=_;rw[agd (show uS (cL l)=true from CJ l)]
theorem Bz(l:List Cell)(x:Cell):bj (l++[x])=cF (bj l) x:=by
 unfold bj;rw[af9];rfl
theorem GO{i:Nat}{ρ:cJ}{δk:DE}{ks:List Cell}{f:Cell->D}{k:Cell}(h1:dV i ρ=ae (AV ks f))(h2:δk ρ=ae (cD k)):uQ (dV i) δk (dA bN aN) ρ=ae (if k∈ks then f k else .lst []):=by
 unfold uQ;rw[h1,av];show (δk ρ>>=λk=>dA bN aN ρ>>=λv=>getM (AV ks f) k v)=_;rw[h2,av];show getM (AV ks f) (cD k) (.lst [])=_;by_cases h:k∈ks
 ·rw[Ka h,agd h]
 ·rw[GP h,age h]
theorem KA(hg:Wd bd W){L:Cell->Cell}{s:List Cell}{x:Cell}(hx:On bd.length W x)(hs:s.length<64):UB (JC bd W w L s (fz (cD x)))=ae (.nx (JC bd W w L (s++[x]) none)):=by
 have hl:(bj (s.map L)).length<lim:=by
  have:=oD (s.map L);rw[Zo] at this;rw[cu];omega
 have i1:∀{o:Option Sl},d2 cZ (dV 2) (dV 4) [fz (brd bd),fz (iW w),fz (AV (az bd.length W) λx=>cD (L x)),o,fz (cD x)]=ae (cD (L x)):=(aA (x:=AV (az bd.length W) λx=>cD (L x)) (y:=cD x) rfl rfl).trans (rH (aG.mpr hx));have hv:P4 (d2 gS (uQ (dV 3) (d2 cZ (dV 2) (dV 4)) (dA bN aN)) (dA bN (aC (dV 4) aN))) (JC bd W w L s (fz (cD x)))=ae (cL ((s.filter λy=>decide (L y=L x))++[x])):=by
  refine JT rfl ?_;have g:uQ (dV 3) (d2 cZ (dV 2) (dV 4)) (dA bN aN) (rj (JC bd W w L s (fz (cD x))))=ae (cL (s.filter λy=>decide (L y=L x))):=by
   refine(GO (i:=3) (ks:=bj (s.map L)) (f:=qm L s) (k:=L x) rfl i1).trans ?_;by_cases h:L x∈bj (s.map L)
   ·rw[agd h];rfl
   ·rw[age h];have:s.filter (λy=>decide (L y=L x))=[]:=afa.mpr λy hy=>by
     rw[agf];exact λz=>h (dG.mpr (Zx.mpr ⟨y,hy,z⟩))
    rw[this];rfl
  exact(aA (y:=cL [x]) g rfl).trans (MZ (by have:=aad (λy=>decide (L y=L x)) s;show _+1<=4096;omega))
 refine(aP ((qG (ks:=bj (s.map L)) (f:=qm L s) (x:=L x) rfl hv i1 hl).trans rfl)).trans ?_;have ef:fH (qm L s) (L x) (cL ((s.filter λy=>decide (L y=L x))++[x]))=qm L (s++[x]):=by
  funext k;unfold fH qm;rw[ad5];by_cases e:k=L x
  ·subst e;rw[agd rfl,acm (by simp),ack]
  ·rw[age e,acn (by simp;exact λz=>e z.symm),ack,Z_]
 show ae (Out.nx [fz (brd bd),fz (iW w),fz (AV (az bd.length W) λx=>cD (L x)),some (.ow (Ew (cF (bj (s.map L)) (L x)) (fH (qm L s) (L x) (cL ((s.filter λy=>decide (L y=L x))++[x]))))),none])=_;rw[ef,<-Bz];unfold JC Wr;rw[aaw];rfl
theorem Dl(hg:Wd bd W){L:Cell->Cell}:∀(l s:List Cell),(∀x∈l,On bd.length W x)->s.length+l.length<=64->forL (putN 4) UB (l.map cD) (JC bd W w L s none)=ae (.nx (JC bd W w L (s++l) none))
 |[],s,_,_=>by rw[Z_];rfl
 |x::l,s,h,hl=>by
  rw[Zz] at hl;have:=Dl hg (L:=L) l (s++[x]) (λy hy=>h y (Zp _ hy)) (by rw[ZA];show _+1+_<=_;omega);rw[aa0] at this;exact(c_ rfl (KA hg (h x (Zq ..)) (by omega))).trans this
noncomputable def ki(bd:List Str)(W w:Nat):D:= .lst ((eR bd W w (az bd.length W)).map λm=>cL (bW bd W w m))
theorem t8(hg:Wd bd W)(hs:bd.length*W<64)(hw:Ways w):a9 [brd bd,iW w]=ae (ki bd W w):=by
 have hm:bd.length*W<=64:=aaL hg.r8 hg.w8;obtain⟨L,hL,eL⟩:=rN hg hw;have T0:(az bd.length W).length<=64:=by rw[bh];omega
 have lp:=Dl (w:=w) (L:=L) hg (az bd.length W) [] (λx hx=>aG.mp hx) (by simpa using T0);rw[ZY] at lp;have Jz:(bj ((az bd.length W).map L)).length<64:=by
  have:=oD ((az bd.length W).map L);rw[Zo,bh] at this;omega
 have Mq:jk (bj ((az bd.length W).map L))=eR bd W w (az bd.length W):=by
  refine vD (mw (m7 _)) ((eN _ _).filter _) λk=>?_;rw[i9,dG,Zx];unfold eR;rw[ZT,agf];constructor
  ·rintro⟨x,hx,rfl⟩;have hx:=aG.mp hx;exact⟨aG.mpr ((hL x hx).on hw hx),(hL x hx).self hw hx⟩
  ·rintro⟨hk,h⟩;exact⟨k,hk,(hL k (aG.mp hk)).one hw (aG.mp hk) h⟩
 have NN:∀k∈eR bd W w (az bd.length W),qm L (az bd.length W) k=cL (bW bd W w k):=λk hk=>by
  unfold eR at hk;rw[ZT,agf] at hk;have XT:=aG.mp hk.1;unfold qm bW;congr 1;refine aga λx hx=>?_;have hx:=aG.mp hx;rw[agm];constructor
  ·intro e;have:=(hL x hx).1;rw[e] at this;exact this.symm hw hx
  ·intro e;exact(hL x hx).one hw hx (hk.2.move hw XT e)
 refine bf (ao (ρ':=[fz (brd bd),fz (iW w),fz (AV (az bd.length W) λx=>cD (L x)),none,none]) ((aM (d:=AV (az bd.length W) λx=>cD (L x)) ((ar (ds:=[brd bd,iW w]) rfl rfl).trans eL)).trans rfl) (ao (ρ':=JC bd W w L [] none) rfl (ao (ρ':=JC bd W w L (az bd.length W) none) (cz (cP (ds:=(az bd.length W).map cD) (By ((ar (ds:=[brd bd]) rfl rfl).trans (j8 hg))) lp)) ?_)));refine br (bu (ds:=(eR bd W w (az bd.length W)).map cD) (ys:=(eR bd W w (az bd.length W)).map λm=>cL (bW bd W w m)) (By ?_) (eF cD (λm=>cL (bW bd W w m)) _ λm hm=>?_) ?_)
 ·rw[<-Mq];exact(cx (xs:=[AV (bj ((az bd.length W).map L)) (qm L (az bd.length W))]) rfl).trans (As (m7 _) Jz)
 ·rw[fw,<-NN m hm];have X2:m∈bj ((az bd.length W).map L):=by rw[<-i9,Mq];exact hm
  have:d2 cZ (dV 4) (dV 0) (fz (cD m)::frz 3 (JC bd W w L (az bd.length W) none))=ae (qm L (az bd.length W) m):=(aA (x:=AV (bj ((az bd.length W).map L)) (qm L (az bd.length W))) (y:=cD m) rfl rfl).trans (rH X2);rw[this];rfl
 ·rw[Zo,cu];have:=aad (λx=>decide (Least bd W w x x)) (az bd.length W);unfold eR;omega
theorem jX(hg:Brd bd W)(hs:bd.length*W<64)(hw:Ways w):a9 [brd bd,iW w]=ae (ki bd W w):=t8 hg.wd hs hw
end
section
open Classical
variable{bd:List Str}{W w:Nat}
noncomputable def D7(bd:List Str)(W w:Nat)(s:List Cell):List D:=(eR bd W w s).map λm=>cL (bW bd W w m)
noncomputable def MU(bd:List Str)(W w:Nat)(s ks:List Cell)(x4 x5:Option Sl):cJ:=[fz (brd bd),fz (iW w),some (.ow (.lst (D7 bd W w s))),some (.ow (.dct (ks.map keyOf) (aZ ks))),x4,x5]
structure Seen (bd:List Str) (W w:Nat) (s ks:List Cell):Prop where
 nd:ks.Nodup
 on:∀y∈ks,On bd.length W y
 mem:∀y,y∈ks↔∃m∈eR bd W w s,Cn bd W w m y
theorem AA(h0:ρ[i]? =some (some (.ow (.dct (ks.map keyOf) (aZ ks)))))(hd:δ ρ=ae (rM l))(hz:ks.length+l.length<=4096)(hh:ks=[]->((bj l).map λc=>fe (ic c)).Nodup):
 Fv i δ ρ=ae (.nx (ρ.set i (some (.ow (.dct (((bj l).foldl cF ks).map keyOf) (aZ ((bj l).foldl cF ks))))))):=by
 unfold Fv xo;rw[h0];show (δ ρ>>=λd=>match Jo (ks.map keyOf) (aZ ks) d with | some c'=>ae (Out.nx (ρ.set i (some (.ow c')))) | none=>ag)=_;rw[hd,av];have:Jo (ks.map keyOf) (aZ ks) (rM l)=some (.dct (((bj l).foldl cF ks).map keyOf) (aZ ((bj l).foldl cF ks))):=by
  show (match fE ((bj l).map keyOf) with | some ns=>if (aZ ks).length+(aZ (bj l)).length<=lim/\((ks.map keyOf).isEmpty=true->(ns.map fe).Nodup) then some (C.dct (dj (ks.map keyOf) (aZ ks) ((bj l).map keyOf) (aZ (bj l))).1 (dj (ks.map keyOf) (aZ ks) ((bj l).map keyOf) (aZ (bj l))).2) else none | none=>none)=_;rw[kU];show (if (aZ ks).length+(aZ (bj l)).length<=lim/\((ks.map keyOf).isEmpty=true->(((bj l).map ic).map fe).Nodup) then some (C.dct (dj (ks.map keyOf) (aZ ks) ((bj l).map keyOf) (aZ (bj l))).1 (dj (ks.map keyOf) (aZ ks) ((bj l).map keyOf) (aZ (bj l))).2) else none)=_;have c1:(aZ ks).length+(aZ (bj l)).length<=lim:=by
   have:=oD l;unfold aZ;rw[Zo,Zo,cu];omega
  have c2:(ks.map keyOf).isEmpty=true->(((bj l).map ic).map fe).Nodup:=λz=>by
   rw[aap];exact hh (by cases ks with | nil=>rfl | cons _ _=>cases z)
  rw[agd ⟨c1,c2⟩,sd]
 rw[this]
theorem Aq(hg:Brd bd W)(hs:bd.length*W<64)(hw:Ways w)(hx:On bd.length W x)(h0:dV 0 ρ=ae (brd bd))(h1:dV 1 ρ=ae (iW w))(h4:dV 4 ρ=ae (cD x)):
 dA vI (aC (ay 3 dZ (aC (dV 0) (aC (dV 4) (aC (dV 1) aN)))) aN) ρ=ae (cL (bW bd W w x)):=by
 obtain⟨k,ks,ps,q1,q2,q3⟩:=tm hg hw hx;have e1:ay 3 dZ (aC (dV 0) (aC (dV 4) (aC (dV 1) aN))) ρ=ae (L7 ks ps):=(ar (a7 h0 (a7 h4 (a7 h1 rfl))) rfl).trans q3;refine(cx (a7 e1 rfl)).trans ((As q1.nd (acS (qx q1.nd q2) hs)).trans ?_);have:jk ks=bW bd W w x:=IsPatch.one ⟨mw q1.nd,λx=>i9.trans (q1.last x)⟩ (i_ hw hx);rw[this]
theorem jD(s:List Cell)(x:Cell):eR bd W w (s++[x])=if Least bd W w x x then eR bd W w s++[x] else eR bd W w s:=by
 unfold eR;rw[ad5];by_cases h:Least bd W w x x
 ·rw[agd h,acm (by rw[agf];exact h),ack]
 ·rw[age h,acn (by rw[agf];exact h),ack,Z_]
theorem JI(hg:Brd bd W)(hs:bd.length*W<64)(hw:Ways w){L:Cell->Cell}(hL:∀x,On bd.length W x->Least bd W w x (L x))(e:s++x::r=az bd.length W)(h:Seen bd W w s ks):
 ∃ks',Seen bd W w (s++[x]) ks'/\Tc (MU bd W w s ks (fz (cD x)) none)=ae (.nx (MU bd W w (s++[x]) ks' none none)):=by
 have hx:On bd.length W x:=aG.mp (by rw[<-e];simp);have lA:=eN bd.length W;rw[<-e] at lA;have Pu:∀y∈s,On bd.length W y:=λy hy=>aG.mp (by rw[<-e];simp[hy]);have QJ:∀y∈r,On bd.length W y:=λy hy=>aG.mp (by rw[<-e];simp[hy]);have wz:∀y∈s,rank W y<rank W x:=λy hy=>(dJ (Pu y hy) hx).mp ((aby.mp lA).2.2 y hy x (Zq ..));have Bn:∀y∈r,rank W x<rank W y:=λy hy=>(dJ hx (QJ y hy)).mp ((aaI.mp (aby.mp lA).2.1).1 y hy);have XS:ks.length<=64:=by have:=qx h.nd h.on;omega
 have C8:s.length<64:=by
  have:=agl afE e;rw[bh,ZA,Zz] at this;omega
 have ht:FD (cI (d2 (iO true) (dV 4) (dV 3))) (MU bd W w s ks (fz (cD x)) none)=ae (!decide (x∈ks)):=
  vK (el ((aA rfl rfl).trans (kQ (by simp[aZ]))))
 by_cases hl:Least bd W w x x
 ·have Up:x∉ks:=λz=>by
   obtain⟨m,hm,hc⟩:=(h.mem x).mp z;unfold eR at hm;rw[ZT,agf] at hm;have h1:=wz m hm.1;have h2:=hl.2 m (hc.symm hw (Pu m hm.1));omega
  rw[agh Up] at ht;have hP:=i_ hw hx;have Nu:∀y∈bW bd W w x,On bd.length W y:=λy hy=>((hP.mem y).mp hy).on hw hx;have Kd:(bW bd W w x).length<=64:=by have:=qx hP.rise.nodup Nu;omega
  have yu:(D7 bd W w s).length<lim:=by
   unfold D7;rw[Zo,cu];have:=aad (λx=>decide (Least bd W w x x)) s;unfold eR;omega
  refine⟨(bj (bW bd W w x)).foldl cF ks,⟨zb h.nd,λy hy=>?_,λy=>?_⟩,?_⟩
  ·rcases((lz (bj (bW bd W w x)) ks).2.1 y).mp hy with q | q
   ·exact h.on y q
   ·exact Nu y (dG.mp q)
  ·rw[(lz (bj (bW bd W w x)) ks).2.1 y,dG,h.mem y,jD,agd hl,hP.mem y];constructor
   ·rintro(⟨m,hm,hc⟩ | hc)
    ·exact⟨m,Z9.mpr (.inl hm),hc⟩
    ·exact⟨x,by simp,hc⟩
   ·rintro⟨m,hm,hc⟩;rcases Z9.mp hm with hm | hm
    ·exact .inl ⟨m,hm,hc⟩
    ·rw[Z0.mp hm] at hc;exact .inr hc
  ·have ef:D7 bd W w (s++[x])=D7 bd W w s++[cL (bW bd W w x)]:=by
    unfold D7;rw[jD,agd hl,aaw];rfl
   refine(aP (ρ':=[fz (brd bd),fz (iW w),some (.ow (.lst (D7 bd W w s++[cL (bW bd W w x)]))),some (.ow (.dct (((bj (bW bd W w x)).foldl cF ks).map keyOf) (aZ ((bj (bW bd W w x)).foldl cF ks)))),fz (cD x),fz (cL (bW bd W w x))]) (eB ht (ao ((aM (Aq hg hs hw hx rfl rfl rfl)).trans rfl) (ao (ρ':=[fz (brd bd),fz (iW w),some (.ow (.lst (D7 bd W w s++[cL (bW bd W w x)]))),some (.ow (.dct (ks.map keyOf) (aZ ks))),fz (cD x),fz (cL (bW bd W w x))]) ?_ ?_)))).trans ?_
   ·show (if (D7 bd W w s).length<lim then ae (Out.nx [fz (brd bd),fz (iW w),some (.ow (.lst (D7 bd W w s++[cL (bW bd W w x)]))),some (.ow (.dct (ks.map keyOf) (aZ ks))),fz (cD x),fz (cL (bW bd W w x))]) else ag)=_;rw[agd yu]
   ·exact(AA rfl ((ar rfl rfl).trans (kW (by omega))) (by omega) (λ_=>CW hg.r8 hg.w8 (m7 _) λy hy=>Nu y (dG.mp hy))).trans rfl
   ·unfold MU;rw[ef];rfl
 ·have hm:=hL x hx;have iV:L x≠x:=λz=>hl (by rw[z] at hm;exact hm);have dO:rank W (L x)<rank W x:=by
   have h1:=hm.2 x Cn.refl;have h2:rank W (L x)≠rank W x:=λz=>iV (kr (hm.on hw hx) hx z);omega
  have X4:L x∈s:=by
   have:L x∈s++x::r:=by rw[e];exact aG.mpr (hm.on hw hx)
   rcases Z9.mp this with q | q
   ·exact q
   ·rcases Zw.mp q with q | q
    ·exact agj q iV
    ·have:=Bn _ q;omega
  have Up:x∈ks:=(h.mem x).mpr ⟨L x,by unfold eR;rw[ZT,agf];exact⟨X4,hm.self hw hx⟩,hm.1.symm hw hx⟩;rw[agg Up] at ht;refine⟨ks,⟨h.nd,h.on,λy=>by rw[jD,age hl];exact h.mem y⟩,?_⟩;have ef:D7 bd W w (s++[x])=D7 bd W w s:=by
   unfold D7;rw[jD,age hl]
  refine(aP (dE ht rfl)).trans ?_;unfold MU;rw[ef];rfl
theorem Cw(hg:Brd bd W)(hs:bd.length*W<64)(hw:Ways w){L:Cell->Cell}(hL:∀x,On bd.length W x->Least bd W w x (L x)):∀(r s ks:List Cell),s++r=az bd.length W->Seen bd W w s ks->
 ∃ks',forL (putN 4) Tc (r.map cD) (MU bd W w s ks none none)=ae (.nx (MU bd W w (az bd.length W) ks' none none))
 |[],s,ks,e,h=>by
  rw[Z_] at e;exact⟨ks,by rw[e];rfl⟩
 |x::r,s,ks,e,h=>by
  obtain⟨YE,h1,e1⟩:=JI hg hs hw hL e h;obtain⟨YF,e2⟩:=Cw hg hs hw hL r (s++[x]) YE (by rw[aa0];exact e) h1;exact⟨YF,(c_ rfl e1).trans e2⟩
theorem p_(hg:Brd bd W)(hs:bd.length*W<64)(hw:Ways w):fI [brd bd,iW w]=ae (ki bd W w):=by
 obtain⟨L,hL⟩:=ET hw;obtain⟨ks,e⟩:=Cw hg hs hw hL (az bd.length W) [] [] rfl ⟨abH,(λy hy=>(by cases hy)),(λy=>⟨λz=>(by cases z),λ⟨m,hm,_⟩=>(by cases hm)⟩)⟩;refine bf (ao rfl (ao rfl (ao (cz (cP (By ((ar rfl rfl).trans (lx hg))) e)) rfl)))
end
end K1
namespace K1
open PySem PySem.Spec L2 L3
open PyProof.Rows hiding St
section
variable{nb:Cell->List Cell}
theorem rn(h:c∈nb a):∀{j:Nat},Rb nb c j b->Rb nb a (j+1) b
 |0,q=> .inr ⟨a,rfl,(show b=c from q)▸h⟩
 |j+1,q=>q.elim (λq=> .inl (rn h q)) λ⟨y,q1,q2⟩=> .inr ⟨y,rn h q1,q2⟩
theorem ro(h:Rb nb a i b):∀{j:Nat},Rb nb b j c->Rb nb a (i+j) c
 |0,q=>(show c=b from q)▸h
 |j+1,q=>q.elim (λq=> .inl (ro h q)) λ⟨y,q1,q2⟩=> .inr ⟨y,ro h q1,q2⟩
theorem CU{P:Cell->Prop}(hP:∀y,P y->∀x∈nb y,P x)(ha:P a):∀{j:Nat},Rb nb a j b->P b
 |0,q=>(show b=a from q)▸ha
 |j+1,q=>q.elim (λq=>CU hP ha q) λ⟨y,q1,q2⟩=>hP y (CU hP ha q1) b q2
theorem wu{P:Cell->Prop}(hP:∀y,P y->∀x∈nb y,P x)(hs:∀y,P y->∀x∈nb y,y∈nb x)(ha:P a):∀{j:Nat},Rb nb a j b->Rb nb b j a
 |0,q=>(show b=a from q).symm
 |j+1,q=>q.elim (λq=> .inl (wu hP hs ha q)) λ⟨y,q1,q2⟩=>rn (hs y (CU hP ha q1) b q2) (wu hP hs ha q1)
end
def t_(R W w:Nat)(S:List Cell)(y:Cell):List Cell:=(lH R W w y).filter λx=>decide (x∈S)
theorem k7(hw:Ways w):x∈t_ R W w S y↔On R W x/\jY w y x=true/\x∈S:=by
 unfold t_;rw[ZT,oG hw,agf,and_assoc]
def CnS(R W w:Nat)(S:List Cell)(a b:Cell):Prop:=∃j,Rb (t_ R W w S) a j b
section
open Classical
variable{bd:List Str}{W w:Nat}{S:List Cell}{R:Nat}
theorem BE(hw:Ways w):∀y,y∈S->∀x∈t_ R W w S y,x∈S:=λy _ x hx=>((k7 hw).mp hx).2.2
theorem Of(hw:Ways w)(gD:∀y∈S,On R W y):∀y,y∈S->∀x∈t_ R W w S y,y∈t_ R W w S x:=λy hy x hx=>(k7 hw).mpr ⟨gD y hy,by rw[sm];exact((k7 hw).mp hx).2.1,hy⟩
theorem CnS.refl:CnS R W w S a a:=⟨0,rfl⟩
theorem CnS.trans(h:CnS R W w S a b)(h2:CnS R W w S b c):CnS R W w S a c:=let ⟨i,p⟩:=h;let ⟨j,q⟩:=h2;⟨i+j,ro p q⟩
theorem CnS.symm(hw:Ways w)(gD:∀y∈S,On R W y)(ha:a∈S)(h:CnS R W w S a b):CnS R W w S b a:=let ⟨j,q⟩:=h;⟨j,wu (BE hw) (Of hw gD) ha q⟩
theorem CnS.mem(hw:Ways w){a b:Cell}(ha:a∈S)(h:CnS R W w S a b):b∈S:=let ⟨_,q⟩:=h;CU (BE hw) ha q
def LS(R W w:Nat)(S:List Cell)(x:Cell):Prop:=∀y,CnS R W w S x y->rank W x<=rank W y
noncomputable def l6(R W w:Nat)(S t:List Cell):List Cell:=t.filter λx=>decide (LS R W w S x)
theorem foldl_addK:∀(l t:List Cell),(t++l).Nodup->l.foldl cF t=t++l
 |[],t,_=>by simp
 |x::l,t,h=>by
  have hx:x∉t:=λq=>(aaY.mp h).2.2 x q x (Zq ..) rfl;rw[abj,show cF t x=t++[x] from age hx,foldl_addK l (t++[x]) (by rw[aa0];exact h),aa0];rfl
theorem Hy(hg:Brd bd W)(hw:Ways w)(hn:S.Nodup)(gD:∀y∈S,On bd.length W y):f_ [brd bd,cL S,iW w]=ae (ez S (t_ bd.length W w S)):=by
 have hm:bd.length*W<=64:=aaL hg.r8 hg.w8;have zg:S.length<=64:=by
  have:=cN hn λx hx=>aG.mpr (gD x hx);rw[bh] at this;omega
 obtain⟨_,e⟩:=iL (put:=putN 5) (body:=Wv) cD (λt:List Cell=>[fz (brd bd),fz (cL S),fz (iW w),fz (rM S),some (.ow (Ew t λy=>cL (t_ bd.length W w S y))),none]) cF (λt=>t.Nodup/\∀y∈t,y∈S) S [] ⟨abH,λ_ h=>by cases h⟩ λt ⟨h1,h2⟩ x hx=>by
  have hl:=cN h1 h2;refine⟨⟨(lz [x] t).1 h1,λy hy=>(yA.mp hy).elim (h2 y) λq=>q▸hx⟩,_,rfl,?_⟩;refine(aP (ρ':=[fz (brd bd),fz (cL S),fz (iW w),fz (rM S),some (.ow (Ew (cF t x) λy=>cL (t_ bd.length W w S y))),fz (cD x)]) ?_).trans rfl;refine(qG (d:=cL (t_ bd.length W w S x)) rfl (bu (By ((ar rfl rfl).trans (kg hg hw (gD x hx)))) (gp cD _ _ λy hy=>?_) ?_) rfl (by rw[cu];omega)).trans ?_
  ·rw[oj,el (b:=decide (y∈S)) ((aA rfl rfl).trans ((kQ (by simp[aZ])).trans (by rw[age (by decide)];congr 2;rw[agm];exact dG))),av];cases decide (y∈S)<;>rfl
  ·rw[Zo,cu];exact Z2 (aad ..) (Z2 (oE ..) (by decide))
  ·have:fH (λy=>cL (t_ bd.length W w S y)) x (cL (t_ bd.length W w S x))=λy=>cL (t_ bd.length W w S y):=by
    funext y;unfold fH;split
    ·rename_i q;rw[q]
    ·rfl
   rw[this];rfl
 rw[foldl_addK S [] (by simpa using hn),ZY] at e;exact bf (ao ((aM ((ar rfl rfl).trans (kW (by omega)))).trans rfl) (ao rfl (ao (cz (cP rfl e)) rfl)))
theorem Ht(h:ks.length<=64):Dm [.dct (ks.map keyOf) ds]=ae (cL ks):=by
 show (match fE (ks.map keyOf) with | some ks=>if ks.length<=lim/\ks.all (λk=>decide (k.length<=lim)) then ae (D.lst (ks.map tupI)) else ag | none=>ag)=_;rw[kU];show (if (ks.map ic).length<=lim/\(ks.map ic).all (λk=>decide (k.length<=lim)) then ae (D.lst ((ks.map ic).map tupI)) else ag)=_;rw[agd ⟨by rw[Zo,cu];omega,aan.mpr λk hk=>by obtain⟨c,_,rfl⟩:=Zx.mp hk;rfl⟩,aap];rfl
abbrev OU(b w nr:D)(S:List Cell)(u8:List D)(ks:List Cell)(x6 x7:Option Sl):cJ:=[fz b,fz (cL S),fz w,fz nr,some (.ow (.lst u8)),some (.ow (.dct (ks.map keyOf) (aZ ks))),x6,x7]
structure SeenS (R W w:Nat) (S t ks:List Cell):Prop where
 nd:ks.Nodup
 on:∀y∈ks,y∈S
 mem:∀y,y∈ks↔∃m∈t,CnS R W w S m y
theorem u3(t:List Cell)(x:Cell):l6 R W w S (t++[x])=if LS R W w S x then l6 R W w S t++[x] else l6 R W w S t:=by
 unfold l6;rw[ad5];by_cases h:LS R W w S x
 ·rw[agd h,acm (by rw[agf];exact h),ack]
 ·rw[age h,acn (by rw[agf];exact h),ack,Z_]
end
end K1
namespace K1
open PySem L2 L3
def PtL(R W w:Nat)(S fs:List Cell)(Ls:List (List Cell)):Prop:=Ls.length=fs.length/\∀p∈fs.zip Ls,p.2.Nodup/\∀y,y∈p.2↔CnS R W w S p.1 y
theorem PtL.snoc(h:PtL R W w S fs Ls)(h1:l.Nodup)(h2:∀y,y∈l↔CnS R W w S x y):PtL R W w S (fs++[x]) (Ls++[l]):=by
 refine⟨by rw[ZA,ZA,h.1];rfl,λp hp=>?_⟩;rw[acL h.1.symm] at hp;rcases Z9.mp hp with q | q
 ·exact h.2 p q
 ·rw[Z0.mp q];exact⟨h1,h2⟩
section
variable{bd:List Str}{W w:Nat}{S:List Cell}
theorem Iy(hg:Brd bd W)(hs:bd.length*W<64)(hw:Ways w)(hS:RiseC S)(gD:∀y∈S,On bd.length W y)(e:t++x::r=S)(h:SeenS bd.length W w S t ks)(ha:PtL bd.length W w S (l6 bd.length W w S t) Ls):
 ∃Ls' ks',SeenS bd.length W w S (t++[x]) ks'/\PtL bd.length W w S (l6 bd.length W w S (t++[x])) Ls'/\UO (OU (brd bd) (iW w) (ez S (t_ bd.length W w S)) S (Ls.map cL) ks (fz (cD x)) none)=ae (.nx (OU (brd bd) (iW w) (ez S (t_ bd.length W w S)) S (Ls'.map cL) ks' none none)):=by
 have SF:x∈S:=by rw[<-e];simp
 have hx:=gD x SF;have hn:=RiseC.nodup hS;have hl:S.length<=bd.length*W:=qx hn gD;have zg:S.length<=64:=by omega
 have lA:=hS;rw[<-e] at lA;have V9:∀y∈t,y∈S:=λy hy=>by rw[<-e];simp[hy]
 have wz:∀y∈t,rank W y<rank W x:=λy hy=>(dJ (gD y (V9 y hy)) hx).mp ((aby.mp lA).2.2 y hy x (Zq ..));have Bn:∀y∈r,rank W x<rank W y:=λy hy=>(dJ hx (gD y (by rw[<-e];simp[hy]))).mp ((aaI.mp (aby.mp lA).2.1).1 y hy);have XS:ks.length<=64:=by have:=cN h.nd h.on;omega
 have Mh:Ls.length<=64:=by
  rw[ha.1];have h1:(l6 bd.length W w S t).length<=t.length:=by unfold l6;exact aad ..
  have h2:t.length<=S.length:=by rw[<-e,ZA];omega
  omega
 have ht:FD (cI (d2 (iO true) (dV 6) (dV 5))) (OU (brd bd) (iW w) (ez S (t_ bd.length W w S)) S (Ls.map cL) ks (fz (cD x)) none)=ae (!decide (x∈ks)):=
  vK (el ((aA rfl rfl).trans (kQ (by simp[aZ]))))
 by_cases hk:x∈ks
 ·rw[agg hk] at ht;obtain⟨m,hm,hc⟩:=(h.mem x).mp hk;have hf:¬LS bd.length W w S x:=λq=>by
   have:=q m (hc.symm hw gD (V9 m hm));have:=wz m hm;omega
  refine⟨Ls,ks,⟨h.nd,h.on,λy=>?_⟩,by rw[u3,age hf];exact ha,(aP (dE ht rfl)).trans rfl⟩;rw[h.mem y];constructor
  ·rintro⟨m,hm,q⟩;exact⟨m,by simp[hm],q⟩
  ·rintro⟨n,EG,q⟩;rcases Z9.mp EG with z | z
   ·exact⟨n,z,q⟩
   ·rw[Z0.mp z] at q;exact⟨m,hm,hc.trans q⟩
 ·rw[agh hk] at ht;have hf:LS bd.length W w S x:=λy hy=>by
   have We:=hy.mem hw SF;rw[<-e] at We;rcases Z9.mp We with q | q
   ·exact agj ((h.mem x).mpr ⟨y,q,hy.symm hw gD SF⟩) hk
   ·rcases Zw.mp q with q | q
    ·rw[q];exact Zv _
    ·exact aa5 (Bn y q)
  obtain⟨l,vs,l1,l2,l3,l4,l5⟩:=tU zg (BE hw) SF;have TR:l.length<=64:=by have:=cN l1 l2;omega
  refine⟨Ls++[l],(bj l).foldl cF ks,⟨zb h.nd,λy hy=>?_,λy=>?_⟩,by rw[u3,agd hf];exact ha.snoc l1 l3,?_⟩
  ·rcases((lz (bj l) ks).2.1 y).mp hy with q | q
   ·exact h.on y q
   ·exact l2 y (dG.mp q)
  ·rw[(lz (bj l) ks).2.1 y,dG,h.mem y,l3 y];constructor
   ·rintro(⟨m,hm,q⟩ | q)
    ·exact⟨m,by simp[hm],q⟩
    ·exact⟨x,by simp,q⟩
   ·rintro⟨m,hm,q⟩;rcases Z9.mp hm with z | z
    ·exact .inl ⟨m,z,q⟩
    ·rw[Z0.mp z] at q;exact .inr q
  ·rw[aaw];refine(aP (ρ':=OU (brd bd) (iW w) (ez S (t_ bd.length W w S)) S (Ls.map cL++[cL l]) ((bj l).foldl cF ks) (fz (cD x)) (fz (cL l))) (eB ht (ao ((aM ((cx (a7 ((ar rfl rfl).trans l5) rfl)).trans (Ht TR))).trans rfl) (ao (ρ':=OU (brd bd) (iW w) (ez S (t_ bd.length W w S)) S (Ls.map cL++[cL l]) ks (fz (cD x)) (fz (cL l))) ?_ ?_)))).trans rfl
   ·show (if (Ls.map cL).length<lim then ae (Out.nx _) else ag)=_;rw[agd (by rw[Zo,cu];omega)];rfl
   ·exact(AA rfl ((ar rfl rfl).trans (kW (by omega))) (by omega) (λ_=>CW hg.r8 hg.w8 (m7 _) λy hy=>gD y (l2 y (dG.mp hy)))).trans rfl
theorem Ac(hg:Brd bd W)(hs:bd.length*W<64)(hw:Ways w)(hS:RiseC S)(gD:∀y∈S,On bd.length W y):∀(r t ks:List Cell) (Ls:List (List Cell)),t++r=S->SeenS bd.length W w S t ks->PtL bd.length W w S (l6 bd.length W w S t) Ls->
 ∃Ls' ks',PtL bd.length W w S (l6 bd.length W w S S) Ls'/\forL (putN 6) UO (r.map cD) (OU (brd bd) (iW w) (ez S (t_ bd.length W w S)) S (Ls.map cL) ks none none)=ae (.nx (OU (brd bd) (iW w) (ez S (t_ bd.length W w S)) S (Ls'.map cL) ks' none none))
 |[],t,ks,Ls,e,h,ha=>by
  rw[Z_] at e;subst e;exact⟨Ls,ks,ha,rfl⟩
 |x::r,t,ks,Ls,e,h,ha=>by
  obtain⟨a1,k1,h1,h2,h3⟩:=Iy hg hs hw hS gD e h ha;obtain⟨a2,k2,g1,g2⟩:=Ac hg hs hw hS gD r (t++[x]) k1 a1 (by rw[aa0];exact e) h1 h2;exact⟨a2,k2,g1,(c_ rfl h3).trans g2⟩
theorem BR(hg:Brd bd W)(hs:bd.length*W<64)(hw:Ways w)(hS:RiseC S)(gD:∀y∈S,On bd.length W y):∃Ls:List (List Cell),PtL bd.length W w S (l6 bd.length W w S S) Ls/\jx [brd bd,cL S,iW w]=ae (.lst (Ls.map cL)):=by
 obtain⟨Ls,ks,h1,h2⟩:=Ac hg hs hw hS gD S [] [] [] rfl ⟨abH,(λ_ h=>by cases h),λy=>by simp⟩ ⟨rfl,λp hp=>by simp[l6] at hp⟩;exact⟨Ls,h1,bf (ao ((aM ((ar rfl rfl).trans (Hy hg hw (RiseC.nodup hS) gD))).trans rfl) (ao rfl (ao rfl (ao (cz (cP rfl h2)) rfl))))⟩
end
section
variable{R W w:Nat}{P:List Cell}
def cH(R W:Nat)(P:List Cell):List Cell:=(az R W).filter λx=>!decide (x∈P)
theorem i8:x∈cH R W P↔On R W x/\x∉P:=by
 unfold cH;rw[ZT,aG,acu,decide_eq_false_iff_not]
theorem gH(h:x∈cH R W P):eX x∈freeC R W P:=by
 obtain⟨⟨h1,h2⟩,h3⟩:=i8.mp h;refine kZ.mpr ⟨⟨by unfold eX;dsimp only;omega,by unfold eX;dsimp only;omega,by unfold eX;dsimp only;omega,by unfold eX;dsimp only;omega⟩,λz=>?_⟩;obtain⟨c,hc,e⟩:=Zx.mp z;exact h3 (D5 e▸hc)
theorem Og(hw:Ways w)(h:jY w x y=true):Ei w (eX x) (eX y):=by
 obtain⟨x1,x2⟩:=x;obtain⟨y1,y2⟩:=y;have e1:(y1:Int)=x1+((y1:Int) - x1):=by omega
 have e2:(y2:Int)=x2+((y2:Int) - x2):=by omega
 rw[qC e1 e2] at h;refine⟨(y1:Int) - x1,qw ?_,(y2:Int) - x2,qw ?_,abx e1 e2,?_⟩
 all_goals
  generalize (y1:Int) - x1=d at h;generalize (y2:Int) - x2=e at h;rcases hw with rfl | rfl
 ·exact agi h▸aaU ..
 ·exact agi h▸Nat.le_max_left ..
 ·exact agi h▸Nat.le_add_left ..
 ·exact agi h▸Nat.le_max_right ..
 ·have h:=agi h;unfold L4;simp only[acp,agf];omega
 ·rfl
theorem CI(hw:Ways w)(hx:x∈cH R W P):∀{j:Nat},Rb (t_ R W w (cH R W P)) x j y->Cc (freeC R W P) (Ei w) (eX x) (eX y)
 |0,r=>by cases r;exact .refl
 |j+1, .inl r=>CI hw hx r
 |j+1, .inr ⟨z,r,q⟩=>by
  obtain⟨_,q2,q3⟩:=(k7 hw).mp q;have hz:z∈cH R W P:=CnS.mem hw hx ⟨j,r⟩;exact .step (CI hw hx r) (gH hz) (gH q3) (Og hw q2)
end
section
variable{R W w:Nat}{P:List Cell}
def LU(R W:Nat)(x:Cell):Prop:=0<x.1/\x.1+1<R/\0<x.2/\x.2+1<W
theorem Gv:∀d∈[(-1:Int),0,1],∀e∈[(-1:Int),0,1],∀w∈[4,8],L4 w d e=true->(d=0/\e=0)\/(if w=4 then decide (d.natAbs+e.natAbs=1) else decide (max d.natAbs e.natAbs=1))=true:=by decide
theorem M_(hw:Ways w)(h:Ei w (eX x) (eX y)):y=x\/jY w x y=true:=by
 obtain⟨x1,x2⟩:=x;obtain⟨y1,y2⟩:=y;obtain⟨d,hd,e,he,q,qa⟩:=h;have q1:(y1:Int)=x1+d:=agl Prod.fst q;have q2:(y2:Int)=x2+e:=agl Prod.snd q;rw[qC q1 q2];rcases Gv d hd e he w (by rcases hw with rfl | rfl<;>decide) qa with⟨rfl,rfl⟩ | h
 ·exact .inl (abx (by dsimp only;omega) (by dsimp only;omega))
 ·exact .inr h
theorem CG(hw:Ways w)(hx:x∈cH R W P)(jz:∀y,CnS R W w (cH R W P) x y->LU R W y)(h:Cc (freeC R W P) (Ei w) (eX x) p):∃y,CnS R W w (cH R W P) x y/\p=eX y:=by
 induction h with
 |refl=>exact⟨x,CnS.refl,rfl⟩
 | @step u v _ h1 h2 e ih=>
   obtain⟨y,hy,rfl⟩:=ih;obtain⟨i1,i2,i3,i4⟩:=jz y hy;obtain⟨hp,wC⟩:=kZ.mp h2;have hv:∃z,On R W z/\v=eX z:=by
    obtain⟨d,hd,e',he,q,_⟩:=e;simp only[Zw,Z7,or_false] at hd he;unfold eX at q
    dsimp only at q
    refine⟨(((y.1:Int)+d).toNat,((y.2:Int)+e').toNat),⟨by show ((y.1:Int)+d).toNat<R;omega,by show ((y.2:Int)+e').toNat<W;omega⟩,?_⟩;rw[q];unfold eX;exact abx (by dsimp only;omega) (by dsimp only;omega)
   obtain⟨z,hz,rfl⟩:=hv;have YB:z∈cH R W P:=i8.mpr ⟨hz,λq=>wC (Zx.mpr ⟨z,q,rfl⟩)⟩;rcases M_ hw e with rfl | q
   ·exact⟨z,hy,rfl⟩
   ·obtain⟨j,r⟩:=hy;exact⟨z,⟨j+1, .inr ⟨y,r,(k7 hw).mpr ⟨hz,q,YB⟩⟩⟩,rfl⟩
end
section
variable{R W w:Nat}{P:List Cell}
theorem Gu(hP:∀c∈P,On R W c)(hy:y∈cH R W P)(he:¬LU R W y):Cc (freeC R W P) (Ei w) outI (eX y):=by
 have hf:=gH hy;obtain⟨⟨h1,h2⟩,_⟩:=i8.mp hy;have hc:y.1=0\/y.1+1=R\/y.2=0\/y.2+1=W:=by unfold LU at he;omega
 have go:∀r:IC,Sb R W r->Ei w r (eX y)->Cc (freeC R W P) (Ei w) outI (eX y):=λr hr e=> .step (DV hP hr) (jj hP hr) hf e;rcases hc with q | q | q | q
 ·have e:=wg (w:=w) (-1,(y.2:Int));rw[show (((-1,(y.2:Int)):IC).1+1,((-1,(y.2:Int)):IC).2)=eX y from abx (by unfold eX;dsimp only;omega) rfl] at e;exact go _ ⟨by refine⟨?_,?_,?_,?_⟩<;>dsimp only<;>omega, .inl rfl⟩ e
 ·have e:=wg (w:=w) (eX y);rw[show ((eX y).1+1,(eX y).2)=((R:Int),(y.2:Int)) from abx (by unfold eX;dsimp only;omega) rfl] at e;exact go _ ⟨by refine⟨?_,?_,?_,?_⟩<;>dsimp only<;>omega, .inr (.inl rfl)⟩ (Ei.symm _ _ e)
 ·have e:=rb (w:=w) ((y.1:Int),-1);rw[show ((((y.1:Int),-1):IC).1,(((y.1:Int),-1):IC).2+1)=eX y from abx rfl (by unfold eX;dsimp only;omega)] at e;exact go _ ⟨by refine⟨?_,?_,?_,?_⟩<;>dsimp only<;>omega, .inr (.inr (.inl rfl))⟩ e
 ·have e:=rb (w:=w) (eX y);rw[show ((eX y).1,(eX y).2+1)=((y.1:Int),(W:Int)) from abx rfl (by unfold eX;dsimp only;omega)] at e;exact go _ ⟨by refine⟨?_,?_,?_,?_⟩<;>dsimp only<;>omega, .inr (.inr (.inr rfl))⟩ (Ei.symm _ _ e)
theorem HR(hw:Ways w)(hP:∀c∈P,On R W c)(hx:x∈cH R W P):Cc (freeC R W P) (Ei w) outI (eX x)↔∃y,CnS R W w (cH R W P) x y/\¬LU R W y:=by
 constructor
 ·intro h;apply aav;intro z;obtain⟨y,_,e⟩:=CG hw hx (λy hy=>aav λq=>z ⟨y,hy,q⟩) (h.symm Ei.symm);unfold outI eX at e;simp only[aba] at e;omega
 ·rintro⟨y,⟨j,r⟩,he⟩;exact(Gu hP (CnS.mem hw hx ⟨j,r⟩) he).trans ((CI hw hx r).symm Ei.symm)
end
end K1
namespace K1
open PySem PySem.Spec L2 L3
open PyProof.Rows hiding St
def wH(R W:Nat)(x:Cell):Bool:=(decide (0<x.1)&&decide (x.1+1<R))&&(decide (0<x.2)&&decide (x.2+1<W))
theorem zp:wH R W x=true↔LU R W x:=by
 unfold wH LU;simp only[ZM,agf];omega
theorem QW(i a b:Int):tX false (.int i) (.tup [.int a, .int b])=ae (.bl (decide (i=a)||decide (i=b))):=by
 show ae (D.bl ([a,b].contains i))=_;congr 2;simp[afX]
theorem N0(h:δ ρ=ae (.lst ds)):cK δ ρ=ae ds:=by
 unfold cK;rw[h];rfl
section
open Classical
variable{bd:List Str}{W w:Nat}{P:List Cell}
theorem zu(hg:Brd bd W)(hc:On bd.length W c):dW [brd bd,cD c]=ae (.bl (!wH bd.length W c)):=by
 have r1:=hg.r1;have w1:=hg.w1;have c1:=hc.1;have c2:=hc.2;refine bf (br ?_);have e1:d2 (tX false) (d2 a8 (dV 1) (dC (.int 0))) (dA aQ (aC (dC (.int 0)) (aC (d2 lq (dA bO (aC (dV 0) aN)) (dC (.int 1))) aN))) [fz (brd bd),fz (cD c)]=ae (.bl (decide ((c.1:Int)=0)||decide ((c.1:Int)=(bd.length:Int) - 1))):=
  (aA rfl ((cx (a7 rfl (a7 ((aA (EV rfl) rfl).trans rfl) rfl))).trans rfl)).trans (QW _ _ _)
 have e2:d2 (tX false) (d2 a8 (dV 1) (dC (.int 1))) (dA aQ (aC (dC (.int 0)) (aC (d2 lq (dA bO (aC (d2 a8 (dV 0) (dC (.int 0))) aN)) (dC (.int 1))) aN))) [fz (brd bd),fz (cD c)]=ae (.bl (decide ((c.2:Int)=0)||decide ((c.2:Int)=(W:Int) - 1))):=
  (aA rfl ((cx (a7 rfl (a7 ((aA (hg.len0 rfl) rfl).trans rfl) rfl))).trans rfl)).trans (QW _ _ _)
 refine(M3 e1 e2).trans ?_;congr 2;rw[Bool.eq_iff_iff];unfold wH;simp only[acp,agf,acu,Bool.and_eq_false_iff,decide_eq_false_iff_not];omega
theorem Eb{l:List Bool}(h:ds=l.map D.bl):anyM [.lst ds]=ae (.bl (l.any id)):=by
 show (match bools ds with | some bs=>ae (D.bl (bs.any id)) | none=>ag)=_;rw[h,uN]
theorem Eo(hg:Brd bd W)(hl:∀c∈l,On bd.length W c)(hn:l.length<=64):dw [brd bd,cL l]=ae (.bl (l.any λc=>!wH bd.length W c)):=by
 refine bf (br ?_);have cm:bb 0 (cK (dV 1)) bC (ay 2 dW (aC (dV 1) (aC (dV 0) aN))) [fz (brd bd),fz (cL l)]=ae (.lst ((l.map λc=>!wH bd.length W c).map D.bl)):=by
  refine bu rfl ?_ (by rw[Zo,Zo,cu];omega);rw[aap];refine eF cD (λc=> .bl (!wH bd.length W c)) l λc hc=>?_;rw[fw,show ay 2 dW _ _=ae (.bl (!wH bd.length W c)) from(ar rfl rfl).trans (zu hg (hl c hc))];rfl
 refine(cx (a7 cm rfl)).trans ((Eb rfl).trans ?_);rw[afk];rfl
theorem PtL.of(h:PtL R W w S fs Ls)(hl:l∈Ls):∃f∈fs,l.Nodup/\∀y,y∈l↔CnS R W w S f y:=by
 obtain⟨i,hi,rfl⟩:=adP hl;have qz:i<fs.length:=h.1▸hi;have hz:(fs[i],Ls[i])∈fs.zip Ls:=aal.mpr ⟨i,by rw[abA];omega,by rw[acA]⟩;exact⟨fs[i],aaM _,h.2 _ hz⟩
def cY(R W:Nat)(l:List Cell):Bool:=!(l.any λc=>!wH R W c)
theorem lb:cY R W l=true↔∀c∈l,LU R W c:=by
 unfold cY;rw[acu,agb];constructor
 ·intro h c hc;have:=h c hc;rw[Bool.not_eq_true,af2] at this;exact zp.mp this
 ·intro h c hc;rw[Bool.not_eq_true,af2];exact zp.mpr (h c hc)
theorem iq:∀y∈cH R W P,On R W y:=λy hy=>(i8.mp hy).1
theorem z6:RiseC (cH R W P):=(eN _ _).filter _
theorem Cm(hw:Ways w):Ways (12 - w):=by rcases hw with rfl | rfl;exact .inr rfl;exact .inl rfl
theorem s_(hg:Brd bd W)(hs:bd.length*W<64)(hw:Ways w)(Kd:P.length<64):∃Ls:List (List Cell),PtL bd.length W (12 - w) (cH bd.length W P) (l6 bd.length W (12 - w) (cH bd.length W P) (cH bd.length W P)) Ls/\Ls.length<=64/\dY [brd bd,iW w,cL P]=ae (.lst ((Ls.filter (cY bd.length W)).map cL)):=by
 obtain⟨Ls,h1,h2⟩:=BR hg hs (Cm hw) (z6 (P:=P)) iq;have ho:(cH bd.length W P).length<=bd.length*W:=by
  have:=aad (λx=>!decide (x∈P)) (az bd.length W);rw[bh] at this;exact this
 have hl:Ls.length<=64:=by
  rw[h1.1];have:=aad (λx=>decide (LS bd.length W (12 - w) (cH bd.length W P) x)) (cH bd.length W P);unfold l6;omega
 refine⟨Ls,h1,hl,bf ?_⟩;refine ao ((aM ((ar rfl rfl).trans (kW (by omega)))).trans rfl) ?_;refine ao ((aM (bu (N0 ((ar rfl rfl).trans (lx hg))) (gp cD (λx=>!decide (x∈P)) _ λx hx=>?_) ?_)).trans rfl) ?_
 ·rw[oj,show cI (d2 (iO true) (dV 0) (dV 4)) _=ae (!decide (x∈P)) from el ((aA rfl rfl).trans ((kQ (by simp[aZ])).trans (by rw[agd rfl];congr 3;rw[agm];exact dG)))];cases decide (x∈P)<;>rfl
 ·rw[Zo,cu];exact Z2 ho (by omega)
 refine ao ((aM (d:= .int ((12 - w:Nat):Int)) ?_).trans rfl) ?_
 ·rcases hw with rfl | rfl<;>rfl
 refine br (bu (N0 ((ar rfl rfl).trans h2)) (gp cL (cY bd.length W) _ λl zl=>?_) ?_)
 ·obtain⟨f,hf,zo,hm⟩:=h1.of zl;have Xu:f∈cH bd.length W P:=(ZT.mp hf).1;have gD:∀c∈l,On bd.length W c:=λc hc=>iq c (CnS.mem (Cm hw) Xu ((hm c).mp hc));have TR:l.length<=64:=by
   have:=cN zo λx hx=>aG.mpr (gD x hx);rw[bh] at this;omega
  rw[oj,show eV (c8 (ay 2 dw (aC (dV 1) (aC (dV 0) aN)))) _=ae (cY bd.length W l) from j5 (gy ((ar rfl rfl).trans (Eo hg gD TR)))];cases cY bd.length W l<;>rfl
 ·rw[Zo,cu];exact Z2 (aad ..) (by omega)
end
end K1
namespace K1
open PySem L2 L3
section
open Classical
variable{R W v:Nat}{P:List Cell}{Ls:List (List Cell)}{l:IC->IC}
theorem O5(ha:AR R W a)(hb:AR R W b)(h:qk W a=qk W b):a=b:=by
 have n1:¬ltI a b=true:=λq=>by have:=(DW ha hb).mp q;omega
 have n2:¬ltI b a=true:=λq=>by have:=(DW hb ha).mp q;omega
 unfold ltI at n1 n2;simp only[acp,ZM,agf] at n1 n2;exact abx (by omega) (by omega)
noncomputable def tV(R W v:Nat)(P:List Cell):List Cell:=l6 R W v (cH R W P) (cH R W P)
theorem fc(h:f∈tV R W v P):f∈cH R W P:=(ZT.mp h).1
theorem GH(hw:Ways v)(hx:x∈cH R W P):∃f∈tV R W v P,CnS R W v (cH R W P) f x:=by
 obtain⟨f,h1,h2⟩:=ou (rank W) _ x CnS.refl (Zv _);have hf:=CnS.mem hw hx h1;exact⟨f,ZT.mpr ⟨hf,agg λy hy=>h2 y (h1.trans hy)⟩,h1.symm hw iq hx⟩
theorem CT(hw:Ways v)(hf:f∈tV R W v P)(hg:g∈tV R W v P)(h:CnS R W v (cH R W P) f g):f=g:=by
 have a1:LS R W v (cH R W P) f:=agi (ZT.mp hf).2;have a2:LS R W v (cH R W P) g:=agi (ZT.mp hg).2;exact kr (iq f (fc hf)) (iq g (fc hg)) (acP (a1 g h) (a2 f (h.symm hw iq (fc hf))))
theorem GG:(tV R W v P).Nodup:=RiseC.nodup (z6.filter _)
def tO(R W v:Nat)(P:List Cell)(x:Cell):Prop:=∀y,CnS R W v (cH R W P) x y->LU R W y
theorem PtL.at(h:PtL R W v S fs Ls)(hi:i<Ls.length):Ls[i].Nodup/\∀y,y∈Ls[i]↔CnS R W v S (fs[i]'(h.1▸hi)) y:=by
 have qz:i<fs.length:=h.1▸hi;exact h.2 (fs[i],Ls[i]) (aal.mpr ⟨i,by rw[abA];omega,by rw[acA]⟩)
theorem rW(hw:Ways v)(h:PtL R W v (cH R W P) (tV R W v P) Ls):x∈(Ls.filter (cY R W)).flatten↔x∈cH R W P/\tO R W v P x:=by
 rw[List.mem_flatten];constructor
 ·rintro⟨l,hl,hx⟩;obtain⟨tZ,FR⟩:=ZT.mp hl;obtain⟨f,hf,_,hm⟩:=h.of tZ;have hc:=(hm x).mp hx;exact⟨CnS.mem hw (fc hf) hc,λy hy=>lb.mp FR y ((hm y).mpr (hc.trans hy))⟩
 ·rintro⟨hx,Uh⟩;obtain⟨f,hf,hc⟩:=GH hw hx;obtain⟨i,hi,rfl⟩:=adP hf;have qz:i<Ls.length:=h.1▸hi;obtain⟨_,hm⟩:=h.at qz;exact⟨Ls[i],ZT.mpr ⟨aaM _,lb.mpr λc Bo=>Uh c ((hc.symm hw iq (fc hf)).trans ((hm c).mp Bo))⟩,(hm x).mpr hc⟩
theorem CS(hw:Ways v)(h:PtL R W v (cH R W P) (tV R W v P) Ls):(Ls.filter (cY R W)).flatten.Nodup:=by
 refine List.pairwise_flatten.mpr ⟨λl hl=>?_,aeh _ ?_⟩
 ·obtain⟨f,_,hn,_⟩:=h.of (ZT.mp hl).1;exact hn
 ·refine aax.mpr λi j hi hj Bp x hx y hy e=>?_;subst e;have qz:i<(tV R W v P).length:=h.1▸hi;have Qx:j<(tV R W v P).length:=h.1▸hj;have c1:=((h.at hi).2 x).mp hx;have c2:=((h.at hj).2 x).mp hy;have:=CT hw (aaM qz) (aaM Qx) (c1.trans (c2.symm hw iq (fc (aaM Qx))));have:=(List.getElem_inj GG).mp this;omega
theorem rl:∀x∈freeC R W P,∀y∈freeC R W P,qk W x=qk W y->x=y:=λx hx y hy=>O5 (rm hx) (rm hy)
theorem s9(hw:Ways v)(hP:∀c∈P,On R W c)(h1:Lb W (freeC R W P) (Ei v) l)(h2:Jq W (freeC R W P) (Ei v) l)(hx:x∈cH R W P):l (eX x)=outI↔¬tO R W v P x:=by
 rw[DB hP h1 h2 rl (gH hx),HR hw hP hx];unfold tO;constructor
 ·rintro⟨y,a,b⟩ z;exact b (z y a)
 ·intro z;apply byContradiction;intro q;exact z λy hy=>byContradiction λr=>q ⟨y,hy,r⟩
theorem kS(hw:Ways v)(hP:∀c∈P,On R W c)(h1:Lb W (freeC R W P) (Ei v) l)(h2:Jq W (freeC R W P) (Ei v) l):p∈(freeC R W P).filter (λx=>!decide (l x=outI))↔∃x,(x∈cH R W P/\tO R W v P x)/\p=eX x:=by
 rw[ZT,acu,decide_eq_false_iff_not];constructor
 ·rintro⟨hp,hl⟩;have hr:¬Sb R W p:=λq=>hl ((DB hP h1 h2 rl hp).mpr (DV hP q));obtain⟨a1,a2⟩:=kZ.mp hp;have hr:¬(p.1= -1\/p.1=R\/p.2= -1\/p.2=W):=λq=>hr ⟨a1,q⟩;obtain⟨b1,b2,b3,b4⟩:=a1;have e:p=eX (p.1.toNat,p.2.toNat):=abx (by unfold eX;dsimp only;omega) (by unfold eX;dsimp only;omega);have hx:(p.1.toNat,p.2.toNat)∈cH R W P:=i8.mpr ⟨⟨by dsimp only;omega,by dsimp only;omega⟩,λq=>a2 (by rw[e];exact Zx.mpr ⟨_,q,rfl⟩)⟩;refine⟨_,⟨hx,?_⟩,e⟩;rw[e] at hl;exact byContradiction λq=>hl ((s9 hw hP h1 h2 hx).mpr q)
 ·rintro⟨x,⟨hx,hs⟩,rfl⟩;exact⟨gH hx,λq=>(s9 hw hP h1 h2 hx).mp q hs⟩
theorem Bs(hw:Ways v)(hP:∀c∈P,On R W c)(h1:Lb W (freeC R W P) (Ei v) l)(h2:Jq W (freeC R W P) (Ei v) l)(h:PtL R W v (cH R W P) (tV R W v P) Ls):
 ((freeC R W P).filter λx=>!decide (l x=outI)).map iD=(jk (Ls.filter (cY R W)).flatten).map cD:=by
 have e:((freeC R W P).filter λx=>!decide (l x=outI)).map jc=(jk (Ls.filter (cY R W)).flatten).map ic:=by
  refine kx ?_ (qH.mpr (mw (CS hw h))) λk=>?_
  ·unfold vO;rw[aaX];exact abE (λ{a b} q=>by rw[Dp];exact q) (((oW R W).filter _).filter _)
  ·constructor
   ·intro hk;obtain⟨p,hp,rfl⟩:=Zx.mp hk;obtain⟨x,hx,rfl⟩:=(kS hw hP h1 h2).mp hp;exact Zx.mpr ⟨x,i9.mpr ((rW hw h).mpr hx),rfl⟩
   ·intro hk;obtain⟨x,hx,rfl⟩:=Zx.mp hk;exact Zx.mpr ⟨eX x,(kS hw hP h1 h2).mpr ⟨x,(rW hw h).mp (i9.mp hx),rfl⟩,rfl⟩
 have e2:=agl (List.map tupI) e;rw[aap,aap] at e2;exact e2
theorem len_one{α:Type}[DecidableEq α]{a b:List α}(ha:a.Nodup)(hb:b.Nodup)(h:∀x,x∈a↔x∈b):a.length=b.length:=acP (k8 ha λx hx=>(h x).mp hx) (k8 hb λx hx=>(h x).mpr hx)
theorem IV(hw:Ways v)(h:PtL R W v (cH R W P) (tV R W v P) Ls):(Ls.filter (cY R W)).length=((tV R W v P).filter λf=>decide (tO R W v P f)).length:=by
 have e1:Ls=((tV R W v P).zip Ls).map Prod.snd:=(List.map_snd_zip (afs h.1)).symm;have e2:tV R W v P=((tV R W v P).zip Ls).map Prod.fst:=(List.map_fst_zip (afs h.1.symm)).symm;have a1:(Ls.filter (cY R W)).length=(((tV R W v P).zip Ls).filter (cY R W∘Prod.snd)).length:=by
  conv=>lhs;rw[e1]
  rw[adD,Zo]
 have a2:((tV R W v P).filter λf=>decide (tO R W v P f)).length=(((tV R W v P).zip Ls).filter ((λf=>decide (tO R W v P f))∘Prod.fst)).length:=by
  conv=>lhs;rw[e2]
  rw[adD,Zo]
 rw[a1,a2];congr 1;refine aga λp hp=>?_;obtain⟨_,hm⟩:=h.2 p hp;show cY R W p.2=decide (tO R W v P p.1);rw[Bool.eq_iff_iff,lb,agf];exact⟨λq y hy=>q y ((hm y).mpr hy),λq c hc=>q c ((hm c).mp hc)⟩
theorem EI(hw:Ways v)(hP:∀c∈P,On R W c)(h1:Lb W (freeC R W P) (Ei v) l)(h2:Jq W (freeC R W P) (Ei v) l)(h:PtL R W v (cH R W P) (tV R W v P) Ls):
 (mx ((((freeC R W P).filter λx=>!decide (l x=outI)).map l).map jc)).length=(Ls.filter (cY R W)).length:=by
 rw[IV hw h,<-Zo (f:=λf=>jc (l (eX f)))];have key:∀{x y:Cell},x∈cH R W P->tO R W v P x->y∈cH R W P->(l (eX x)=l (eX y)↔CnS R W v (cH R W P) x y):=λ{x y} hx hs hy=>by
  rw[h1.eq h2 Ei.symm rl (gH hx) (gH hy)];constructor
  ·intro q;obtain⟨z,hz,e⟩:=CG hw hx hs q;rw[D5 e];exact hz
  ·rintro⟨j,q⟩;exact CI hw hx q
 refine len_one (Bb _) ?_ λk=>?_
 ·rw[aaj,aaX];refine acG (λ{a b} ha hb q z=>q ?_) ((GG).filter _);obtain⟨a1,a2⟩:=ZT.mp ha;obtain⟨b1,b2⟩:=ZT.mp hb;exact CT hw a1 b1 ((key (fc a1) (agi a2) (fc b1)).mp (Hh z))
 ·rw[qB];constructor
  ·intro hk;obtain⟨q,hq,rfl⟩:=Zx.mp hk;obtain⟨p,hp,rfl⟩:=Zx.mp hq;obtain⟨x,⟨hx,hs⟩,rfl⟩:=(kS hw hP h1 h2).mp hp;obtain⟨f,hf,hc⟩:=GH hw hx;have Sv:tO R W v P f:=λy hy=>hs y ((hc.symm hw iq (fc hf)).trans hy);exact Zx.mpr ⟨f,ZT.mpr ⟨hf,agg Sv⟩,agl jc ((key (fc hf) Sv hx).mpr hc)⟩
  ·intro hk;obtain⟨f,hf,rfl⟩:=Zx.mp hk;obtain⟨a1,a2⟩:=ZT.mp hf;exact Zx.mpr ⟨l (eX f),Zx.mpr ⟨eX f,(kS hw hP h1 h2).mpr ⟨f,⟨fc a1,agi a2⟩,rfl⟩,rfl⟩,rfl⟩
theorem B9(hw:Ways v)(h:PtL R W v (cH R W P) (tV R W v P) Ls)(h3:P.length<=3):Ls.filter (cY R W)=[]:=by
 refine afa.mpr λm hm q=>?_;obtain⟨f,hf,_,V0⟩:=h.of hm;have:4<=P.length:=R6 CnS.refl (λx hx=>lb.mp q x ((V0 x).mpr hx)) λx y hx hy hn=>by
  by_cases hp:y∈P
  ·exact .inr hp
  ·have EG:jY v x y=true:=by
    rcases hw with rfl | rfl
    ·exact hn
    ·exact Q_ hn
   exact .inl (hx.trans ⟨1, .inr ⟨x,rfl,(k7 hw).mpr ⟨hy,EG,i8.mpr ⟨hy,hp⟩⟩⟩⟩)
 omega
end
def Sh(q:Nat×List Cell):D:= .tup [.int (q.1:Int),cL q.2]
theorem vj(Ps:List (List Cell)):(Ps.map cL).mapIdx (λi d=>D.tup [.int (i:Int),d])=(Ps.zipIdx.map λq:List Cell×Nat=>(q.2,q.1)).map Sh:=by
 apply List.ext_getElem?;intro i;simp only[afv,ZJ,List.getElem?_zipIdx,Option.map_map,acd];cases Ps[i]? <;>simp[Sh]
section
open Classical
variable{bd:List Str}{W w:Nat}
noncomputable def bz(bd:List Str)(W w:Nat):List (List Cell):=(eR bd W w (az bd.length W)).map (bW bd W w)
theorem mh:ki bd W w= .lst ((bz bd W w).map cL):=by
 unfold ki bz;rw[aap];rfl
theorem se(h:m∈eR bd W w (az bd.length W)):On bd.length W m:=by
 unfold eR at h;exact aG.mp (ZT.mp h).1
theorem vv(hw:Ways w):∀P∈bz bd W w,∀y∈P,On bd.length W y:=λP hP y hy=>by
 unfold bz at hP;obtain⟨m,hm,rfl⟩:=Zx.mp hP;exact(((i_ hw (se hm)).mem y).mp hy).on hw (se hm)
end
end K1
namespace K1
open PySem PySem.Spec L2 L3
open PyProof.Rows hiding St
theorem xN(h:δ ρ=bD n):uv δ ρ=bD n:=by
 unfold uv;rw[h];rfl
theorem nP(h:a ρ=bD n):aF a b ρ=bD n:=by
 unfold aF;rw[h];rfl
theorem D0(h:δ ρ=bD n):a_ i δ ρ=bD n:=by
 unfold a_;rw[h];rfl
def Lp(n:Nat):D:= .tup [.str "refused", .int (n:Int)]
def R0(m:M D):M D:=match m with
 |some (.ex n)=>noex (Jy n)
 |r=>r
theorem MK:aD [.int 0,b,w,n]=R0 (eQ [b,w,n]):=by
 show ((match (eQ [b,w,n]>>=λd=>ae (Out.rt d)) with | some (.ex n)=>noex (Jy n)>>=λd=>ae (Out.rt d) | r=>r)>>=λo=>match o with | .nx _=>ae D.non | .rt d=>ae d)=_
 match eQ [b,w,n] with
 |none=>rfl
 |some (.ok a)=>rfl
 |some (.ex n)=>rfl
theorem ML:aD [.int 1,b,w,n]=R0 (gP [b,w,n]):=by
 show ((match (gP [b,w,n]>>=λd=>ae (Out.rt d)) with | some (.ex n)=>noex (Jy n)>>=λd=>ae (Out.rt d) | r=>r)>>=λo=>match o with | .nx _=>ae D.non | .rt d=>ae d)=_
 match gP [b,w,n] with
 |none=>rfl
 |some (.ok a)=>rfl
 |some (.ex n)=>rfl
theorem wL{i:Nat}(h:l[i]? =some d):fX (.lst l) (.int (i:Int))=ae d:=by
 show (match L2.atI l (i:Int) with | some x=>ae x | none=>ag)=_;rw[gw h]
section
open Classical
variable{bd:List Str}{W w:Nat}
theorem DN(hg:Brd bd W)(hs:bd.length*W<64)(hw:Ways w)(ho:aF (uv (ay 2 dF (aC (dA bO (aC (dV 3) aN)) (aC (dV 2) aN)))) (bE (d2 fX (dV 3) (dV 2))) [fz (brd bd),fz (iW w),fz d,fz (.lst ((bz bd W w).map cL))]=o):
 ij [fz (brd bd),fz (iW w),fz d,none]=o:=
 ao (nO ((ar rfl rfl).trans hg.nb)) (ao (nO ((ar rfl rfl).trans hw.nw)) (ao ((aM ((ar rfl rfl).trans ((p_ hg hs hw).trans (by rw[mh])))).trans rfl) ho))
theorem Dh(h:ρ[3]? =some (fz (.lst ((bz bd W w).map cL)))):dA bO (aC (dV 3) aN) ρ=ae (.int ((bz bd W w).length:Int)):=by
 refine(cx (a7 (we h) rfl)).trans ?_;show ae (D.int (((bz bd W w).map cL).length:Int))=_;rw[Zo]
theorem Fj(hg:Brd bd W)(hs:bd.length*W<64)(hw:Ways w){i:Nat}(hi:(bz bd W w)[i]? =some P):aV [brd bd,iW w, .int (i:Int)]=ae (cL P):=by
 have dO:=(ZI.mp hi).1;have nn:dF [.int ((bz bd W w).length:Int), .int (i:Int)]=ae .non:=by
  refine DY (dE (uR (j5 (gy ((ar rfl rfl).trans ((vN (d:= .int (i:Int)) trivial).trans rfl)))) (j5 (b:=true) (el ?_))) rfl);show (if decide ((0:Int)<=(i:Int))=true then ae (D.bl (decide ((i:Int)<((bz bd W w).length:Int)))) else ae (D.bl false))=_;rw[agd (by rw[agf];omega),agg (by omega)]
 refine bf (DN hg hs hw (ao (nO ((ar (a7 (Dh rfl) rfl) rfl).trans nn)) (br ((aA rfl rfl).trans (wL (by rw[ZJ,hi];rfl))))))
def KJ(n:Nat):List D:=[.int (-1), .int (n:Int), .non, .bl false, .str "0"]
theorem Dw(hg:Brd bd W)(hs:bd.length*W<64)(hw:Ways w)(h:d∈KJ (bz bd W w).length):aV [brd bd,iW w,d]=bD 4:=by
 have nn:dF [.int ((bz bd W w).length:Int),d]=bD 4:=by
  unfold KJ at h;simp only[Zw,Z7,or_false] at h;rcases h with rfl | rfl | rfl | rfl | rfl
  ·rfl
  ·refine jJ (eB (uR (j5 (gy ((ar rfl rfl).trans ((vN (d:= .int ((bz bd W w).length:Int)) trivial).trans rfl)))) (j5 (b:=false) (el ?_))) rfl);show (if decide ((0:Int)<=((bz bd W w).length:Int))=true then ae (D.bl (decide (((bz bd W w).length:Int)<((bz bd W w).length:Int)))) else ae (D.bl false))=_;rw[agd (by rw[agf];omega),agh (by omega)]
  ·rfl
  ·rfl
  ·rfl
 exact jJ (DN hg hs hw (nP (xN ((ar (a7 (Dh rfl) rfl) rfl).trans nn))))
theorem y7(hg:Brd bd W):aV [brd bd, .int 5,d]=bD 1:=
 jJ (ao (nO ((ar rfl rfl).trans hg.nb)) (nP (xN ((ar (ds:=[.int 5]) rfl rfl).trans rfl))))
theorem ua(h:Plain2 d)(hb:og d=false):fb [d]=bD 0:=by
 refine jJ (eB (j5 (gy ((ar rfl rfl).trans ((mK h).trans (by rw[hb]))))) rfl)
theorem zE{d w:D}:aV [.lst (bd.map D.str),w,d]=bD 0:=
 jJ (nP (xN ((ar rfl rfl).trans (ua (d:= .lst (bd.map D.str)) abz rfl))))
theorem LO{b w d:D}(h:aV [b,w,d]=bD n)(k:Nat)(hk:k<2):aD [.int (k:Int),b,w,d]=noex (Jy n):=by
 have p0:eQ [b,w,d]=bD n:=jJ (nP (D0 ((ar rfl rfl).trans h)));have p1:gP [b,w,d]=bD n:=jJ (nP (D0 ((ar rfl rfl).trans h)))
 match k,hk with
 |0,_=>exact MK.trans (by rw[p0];rfl)
 |1,_=>exact ML.trans (by rw[p1];rfl)
theorem Ay(hg:Brd bd W)(Kc:(bd.length+2)*(W+2)<=49)(hw:Ways w){i:Nat}(hi:(bz bd W w)[i]? =some P):∃(F:List Cell) (n:Nat),aD [.int 0,brd bd,iW w, .int (i:Int)]=ae (cL F)/\aD [.int 1,brd bd,iW w, .int (i:Int)]=ae (nI n)/\
 bU [brd bd,cL P, .int ((12 - w:Nat):Int)]=ae (.tup [cL F,nI n])/\(P.length<=3->F=[]/\n=0):=by
 have hs:bd.length*W<64:=by
  have:=aaL (aaU bd.length 2) (aaU W 2);omega
 have Nt:P∈bz bd W w:=aak hi;have hP:=vv hw P Nt;have Xc:P.Nodup:=by
  unfold bz at Nt;obtain⟨m,hm,rfl⟩:=Zx.mp Nt;exact RiseC.nodup ((eN _ _).filter _)
 have Kd:P.length<64:=by
  have:=cN Xc λx hx=>aG.mpr (hP x hx);rw[bh] at this;omega
 obtain⟨Ls,h1,h2,h3⟩:=s_ hg hs hw Kd;have h1:PtL bd.length W (12 - w) (cH bd.length W P) (tV bd.length W (12 - w) P) Ls:=h1;have hv:=Cm hw;obtain⟨l,l1,l2,l3⟩:=t6 hg Kc;have Pt:=Fj hg hs hw hi;have zo:=CS hv h1;have yu:(Ls.filter (cY bd.length W)).flatten.length<64:=by
  have:=cN zo λx hx=>aG.mpr (iq x ((rW hv h1).mp hx).1);rw[bh] at this;omega
 refine⟨jk (Ls.filter (cY bd.length W)).flatten,(Ls.filter (cY bd.length W)).length,?_,?_,?_,λh=>?_⟩
 ·refine MK.trans ?_;have e:=dz (put:=putN 5) (body:=bS [5] (B6 4 (dV 5))) cL (λu8=>[fz (brd bd),fz (iW w),fz (.int (i:Int)),fz (cL P),some (.ow (.lst u8)),none]) (λl=>l.map cD) (B:=64) (Ls.filter (cY bd.length W)) []
   (by rw[ZY,show (Ls.filter (cY bd.length W)).flatMap (λl=>l.map cD)=(Ls.filter (cY bd.length W)).flatten.map cD by rw[List.map_flatten,List.flatMap_def],Zo];omega) λl hl u8 hB=>by
    refine⟨_,rfl,?_⟩;refine(aP (ρ':=[fz (brd bd),fz (iW w),fz (.int (i:Int)),fz (cL P),some (.ow (.lst (u8++l.map cD))),fz (cL l)]) ?_).trans rfl;show (if u8.length+(l.map cD).length<=lim then ae (Out.nx [fz (brd bd),fz (iW w),fz (.int (i:Int)),fz (cL P),some (.ow (.lst (u8++l.map cD))),fz (cL l)]) else ag)=_;rw[agd (by rw[ZA] at hB;rw[cu];omega)]
  rw[ZY,show (Ls.filter (cY bd.length W)).flatMap (λl=>l.map cD)=(Ls.filter (cY bd.length W)).flatten.map cD by rw[List.map_flatten,List.flatMap_def]] at e;have:eQ [brd bd,iW w, .int (i:Int)]=ae (cL (jk (Ls.filter (cY bd.length W)).flatten)):=by
   refine bf (ao ((aM ((ar rfl rfl).trans Pt)).trans rfl) (ao rfl (ao (cz (cP (N0 ((ar rfl rfl).trans h3)) e)) ?_)));show bE (dA Au (aC (dV 4) aN)) [fz (brd bd),fz (iW w),fz (.int (i:Int)),fz (cL P),fz (cL (Ls.filter (cY bd.length W)).flatten),none]=_;exact br ((cx rfl).trans (Lz zo yu))
  rw[this];rfl
 ·refine ML.trans ?_;have:gP [brd bd,iW w, .int (i:Int)]=ae (nI (Ls.filter (cY bd.length W)).length):=by
   refine bf (ao ((aM ((ar rfl rfl).trans Pt)).trans rfl) (br ((cx (a7 ((ar rfl rfl).trans h3) rfl)).trans ?_)));show ae (D.int (((Ls.filter (cY bd.length W)).map cL).length:Int))=_;rw[Zo];rfl
  rw[this];rfl
 ·rw[l3,Bs hv hP l1 l2 h1,EI hv hP l1 l2 h1]
 ·rw[B9 hv h1 h];exact⟨by rfl,rfl⟩
end
theorem vL(h0:δ (fz (.int 0)::ρ)=ae d)(h1:δ (fz (.int 1)::ρ)=ae e):bb 0 (λρ=>(aC (dC (.int 2)) aN) ρ>>=dD) bC δ ρ=ae (.lst [d,e]):=by
 refine bu (B4 rfl (by decide)) ?_ (show 2<=lim by decide);show d8 (gx 0 bC δ ρ) [.int 0, .int 1]=_;rw[cT,fw,h0,cT,fw,h1];rfl
theorem BF(F:List Cell)(n:Nat):qf (.lst [cL F,nI n]) (.lst [cL F,nI n])=ae (.bl false):=by
 have e:iF 6 (.lst [cL F,nI n]) (.lst [cL F,nI n])=some true:=by
  show (match iF 5 (cL F) (cL F),(match iF 5 (nI n) (nI n),some true with | some b,some r=>some (b&&r) | _,_=>none) with | some b,some r=>some (b&&r) | _,_=>none)=_;rw[show iF 5 (cL F) (cL F)=some true from((JY Gw) 3 F F).trans (by simp),show iF 5 (nI n) (nI n)=some true from(jv 5 _ _).trans (by simp)];rfl
 unfold qf;rw[e];rfl
noncomputable def Rz(bd:List Str)(W w:Nat):List (Nat×List Cell):=(bz bd W w).zipIdx.map λq:List Cell×Nat=>(q.2,q.1)
section
variable{bd:List Str}{W w:Nat}
theorem IG(h:q∈Rz bd W w):(bz bd W w)[q.1]? =some q.2:=by
 obtain⟨p,hp,rfl⟩:=Zx.mp h;exact List.mem_zipIdx_iff_getElem?.mp hp
theorem MG(hw:Ways w)(h:δ ρ=ae (iW w)):d2 lq (dC (.int 12)) δ ρ=ae (.int ((12 - w:Nat):Int)):=by
 refine(aA rfl h).trans ?_;rcases hw with rfl | rfl<;>rfl
theorem JJ(hg:Brd bd W)(Kc:(bd.length+2)*(W+2)<=49)(hw:Ways w)(hq:q∈Rz bd W w)(x0:Option Sl):
 Vp [x0,fz (brd bd),fz (iW w),fz (.int (q.1:Int)),fz (cL q.2),none]=ae (.nx [x0,fz (brd bd),fz (iW w),none,none,none]):=by
 have hi:=IG hq;obtain⟨F,n,t0,t1,t2,_⟩:=Ay hg Kc hw hi;have Nt:q.2∈bz bd W w:=aak hi;obtain⟨c,r,hc⟩:∃c r,q.2=c::r:=by
  unfold bz at Nt;obtain⟨m,hm,e⟩:=Zx.mp Nt;cases hp:q.2 with
  |nil=>
   have:=((i_ hw (se hm)).mem m).mpr Cn.refl;rw[e,hp] at this;cases this
  |cons c r=>exact⟨c,r,rfl⟩
 have gD:On bd.length W c:=vv hw _ Nt c (by rw[hc];exact Zq ..);have body:aF (a_ 5 (ay 3 bU (aC (dV 1) (aC (dV 4) (aC (d2 lq (dC (.int 12)) (dV 2)) aN))))) (gK (cI (d2 qf (bb 0 (λρ=>(aC (dC (.int 2)) aN) ρ>>=dD) bC (ay 4 aD (aC (dV 0) (aC (dV 2) (aC (dV 3) (aC (dV 4) aN)))))) (dA rR (aC (dV 5) aN)))) (bE (dC (.bl false))) dr) [x0,fz (brd bd),fz (iW w),fz (.int (q.1:Int)),fz (cL q.2),none]=ae (.nx [x0,fz (brd bd),fz (iW w),fz (.int (q.1:Int)),fz (cL q.2),fz (.tup [cL F,nI n])]):=by
  refine ao ((aM ((ar (a7 rfl (a7 rfl (a7 (MG hw rfl) rfl))) rfl).trans t2)).trans rfl) ?_;exact dE (el ((aA (vL ((ar rfl rfl).trans t0) ((ar (ds:=[.int 1,brd bd,iW w, .int (q.1:Int)]) rfl rfl).trans t1)) rfl).trans (BF F n))) rfl
 have ht:∃b,cI (d2 ik (d2 iQ (d2 a8 (dV 1) (d2 a8 (d2 fX (dV 4) (dC (.int 0))) (dC (.int 0)))) (d2 a8 (d2 fX (dV 4) (dC (.int 0))) (dC (.int 1)))) (dC (.str "a"))) [x0,fz (brd bd),fz (iW w),fz (.int (q.1:Int)),fz (cL q.2),none]=ae b:=by
  have e0:d2 fX (dV 4) (dC (.int 0)) [x0,fz (brd bd),fz (iW w),fz (.int (q.1:Int)),fz (cL q.2),none]=ae (cD c):=by
   refine(aA rfl rfl).trans ?_;rw[hc];exact wL rfl
  have e1:d2 a8 (d2 fX (dV 4) (dC (.int 0))) (dC (.int 0)) [x0,fz (brd bd),fz (iW w),fz (.int (q.1:Int)),fz (cL q.2),none]=ae (.int (c.1:Int)):=(aA e0 rfl).trans rfl;have e2:d2 a8 (d2 fX (dV 4) (dC (.int 0))) (dC (.int 1)) [x0,fz (brd bd),fz (iW w),fz (.int (q.1:Int)),fz (cL q.2),none]=ae (.int (c.2:Int)):=(aA e0 rfl).trans rfl;obtain⟨r,hr⟩:∃r,bd[c.1]? =some r:=⟨_,Zy gD.1⟩
  have Yg:=(hg.rows r (aak hr)).len;obtain⟨s,_,_,hs⟩:=ze (by rw[Yg];exact gD.2);have e3:d2 a8 (dV 1) (d2 a8 (d2 fX (dV 4) (dC (.int 0))) (dC (.int 0))) [x0,fz (brd bd),fz (iW w),fz (.int (q.1:Int)),fz (cL q.2),none]=ae (.str r):=by
   refine(aA rfl e1).trans ?_;show (match L2.atI (bd.map D.str) (c.1:Int) with | some x=>ae x | none=>ag)=_;rw[gw (by rw[ZJ,hr];rfl)]
  exact⟨_,el ((aA ((aA e3 e2).trans hs) rfl).trans (Na JZ (by decide) _ _))⟩
 obtain⟨b,hb⟩:=ht;cases b with
 |true=>exact(aP (eB hb body)).trans rfl
 |false=>exact(aP (dE hb rfl)).trans rfl
end
theorem xM(h:r.cps.toList.all λc=>decide (c=97)||decide (c=98)):Row r.length r:=⟨rfl,λc hc=>by
 have:=aan.mp h c hc;rw[acp,agf,agf] at this;rcases this with rfl | rfl<;>decide+kernel⟩
def yC:List (List Str):=[["aaaa","abaa","aaba","aaaa"],["aab","aba","aaa"],["baa","aba","aaa"],["aaa","aba","baa"],["aaa","aba","aab"]]
theorem JK:∀bd∈yC,∃W,Brd bd W/\(bd.length+2)*(W+2)<=49:=by
 have row:∀W (r:Str),(r.cps.toList.all λc=>decide (c=97)||decide (c=98))=true->r.length=W->Row W r:=λW r h e=>e▸xM h;intro bd hb;unfold yC at hb;simp only[Zw,Z7,or_false] at hb;rcases hb with rfl | rfl | rfl | rfl | rfl
 ·refine⟨4,⟨by decide,by decide,by decide,by decide,λr hr=>?_⟩,by decide⟩;simp only[Zw,Z7,or_false] at hr;rcases hr with rfl | rfl | rfl | rfl<;>exact row _ _ (by decide+kernel) (by decide+kernel)
 all_goals
  refine⟨3,⟨by decide,by decide,by decide,by decide,λr hr=>?_⟩,by decide⟩;simp only[Zw,Z7,or_false] at hr;rcases hr with rfl | rfl | rfl<;>exact row _ _ (by decide+kernel) (by decide+kernel)
theorem yE:e_ []=ae (.bl true):=by
 refine bf ?_;refine ao rfl ?_;refine ao rfl ?_;refine ao (ρ':=[fz (.lst (yC.map brd)),none,none,none,none,none]) ?_ rfl;refine cz (cP rfl (iM brd _ yC λbd Xi=>?_));obtain⟨W,hg,Kc⟩:=JK bd Xi;refine⟨[fz (.lst (yC.map brd)),fz (brd bd),none,none,none,none],rfl,(aP (ρ':=[fz (.lst (yC.map brd)),fz (brd bd),none,none,none,none]) ?_).trans rfl⟩;refine cP rfl (iM (λ(w:Nat)=>iW w) _ [4,8] λw hw=>?_);have Yu:w=4\/w=8:=by simpa using hw
 have hw:Ways w:=Yu;refine⟨[fz (.lst (yC.map brd)),fz (brd bd),fz (iW w),none,none,none],rfl,(aP (ρ':=[fz (.lst (yC.map brd)),fz (brd bd),fz (iW w),none,none,none]) ?_).trans rfl⟩;have hs:bd.length*W<64:=by
  have:=aaL (aaU bd.length 2) (aaU W 2);omega
 have TU:a9 [brd bd,iW w]=ae (.lst ((bz bd W w).map cL)):=(jX hg hs hw).trans (by rw[mh]);refine cP ?_ (iM Sh _ (Rz bd W w) λq hq=>⟨_,rfl,JJ hg Kc hw hq _⟩);show ((ay 2 a9 (aC (dV 1) (aC (dV 2) aN)) _>>=λx=>ae [x])>>=rf)=_;rw[show ay 2 a9 (aC (dV 1) (aC (dV 2) aN)) _=ae (.lst ((bz bd W w).map cL)) from(ar rfl rfl).trans TU];exact agl ae (vj _)
theorem JG(h1:δ ρ=ae (.str x))(h2:ε ρ=ae (.str y))(hl:x.length+y.length<=4096):d2 gR δ ε ρ=ae (.str (x++y)):=(aA h1 h2).trans (agd hl)
def nM(a b:Nat):Str:=((("a":Str)++(⟨#[a]⟩:Str)++("b":Str))++(⟨#[b]⟩:Str))++("a":Str)
theorem xK(ha:a=97\/a=98)(hb:b=97\/b=98):Row 5 (nM a b):=by
 have row:∀W (r:Str),(r.cps.toList.all λc=>decide (c=97)||decide (c=98))=true->r.length=W->Row W r:=λW r h e=>e▸xM h;rcases ha with rfl | rfl<;>rcases hb with rfl | rfl<;>exact row _ _ (by decide+kernel) (by decide+kernel)
theorem sU(h1:δ ρ=ae (.str ⟨#[a]⟩))(h2:ε ρ=ae (.str ⟨#[b]⟩)):d2 gR (d2 gR (d2 gR (d2 gR (dC (.str "a")) δ) (dC (.str "b"))) ε) (dC (.str "a")) ρ=ae (.str (nM a b)):=by
 have l1:("a":Str).length=1:=rfl;have l2:("b":Str).length=1:=rfl;have l3:∀c:Nat,(⟨#[c]⟩:Str).length=1:=λ_=>rfl;exact JG (JG (JG (JG rfl h1 (by rw[l1,l3];decide)) rfl (by rw[bK,l1,l2,l3];decide)) h2 (by rw[bK,bK,l1,l2,l3,l3];decide)) rfl (by rw[bK,bK,bK,l1,l2,l3,l3];decide)
abbrev MC(s:D)(bd:List Str)(x2 x3 x4 x5 x6 Pl:Option Sl):cJ:=[fz s,fz (brd bd),x2,x3,x4,x5,x6,none,none,none,Pl]
theorem IL(ns:List Int)(hl:ns.length<=63)(hG:Good bd W):∃(b2:List Str) (V:Nat) (x2 x3 x4:Option Sl),Good b2 V/\kN (MC (.scr ns) bd none none none none none none)=ae (.nx (MC (.scr ns) b2 x2 x3 x4 none none none)):=by
 obtain⟨v,hv,ev⟩:=dU ns hl 60 2 (by decide);have ht:cI (d2 ik (ay 3 aO (aC (dV 0) (aC (dC (.int 60)) (aC (dC (.int 2)) aN)))) (dC (.int 0))) (MC (.scr ns) bd none none none none none none)=ae (decide ((v:Int)=0)):=el ((aA ((ar rfl rfl).trans ev) rfl).trans rfl);by_cases h0:(v:Int)=0
 ·obtain⟨ys,Yy,Wc,Pw⟩:=om (f:=gx 0 bC (d2 iQ (dC (.str "ab")) (ay 3 aO (aC (dV 1) (aC (d2 cU (dC (.int 61)) (dV 0)) (aC (dC (.int 2)) aN))))) (MC (.scr ns) bd none none none none none none)) (Pr:=λy=>∃c,(c=97\/c=98)/\y= .str ⟨#[c]⟩) ((ZX 6).map λ(k:Nat)=>D.int (k:Int)) λd hd=>by
   obtain⟨k,hk,rfl⟩:=Zx.mp hd;obtain⟨u,hu,eu⟩:=dU ns hl (61+k) 2 (by decide);have e:d2 iQ (dC (.str "ab")) (ay 3 aO (aC (dV 1) (aC (d2 cU (dC (.int 61)) (dV 0)) (aC (dC (.int 2)) aN)))) (fz (.int (k:Int))::MC (.scr ns) bd none none none none none none)=iQ (.str "ab") (.int (u:Int)):=aA rfl ((ar rfl rfl).trans eu)
   match u,hu with
   |0,_=>exact⟨.str ⟨#[97]⟩,by rw[fw,e];rfl,97, .inl rfl,rfl⟩
   |1,_=>exact⟨.str ⟨#[98]⟩,by rw[fw,e];rfl,98, .inr rfl,rfl⟩
  rw[Zo,aaZ] at Wc;obtain⟨y0,y1,y2,y3,y4,y5,rfl⟩:∃y0 y1 y2 y3 y4 y5,ys=[y0,y1,y2,y3,y4,y5]:=match ys,Wc with | [y0,y1,y2,y3,y4,y5],_=>⟨y0,y1,y2,y3,y4,y5,rfl⟩
  obtain⟨c0,q0,rfl⟩:=Pw y0 (by simp);obtain⟨c1,q1,rfl⟩:=Pw y1 (by simp);obtain⟨c2,q2,rfl⟩:=Pw y2 (by simp);obtain⟨c3,q3,rfl⟩:=Pw y3 (by simp);obtain⟨c4,q4,rfl⟩:=Pw y4 (by simp);obtain⟨c5,q5,rfl⟩:=Pw y5 (by simp);obtain⟨u,hu,eu⟩:=dU ns hl 70 3 (by decide);obtain⟨r,Yc,Yd⟩:∃r:Str,Row 5 r/\fX (.lst [.str "aaaaa", .str "aabaa", .str "baaaa"]) (.int (u:Int))=ae (.str r):=by
   have row:∀(r:Str),(r.cps.toList.all λc=>decide (c=97)||decide (c=98))=true->r.length=5->Row 5 r:=λr h e=>e▸xM h
   match u,hu with
   |0,_=>exact⟨"aaaaa",row _ (by decide+kernel) (by decide+kernel),rfl⟩
   |1,_=>exact⟨"aabaa",row _ (by decide+kernel) (by decide+kernel),rfl⟩
   |2,_=>exact⟨"baaaa",row _ (by decide+kernel) (by decide+kernel),rfl⟩
  have ra:Row 5 ("aaaaa":Str):=(show ("aaaaa":Str).length=5 by decide+kernel)▸xM (by decide+kernel);refine⟨["aaaaa",nM c0 c3,nM c1 c4,nM c2 c5,r],5,fz (.lst [.str ⟨#[c0]⟩, .str ⟨#[c1]⟩, .str ⟨#[c2]⟩, .str ⟨#[c3]⟩, .str ⟨#[c4]⟩, .str ⟨#[c5]⟩]),fz (.lst [.str (nM c0 c3), .str (nM c1 c4), .str (nM c2 c5)]),fz (.str r),⟨by simp,by simp,by decide,by decide,λx hx=>?_⟩,?_⟩
  ·simp only[Zw,Z7,or_false] at hx;rcases hx with rfl | rfl | rfl | rfl | rfl
   ·exact ra
   ·exact xK q0 q3
   ·exact xK q1 q4
   ·exact xK q2 q5
   ·exact Yc
  ·refine eB (ht.trans (by rw[agg h0])) ?_;refine ao ((aM (bu (B4 rfl (by decide)) Yy (show 6<=lim by decide))).trans rfl) ?_;refine ao ((aM (d:= .lst [.str (nM c0 c3), .str (nM c1 c4), .str (nM c2 c5)]) (bu (B4 rfl (by decide)) ?_ (show 3<=lim by decide))).trans rfl) ?_
   ·show d8 (gx 0 bC _ _) [.int 0, .int 1, .int 2]=_;rw[cT,fw,show d2 gR _ _ _=ae (.str (nM c0 c3)) from sU rfl rfl,cT,fw,show d2 gR _ _ (fz (.int 1)::_)=ae (.str (nM c1 c4)) from sU rfl rfl,cT,fw,show d2 gR _ _ (fz (.int 2)::_)=ae (.str (nM c2 c5)) from sU rfl rfl];rfl
   refine ao ((aM ((aA rfl ((ar rfl rfl).trans eu)).trans Yd)).trans rfl) ?_;exact(aM rfl).trans rfl
 ·exact⟨bd,W,none,none,none,hG,dE (ht.trans (by rw[agh h0])) rfl⟩
theorem Hq(hg:Brd bd W)(Kc:(bd.length+2)*(W+2)<=49)(hw:Ways w)(hq:q∈Rz bd W w)(s:D)(x2 x3 x4 x6:Option Sl):
 Q1 [fz s,fz (brd bd),x2,x3,x4,fz (iW w),x6,fz (.int (q.1:Int)),fz (cL q.2),none,none]=ae (.nx (MC s bd x2 x3 x4 (fz (iW w)) x6 none)):=by
 have hi:=IG hq;obtain⟨F,n,t0,t1,t2,t3⟩:=Ay hg Kc hw hi;have tw:bb 0 (λρ=>(aC (dC (.int 2)) aN) ρ>>=dD) bC (ay 4 aD (aC (dV 0) (aC (dV 2) (aC (dV 6) (aC (dV 8) aN))))) [fz s,fz (brd bd),x2,x3,x4,fz (iW w),x6,fz (.int (q.1:Int)),fz (cL q.2),none,none]=ae (.lst [cL F,nI n]):=vL ((ar rfl rfl).trans t0) ((ar rfl rfl).trans t1);have YZ:bb 0 (λρ=>(aC (dC (.int 2)) aN) ρ>>=dD) bC (ay 4 aD (aC (dV 0) (aC (dV 2) (aC (dV 6) (aC (dV 8) aN))))) [fz s,fz (brd bd),x2,x3,x4,fz (iW w),x6,fz (.int (q.1:Int)),fz (cL q.2),fz (.tup [cL F,nI n]),none]=ae (.lst [cL F,nI n]):=vL ((ar rfl rfl).trans t0) ((ar rfl rfl).trans t1);have tt:oq (cI (d2 Tf (dA bO (aC (dV 8) aN)) (dC (.int 3)))) (cI (d2 ik (dV 7) (dC (.int 0)))) [fz s,fz (brd bd),x2,x3,x4,fz (iW w),x6,fz (.int (q.1:Int)),fz (cL q.2),none,none]=ae (decide (q.2.length>3)||decide (q.1=0)):=by
  refine uR (el ((aA ((cx rfl).trans (N_ _)) rfl).trans ?_)) (el ((aA rfl rfl).trans ?_))
  ·show ae (D.bl (decide ((3:Int)<(q.2.length:Int))))=_;congr 2;rw[agm];omega
  ·rw[eq_int,show (0:Int)=((0:Nat):Int) from rfl,m6];congr 2
 by_cases hb:(decide (q.2.length>3)||decide (q.1=0))=true
 ·refine(aP (ρ':=[fz s,fz (brd bd),x2,x3,x4,fz (iW w),x6,fz (.int (q.1:Int)),fz (cL q.2),fz (.tup [cL F,nI n]),none]) (eB (tt.trans (by rw[hb])) ?_)).trans rfl;refine ao ((aM ((ar (a7 rfl (a7 rfl (a7 (MG hw rfl) rfl))) rfl).trans t2)).trans rfl) ?_;exact dE (el ((aA YZ rfl).trans (BF F n))) rfl
 ·have hb:=ac7.mpr hb;refine(aP (ρ':=[fz s,fz (brd bd),x2,x3,x4,fz (iW w),x6,fz (.int (q.1:Int)),fz (cL q.2),none,none]) (dE (tt.trans (by rw[hb])) ?_)).trans rfl;rw[Bool.or_eq_false_iff,decide_eq_false_iff_not] at hb;obtain⟨rfl,rfl⟩:=t3 (by omega);exact dE (el ((aA tw rfl).trans (BF [] 0))) rfl
theorem Hn(ns:List Int)(hl:ns.length<=63):kP [.scr ns]=ae (.bl true):=by
 obtain⟨Y6,W0,W6,eb⟩:=Ea ns hl 0 5 (by decide) (by decide);obtain⟨bd,W,x2,x3,x4,hG,er⟩:=IL ns hl W6;have hg:=hG.brd;have Kc:(bd.length+2)*(W+2)<=49:=aaL (afD hG.r5 2) (afD hG.w5 2);have hs:bd.length*W<64:=acS (aaL hG.r5 hG.w5) (by decide);refine bf ?_;refine ao ((aM ((ar rfl rfl).trans eb)).trans rfl) ?_;refine ao er ?_;obtain⟨v,hv,ev⟩:=dU ns hl 71 2 (by decide);obtain⟨w,hw,ew⟩:∃w,Ways w/\fX (.lst [.int 4, .int 8]) (.int (v:Int))=ae (iW w):=by
  match v,hv with
  |0,_=>exact⟨4, .inl rfl,rfl⟩
  |1,_=>exact⟨8, .inr rfl,rfl⟩
 refine ao ((aM ((aA rfl ((ar rfl rfl).trans ev)).trans ew)).trans rfl) ?_;have TU:a9 [brd bd,iW w]=ae (.lst ((bz bd W w).map cL)):=(jX hg hs hw).trans (by rw[mh]);refine ao ((aM ((ar rfl rfl).trans TU)).trans rfl) ?_;refine ao (ρ':=MC (.scr ns) bd x2 x3 x4 (fz (iW w)) (fz (.lst ((bz bd W w).map cL))) none) ?_ ?_
 ·refine cz (cP (agl ae (vj _)) (iM Sh _ (Rz bd W w) λq hq=>⟨_,rfl,Hq hg Kc hw hq (.scr ns) x2 x3 x4 _⟩))
 refine ao (dE (j5 (gy ((ar rfl rfl).trans yE))) rfl) ?_;obtain⟨u,hu,eu⟩:=dU ns hl 72 5 (by decide);obtain⟨o,ho⟩:∃o,(KJ (bz bd W w).length)[u]? =some o:=⟨_,Zy (show u<5 from hu)⟩
 have V4:o∈KJ (bz bd W w).length:=aak ho;have VX:dA bO (aC (dV 6) aN) (MC (.scr ns) bd x2 x3 x4 (fz (iW w)) (fz (.lst ((bz bd W w).map cL))) none)=ae (.int ((bz bd W w).length:Int)):=by
  refine(cx rfl).trans ?_;show ae (D.int (((bz bd W w).map cL).length:Int))=_;rw[Zo]
 refine ao ((aM ((aA ((cx (a7 rfl (a7 VX rfl))).trans rfl) ((ar rfl rfl).trans eu)).trans (wL ho))).trans rfl) ?_;have te:∀{b w d:D}{n:Nat}(k:Nat),k<2->aV [b,w,d]=bD n->aD [.int (k:Int),b,w,d]=noex (Jy n):=λk hk h=>LO h k hk;refine ao (dE (el ((aA (vL ((ar rfl rfl).trans (te 0 (by decide) (Dw hg hs hw V4))) ((ar (ds:=[.int 1,brd bd,iW w,o]) rfl rfl).trans (te 1 (by decide) (Dw hg hs hw V4)))) rfl).trans rfl)) rfl) ?_;refine ao (dE (el ((aA (vL ((ar (ds:=[.int 0,brd bd, .int 5,o]) rfl rfl).trans (te 0 (by decide) (y7 hg))) ((ar (ds:=[.int 1,brd bd, .int 5,o]) rfl rfl).trans (te 1 (by decide) (y7 hg)))) rfl).trans rfl)) rfl) ?_;exact br ((aA (x:= .lst [Lp 0,Lp 0]) (y:= .lst [Lp 0,Lp 0]) (vL ((ar (ds:=[.int 0, .lst (bd.map D.str), .int 5,o]) rfl rfl).trans (te 0 (by decide) zE)) ((ar (ds:=[.int 1, .lst (bd.map D.str), .int 5,o]) rfl rfl).trans (te 1 (by decide) zE))) rfl).trans rfl)
def Q4(c0 c1 c2 c3 c4 c5 c6:Addr):Nat->Addr
 |0=>c0
 |1=>c1
 |2=>c2
 |3=>c3
 |4=>c4
 |5=>c5
 |_=>c6
def DF(K:ZE)(x:Str)(s:Stmt):Prop:=∃(f:Addr) (oc:Value) (od an:Option Addr) (sl:Array (Option Value)) (kV dc pm cd ct:Value),ZZ K ZR x=some (some (.ref f))/\K.lookup f=some ⟨oc,od, .func (aaQ x x (eZ s) (aY s) (ai s) .none kV dc pm an cd ct),sl⟩/\abX K cd x=true/\aaO K (.ref f)=true
theorem DF.mk{K:ZE}{x:Str}{s:Stmt}{f:Addr}{oc:Value}{od an:Option Addr}{sl:Array (Option Value)}{kV dc pm cd ct:Value}(a:ZZ K ZR x=some (some (.ref f)))(l:K.lookup f=some ⟨oc,od, .func (aaQ x x (eZ s) (aY s) (ai s) .none kV dc pm an cd ct),sl⟩)(c:abX K cd x=true)(k:aaO K (.ref f)=true):DF K x s:=⟨f,oc,od,an,sl,kV,dc,pm,cd,ct,a,l,c,k⟩
theorem DF.at{K:ZE}{x:Str}{s:Stmt}{h:Heap}{mg:Str->Option Value}(X:K.In h)(G:h.Ns ZR mg)(d:DF K x s):∃f,bG K mg x s f:=by
 obtain⟨f,oc,od,an,sl,kV,dc,pm,cd,ct,a,l,c,k⟩:=d;exact⟨f,aaJ X G a,_,GI (st:=s) l c k⟩
theorem all_mk{P:Z5}{w:World}{K:ZE}{h:Heap}{mg:Str->Option Value}{fa:Addr}(X:K.In h)(G:h.Ns ZR mg)(Xx:mg "law"=some (.ref fa))
 {lZ:Addr}{BL qK:Option Addr}{B8:Array (Option Value)}{BK rK qX sN lW qV:Value}
 {FE:Tok}
 {Ax:Tok}
 {tB:Tok}
 {C0 C1 C2 C3 C4 C5 C6 Cp:Addr}{r0:ClassData}{r1:ClassData}{r4:ClassData}
 (d_is_whole:DF K "is_whole" mj)
 (d_is_letter:DF K "is_letter" kD)
 (d_cells_of_row:DF K "cells_of_row" fj)
 (d_letter_of:DF K "letter_of" kF)
 (d_are_next:DF K "are_next" mi)
 (d_keyed:DF K "keyed" xP)
 (d_distances:DF K "distances" kC)
 (d_is_at_edge:DF K "is_at_edge" jK)
 (d_law_cell:DF K "_law_cell" mn)
 (d_law_cells:DF K "_law_cells" ib)
 (d_law_beside:DF K "_law_beside" jL)
 (d_law_refused:DF K "_law_refused" iB)
 (d_law_parts:DF K "_law_parts" ig)
 (d_is_row:DF K "is_row" nQ)
 (d_need_ways:DF K "need_ways" kG)
 (d_all_cells:DF K "all_cells" kB)
 (d_next_cells:DF K "next_cells" jN)
 (d_need_number:DF K "need_number" iE)
 (d_comes_to_edge:DF K "comes_to_edge" eE)
 (d_law_drawn:DF K "_law_drawn" kE)
 (d_law_labels:DF K "_law_labels" gi)
 (d_law_holes:DF K "_law_holes" fU)
 (d_is_board:DF K "is_board" gF)
 (d_like_cells:DF K "like_cells" gj)
 (d_near_among:DF K "near_among" gk)
 (d_law_board:DF K "_law_board" h7)
 (d_law_patches:DF K "_law_patches" fM)
 (d_need_board:DF K "need_board" jM)
 (d_steps_back:DF K "steps_back" jO)
 (d_parts_of:DF K "parts_of" mq)
 (d_all_patches:DF K "all_patches" iA)
 (d_shut_parts:DF K "shut_parts" fm)
 (d_patch_of_number:DF K "patch_of_number" fk)
 (d_shut_in:DF K "shut_in" oY)
 (d_holes:DF K "holes" xO)
 (d_law_told_v6:DF K "_law_told" iC)
 (d_law_aslant:DF K "_law_aslant" aH)
 (a_law_k31:ZZ K ZR "law"=some (some (.ref lZ)))(l_law_k31:K.lookup lZ=some ⟨BK,BL, .func (aaQ "law" "law" (eZ aw) (aY aw) (ai aw) .none rK qX sN qK lW qV),B8⟩)(c_law_k31:abX K lW "law"=true)(k_law_k31:aaO K (.ref lZ)=true)
 (z_len:ZZ K ZR "len"=some none)
 (z_isinstance:ZZ K ZR "isinstance"=some none)
 (z_all:ZZ K ZR "all"=some none)
 (z_any:ZZ K ZR "any"=some none)
 (z_abs:ZZ K ZR "abs"=some none)
 (z_max:ZZ K ZR "max"=some none)
 (z_min:ZZ K ZR "min"=some none)
 (z_range:ZZ K ZR "range"=some none)
 (z_str:ZZ K ZR "str"=some none)
 (z_int:ZZ K ZR "int"=some none)
 (z_bool:ZZ K ZR "bool"=some none)
 (z_tuple:ZZ K ZR "tuple"=some none)
 (z_list:ZZ K ZR "list"=some none)
 (z_dict:ZZ K ZR "dict"=some none)
 (z_set:ZZ K ZR "set"=some none)
 (z_sorted:ZZ K ZR "sorted"=some none)
 (z_enumerate:ZZ K ZR "enumerate"=some none)
 (z_ValueError:ZZ K ZR "ValueError"=some none)
 (y_LETTERS:ZZ K ZR "LETTERS"=some (some (.str "abcdef" FE)))
 (y_MOST_ROWS:ZZ K ZR "MOST_ROWS"=some (some (.int 8 Ax)))
 (y_MOST_COLUMNS:ZZ K ZR "MOST_COLUMNS"=some (some (.int 8 tB)))
 (e0:ZZ K ZR "NoBoard"=some (some (.ref C0)))
 (e1:ZZ K ZR "NoWays"=some (some (.ref C1)))
 (e2:ZZ K ZR "NoCell"=some (some (.ref C2)))
 (e3:ZZ K ZR "NoLetter"=some (some (.ref C3)))
 (e4:ZZ K ZR "NoNumber"=some (some (.ref C4)))
 (e5:ZZ K ZR "NoFit"=some (some (.ref C5)))
 (e6:ZZ K ZR "Nothing"=some (some (.ref C6)))
 (ep:ZZ K ZR "PatchError"=some (some (.ref Cp)))
 (sp:PySem.W.subIn K (.ref Cp) (.type "BaseException")=some true)
 (q0:ac1 K C0 [.type "ValueError", .type "Exception", .type "BaseException", .type "object"] "ValueError.__new__"=true)
 (ga0:aaV K (.ref C0) "__getattribute__"=some (some (.builtin "BaseException.__getattribute__")))(gt0:aaV K (.ref C0) "__getattr__"=some none)(ca0:aaV K (.ref C0) "__class__"=some (some (.builtin "object.__class__")))(mo0:ab8 K C0 (.type "object")=some true)(mb0:ab8 K C0 (.type "BaseException")=some true)(cl0:acw K C0=some r0)
 (kp0:ZK K (.ref C0) (.ref Cp)=some true)(kv0:ZK K (.ref C0) (.type "ValueError")=some true)(np0:((Z6 C0)==(Z6 Cp))=false)
 (k00:ZK K (.ref C0) (.ref C0)=some true)
 (k01:ZK K (.ref C0) (.ref C1)=some false)
 (k02:ZK K (.ref C0) (.ref C2)=some false)
 (k03:ZK K (.ref C0) (.ref C3)=some false)
 (k04:ZK K (.ref C0) (.ref C4)=some false)
 (k05:ZK K (.ref C0) (.ref C5)=some false)
 (k06:ZK K (.ref C0) (.ref C6)=some false)
 (q1:ac1 K C1 [.type "ValueError", .type "Exception", .type "BaseException", .type "object"] "ValueError.__new__"=true)
 (ga1:aaV K (.ref C1) "__getattribute__"=some (some (.builtin "BaseException.__getattribute__")))(gt1:aaV K (.ref C1) "__getattr__"=some none)(ca1:aaV K (.ref C1) "__class__"=some (some (.builtin "object.__class__")))(mo1:ab8 K C1 (.type "object")=some true)(mb1:ab8 K C1 (.type "BaseException")=some true)(cl1:acw K C1=some r1)
 (kp1:ZK K (.ref C1) (.ref Cp)=some true)(kv1:ZK K (.ref C1) (.type "ValueError")=some true)(np1:((Z6 C1)==(Z6 Cp))=false)
 (k10:ZK K (.ref C1) (.ref C0)=some false)
 (k11:ZK K (.ref C1) (.ref C1)=some true)
 (k12:ZK K (.ref C1) (.ref C2)=some false)
 (k13:ZK K (.ref C1) (.ref C3)=some false)
 (k14:ZK K (.ref C1) (.ref C4)=some false)
 (k15:ZK K (.ref C1) (.ref C5)=some false)
 (k16:ZK K (.ref C1) (.ref C6)=some false)
 (q4:ac1 K C4 [.type "ValueError", .type "Exception", .type "BaseException", .type "object"] "ValueError.__new__"=true)
 (ga4:aaV K (.ref C4) "__getattribute__"=some (some (.builtin "BaseException.__getattribute__")))(gt4:aaV K (.ref C4) "__getattr__"=some none)(ca4:aaV K (.ref C4) "__class__"=some (some (.builtin "object.__class__")))(mo4:ab8 K C4 (.type "object")=some true)(mb4:ab8 K C4 (.type "BaseException")=some true)(cl4:acw K C4=some r4)
 (kp4:ZK K (.ref C4) (.ref Cp)=some true)(kv4:ZK K (.ref C4) (.type "ValueError")=some true)(np4:((Z6 C4)==(Z6 Cp))=false)
 (k40:ZK K (.ref C4) (.ref C0)=some false)
 (k41:ZK K (.ref C4) (.ref C1)=some false)
 (k42:ZK K (.ref C4) (.ref C2)=some false)
 (k43:ZK K (.ref C4) (.ref C3)=some false)
 (k44:ZK K (.ref C4) (.ref C4)=some true)
 (k45:ZK K (.ref C4) (.ref C5)=some false)
 (k46:ZK K (.ref C4) (.ref C6)=some false):
 ∃(cv:Nat->Value) (fd:abW),(∀(s:Zt) (u:Value),afc s fd ⟨[u],[]⟩ [("_law_script",u)])/\∀base:Heap,K.In base->base.Ns ZR mg->FnOk P w K mg base (cR P w cv) 10 fa fd ["_law_script"] (FU K cv 1 kP):=by
 have ea:=Xx.symm.trans (aaJ X G a_law_k31);cases ea;refine⟨λn=> .ref (cB (Q4 C0 C1 C2 C3 C4 C5 C6) n),aaQ "law" "law" (eZ aw) (aY aw) (ai aw) .none rK qX sN qK lW qV,λs v=> .of_eq rfl,λbase KB GB=>?_⟩;have B:Bl K mg base (λn=> .ref (cB (Q4 C0 C1 C2 C3 C4 C5 C6) n)) (Q4 C0 C1 C2 C3 C4 C5 C6) Cp:=by
  refine⟨Z8 X G z_len,Z8 X G z_isinstance,Z8 X G z_all,Z8 X G z_any,Z8 X G z_abs,Z8 X G z_max,Z8 X G z_min,Z8 X G z_range,Z8 X G z_str,Z8 X G z_int,Z8 X G z_bool,Z8 X G z_tuple,Z8 X G z_list,Z8 X G z_dict,Z8 X G z_set,Z8 X G z_sorted,Z8 X G z_enumerate,Z8 X G z_ValueError,⟨_,aaJ X G y_LETTERS⟩,⟨_,aaJ X G y_MOST_ROWS⟩,⟨_,aaJ X G y_MOST_COLUMNS⟩,?cls,BQ KB GB e0 q0,BQ KB GB e1 q1,BQ KB GB e4 q4,λ_=>rfl,aaJ X G ep,?exm,?exs,?kit,?kitV⟩
  case cls=>
   intro n x e
   match n,e with
   |0,e=>cases e;exact aaJ X G e0
   |1,e=>cases e;exact aaJ X G e1
   |2,e=>cases e;exact aaJ X G e2
   |3,e=>cases e;exact aaJ X G e3
   |4,e=>cases e;exact aaJ X G e4
   |5,e=>cases e;exact aaJ X G e5
   |6,e=>cases e;exact aaJ X G e6
   |n+7,e=>cases e
  case exm=>
   intro n;have h:∀m,m∈[0,1,4]->acO K (.ref ((Q4 C0 C1 C2 C3 C4 C5 C6) m)) (.ref Cp)=some true:=by
    intro m hm;simp only[Zw,Z7,or_false] at hm;rcases hm with rfl | rfl | rfl
    ·exact Bg sp kp0 np0
    ·exact Bg sp kp1 np1
    ·exact Bg sp kp4 np4
   exact h (PB n) (DZ n)
  case exs=>
   intro C hC;simp only[vU,Q4,Zw,Z7,or_false] at hC;rcases hC with e | e | e<;>subst e
   ·exact⟨ga0,gt0,ca0,mo0,mb0,by rw[cl0];rfl⟩
   ·exact⟨ga1,gt1,ca1,mo1,mb1,by rw[cl1];rfl⟩
   ·exact⟨ga4,gt4,ca4,mo4,mb4,by rw[cl4];rfl⟩
  case kit=>
   intro n m hn hm;simp only[Zw,Z7,or_false] at hn;rcases hn with rfl | rfl | rfl
   ·match m,hm with
    |0,_=>exact k00
    |1,_=>exact k01
    |2,_=>exact k02
    |3,_=>exact k03
    |4,_=>exact k04
    |5,_=>exact k05
    |6,_=>exact k06
    |m+7,hm=>exact agj hm (by omega)
   ·match m,hm with
    |0,_=>exact k10
    |1,_=>exact k11
    |2,_=>exact k12
    |3,_=>exact k13
    |4,_=>exact k14
    |5,_=>exact k15
    |6,_=>exact k16
    |m+7,hm=>exact agj hm (by omega)
   ·match m,hm with
    |0,_=>exact k40
    |1,_=>exact k41
    |2,_=>exact k42
    |3,_=>exact k43
    |4,_=>exact k44
    |5,_=>exact k45
    |6,_=>exact k46
    |m+7,hm=>exact agj hm (by omega)
  case kitV=>
   intro n hn;simp only[Zw,Z7,or_false] at hn;rcases hn with rfl | rfl | rfl
   ·exact kv0
   ·exact kv1
   ·exact kv4
 have sq:=(DF.at X G d_is_whole).elim λ_ t=>z3 (P:=P) (w:=w) B t;have zS:=(DF.at X G d_is_letter).elim λ_ t=>xf (P:=P) (w:=w) B t;have so:=(DF.at X G d_cells_of_row).elim λ_ t=>qj (P:=P) (w:=w) B t;have zV:=(DF.at X G d_letter_of).elim λ_ t=>xl (P:=P) (w:=w) B t;have BG:=(DF.at X G d_are_next).elim λ_ t=>zZ (P:=P) (w:=w) B t;have qD:=(DF.at X G d_keyed).elim λ_ t=>HJ (P:=P) (w:=w) B t;have zR:=(DF.at X G d_distances).elim λ_ t=>xc (P:=P) (w:=w) B t;have wX:=(DF.at X G d_is_at_edge).elim λ_ t=>uf (P:=P) (w:=w) B t;have BI:=(DF.at X G d_law_cell).elim λ_ t=>z4 (P:=P) (w:=w) B t;have pE:=(DF.at X G d_law_cells).elim λ_ t=>xh (P:=P) (w:=w) B t;have wZ:=(DF.at X G d_law_beside).elim λ_ t=>uh (P:=P) (w:=w) B t;have uc:=(DF.at X G d_law_refused).elim λ_ t=>sv (P:=P) (w:=w) B t;have zU:=(DF.at X G d_law_parts).elim λ_ t=>xk (P:=P) (w:=w) B t;have HE:=(DF.at X G d_is_row).elim λ_ t=>E_ (P:=P) (w:=w) B zS t;have zW:=(DF.at X G d_need_ways).elim λ_ t=>xm (P:=P) (w:=w) B sq t;have pC:=(DF.at X G d_all_cells).elim λ_ t=>xb (P:=P) (w:=w) B so t;have m9:=(DF.at X G d_next_cells).elim λ_ t=>uo (P:=P) (w:=w) B BG t;have ud:=(DF.at X G d_need_number).elim λ_ t=>sy (P:=P) (w:=w) B sq t;have qi:=(DF.at X G d_comes_to_edge).elim λ_ t=>oJ (P:=P) (w:=w) B wX t;have pF:=(DF.at X G d_law_drawn).elim λ_ t=>xi (P:=P) (w:=w) B BI t;have w4:=(DF.at X G d_law_labels).elim λ_ t=>ui (P:=P) (w:=w) B pE wZ t;have pG:=(DF.at X G d_law_holes).elim λ_ t=>xj (P:=P) (w:=w) B zU t;have BH:=(DF.at X G d_is_board).elim λ_ t=>z0 (P:=P) (w:=w) B HE t;have w6:=(DF.at X G d_like_cells).elim λ_ t=>uj (P:=P) (w:=w) B zV m9 t;have w9:=(DF.at X G d_near_among).elim λ_ t=>uk (P:=P) (w:=w) B qD m9 t;have zT:=(DF.at X G d_law_board).elim λ_ t=>xg (P:=P) (w:=w) B pF t;have lI:=(DF.at X G d_law_patches).elim λ_ t=>su (P:=P) (w:=w) B w4 pE t;have w_:=(DF.at X G d_need_board).elim λ_ t=>um (P:=P) (w:=w) B BH t;have xa:=(DF.at X G d_steps_back).elim λ_ t=>ur (P:=P) (w:=w) B w6 t;have BJ:=(DF.at X G d_parts_of).elim λ_ t=>z5 (P:=P) (w:=w) B w9 zR qD t;have ub:=(DF.at X G d_all_patches).elim λ_ t=>sr (P:=P) (w:=w) B pC xa qD t;have m_:=(DF.at X G d_shut_parts).elim λ_ t=>uq (P:=P) (w:=w) B qD pC BJ qi t;have gZ:=(DF.at X G d_patch_of_number).elim λ_ t=>me (P:=P) (w:=w) B w_ zW ub ud t;have E8:=(DF.at X G d_shut_in).elim λ_ t=>BM (P:=P) (w:=w) B gZ m_ t;have KH:=(DF.at X G d_holes).elim λ_ t=>HH (P:=P) (w:=w) B gZ m_ t;have lJ:=(DF.at X G d_law_told_v6).elim λ_ t=>sx (P:=P) (w:=w) B uc E8 KH t;have wY:=(DF.at X G d_law_aslant).elim λ_ t=>ug (P:=P) (w:=w) B lI pG lJ t;exact zY B zT lI pF wY pG lJ (GI (st:=aw) l_law_k31 c_law_k31 k_law_k31)
end K1
open PySem PySem.W PyProof.Rows
theorem PySem.Challenge.cw_cellpatches_k31_holes_holds : PySem.Challenge.rw_cellpatches_k31_holes.Holds := by
 w_on;refine holds_law (by kernel_rfl) λYR=>?_
 refine holds_open (q:=K1.AE) (loose:=[]) (Xt:=λs=>xlAt K1.AE [] s&&recOk (RowW.records (OpenRow.toRowW _)) s) (XP:=XL K1.AE []) (Yf:=Hook.obs (kHook K1.rq K1.rp (λ_=>by kernel_rfl))) (Ya:=Hook.val (kHook K1.rq K1.rp (λ_=>by kernel_rfl))) (YP:=Hook.says (kHook K1.rq K1.rp (λ_=>by kernel_rfl))) (N:=5876) ?hl (Hook.of (kHook K1.rq K1.rp (λ_=>by kernel_rfl))) (Hook.keeps (kHook K1.rq K1.rp (λ_=>by kernel_rfl))) (λs e=>xl_of s (afx.mp e).1) XL.keeps (by rfl) (by rfl) (by rfl) (λs e=>recFacts_of (afx.mp e).2) (by rfl) (by first | assumption | decide+kernel) (by decide+kernel) ⟨rfl,rfl,rfl,rfl,rfl,by decide+kernel⟩ ?hw ?hc
 case hl=>exact K1.Qy
 (case hw=>w_witness2)
 k_fill
 refine L3.R5 (l:=PySem.Challenge.rw_cellpatches_k31_holes) (k:=10) (n:=63) (x:="_law_script") (g:=K1.kP) rfl (by decide) rfl ⟨rfl,by decide,by decide⟩ (λw h Y=>PySem.W.kIn_of Y) K1.Hn ?F
 case F=>
  intro w mg fa h KX G NF;refine' K1.all_mk KX G NF ?d_is_whole ?d_is_letter ?d_cells_of_row ?d_letter_of ?d_are_next ?d_keyed ?d_distances ?d_is_at_edge ?d_law_cell ?d_law_cells ?d_law_beside ?d_law_refused ?d_law_parts ?d_is_row ?d_need_ways ?d_all_cells ?d_next_cells ?d_need_number ?d_comes_to_edge ?d_law_drawn ?d_law_labels ?d_law_holes ?d_is_board ?d_like_cells ?d_near_among ?d_law_board ?d_law_patches ?d_need_board ?d_steps_back ?d_parts_of ?d_all_patches ?d_shut_parts ?d_patch_of_number ?d_shut_in ?d_holes ?d_law_told_v6 ?d_law_aslant ?a_law_k31 ?l_law_k31 ?c_law_k31 ?k_law_k31 ?z_len ?z_isinstance ?z_all ?z_any ?z_abs ?z_max ?z_min ?z_range ?z_str ?z_int ?z_bool ?z_tuple ?z_list ?z_dict ?z_set ?z_sorted ?z_enumerate ?z_ValueError ?y_LETTERS ?y_MOST_ROWS ?y_MOST_COLUMNS ?e0 ?e1 ?e2 ?e3 ?e4 ?e5 ?e6 ?ep ?sp ?q0 ?ga0 ?gt0 ?ca0 ?mo0 ?mb0 ?cl0 ?kp0 ?kv0 ?np0 ?k00 ?k01 ?k02 ?k03 ?k04 ?k05 ?k06 ?q1 ?ga1 ?gt1 ?ca1 ?mo1 ?mb1 ?cl1 ?kp1 ?kv1 ?np1 ?k10 ?k11 ?k12 ?k13 ?k14 ?k15 ?k16 ?q4 ?ga4 ?gt4 ?ca4 ?mo4 ?mb4 ?cl4 ?kp4 ?kv4 ?np4 ?k40 ?k41 ?k42 ?k43 ?k44 ?k45 ?k46
  any_goals (refine' K1.DF.mk ?a ?l ?c ?k;(case a=>k_is);(case l=>k_is);(case c=>k_is);(case k=>k_is))
  any_goals first | k_is | kit_is | k_exc | rfl
