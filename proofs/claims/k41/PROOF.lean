import PyProof.Rows.All
import KE.KDictSum
import KE.KSortTup
import KE.RegKIsAll
import Lean
import PySem.Challenge.RW_cellpatches_k41_whole_painting
open Option renaming some->θ,none->ω
open Bool renaming true->ψ,false->μ
open List renaming length_map->X3,mem_cons_of_mem->X4,mem_cons_self->X5,getElem?_eq_getElem->X7,map_cons->X9,mem_cons->Ye,length_append->Yg,length_cons->Yh,mem_singleton->Yi,size_toArray->Yj,getElem?_eq_some_iff->Yk,getElem?_map->Yl,getElem?_set_ne->Yn,mem_map->Yo,getD_eq_getElem?_getD->Yp,range->Yr,getElem?_set_self->Yt,all_eq_true->Yu,mem_append->YA,mem_of_getElem?->YB,map_append->YC,map_map->YD,mem_filter->YE,mem_range->YJ,pairwise_cons->YK,nodup_append->YN,range'->YO,getElem?_cons_zero->YQ,mem_append_right->YU,getElem?_append_left->YV,toArray->YX,nodup_cons->YZ,replicate->Y4,getElem?_append_right->Y_,getElem?_cons_succ->Za,flatMap_cons->Zd,nil_append->Zg,length_filter_le->Zh,append_nil->Zk,mem_iff_getElem->Zp,Nodup->Zq,pairwise_iff_getElem->Zu,nodup_nil->Zv,mem_flatMap->Zz,mem_append_left->ZA,append_assoc->ZC,map_congr_left->ZE,lookup_cons->ZK,length_take->ZL,getElem_mem->ZM,filter_cons->ZN,zip_cons_cons->ZO,getElem?_eq_none->ZP,length_range->ZS,length_nil->ZT,length_eq_zero_iff->ZY,getElem_of_mem->ZZ,getElem?_replicate->Z0,getElem?_range->Z1,range'_succ->Z2,range_succ_eq_map->Z5,getElem?_concat_length->Z_,pairwise_append->aac,map_nil->aaj,all_map->aak,pairwise_singleton->aao,foldl_cons->aap,find?_cons->aaq,any_cons->aar,all_cons->aas,pairwise_map->aay,cons_lt_cons_iff->aaD,cons_append->aaG,range_eq_range'->aaI,mem_of_mem_take->aaJ,countP_eq_length_filter->aaM,getElem?_eq_none_iff->aaU,drop_eq_getElem_cons->aaV,sum_cons->abd,filter_cons_of_pos->abe,getElem_map->abf,ext_getElem->abg,drop_length->abh,pairwise_lt_range->abm,length_pos_of_mem->abn,zip_append->abu,of_mem_zip->abv,length_zip->abw,length_replicate->abx,forIn_cons->aby,filter_nil->abz,eq_nil_or_concat->abA,concat_eq_append->abB,filterMap_cons->abU,set_cons_zero->acd,set_cons_succ->ace,length_range'->acf,getElem?_inj->aco,ext_getElem?->acp,length_drop->acz,mem_zipIdx_iff_getElem?->acH,filter_map->acK,perm_ext_iff_of_nodup->acT,drop_zero->ac3,length_erase_of_mem->ada,zip_map'->adf,filter_cons_of_neg->adg,take_of_length_le->ads,filter_eq_nil_iff->adt,getElem?_mapIdx->adJ,length_pos_iff->adR,length_flatMap->adS,length->adT,mem_filterMap->ad4,filter_append->ad5,mem_range'_1->aec,foldl_append->aed,filter_congr->aee
open PySem renaming wpAny_bind->X6,wpAny_pure->Yb,Shared->Yc,sizeLine->Yv,starEach->Yw,mainGlobals->YG,Program->YM,bootBuiltins->YW,behindInMarks->Y3,Around->Y7,compareOp->Zf,wpAny_mono->Zj,wpAny_newObj_type->Zo,wpAny_call_entry->Zs,wpAny_truthy_bool->Zx,sysModules->Zy,mem_of_lookup->ZD,wpAny_holding->ZF,wpAny_dictEntries->ZG,sizeLine_eq->ZJ,wpAny_typeNameOfWhole_keyiter->Z9,wpAny_passesOwn->aad,backTo->aae,foldedSetIterable->aag,attributeBase->aah,tupleKind->aan,FuncData->aat,wpAny_typeNameOf_keyiter->aau,wpAny_getItem_str_slice->aaz,wpAny_callSpecial?_slot->aaA,wpAny_Call_Name_kw->aaB,Keyword->aaC,keywordEach->aaH,wpAny_newList->aaP,binaryOp->aaQ,wpAny_dictEpoch->aaX,swapsWith->aaY,sliceBounds->aaZ,tupleKind_room_in1->aa_,NameKind->abb,typeIs_str->abo,assignEach->abp,DictEntry->abt,storedH->abD,Paired->abQ,wpAny_typeOf->abX,wpAny_execs_nil->abY,post_val_or_str->abZ,letOwnedTupleGo->ab0,getItem->ab1,Builtin->ab8,backToKw->aca,swapsWithSole->acA,dictSetHashed->acC,wpAny_assign_Name->acO,callerA->acP,rawInt->acW,codeAny_mono->acZ,IsPart->ac4,noFill_tuple_add->ac7,wpAny_specialOf->adi,valueAt->adj,size_of_entries->adk,codeAny->adn,PassesOwn->adq,recursionLimit->adz,wpAny_comprehension_free->adL,pyNext->adM,entryOfKey->adN,seq_tuple_add->adW,notedBy->adX,call->adZ,BindsTo->ad6
open PySem.Heap renaming get?_push_of_some->X8,lt_size->Ys,get?_push_size->Yy,SameBut->aal,get?_update_self->aaE,get?_none_of_le->adK
open Nat renaming le_refl->X_,le_trans->Yz,ne_of_lt->YF,zero_le->YH,lt_of_lt_of_le->YL,lt_irrefl->Zb,le_of_lt->Zm,mul_le_mul->Z4,lt_of_le_of_lt->Z8,lt_trans->aam,min_eq_left->aaO,zero_add->aaT,testBit_or->aa3,le_max_right->abl,testBit_and->abH,pow_succ->abI,ne_of_gt->abJ,le_total->abK,le_max_left->abL,le_antisymm->abM,lt_succ_self->acF,lt_of_not_le->acG,le_succ->acS,mod_lt->ade,testBit_shiftRight->adx,div_div_eq_div_mul->ady,testBit_shiftLeft->adF,sub_zero->adG,min_self->adH,add_comm->adI,mul_le_mul_right->adQ,testBit->ad2,add_mul->ad3,add_right_comm->aea
open Array renaming length_toList->Yd,getElem?_toList->Y6,getElem?_eq_getElem->Zt,append_assoc->ab9,toList_inj->acy,isEmpty_iff->ad7
open PySem.W renaming Frag->Ym,mg_none_of->YT,nsIn->Y1,kia_one->Zn,fnOf->ZH,keepIn->ZX,codeIn->aav,mg_of->aa1,kdu_collect->abG,methodObj->ab5,instObj->acv,lookIn->acD,kitOne->acE,cellsFrom_some->ac1,kitx_list->adD,kitx_dict->adE,plainGet->adP,OpenLaw->ad0,findIn->ad9
open Bool renaming and_eq_true->Yq,false_ne_true->YI,false_eq_true->Y0,and_eq_true_iff->ZQ,or_eq_true->aab,eq_false_iff->aa5,eq_iff_iff->abC,not_false->abS,and_false->abT,true_and->acg,and_true->adh
open PySem.PassesOwn renaming never->Yx
open PySem.Heap.SameBut renaming update->YR,refl->ac5
open Option.some renaming inj->YS
open PySem.Value renaming ref->YY,none->Y8,bool->aa0,type->ach,str->ado,int->adp
open PySem.Obj renaming mapSeq->Y2,data_mapDictKeys->aaL,isFreed_of_dict->ab6,data_mapFields->ad_
open PyProof.Rows renaming seqObj->Y5,callWith_type1->Zl,slot_tuple_getitem->ZI,envOfC->ZU,IntsAre->aaK,kindOf->abO,slice_closes_toL->abP,get?_update_seq->ab2,entry_list_sort->ab3,AllBare->ab_,slot_list_sort->ack,args_list_sort->acm,listUpdate_at->acB,plain_sorted->acX,entry_sorted->acY,args_sorted1->ac0,failedOf->adb,seqEpoch_at->adl,kind_sorted->adm,subscriptTail->adV,subscriptTail_builtinR->ad8
open Ne renaming symm->Y9
open Classical renaming byContradiction->Zc,propDecidable->acI,not_forall->ac6,not_imp->adv
open PySem.Builtin.Str renaming occurrences->Ze
open ForInStep renaming yield->Zi
open PySem.Builtin.Tuple renaming tupleExact->Zr,tupleItemsOf->abV,tupleHashOf->ab7
open PySem.Builtin.Range renaming rangeSize->Zw,small->aa9
open True renaming intro->ZR
open PySem.Paired renaming length->ZV
open PySem.Str renaming ofString->ZW,length->acu
open False renaming elim->Z3
open PySem.Calls renaming spliced_cons->Z6,call_function_entry->aaf,spliced_nil->aax,callWith_builtin->abj,evalArgs_plain->abN,Name_function_global->acN
open PySem.Builtin.Slice renaming slicePlaces->Z7,sliceAdjust->aaF,sliceApplied->abW
open PySem.F renaming slot_dict_keyiterator_next->aaa,args_tuple_add_2->aaR,entry_tuple_add->aa2,slot_tuple_add->aa6,slot_dict_setdefault->acn,slot_dict_update->acJ,args_dict_keyiterator_next_1->acM,plainAttrs_list->acQ,plainAttrs_dict->acR,entry_dict_keyiterator_next->acV,plainAttrs_str->ac2
open Option renaming isSome_iff_exists->aai,getD_some->aa7,isSome_map->acb,map_eq_some_iff->ac_,getD_none->ad1
open PUnit renaming unit->aaw
open PySem.Builtin.List renaming listTooLong->aaN,listUpdate->acq
open Int.ofNat renaming inj->aaS
open PySem.Builtin.Dict renaming showsAll->aaW,entriesForEmpty->abR,updateFrom->acr,mergeDict->acx
open PySem.Data renaming dict->aa4,fields->adU
open Int renaming toNat_natCast->aa8,emod_lt_of_pos->acj,emod_nonneg->acU
open Prod renaming ext->aba
open Iff renaming rfl->abi
open PySem.Builtin.Dict_items renaming ownsTuple->abk
open List.Pairwise renaming nil->abq,imp->abr
open PySem.Txt renaming slice_le->abE,slice->aci
open Sum renaming inr->abF,inl->acs
open PySem.StrLaws renaming sliceText->ab4,found_one->adB,occBody->adY
open List.Perm renaming refl->acw
open Function renaming comp->acL
open PySem.SeqAt.EqAt renaming str_int->ac8,int_str->ac9
open PyProof.Rows.IsTup renaming new->adu
open PySem.Around renaming under_plainId->adw
open PySem.Value.type renaming inj->adA
open PySem.SeqAt renaming notIn_tupleAt->adC,notIn_listAt->adO
open PySem.NameKind renaming free->aeb
set_option maxHeartbeats 0
set_option compiler.extract_closed false
noncomputable section
set_option Elab.async false
set_option linter.all false
set_option maxRecDepth 100000
abbrev aef:=@if_pos
abbrev aeg:=@decide_eq_true
abbrev aeh:=@if_neg
abbrev aei:=@of_decide_eq_true
abbrev aej:=@decide_eq_true_eq
abbrev aek:=@decide_eq_false
abbrev ael:=@absurd
abbrev aem:=@decide_eq_decide
abbrev aen:=@beq_eq_false_iff_ne
abbrev aeo:=@congrArg
namespace L2
open PySem
def fZ(s:Stmt):Arguments:=match s with
 | .FunctionDef _ a _ _ _ _ _ _ _ _=>a
 |_=>{posonlyargs:=[],args:=[],vararg:=ω,kwonlyargs:=[],kw_defaults:=[],kwarg:=ω,defaults:=[]}
def ba(s:Stmt):List Stmt:=match s with
 | .FunctionDef _ _ b _ _ _ _ _ _ _=>b
 |_=>[]
def ah(s:Stmt):Scope:=match s with
 | .FunctionDef _ _ _ _ _ _ sc _ _ _=>sc
 |_=>{kind:= .function,names:=[],isGenerator:=μ,isCoroutine:=μ}
end L2
namespace K1
open PySem PySem.Spec
def top(i:Nat):Stmt:=PySem.Challenge.pw_cellpatches_k41_whole_painting.main.body.getD i (.Pass ⟨0,0,0,0⟩)
abbrev hS(s:String)(t:Tok):Value:= .str (ZW s) t
abbrev hE(P:Params)(s:String)(t:Tok)(v:Value):abt:={hash:=PyData.keyHash P (ZW s),key:=hS s t,val:=v}
abbrev hT(xs:Array Value):Obj:={cls:= .type "tuple",data:=Data.seq xs}
abbrev hF(s:String)(t:Stmt)(m:Value)(c:Addr):Obj:={cls:= .type "function",data:=Data.func {name:=ZW s,qualname:=ZW s,params:=L2.fZ t,body:=FuncBody.stmts (L2.ba t),scope:=L2.ah t,globals:=3,closure:=[],defaults:= .none,kwdefaults:= .none,pyModule:=m,code:= .ref c} }
abbrev ip(s:String)(t1 t2 t3:Tok)(l n f:Int)(a:Addr)(v:Int)(b:Addr)(x y:Value)(d:Addr)(p:Int)(t4:Tok):Obj:={cls:= .type "code",data:=adU #[hS s t1,hS s t2,hS "/claim/cut.py" t3, .int l 0, .int n 0, .int 0 0, .int 0 0, .int f 0, .ref a, .bool ψ, .int v 0, .ref b, .none,x,y, .ref d, .int p 0, .int l 0,hS "/claim/cut.py" t4]}
abbrev vx:Value:=hS "cellpatches.boards" 271
abbrev FV:Value:=hS "cellpatches.patches" 430
abbrev LU:Value:=hS "cellpatches.painting" 559
abbrev OK:Value:=hS "law_cellpatches_k41_whole_painting" 634
abbrev Px:Value:=hS "cellpatches.errors" 187
abbrev Rz(n:String)(b a ns r:Addr)(t1 t2:Tok):Obj:={cls:= .type "type",data:=Data.cls {name:=ZW n,bases:=[.ref b],mro:=[.ref a, .ref b, .type "ValueError", .type "Exception", .type "BaseException", .type "object"],ns:=ns,qualname:=ZW n},slots:= #[θ (.ref r),ω,θ (hS n t1),θ (hS n t2),θ (.builtin "ValueError.__new__"),θ (.bool ψ)]}
set_option hygiene false
local macro_rules|`('p' $as*)=>do
 let g i:=as[i]!.raw.isNatLit?.getD 0
 let n k:=Lean.Syntax.mkNumLit (toString k)
 let a:=g 0;let t:=g 1;let z:=as[as.size-1]!
 let mut q:=#[]
 for x in as.extract 8 (as.size-1) do q:=q.push (←`(hS $x $(n (t+3+q.size))))
 `((nat_lit $(n a),hT #[])::(nat_lit $(n (a+2)),hT #[$q,*])::(nat_lit $(n (a+3)),hT #[])::(nat_lit $(n (a+5)),ip $(as[2]!) $(n t) $(n (t+1)) $(n (t+2)) $(as[3]!) $(as[4]!) $(as[5]!) $(n a) 181 $(n (a+1)) (.ref $(n (a+2))) (.ref $(n (a+3))) $(n (a+4)) $(n (t+3+q.size)) $(n (t+4+q.size)))::(nat_lit $(n (a+6)),hF $(as[2]!) (top $(as[6]!)) $(as[7]!) $(n (a+5)))::$z)
local macro_rules|`('q' $as*)=>do
 let g i:=as[i]!.raw.isNatLit?.getD 0
 let n k:=Lean.Syntax.mkNumLit (toString k)
 let a:=g 0;let t:=g 1;let z:=as[as.size-1]!
 `((nat_lit $(n a),hT #[])::(nat_lit $(n (a+3)),ip $(as[2]!) $(n t) $(n (t+1)) $(n (t+2)) $(as[3]!) $(as[4]!) $(as[5]!) $(n a) 181 $(n (a+1)) .none .none $(n (a+2)) $(n (t+3)) $(n (t+4)))::(nat_lit $(n (a+4)),hF $(as[2]!) (top $(as[6]!)) $(as[7]!) $(n (a+3)))::$z)
local macro_rules|`('r' $as*)=>do
 let g i:=as[i]!.raw.isNatLit?.getD 0
 let n k:=Lean.Syntax.mkNumLit (toString k)
 let a:=g 0;let t:=g 1;let z:=as[as.size-1]!
 `((nat_lit $(n a),hT #[.ref 24])::(nat_lit $(n (a+7)),hT #[])::(nat_lit $(n (a+8)),{cls:= .type "dict",data:=aa4 #[hE P "__module__" $(n (t+7)) $(as[4]!),hE P "__firstlineno__" $(n (t+11)) (.int $(as[3]!) $(n (t+10))),hE P "__static_attributes__" $(n (t+12)) (.ref $(n (a+7))),hE P "__doc__" $(n (t+13)) .none] 2})::(nat_lit $(n (a+9)),Rz $(as[2]!) 24 $(n (a+9)) $(n (a+8)) $(n a) $(n t) $(n (t+8)))::$z)
noncomputable def rZ:Params->Ym:=λP=>(nat_lit 2,{cls:= .none,data:=aa4 #[]})::
 (nat_lit 3,{cls:= .type "dict",data:=aa4 #[hE P "__name__" 165 OK,hE P "__doc__" 166 .none,hE P "__package__" 167 .none,hE P "__loader__" 168 (.builtin "__main__.__loader__#opaque"),hE P "__spec__" 169 .none,hE P "__annotations__" 170 (.ref 6),hE P "__builtins__" 171 (.ref 4),hE P "__file__" 173 (hS "/claim/cut.py" 172),hE P "__cached__" 174 .none,hE P "PatchError" 206 (.ref 24),hE P "NoBoard" 222 (.ref 37),hE P "NoWays" 238 (.ref 49),hE P "NoCell" 254 (.ref 61),hE P "NoLetter" 270 (.ref 73),hE P "LETTERS" 274 (hS "abcdef" 273),hE P "MOST_ROWS" 276 (.int 8 275),hE P "MOST_COLUMNS" 278 (.int 8 277),hE P "is_whole" 285 (.ref 82),hE P "is_letter" 292 (.ref 89),hE P "is_row" 298 (.ref 94),hE P "is_board" 304 (.ref 99),hE P "is_cell" 312 (.ref 106),hE P "need_board" 319 (.ref 113),hE P "need_cell" 327 (.ref 120),hE P "need_letter" 334 (.ref 127),hE P "need_letters" 340 (.ref 132),hE P "need_ways" 347 (.ref 139),hE P "cells_of_row" 353 (.ref 144),hE P "all_cells" 362 (.ref 151),hE P "letter_of" 370 (.ref 158),hE P "are_next" 381 (.ref 165),hE P "next_cells" 393 (.ref 172),hE P "keyed" 402 (.ref 179),hE P "with_letters" 408 (.ref 184),hE P "cells" 415 (.ref 191),hE P "letter_at" 423 (.ref 198),hE P "letters" 429 (.ref 203),hE P "need_two_cells" 441 (.ref 210),hE P "like_cells" 447 (.ref 215),hE P "steps_back" 461 (.ref 222),hE P "all_patches" 473 (.ref 229),hE P "numbers_of" 484 (.ref 236),hE P "near_numbers" 498 (.ref 243),hE P "near_among" 504 (.ref 248),hE P "distances" 517 (.ref 255),hE P "parts_of" 531 (.ref 262),hE P "patch_of" 540 (.ref 269),hE P "how_many" 548 (.ref 276),hE P "are_one" 558 (.ref 283),hE P "need_paint" 570 (.ref 290),hE P "holds_together" 576 (.ref 295),hE P "drawn_in" 589 (.ref 302),hE P "painted" 599 (.ref 309),hE P "change" 610 (.ref 316),hE P "cuts" 616 (.ref 321),hE P "paints_over" 627 (.ref 328),hE P "fewest_paints" 633 (.ref 333),hE P "_law_cell" 643 (.ref 340),hE P "_law_drawn" 653 (.ref 347),hE P "_law_board" 659 (.ref 352),hE P "_law_cells" 665 (.ref 357),hE P "_law_beside" 680 (.ref 364),hE P "_law_reach" 686 (.ref 369),hE P "law" 692 (.ref 374)] 64})::
 (nat_lit 15,hT #[.type "ValueError"])::
 (nat_lit 22,hT #[])::
 (nat_lit 23,{cls:= .type "dict",data:=aa4 #[hE P "__module__" 196 Px,hE P "__firstlineno__" 200 (.int 2 199),hE P "__static_attributes__" 201 (.ref 22),hE P "__weakref__" 203 (.ref 25),hE P "__doc__" 204 .none] 3})::
 (nat_lit 24,{cls:= .type "type",data:=Data.cls {name:=ZW "PatchError",bases:=[.type "ValueError"],mro:=[.ref 24, .type "ValueError", .type "Exception", .type "BaseException", .type "object"],ns:=23,qualname:=ZW "PatchError",subclasses:=[.ref 37, .ref 49, .ref 61, .ref 73]},slots:= #[θ (.ref 15),ω,θ (hS "PatchError" 189),θ (hS "PatchError" 197),θ (.builtin "ValueError.__new__"),θ (.bool ψ)]})::
 (nat_lit 25,{cls:= .type "getset_descriptor",data:=adU #[hS "__weakref__" 202, .ref 24, .builtin "ExceptionGroup.__weakref__", .none]})::
 'r' 28 207 "NoBoard" 4 Px (
 'r' 40 223 "NoWays" 6 Px (
 'r' 52 239 "NoCell" 8 Px (
 'r' 64 255 "NoLetter" 10 Px (
 'p' 76 279 "is_whole" 16 1 3 10 vx "thing" (
 'p' 83 286 "is_letter" 18 1 3 11 vx "thing" (
 'q' 90 293 "is_row" 20 1 3 12 vx (
 'q' 95 299 "is_board" 24 1 3 13 vx (
 'p' 100 305 "is_cell" 30 2 3 14 vx "board" "thing" (
 'p' 107 313 "need_board" 36 1 3 15 vx "thing" (
 'p' 114 320 "need_cell" 39 2 3 16 vx "board" "thing" (
 'p' 121 328 "need_letter" 42 1 3 17 vx "thing" (
 'q' 128 335 "need_letters" 45 1 3 18 vx (
 'p' 133 341 "need_ways" 48 1 3 19 vx "thing" (
 'q' 140 348 "cells_of_row" 51 2 3 20 vx (
 'p' 145 354 "all_cells" 53 1 3 21 vx "board" "found" "row" (
 'p' 152 363 "letter_of" 58 2 3 22 vx "board" "cell" (
 'p' 159 371 "are_next" 60 3 3 23 vx "one" "other" "ways" "down" "along" (
 'p' 166 382 "next_cells" 66 3 3 24 vx "board" "cell" "ways" "found" "row" "column" (
 'p' 173 394 "keyed" 73 1 3 25 vx "things" "found" "thing" (
 'q' 180 403 "with_letters" 78 3 3 26 vx (
 'p' 185 409 "cells" 85 1 3 27 vx "board" (
 'p' 192 416 "letter_at" 88 2 3 28 vx "board" "cell" (
 'q' 199 424 "letters" 92 1 3 29 vx (
 'p' 204 432 "need_two_cells" 97 4 3 31 FV "board" "ways" "one" "other" (
 'q' 211 442 "like_cells" 102 3 3 32 FV (
 'p' 216 448 "steps_back" 105 3 3 33 FV "board" "start" "ways" "back" "ring" "further" "cell" "near" (
 'p' 223 462 "all_patches" 117 2 3 34 FV "board" "ways" "found" "seen" "cell" "patch" (
 'p' 230 474 "numbers_of" 126 1 3 35 FV "found" "numbers" "number" "patch" "cell" (
 'p' 237 485 "near_numbers" 132 3 3 36 FV "board" "ways" "found" "numbers" "near" "cell" "mine" "other" (
 'q' 244 499 "near_among" 141 3 3 37 FV (
 'p' 249 505 "distances" 147 2 3 38 FV "near" "start" "far" "ring" "further" "thing" "other" (
 'p' 256 518 "parts_of" 159 3 3 39 FV "board" "some" "ways" "near" "parts" "seen" "cell" "part" (
 'p' 263 532 "patch_of" 169 3 3 40 FV "board" "cell" "ways" (
 'p' 270 541 "how_many" 174 2 3 41 FV "board" "ways" (
 'p' 277 549 "are_one" 178 4 3 42 FV "board" "ways" "one" "other" (
 'p' 284 561 "need_paint" 182 4 3 44 LU "board" "cell" "ways" "letter" (
 'q' 291 571 "holds_together" 187 4 3 45 LU (
 'p' 296 577 "drawn_in" 190 4 3 46 LU "taken" "near" "signs" "letter" "more" "number" "other" (
 'p' 303 590 "painted" 198 4 3 47 LU "board" "cell" "ways" "letter" (
 'p' 310 600 "change" 201 4 3 48 LU "board" "cell" "ways" "letter" "then" (
 'q' 317 611 "cuts" 205 2 3 49 LU (
 'p' 322 617 "paints_over" 212 3 3 50 LU "board" "ways" "letters" "now" "letter" (
 'q' 329 628 "fewest_paints" 220 2 3 51 LU (
 'p' 334 636 "_law_cell" 240 2 3 53 OK "_law_script" "_law_k" (
 'p' 341 644 "_law_drawn" 244 3 3 54 OK "_law_script" "_law_k" "_law_many" "_law_cell_here" (
 'q' 348 654 "_law_board" 248 3 3 55 OK (
 'q' 365 681 "_law_reach" 272 3 3 58 OK (
 'q' 370 687 "law" 283 1 3 59 OK ([])))))))))))))))))))))))))))))))))))))))))))))))))
def rY:List Nat:=[2,3,15,22,23,24,25,28,35,36,37,40,47,48,49,52,59,60,61,64,71,72,73,76,78,79,81,82,83,85,86,88,89,90,93,94,95,98,99,100,102,103,105,106,107,109,110,112,113,114,116,117,119,120,121,123,124,126,127,128,131,132,133,135,136,138,139,140,143,144,145,147,148,150,151,152,154,155,157,158,159,161,162,164,165,166,168,169,171,172,173,175,176,178,179,180,183,184,185,187,188,190,191,192,194,195,197,198,199,202,203,204,206,207,209,210,211,214,215,216,218,219,221,222,223,225,226,228,229,230,232,233,235,236,237,239,240,242,243,244,247,248,249,251,252,254,255,256,258,259,261,262,263,265,266,268,269,270,272,273,275,276,277,279,280,282,283,284,286,287,289,290,291,294,295,296,298,299,301,302,303,305,306,308,309,310,312,313,315,316,317,320,321,322,324,325,327,328,329,332,333,334,336,337,339,340,341,343,344,346,347,348,351,352,365,368,369,370,373,374]
def AY:YM:={PySem.Challenge.pw_cellpatches_k41_whole_painting with main:={PySem.Challenge.pw_cellpatches_k41_whole_painting.main with body:=[top 1,top 2,top 3,top 4,top 5,top 7,top 8,top 9,top 10,top 11,top 12,top 13,top 14,top 15,top 16,top 17,top 18,top 19,top 20,top 21,top 22,top 23,top 24,top 25,top 26,top 27,top 28,top 29,top 31,top 32,top 33,top 34,top 35,top 36,top 37,top 38,top 39,top 40,top 41,top 42,top 44,top 45,top 46,top 47,top 48,top 49,top 50,top 51,top 53,top 54,top 55,top 56,top 57,top 58,top 59]} }
open PySem.W PyProof.Rows in
def PY:LeftO PySem.Challenge.rw_cellpatches_k41_whole_painting.row.prog AY [] (λs=>xlAt AY [] s&&recOk PySem.Challenge.rw_cellpatches_k41_whole_painting.row.records s) (kHook rZ rY (λ_=>by kernel_rfl)).obs (kHook rZ rY (λ_=>by kernel_rfl)).val 5170:=λw=>by kernel_rfl
end K1
namespace L2
open PySem PySem.Spec PyProof.Rows
abbrev Key:=Sum Int Str
def pO:Key->Value->Bool
 | .inl k,v=>Value.isInt k v
 | .inr x,v=>Value.isStrOf x v
def Qo(w:World):Key->Int
 | .inl k=>hashInt k
 | .inr x=>hashStr w x
def b9:∀{k:Key}{v:Value},pO k v=ψ->(∃i t,k=acs i/\v=adp i t)\/(∃x t,k=abF x/\v=ado x t)
 | .inl i,v,h=>by
   obtain⟨t,e⟩:=Value.isInt_shape (k:=i) (v:=v) h;exact .inl ⟨i,t,rfl,e⟩
 | .inr x,v,h=>by
   obtain⟨t,e⟩:=Value.isStrOf_shape (x:=x) (v:=v) h;exact .inr ⟨x,t,rfl,e⟩
def EY(i:Int)(t:Tok):pO (.inl i) (.int i t)=ψ:=by simp[pO,Value.isInt]
def EZ(x:Str)(t:Tok):pO (.inr x) (.str x t)=ψ:=by simp[pO,Value.isStrOf]
def Nj(a b:Int):decide ((acs a:Key)=acs b)=(a==b):=by
 by_cases e:a=b
 ·subst e;simp
 ·have h:¬(acs a:Key)=acs b:=λq=>e (Sum.inl.inj q);rw[aek h];exact(aen.mpr e).symm
def Nn(a b:Str):decide ((abF a:Key)=abF b)=decide (a=b):=by
 by_cases e:a=b
 ·subst e;simp
 ·have h:¬(abF a:Key)=abF b:=λq=>e (Sum.inr.inj q);rw[aek h,aek e]
def Nk(a:Int)(b:Str):decide ((acs a:Key)=abF b)=μ:=aek (λq=>nomatch q)
def Nm(a:Str)(b:Int):decide ((abF a:Key)=acs b)=μ:=aek (λq=>nomatch q)
def bM(prog:YM)(w:World):PySem.KeyKind prog w Key where
 is:=pO
 hash:=Qo w
 inj:=λv a b ha hb=>by
  rcases b9 ha with⟨i,t,rfl,rfl⟩ | ⟨x,t,rfl,rfl⟩
  ·rcases b9 hb with⟨j,u,rfl,e⟩ | ⟨y,u,rfl,e⟩
   ·injection e with e1 _;rw[e1]
   ·exact nomatch e
  ·rcases b9 hb with⟨j,u,rfl,e⟩ | ⟨y,u,rfl,e⟩
   ·exact nomatch e
   ·injection e with e1 _;rw[e1]
 byValue:=λk v h=>by
  rcases b9 h with⟨i,t,rfl,rfl⟩ | ⟨x,t,rfl,rfl⟩<;>rfl
 pyHash:=λhv h=>by
  rcases b9 hv with⟨i,t,rfl,rfl⟩ | ⟨x,t,rfl,rfl⟩
  ·exact wpAny_pyHash_int h
  ·exact wpAny_pyHash_str h
 eqBool:=λhu hv h=>by
  rcases b9 hu with⟨i,t,rfl,rfl⟩ | ⟨x,t,rfl,rfl⟩
  ·rcases b9 hv with⟨j,u,rfl,rfl⟩ | ⟨y,u,rfl,rfl⟩
   ·rw[Nj] at h;exact wpAny_eqBool_int h
   ·rw[Nk] at h;exact ac9 i t y u _ _ _ _ h
  ·rcases b9 hv with⟨j,u,rfl,rfl⟩ | ⟨y,u,rfl,rfl⟩
   ·rw[Nm] at h;exact ac8 x t j u _ _ _ _ h
   ·rw[Nn] at h;exact wpAny_eqBool_str h
 «strs» :=λk x t v h=>by
  rcases b9 h with⟨i,u,rfl,e⟩ | ⟨y,u,rfl,e⟩
  ·exact nomatch e
  ·injection e with e1 _
   subst e1;cases v<;>rfl
def zQ(prog:YM)(w:World)(i:Int)(t:Tok):(bM prog w).is (.inl i) (.int i t)=ψ:=EY i t
def zR(prog:YM)(w:World)(x:Str)(t:Tok):(bM prog w).is (.inr x) (.str x t)=ψ:=EZ x t
inductive V where
 |non | bl (b:Bool) | int (i:Int) | str (x:Str) | byt (b:Array UInt8) | flt (b:UInt64) | ref (a:Addr) | ty (n:String)
 deriving DecidableEq
def RelV:V->Value->Prop
 | .non,u=>u=Y8
 | .bl b,u=>u=aa0 b
 | .int i,u=>∃t,u=adp i t
 | .str x,u=>∃t,u=ado x t
 | .byt b,u=>∃t,u=Value.bytes b t
 | .flt b,u=>∃t,u=Value.float b t
 | .ref a,u=>u=YY a
 | .ty n,u=>u=ach n
abbrev Vals:List V->List Value->Prop:=abQ RelV
theorem Vals.length{xs:List V}{us:List Value}(r:Vals xs us):xs.length=us.length:=ZV r
theorem Vals.get:∀{xs:List V}{us:List Value}{i:Nat}{x:V},Vals xs us->xs[i]? =θ x->∃u,us[i]? =θ u/\RelV x u
 |_,_,_,_, .nil,e=>by simp at e
 |_,_,0,_, .cons r _,e=>by simp at e;subst e;exact⟨_,rfl,r⟩
 |_,_,i+1,x, .cons _ t,e=>by
  obtain⟨u,h1,h2⟩:=Vals.get (i:=i) (x:=x) t (by simpa using e);exact⟨u,by simpa using h1,h2⟩
theorem Vals.set{x:V}{u:Value}(r:RelV x u):∀{xs:List V}{us:List Value}(i:Nat),Vals xs us->Vals (xs.set i x) (us.set i u)
 |_,_,_, .nil=> .nil
 |_,_,0, .cons _ t=> .cons r t
 |_,_,i+1, .cons q t=> .cons q (Vals.set r i t)
theorem Vals.append:∀{xs ys:List V}{us ws:List Value},Vals xs us->Vals ys ws->Vals (xs++ys) (us++ws)
 |_,_,_,_, .nil,s=>s
 |_,_,_,_, .cons r t,s=> .cons r (Vals.append t s)
theorem Vals.take:∀{xs:List V}{us:List Value}(n:Nat),Vals xs us->Vals (xs.take n) (us.take n)
 |_,_,0,_=> .nil
 |_,_,_+1, .nil=> .nil
 |_,_,n+1, .cons r t=> .cons r (Vals.take n t)
theorem Vals.drop:∀{xs:List V}{us:List Value}(n:Nat),Vals xs us->Vals (xs.drop n) (us.drop n)
 |_,_,0,r=>r
 |_,_,_+1, .nil=> .nil
 |_,_,n+1, .cons _ t=>Vals.drop n t
def RelO:Option V->Option Value->Prop
 |some v,θ u=>RelV v u
 |none,ω=>True
 |_,_=>False
def KV{κ:Type}:List (κ×V)->List (κ×Value)->Prop:=abQ λ(p:κ×V) (q:κ×Value)=>p.1=q.1/\RelV p.2 q.2
def kV:Key->V
 | .inl i=> .int i
 | .inr x=> .str x
inductive HO where
 |lst (xs:List V)
 |tup (xs:List V)
 |dK (kvs:List (Key×V)) | dT (kvs:List (List Key×V))
 |set (S:Int->Bool) (n:Nat)
 |ins (C dx:Addr) (fs:List (Str×V))
 |own (x:Addr)
 |xd (fs:List (Str×V))
 |met (f x:Addr)
 |rng (lo hi:Int)
 |frz (o:Obj) (u:HO)
 |tbl (ps:Array Value)
 |ext (φ:Heap->Prop)
abbrev Hp:=Addr->Option HO
def upd(H:Hp)(a:Addr)(o:HO):Hp:=λb=>if b=a then θ o else H b
def aD{H:Hp}{a:Addr}{o:HO}:upd H a o a=θ o:=by unfold upd;rw[aef rfl]
def ay{H:Hp}{a b:Addr}{o:HO}(h:b≠a):upd H a o b=H b:=by unfold upd;rw[aeh h]
def HA{H:Hp}{a b:Addr}{o u:HO}(h:H a=θ o)(h':H b=θ u)(d:o≠u):a≠b:=by
 intro e;subst e;rw[h] at h';exact d (YS h')
def bB{H:Hp}{a b:Addr}{o:HO}(h:H a=θ o)(h':H b=ω):a≠b:=by
 intro e;subst e;rw[h] at h';cases h'
section
variable(P:YM)(w:World)
def ObjOk(H:Hp)(h:Heap)(a:Addr):HO->Prop
 | .lst xs=>xs.length<=Yv/\∃(aS:List Value) (n:Nat),Vals xs aS/\h.get? a=θ {cls:= .type "list",data:= .seq aS.toArray n}
 | .tup xs=>xs.length<=Yv/\∃aS:List Value,Vals xs aS/\IsTup h a aS.toArray
 | .dK kvs=>kvs.length<=Yv/\(a==Zy)=μ/\∃vs,KV kvs vs/\h.DictOf (bM P w) a vs
 | .dT kvs=>kvs.length<=Yv/\(a==Zy)=μ/\∃xs:List (List Key×Addr×Value),
    abQ (λ(p:List Key×V) (q:List Key×Addr×Value)=>p.1=q.1/\H q.2.1=θ (.tup (p.1.map kV))/\RelV p.2 q.2.2) kvs xs/\
    ∃o es ep,h.get? a=θ o/\o.ExactDict/\o.data= .dict es ep/\es.toList=xs.map (adN (aan (bM P w)))/\(xs.map (·.1)).Nodup
 | .set S n=>h.SetOf (intKind P w) a S n
 | .ins C dx fs=>H dx=θ (.own a)/\fs.length<=1000/\dx≠a/\h.get? a=θ (acv C dx)/\
    ∃mA,h.Ns1 dx mA/\(∀f,RelO (fs.lookup f) (mA f))/\PySem.Within mA (fs.map (·.1))
 | .own _=>∃o,h.get? a=θ o
 | .xd fs=>∃mA,h.Ns1 a mA/\∀f,RelO (fs.lookup f) (mA f)
 | .rng lo hi=>∃t u v,h.get? a=θ {cls:= .type "range",data:= .fields #[.int lo t, .int hi u, .int 1 v]}
 | .frz o u=>h.get? a=θ o/\ObjOk H h a u
 | .tbl ps=>h.get? a=θ {cls:= .none,data:= .fields ps}
 | .met f x=>h.get? a=θ (ab5 (.ref f) (.ref x))
 | .ext φ=>φ h/\(∃o,h.get? a=θ o)/\∀h1 h2:Heap,φ h1->(∀o,h1.get? a=θ o->h2.get? a=θ o)->φ h2
def HOk(H:Hp)(h:Heap):Prop:=∀a o,H a=θ o->ObjOk P w H h a o
end
section
variable{P:YM}{w:World}{H H':Hp}{h h':Heap}{a:Addr}{o:HO}
theorem ObjOk.lt(x:ObjOk P w H h a o):a<h.objs.size:=by
 cases o with
 |lst xs=>obtain⟨_,_,_,_,e⟩:=x;exact Ys e
 |tup xs=>obtain⟨_,_,_,p⟩:=x;exact p.lt
 |dK kvs=>obtain⟨_,_,_,_,o,_,_,e,_⟩:=x;exact Ys e
 |dT kvs=>obtain⟨_,_,_,_,o,_,_,e,_⟩:=x;exact Ys e
 |set S n=>obtain⟨o,_,_,_,e,_⟩:=x;exact Ys e
 |ins C dx fs=>obtain⟨_,_,_,e,_⟩:=x;exact Ys e
 |own y=>obtain⟨_,e⟩:=x;exact Ys e
 |xd fs=>obtain⟨_,⟨_,_,_,e,_⟩,_⟩:=x;exact Ys e
 |rng lo hi=>obtain⟨_,_,_,e⟩:=x;exact Ys e
 |frz ob u=>obtain⟨e,_⟩:=x;exact Ys e
 |tbl ps=>exact Ys (show h.get? a=θ _ from x)
 |met f y=>exact Ys (show h.get? a=θ _ from x)
 |ext φ=>obtain⟨_,⟨_,e⟩,_⟩:=x;exact Ys e
theorem Paired.mapP{α β:Type}{F G:α->β->Prop}:∀{l₁:List α}{l₂:List β},abQ F l₁ l₂->(∀a b,F a b->G a b)->abQ G l₁ l₂
 |_,_, .nil,_=> .nil
 |_,_, .cons r t,f=> .cons (f _ _ r) (Paired.mapP t f)
def ObjOk.stay(x:ObjOk P w H h a o)(k:∀b u,(b=a\/H b=θ (.own a))->h.get? b=θ u->h'.get? b=θ u)
 (ho:∀b,H b=θ (.own a)->H' b=θ (.own a))(ht:∀b xs,H b=θ (.tup xs)->H' b=θ (.tup xs)):ObjOk P w H' h' a o:=by
 induction o with
 |lst xs=>obtain⟨z,aS,n,r,e⟩:=x;exact⟨z,aS,n,r,k _ _ (.inl rfl) e⟩
 |tup xs=>obtain⟨z,aS,r,ob,e,c⟩:=x;exact⟨z,aS,r,ob,k _ _ (.inl rfl) e,c⟩
 |dK kvs=>obtain⟨z,y,vs,r,ob,es,ep,e,c⟩:=x;exact⟨z,y,vs,r,ob,es,ep,k _ _ (.inl rfl) e,c⟩
 |dT kvs=>
  obtain⟨z,y,xs,r,ob,es,ep,e,c⟩:=x;exact⟨z,y,xs,Paired.mapP r λp q z=>⟨z.1,ht _ _ z.2.1,z.2.2⟩,ob,es,ep,k _ _ (.inl rfl) e,c⟩
 |set S n=>obtain⟨ob,es,ep,t,e,c⟩:=x;exact⟨ob,es,ep,t,k _ _ (.inl rfl) e,c⟩
 |ins C dx fs=>
  obtain⟨d,z,ne,e,mA,⟨od,es,ep,e2,c⟩,r⟩:=x;exact⟨ho _ d,z,ne,k _ _ (.inl rfl) e,mA,⟨od,es,ep,k _ _ (.inr d) e2,c⟩,r⟩
 |own y=>obtain⟨ob,e⟩:=x;exact⟨ob,k _ _ (.inl rfl) e⟩
 |xd fs=>obtain⟨mA,⟨od,es,ep,e,c⟩,r⟩:=x;exact⟨mA,⟨od,es,ep,k _ _ (.inl rfl) e,c⟩,r⟩
 |rng lo hi=>obtain⟨t,u,v,e⟩:=x;exact⟨t,u,v,k _ _ (.inl rfl) e⟩
 |frz ob u ih=>obtain⟨e,q⟩:=x;exact⟨k _ _ (.inl rfl) e,ih q⟩
 |tbl ps=>
  have e:h.get? a=θ {cls:= .none,data:= .fields ps}:=x;show h'.get? a=θ {cls:= .none,data:= .fields ps};exact k a _ (.inl rfl) e
 |met f y=>
  have e:h.get? a=θ (ab5 (.ref f) (.ref y)):=x;show h'.get? a=θ (ab5 (.ref f) (.ref y));exact k a _ (.inl rfl) e
 |ext φ=>obtain⟨p,⟨o,e⟩,st⟩:=x;exact⟨st _ _ p λo q=>k _ _ (.inl rfl) q,⟨o,k _ _ (.inl rfl) e⟩,st⟩
theorem HOk.lt(x:HOk P w H h)(e:H a=θ o):a<h.objs.size:=(x a o e).lt
def HOk.fresh(x:HOk P w H h)(e:h.objs.size<=a):H a=ω:=by
 cases q:H a with
 |none=>rfl
 |some u=>exact ael (YL (x.lt q) e) (Zb _)
def HOk.kept(x:HOk P w H h)(k:∀b u,h.get? b=θ u->h'.get? b=θ u):HOk P w H h':=λa o e=>
 (x a o e).stay (λb u _ q=>k b u q) (λ_ q=>q) λ_ _ q=>q
def HOk.laid(x:HOk P w H h)(k:∀b u,h.get? b=θ u->h'.get? b=θ u)(hp:h.objs.size<=a)(new:ObjOk P w (upd H a o) h' a o):HOk P w (upd H a o) h':=λb u e=>by
 have hn:=x.fresh hp;by_cases hb:b=a
 ·subst hb;rw[aD] at e;cases e;exact new
 ·rw[ay hb] at e;exact(x b u e).stay (λc v _ q=>k c v q) (λc q=>by rw[ay (bB q hn)];exact q) λc xs q=>by rw[ay (bB q hn)];exact q
end
def Rd(H:Hp)(a:Addr)(u:HO):Prop:=H a=θ u\/∃o,H a=θ (.frz o u)
def Rd.ok{P:YM}{w:World}{H:Hp}{h:Heap}{a:Addr}{u:HO}(r:Rd H a u)(x:HOk P w H h):ObjOk P w H h a u:=by
 rcases r with r | ⟨o,r⟩
 ·exact x a u r
 ·obtain⟨_,q⟩:=x a _ r;exact q
def O0:Option HO->Prop
 |some (.lst _)=>True
 |some (.dK _)=>True
 |some (.dT _)=>True
 |some (.set _ _)=>True
 |some (.ins _ _ _)=>True
 |some (.ext _)=>True
 |_=>False
section
variable{P:YM}{w:World}{H:Hp}{h h':Heap}{x e:Addr}{o':HO}
def HOk.write(ok:HOk P w H h)(mu:O0 (H x))(he:e=x\/H e=θ (.own x))(k:∀b u,b≠e->h.get? b=θ u->h'.get? b=θ u)(FW:∃u,h'.get? e=θ u)
 (new:ObjOk P w (upd H x o') h' x o'):HOk P w (upd H x o') h':=λb u q=>by
 have QD:∀c y,H c=θ (.own y)->c≠x:=λc y r z=>by subst z;rw[r] at mu;exact mu
 have TF:∀c xs,H c=θ (.tup xs)->c≠x:=λc xs r z=>by subst z;rw[r] at mu;exact mu
 by_cases hb:b=x
 ·subst hb;rw[aD] at q;cases q;exact new
 ·rw[ay hb] at q;by_cases MS:b=e
  ·have q':H b=θ (.own x):=by
    rcases he with z | z
    ·exact ael (MS.trans z) hb
    ·rw[MS];exact z
   rw[q] at q';cases q';obtain⟨v,hv⟩:=FW;exact⟨v,by rw[MS];exact hv⟩
  ·refine(ok b u q).stay (λc v hc r=>k c v ?_ r) (λc r=>by rw[ay (QD c b r)];exact r) λc xs r=>by rw[ay (TF c xs r)];exact r
   rcases hc with rfl | hc
   ·exact MS
   ·rintro rfl;rcases he with z | z
    ·exact QD c b hc z
    ·rw[hc] at z;cases z;exact hb rfl
end
structure Un (fs ex:List Addr) (H H':Hp) (h h':Heap):Prop where
 keep:∀b o,h.get? b=θ o->H b=ω->b∉fs->b∉ex->h'.get? b=θ o
 slot:∀b o,h.get? b=θ o->H b=ω->b∈fs->b∉ex->∃sl,h'.get? b=θ {o with slots:=sl}
 free:∀b o,h.get? b=θ o->H b=ω->b∉ex->H' b=ω
 there:∀b o,h.get? b=θ o->b∉ex->∃o',h'.get? b=θ o'
 tups:∀b xs,H b=θ (.tup xs)->H' b=θ (.tup xs)
 frzs:∀b o u,H b=θ (.frz o u)->H' b=θ (.frz o u)
 tbls:∀b ps,H b=θ (.tbl ps)->∃more,H' b=θ (.tbl (ps++more))
section
variable{fs Uy ex Bx:List Addr}{H H1 H2:Hp}{h h1 h2 h':Heap}{a x e:Addr}{o:HO}
def Un.any(u:Un fs ex H H1 h h1){b:Addr}{ob:Obj}(q:h.get? b=θ ob)(n:H b=ω)(hx:b∉ex):∃sl,h1.get? b=θ {ob with slots:=sl}:=by
 by_cases hb:b∈fs
 ·exact u.slot b ob q n hb hx
 ·exact⟨ob.slots,u.keep b ob q n hb hx⟩
def Un.trans(a:Un fs ex H H1 h h1)(b:Un fs ex H1 H2 h1 h2):Un fs ex H H2 h h2 where
 keep:=λc ob q n hc hx=>b.keep c ob (a.keep c ob q n hc hx) (a.free c ob q n hx) hc hx
 slot:=λc ob q n hc hx=>by
  obtain⟨sl,e1⟩:=a.slot c ob q n hc hx;obtain⟨Ot,e2⟩:=b.slot c _ e1 (a.free c ob q n hx) hc hx;exact⟨Ot,e2⟩
 free:=λc ob q n hx=>by
  obtain⟨o',e1⟩:=a.there c ob q hx;exact b.free c o' e1 (a.free c ob q n hx) hx
 there:=λc ob q hx=>by
  obtain⟨o',e1⟩:=a.there c ob q hx;exact b.there c o' e1 hx
 tups:=λc xs q=>b.tups c xs (a.tups c xs q)
 frzs:=λc ob xs q=>b.frzs c ob xs (a.frzs c ob xs q)
 tbls:=λc ps q=>by
  obtain⟨m1,e1⟩:=a.tbls c ps q;obtain⟨m2,e2⟩:=b.tbls c _ e1;exact⟨m1++m2,by rw[e2,ab9]⟩
def Un.kept(k:∀b u,h.get? b=θ u->h'.get? b=θ u):Un fs ex H H h h':=
 ⟨λb ob q _ _ _=>k b ob q,λb ob q _ _ _=>⟨ob.slots,k b ob q⟩,λ_ _ _ n _=>n,λb ob q _=>⟨ob,k b ob q⟩,λ_ _ q=>q,λ_ _ _ q=>q,λ_ ps q=>⟨#[],by rw[q];simp⟩⟩
def Un.refl:Un fs ex H H h h:=Un.kept λ_ _ q=>q
def Un.laid(k:∀b u,h.get? b=θ u->h'.get? b=θ u)(hp:h.objs.size<=a)(hn:H a=ω):Un fs ex H (upd H a o) h h' where
 keep:=λb u q _ _ _=>k b u q
 slot:=λb u q _ _ _=>⟨u.slots,k b u q⟩
 free:=λb u q n _=>by rw[ay (YF (YL (Ys q) hp))];exact n
 there:=λb u q _=>⟨u,k b u q⟩
 tups:=λb xs q=>by rw[ay (bB q hn)];exact q
 frzs:=λb u xs q=>by rw[ay (bB q hn)];exact q
 tbls:=λb ps q=>⟨#[],by rw[ay (bB q hn),q];simp⟩
def Un.write(mu:O0 (H x))(he:e=x\/H e=θ (.own x))(k:∀b u,b≠e->h.get? b=θ u->h'.get? b=θ u)(FW:∃u,h'.get? e=θ u):Un fs ex H (upd H x o) h h':=by
 have hx:∀b,H b=ω->b≠x:=λb n z=>by subst z;rw[n] at mu;exact mu
 have hb:∀b,H b=ω->b≠e:=λb n z=>by
  subst z;rcases he with r | r
  ·exact hx b n r
  ·rw[n] at r;cases r
 have hm:∀b u,H b=θ u->¬O0 (θ u)->b≠x:=λb u q nm z=>by subst z;rw[q] at mu;exact nm mu
 refine⟨λb u q n _ _=>k b u (hb b n) q,λb u q n _ _=>⟨u.slots,k b u (hb b n) q⟩,λb u q n _=>by rw[ay (hx b n)];exact n,λb u q _=>?_,
  λb xs q=>by rw[ay (hm b _ q λz=>z)];exact q,λb u xs q=>by rw[ay (hm b _ q λz=>z)];exact q,λb ps q=>⟨#[],by rw[ay (hm b _ q λz=>z),q];simp⟩⟩
 by_cases MS:b=e
 ·subst MS;exact FW
 ·exact⟨u,k b u MS q⟩
def Un.mono(u:Un fs ex H H1 h h1)(hs:∀b∈fs,b∈Uy)(hx:∀b∈ex,b∈Bx):Un Uy Bx H H1 h h1:=
 ⟨λb ob q n hb he=>u.keep b ob q n (λz=>hb (hs b z)) λz=>he (hx b z),λ_ _ q n _ he=>u.any q n λz=>he (hx _ z),λb ob q n he=>u.free b ob q n λz=>he (hx b z),λb ob q he=>u.there b ob q λz=>he (hx b z),u.tups,u.frzs,u.tbls⟩
end
def RV(h:Heap)(H:Hp):List Addr:=(Yr h.objs.size).filter λa=>(H a).isSome
def xb(h:Heap)(H:Hp):Heap:=PySem.W.hideAll h (RV h H)
def EN(h:Heap)(H:Hp):(xb h H).objs.size=h.objs.size:=PySem.W.hideAll_size _ _
def GV{h:Heap}{H:Hp}{b:Addr}{o:Obj}(e:h.get? b=θ o)(n:H b=ω):(xb h H).get? b=θ o:=
 PySem.W.hideAll_get _ e λhm=>by
  have q:(H b).isSome=ψ:=(YE.mp hm).2;rw[n] at q;simp at q
def KC{h:Heap}{H:Hp}{b:Addr}{o:Obj}(e:(xb h H).get? b=θ o):h.get? b=θ o/\H b=ω:=by
 have e':h.get? b=θ o:=PySem.W.of_hideAll (RV h H) e;refine⟨e',?_⟩;cases q:H b with
 |none=>rfl
 |some x=>
  have hm:b∈RV h H:=YE.mpr ⟨YJ.mpr (Ys e'),by simp[q]⟩;have z:(xb h H).get? b=ω:=PySem.W.hideAll_none (RV h H) hm;rw[z] at e;cases e
def JE(g h:Heap)(L:Addr):List (Addr×Obj):=(Yr h.objs.size).filterMap λa=>if a=L\/(g.get? a).isSome=ψ then ω else(h.get? a).map λo=>(a,o)
def W1(g h:Heap)(L d:Addr):List (Addr×Obj):=(JE g h L).filter λp=>decide (p.1≠d)
structure Mod (K:Ym) (mg:Str->Option Value) (base:Heap):Prop where
 kin:K.In base
 glob:base.Ns YG mg
 blt:∃mb,base.Ns builtinsNs mb/\∀x:Str,x≠"__name__"->mb x=YW x
 nolimit:base.NoLimit
structure Cx where
 prog:YM
 w:World
 K:Ym
 mg:Str->Option Value
 base:Heap
 A:Y7
 N:List Str
 aeq:Yc
 aep:Hp
 env:Env
 outer:List Env
 stack:List Env
 ex:List Addr
 fn:Str->Bool
 calm:Bool
 pn:List (Addr×Obj)
 xe:Value->Yc->Prop
def qU(l:List Env):List Addr:=l.filterMap (·.frame)
abbrev Cx.fs(X:Cx):List Addr:=qU X.outer
def R8(sc:Scope)(x:Str):Prop:=sc.names.lookup x=θ .local\/sc.names.lookup x=θ .cell\/sc.names.lookup x=θ .free
def Loc(sc:Scope)(x:Str):Prop:=sc.names.lookup x=θ .local\/sc.names.lookup x=θ .cell
def Look(env:Env)(h:Heap)(m:Str->Option Value)(x:Str)(u:Value):Prop:=
 (env.kindOf x=θ .local/\m x=θ u)\/((env.kindOf x=θ .cell\/env.kindOf x=θ .free)/\∃c,env.cells.lookup x=θ c/\h.IsCell c (θ u))
structure Cx.Ok (X:Cx):Prop where
 mod:Mod X.K X.mg X.base
 kind:X.env.scope.kind= .function
 glob:X.env.globals=YG
 blt:X.env.builtins=builtinsNs
 above:X.aeq.heap.objs.size<=X.env.locals
 inj:∀x y c,X.env.cells.lookup x=θ c->X.env.cells.lookup y=θ c->x=y
 has:∀x,(X.env.kindOf x=θ .cell\/X.env.kindOf x=θ .free)->∃c,X.env.cells.lookup x=θ c
 cab:∀x c,X.fn x=ψ->X.env.cells.lookup x=θ c->X.aeq.heap.objs.size<=c
 hd:X.calm=ψ->X.A.handled=ω
 frames:X.A.frames=θ X.stack
 stk:X.stack=X.outer\/(X.stack=X.env::X.outer/\X.env.frame=θ X.env.locals)
 exf:∀b∈X.ex,b≠X.env.locals/\∀x c,X.env.cells.lookup x=θ c->c≠b
 bs:∀b o,X.base.get? b=θ o->X.aeq.heap.get? b=θ o/\X.aep b=ω
 bsz:X.base.objs.size<=X.aeq.heap.objs.size
 noex:∀b o,X.base.get? b=θ o->b∉X.ex
 exfs:∀b∈X.ex,b∉X.fs
 funs:X.aeq.heap.FunFrames X.base X.outer
 frf:∀b∈X.fs,X.aep b=ω
structure Inv (X:Cx) (f8:List (Addr×Obj)) (σ:List (Option V)) (H:Hp) (s:Yc):Prop where
 ok:X.Ok
 os:s.os=X.aeq.os
 bare:ab_ s.gens
 base:Un X.fs X.ex X.aep H X.aeq.heap s.heap
 loc:∃m,s.heap.Ns X.env.locals m/\∀(i:Nat) (x:Str) (v:V),X.N[i]? =θ x->σ[i]? =θ (θ v)->R8 X.env.scope x->∃u,RelV v u/\Look X.env s.heap m x u
 cell:∀x c,X.env.cells.lookup x=θ c->∃v,s.heap.IsCell c v
 free:H X.env.locals=ω
 freeC:∀x c,X.env.cells.lookup x=θ c->H c=ω
 pin:∀p∈X.pn++f8,s.heap.get? p.1=θ p.2/\H p.1=ω/\p.1≠X.env.locals/\p.1∉X.fs/\∀v,p.2.data≠ .cell v
 hok:HOk X.prog X.w H s.heap
 len:σ.length=X.N.length
section
variable{X:Cx}{f8:List (Addr×Obj)}{σ:List (Option V)}{H H':Hp}{s:Yc}{h':Heap}
def Cx.Ok.nofr(ok:X.Ok){b:Addr}{o:Obj}(e:X.base.get? b=θ o):b∉X.fs:=λhb=>by
 have:=(ok.funs.mem hb).1;rw[e] at this;cases this
theorem Inv.bs(I:Inv X f8 σ H s):∀b o,X.base.get? b=θ o->s.heap.get? b=θ o/\H b=ω:=λb o e=>
 ⟨I.base.keep b o (I.ok.bs b o e).1 (I.ok.bs b o e).2 (I.ok.nofr e) (I.ok.noex b o e),I.base.free b o (I.ok.bs b o e).1 (I.ok.bs b o e).2 (I.ok.noex b o e)⟩
def Inv.bk(I:Inv X f8 σ H s):∀b o,X.base.get? b=θ o->s.heap.get? b=θ o:=λb o e=>(I.bs b o e).1
theorem Inv.mod(I:Inv X f8 σ H s):Mod X.K X.mg X.base:=I.ok.mod
def Inv.kIn(I:Inv X f8 σ H s):X.K.In s.heap:=I.ok.mod.kin.keeps I.bk
theorem Inv.nolimit(I:Inv X f8 σ H s):s.heap.NoLimit:=I.ok.mod.nolimit.keeps I.bk
theorem Inv.lt(I:Inv X f8 σ H s):X.env.locals<s.heap.objs.size:=let ⟨_,hn,_⟩:=I.loc;hn.lt
def Inv.sz(I:Inv X f8 σ H s):X.aeq.heap.objs.size<=s.heap.objs.size:=Yz I.ok.above (Zm I.lt)
def Inv.nofs(I:Inv X f8 σ H s){a:Addr}(h:s.heap.objs.size<=a):a∉X.fs:=λhb=>by
 obtain⟨_,o,ho,_⟩:=I.ok.funs.mem hb;exact ael (YL (Ys ho) (Yz I.sz h)) (Zb _)
def Inv.cne(I:Inv X f8 σ H s):∀x c,X.env.cells.lookup x=θ c->c≠X.env.locals:=λx c e z=>by
 obtain⟨v,o,ho,hd⟩:=I.cell x c e;obtain⟨m,⟨o',es,ep,vz,Bc,_⟩,_⟩:=I.loc;rw[z,vz] at ho;cases ho;rw[Bc] at hd;cases hd
theorem Inv.funs(I:Inv X f8 σ H s):s.heap.FunFrames X.base X.outer:=by
 have all:∀(l:List Env),(∀b∈qU l,b∈X.fs)->X.aeq.heap.FunFrames X.base l->s.heap.FunFrames X.base l:=by
  intro l;induction l with
  |nil=>intro _ _;trivial
  |cons env r ih=>
   intro hs hl;obtain⟨hk,⟨L,o,hf,hn,ho,hd⟩,hr⟩:=hl;have hL:L∈X.fs:=hs L (by unfold qU;rw[abU,hf];exact X5);obtain⟨sl,e⟩:=I.base.slot L o ho (I.ok.frf L hL) hL λz=>I.ok.exfs L z hL;exact⟨hk,⟨L,_,hf,hn,e,hd⟩,ih (λb hb=>hs b (by unfold qU;rw[abU,hf];exact X4 _ hb)) hr⟩
 exact all X.outer (λ_ hb=>hb) I.ok.funs
theorem Inv.stack(I:Inv X f8 σ H s):s.heap.FunFrames X.base X.stack:=by
 rcases I.ok.stk with e | ⟨e,hf⟩
 ·rw[e];exact I.funs
 ·rw[e];obtain⟨m,hn,_⟩:=I.loc;refine .cons (by rw[I.ok.kind];decide) hf hn ?_ I.funs;exact adK (Yz I.ok.bsz I.ok.above)
def Inv.stkSub(I:Inv X f8 σ H s):∀b∈qU X.stack,b∈X.env.locals::X.fs:=λb hb=>by
 rcases I.ok.stk with e | ⟨e,hf⟩
 ·rw[e] at hb;exact X4 _ hb
 ·rw[e] at hb;unfold qU at hb;rw[abU,hf] at hb;exact hb
def Inv.stkFree(I:Inv X f8 σ H s):∀b∈qU X.stack,H b=ω:=λb hb=>by
 rcases Ye.mp (I.stkSub b hb) with e | hb
 ·rw[e];exact I.free
 ·obtain⟨_,o,ho,_⟩:=I.ok.funs.mem hb;exact I.base.free b o ho (I.ok.frf b hb) λz=>I.ok.exfs b z hb
def Inv.step{g':Array GenState}{t':Nat}{d':Drawn}{ch:List Addr}(I:Inv X f8 σ H s)
 (Dd:∀b∈ch,(b∈X.ex\/X.aeq.heap.objs.size<=b)/\b≠X.env.locals/\(∀x c,X.env.cells.lookup x=θ c->c≠b)/\∀p∈X.pn++f8,p.1≠b)
 (keep:∀b o,b≠X.env.locals->b∉X.fs->b∉ch->s.heap.get? b=θ o->H b=ω->h'.get? b=θ o)
 (slot:∀b o,b≠X.env.locals->b∈X.fs->b∉ch->s.heap.get? b=θ o->H b=ω->∃sl,h'.get? b=θ {o with slots:=sl})(free:∀b o,b∉ch->s.heap.get? b=θ o->H b=ω->H' b=ω)
 (there:∀b o,b∉ch->s.heap.get? b=θ o->∃o',h'.get? b=θ o')
 (tups:∀b xs,H b=θ (.tup xs)->H' b=θ (.tup xs))(frzs:∀b o u,H b=θ (.frz o u)->H' b=θ (.frz o u))(tbls:∀b ps,H b=θ (.tbl ps)->∃more,H' b=θ (.tbl (ps++more)))
 (ns:∀m,s.heap.Ns X.env.locals m->h'.Ns X.env.locals m)(hok:HOk X.prog X.w H' h')(hg:ab_ g'):
 Inv X f8 σ H' {s with heap:=h',gens:=g',drawn:=d',toks:=t'}:=by
 have Vm:∀b o,X.aeq.heap.get? b=θ o->b≠X.env.locals:=λb o e=>YF (YL (Ys e) I.ok.above);have RO:∀b o,X.aeq.heap.get? b=θ o->b∉X.ex->b∉ch:=λb o e hx hb=>by
  rcases(Dd b hb).1 with z | z
  ·exact hx z
  ·exact ael (YL (Ys e) z) (Zb _)
 have cellK:∀x c,X.env.cells.lookup x=θ c->∀v,s.heap.IsCell c v->h'.IsCell c v:=λx c e v ⟨o,ho,hd⟩=>by
  have Qz:c∉ch:=λz=>(Dd c z).2.2.1 x c e rfl;by_cases hc:c∈X.fs
  ·obtain⟨sl,q⟩:=slot c o (I.cne x c e) hc Qz ho (I.freeC x c e);exact⟨_,q,hd⟩
  ·exact⟨o,keep c o (I.cne x c e) hc Qz ho (I.freeC x c e),hd⟩
 refine⟨I.ok,I.os,hg,⟨λb o e n hb hx=>?_,λb o e n hb hx=>?_,λb o e n hx=>?_,λb o e hx=>?_,λb xs e=>tups b xs (I.base.tups b xs e),λb o xs e=>frzs b o xs (I.base.frzs b o xs e),λb ps e=>?_⟩,?_,λx c e=>?_,?_,λx c e=>?_,λp hp=>?_,hok,I.len⟩
 ·exact keep b o (Vm b o e) hb (RO b o e hx) (I.base.keep b o e n hb hx) (I.base.free b o e n hx)
 ·obtain⟨sl,e1⟩:=I.base.slot b o e n hb hx;obtain⟨Ot,e2⟩:=slot b _ (Vm b o e) hb (RO b o e hx) e1 (I.base.free b o e n hx);exact⟨Ot,e2⟩
 ·obtain⟨o',e1⟩:=I.base.there b o e hx;exact free b o' (RO b o e hx) e1 (I.base.free b o e n hx)
 ·obtain⟨o',e1⟩:=I.base.there b o e hx;exact there b o' (RO b o e hx) e1
 ·obtain⟨m1,e1⟩:=I.base.tbls b ps e;obtain⟨m2,e2⟩:=tbls b _ e1;exact⟨m1++m2,by rw[e2,ab9]⟩
 ·obtain⟨m,hn,hl⟩:=I.loc;refine⟨m,ns m hn,λi x v e1 e2 e3=>?_⟩;obtain⟨u,r,l⟩:=hl i x v e1 e2 e3;refine⟨u,r,?_⟩;rcases l with l | ⟨k,c,e,z⟩
  ·exact .inl l
  ·exact .inr ⟨k,c,e,cellK x c e _ z⟩
 ·obtain⟨v,z⟩:=I.cell x c e;exact⟨v,cellK x c e v z⟩
 ·obtain⟨m,⟨o,_,_,ho,_⟩,_⟩:=I.loc;exact free _ o (λz=>(Dd _ z).2.1 rfl) ho I.free
 ·obtain⟨v,o,ho,hd⟩:=I.cell x c e;exact free c o (λz=>(Dd c z).2.2.1 x c e rfl) ho (I.freeC x c e)
 ·obtain⟨e,n,ne,nf,d⟩:=I.pin p hp;have Qz:p.1∉ch:=λz=>(Dd p.1 z).2.2.2 p hp rfl;exact⟨keep p.1 p.2 ne nf Qz e n,free p.1 p.2 Qz e n,ne,nf,d⟩
def Inv.un{t':Nat}(I:Inv X f8 σ H s)(u:Un X.fs [] H H' s.heap h')(hok:HOk X.prog X.w H' h'):Inv X f8 σ H' {s with heap:=h',toks:=t'}:=by
 obtain⟨m,⟨o,es,ep,ho,r⟩,_⟩:=id I.loc;obtain⟨sl,hL⟩:=u.any ho I.free (by simp);exact I.step (g':=s.gens) (d':=s.drawn) (ch:=[]) (λ_ z=>nomatch z) (λb o _ hb _ e n=>u.keep b o e n hb (by simp)) (λb o _ hb _ e n=>u.slot b o e n hb (by simp)) (λb o _ e n=>u.free b o e n (by simp)) (λb o _ e=>u.there b o e (by simp)) u.tups u.frzs u.tbls (λm' hm=>by
  obtain⟨o',OI,JX,vz,r'⟩:=hm;rw[ho] at vz;cases vz;exact⟨_,OI,JX,hL,r'⟩) hok I.bare
def Inv.call{g':Array GenState}{t':Nat}{d':Drawn}{ch:List Addr}(I:Inv X f8 σ H s)(u:Un (qU X.stack) ch H H' s.heap h')(hok:HOk X.prog X.w H' h')(hg:ab_ g')
 (Dd:∀b∈ch,(b∈X.ex\/X.aeq.heap.objs.size<=b)/\b≠X.env.locals/\(∀x c,X.env.cells.lookup x=θ c->c≠b)/\∀p∈X.pn++f8,p.1≠b):
 Inv X f8 σ H' {s with heap:=h',gens:=g',drawn:=d',toks:=t'}:=by
 obtain⟨m,⟨o,es,ep,ho,r⟩,_⟩:=id I.loc;obtain⟨sl,hL⟩:=u.any ho I.free λz=>(Dd _ z).2.1 rfl;exact I.step (ch:=ch) Dd (λb o hL hb hc e n=>u.keep b o e n (λz=>(Ye.mp (I.stkSub b z)).elim hL hb) hc) (λb o _ _ hc e n=>u.any e n hc) (λb o hc e n=>u.free b o e n hc) (λb o hc e=>u.there b o e hc) u.tups u.frzs u.tbls (λm' hm=>by
  obtain⟨o',OI,JX,vz,r'⟩:=hm;rw[ho] at vz;cases vz;exact⟨_,OI,JX,hL,r'⟩) hok hg
def Inv.turned{t':Nat}{it:Addr}(I:Inv X f8 σ H s)(k:∀b o,b≠it->s.heap.get? b=θ o->h'.get? b=θ o)(hn:H it=ω)(hL:it≠X.env.locals)
 (h1:it∈X.ex\/X.aeq.heap.objs.size<=it)(h2:∀x c,X.env.cells.lookup x=θ c->c≠it)(h3:∀p∈X.pn++f8,p.1≠it):Inv X f8 σ H {s with heap:=h',toks:=t'}:=by
 have L9:∀b u,H b=θ u->b≠it:=λb u e z=>by rw[z,hn] at e;cases e
 refine I.step (g':=s.gens) (d':=s.drawn) (ch:=[it]) (λb hb=>?_) (λb o _ _ hc e _=>k b o (λz=>hc (by simp[z])) e) (λb o _ _ hc e _=>⟨o.slots,k b o (λz=>hc (by simp[z])) e⟩) (λ_ _ _ _ n=>n)
  (λb o hc e=>⟨o,k b o (λz=>hc (by simp[z])) e⟩) (λ_ _ e=>e) (λ_ _ _ e=>e) (λb ps e=>⟨#[],by rw[e];simp⟩) (λm hm=>?_) (λb u e=>?_) I.bare
 ·have e:b=it:=by simpa using hb
  subst e;exact⟨h1,hL,h2,h3⟩
 ·obtain⟨o,es,ep,ho,r⟩:=hm;exact⟨o,es,ep,k _ o (Y9 hL) ho,r⟩
 ·refine(I.hok b u e).stay (λc v hc q=>k c v ?_ q) (λ_ q=>q) λ_ _ q=>q;rcases hc with z | z
  ·rw[z];exact L9 b u e
  ·exact L9 c _ z
def Inv.tok(I:Inv X f8 σ H s)(t:Nat):Inv X f8 σ H {s with toks:=t}:=I.un (h':=s.heap) (t':=t) Un.refl I.hok
theorem Inv.kept{t':Nat}(I:Inv X f8 σ H s)(k:∀b u,s.heap.get? b=θ u->h'.get? b=θ u):Inv X f8 σ H {s with heap:=h',toks:=t'}:=I.un (Un.kept k) (I.hok.kept k)
theorem Inv.laid{a:Addr}{o:HO}{t':Nat}(I:Inv X f8 σ H s)(k:∀b u,s.heap.get? b=θ u->h'.get? b=θ u)(hp:s.heap.objs.size<=a)(new:ObjOk X.prog X.w (upd H a o) h' a o):
 Inv X f8 σ (upd H a o) {s with heap:=h',toks:=t'}:=I.un (Un.laid k hp (I.hok.fresh hp)) (I.hok.laid k hp new)
theorem Inv.write{x e:Addr}{o:HO}{t':Nat}(I:Inv X f8 σ H s)(mu:O0 (H x))(he:e=x\/H e=θ (.own x))(k:∀b u,b≠e->s.heap.get? b=θ u->h'.get? b=θ u)(FW:∃u,h'.get? e=θ u)
 (new:ObjOk X.prog X.w (upd H x o) h' x o):Inv X f8 σ (upd H x o) {s with heap:=h',toks:=t'}:=I.un (Un.write mu he k FW) (I.hok.write mu he k FW new)
def Inv.pins_of{Mh:List (Addr×Obj)}(I:Inv X f8 σ H s)(h:∀p∈Mh,s.heap.get? p.1=θ p.2/\H p.1=ω/\p.1≠X.env.locals/\p.1∉X.fs/\∀v,p.2.data≠ .cell v):Inv X Mh σ H s:=
 ⟨I.ok,I.os,I.bare,I.base,I.loc,I.cell,I.free,I.freeC,λp hp=>(YA.mp hp).elim (λz=>I.pin p (ZA _ z)) (h p),I.hok,I.len⟩
def zX{N:List Str}(hN:N.Nodup){i j:Nat}{x:Str}(a:N[i]? =θ x)(b:N[j]? =θ x):i=j:=by
 obtain⟨h1,e1⟩:=Yk.mp a;obtain⟨h2,e2⟩:=Yk.mp b;exact(List.getElem_inj hN).mp (e1.trans e2.symm)
def wu{M:Model}{A:Y7}{E:Value->Yc->Prop}{i:Nat}{x:Str}{v:V}{u:Value}{Q:Unit->Yc->Prop}(I:Inv X f8 σ H s)(hN:X.N.Nodup)(hi:X.N[i]? =θ x)(hx:Loc X.env.scope x)(r:RelV v u)
 (h:∀s',Inv X f8 (σ.set i (θ v)) H s'->(∃a,aal a s.heap s'.heap/\(a=X.env.locals\/X.env.cells.lookup x=θ a))->Q () s')(hf:X.fn x=ψ\/X.env.scope.names.lookup x=θ .local:=by first | exact .inl rfl | exact .inr rfl | assumption):wpAny M A (storeName X.env x u) Q E s:=by
 obtain⟨m,hn,hl⟩:=id I.loc;have SF:(X.env.scope.kind== .class||(X.env.scope.kind== .module&&X.env.locals !=X.env.globals))=μ:=by rw[I.ok.kind];rfl
 have UY:i<σ.length:=by rw[I.len];exact(Yk.mp hi).1
 have cne:=I.cne;have tracked:∀{a:Addr}{h':Heap},(∃o,s.heap.get? a=θ o/\H a=ω)->aal a s.heap h'->HOk X.prog X.w H h':=λ{a h'} ha hs b ob e=>by
  obtain⟨_,_,LZ⟩:=ha;refine(I.hok b ob e).stay (λc w' hc q=>(hs.2 c ?_).trans q) (λ_ q=>q) λ_ _ q=>q;rintro rfl;rcases hc with rfl | hc
  ·rw[LZ] at e;cases e
  ·rw[LZ] at hc;cases hc
 rcases hx with hk | hk
 ·refine wpAny_storeName_local hk hn (λh' MZ hs=>?_) SF;obtain⟨oL,_,_,BG,_⟩:=id hn;refine h _ ⟨I.ok,I.os,I.bare,⟨λb o e n hb hx=>?_,λb o e n hb hx=>?_,I.base.free,λb o e hx=>?_,I.base.tups,I.base.frzs,I.base.tbls⟩,⟨_,MZ,λj y v' e1 e2 e3=>?_⟩,λy c e=>?_,I.free,I.freeC,λp hp=>?_,tracked ⟨oL,BG,I.free⟩ hs,by simpa using I.len⟩ ⟨_,hs, .inl rfl⟩
  ·exact(hs.2 b (YF (YL (Ys e) I.ok.above))).trans (I.base.keep b o e n hb hx)
  ·obtain⟨sl,e1⟩:=I.base.slot b o e n hb hx;exact⟨sl,(hs.2 b (YF (YL (Ys e) I.ok.above))).trans e1⟩
  ·obtain⟨o',e1⟩:=I.base.there b o e hx;exact⟨o',(hs.2 b (YF (YL (Ys e) I.ok.above))).trans e1⟩
  ·by_cases hj:j=i
   ·subst hj;rw[hi] at e1;cases e1;rw[Yt UY] at e2;cases e2;exact⟨u,r, .inl ⟨hk,by simp⟩⟩
   ·rw[Yn (Y9 hj)] at e2;obtain⟨u',r',q⟩:=hl j y v' e1 e2 e3;refine⟨u',r',?_⟩;rcases q with⟨k,e⟩ | ⟨k,c,e,z⟩
    ·refine .inl ⟨k,?_⟩;have:y≠x:=λe=>hj (zX hN e1 (e▸hi));simp[this,e]
    ·exact .inr ⟨k,c,e,z.sameBut hs (cne y c e)⟩
  ·obtain⟨w',z⟩:=I.cell y c e;exact⟨w',z.sameBut hs (cne y c e)⟩
  ·obtain⟨e,n,ne,nf,d⟩:=I.pin p hp;exact⟨(hs.2 p.1 ne).trans e,n,ne,nf,d⟩
 ·have SK:X.fn x=ψ:=by
   rcases hf with z | z
   ·exact z
   ·rw[z] at hk;cases hk
  obtain⟨c,hc⟩:=I.ok.has x (.inl hk);obtain⟨w',z⟩:=I.cell x c hc;refine wpAny_storeName_cell I.ok.kind hk hc z (λh' BE hs=>?_);obtain⟨oc,M6,S3⟩:=id z;refine h {s with heap:=h'} ⟨I.ok,I.os,I.bare,⟨λb o e n hb hx=>?_,λb o e n hb hx=>?_,I.base.free,λb o e hx=>?_,I.base.tups,I.base.frzs,I.base.tbls⟩,⟨m,hn.sameBut hs (Y9 (cne x c hc)),λj y v' e1 e2 e3=>?_⟩,λy c' e=>?_,I.free,I.freeC,λp hp=>?_,tracked ⟨oc,M6,I.freeC x c hc⟩ hs,by simpa using I.len⟩ ⟨c,hs, .inr hc⟩
  ·exact(hs.2 b (YF (YL (Ys e) (I.ok.cab x c SK hc)))).trans (I.base.keep b o e n hb hx)
  ·obtain⟨sl,e1⟩:=I.base.slot b o e n hb hx;exact⟨sl,(hs.2 b (YF (YL (Ys e) (I.ok.cab x c SK hc)))).trans e1⟩
  ·obtain⟨o',e1⟩:=I.base.there b o e hx;exact⟨o',(hs.2 b (YF (YL (Ys e) (I.ok.cab x c SK hc)))).trans e1⟩
  ·by_cases hj:j=i
   ·subst hj;rw[hi] at e1;cases e1;rw[Yt UY] at e2;cases e2;exact⟨u,r, .inr ⟨.inl hk,c,hc,BE⟩⟩
   ·rw[Yn (Y9 hj)] at e2;obtain⟨u',r',q⟩:=hl j y v' e1 e2 e3;refine⟨u',r',?_⟩;rcases q with q | ⟨k,c',e,z'⟩
    ·exact .inl q
    ·refine .inr ⟨k,c',e,z'.sameBut hs ?_⟩;rintro rfl;exact hj (zX hN e1 (I.ok.inj _ _ _ e hc▸hi))
  ·by_cases ON:c'=c
   ·subst ON;exact⟨_,BE⟩
   ·obtain⟨w2,z2⟩:=I.cell y c' e;exact⟨w2,z2.sameBut hs ON⟩
  ·obtain⟨e,n,ne,nf,d⟩:=I.pin p hp;refine⟨(hs.2 p.1 ?_).trans e,n,ne,nf,d⟩;intro q;rw[q,M6] at e;have q':oc=p.2:=YS e;exact d w' (by rw[<-q'];exact S3)
def AN{M:Model}{A:Y7}{E:Value->Yc->Prop}{i:Nat}{x:Str}{v:V}{u:Value}{Q:Unit->Yc->Prop}(I:Inv X f8 σ H s)(hN:X.N.Nodup)(hi:X.N[i]? =θ x)(hx:Loc X.env.scope x)(r:RelV v u)
 (h:∀s',Inv X f8 (σ.set i (θ v)) H s'->Q () s')(hf:X.fn x=ψ\/X.env.scope.names.lookup x=θ .local:=by first | exact .inl rfl | exact .inr rfl | assumption):wpAny M A (storeName X.env x u) Q E s:=
 wu I hN hi hx r (λs' I' _=>h s' I') hf
def Inv.call'{s':Yc}{ch:List Addr}(I:Inv X f8 σ H s)(ho:s'.os=s.os)(u:Un (qU X.stack) ch H H' s.heap s'.heap)(hok:HOk X.prog X.w H' s'.heap)(hg:ab_ s'.gens)
 (Dd:∀b∈ch,(b∈X.ex\/X.aeq.heap.objs.size<=b)/\b≠X.env.locals/\(∀x c,X.env.cells.lookup x=θ c->c≠b)/\∀p∈X.pn++f8,p.1≠b):Inv X f8 σ H' s':=by
 obtain⟨h',g',d',t',o'⟩:=s';have e:o'=s.os:=ho;subst e;exact I.call (g':=g') (t':=t') (d':=d') u hok hg Dd
end
abbrev XK:=Value->Option Addr->Hp->Prop
abbrev St:=List (Option V)
abbrev VK:=V->Hp->Prop
abbrev TE:=St->Hp->VK->Prop
abbrev TT:=St->Hp->(Bool->Hp->Prop)->Prop
abbrev TA:=St->Hp->(List V->Hp->Prop)->Prop
structure Ends where
 nx:St->Hp->Prop
 rt:VK
 bk:St->Hp->Prop:=λ_ _=>False
 ct:St->Hp->Prop:=λ_ _=>False
abbrev TS:=Ends->St->Hp->Prop
def EP(X:Cx)(f8:List (Addr×Obj))(σ:St)(Q:VK)(u:Value)(s':Yc):Prop:=∃v H',Inv X f8 σ H' s'/\RelV v u/\Q v H'
def TP(X:Cx)(f8:List (Addr×Obj))(σ:St)(Q:Bool->Hp->Prop)(b:Bool)(s':Yc):Prop:=∃H',Inv X f8 σ H' s'/\Q b H'
def AP(X:Cx)(f8:List (Addr×Obj))(σ:St)(Q:List V->Hp->Prop)(us:List Value)(s':Yc):Prop:=∃vs H',Inv X f8 σ H' s'/\Vals vs us/\Q vs H'
def SP(X:Cx)(f8:List (Addr×Obj))(D:Ends)(f:Flow)(s':Yc):Prop:=
 match f with
 | .next=>∃σ' H',Inv X f8 σ' H' s'/\D.nx σ' H'
 | .brk=>∃σ' H',Inv X f8 σ' H' s'/\D.bk σ' H'
 | .cont=>∃σ' H',Inv X f8 σ' H' s'/\D.ct σ' H'
 | .ret u=>∃v σ' H',Inv X f8 σ' H' s'/\RelV v u/\D.rt v H'
def PE(X:Cx)(e:Expr)(t:TE):Prop:=
 ∀(f8:List (Addr×Obj)) (s:Yc) (σ:St) (H:Hp) (Q:VK),Inv X f8 σ H s->t σ H Q->wpAny (model X.prog X.w) X.A (eval e X.env) (EP X f8 σ Q) X.xe s
def PT(X:Cx)(e:Expr)(t:TT):Prop:=
 ∀(f8:List (Addr×Obj)) (s:Yc) (σ:St) (H:Hp) (Q:Bool->Hp->Prop),Inv X f8 σ H s->t σ H Q->wpAny (model X.prog X.w) X.A (isTrue e X.env (eval e X.env)) (TP X f8 σ Q) X.xe s
def PW(X:Cx)(e:Expr)(t:TT):Prop:=
 ∀(whole:Sem Value) (f8:List (Addr×Obj)) (s:Yc) (σ:St) (H:Hp) (Q:Bool->Hp->Prop),Inv X f8 σ H s->t σ H Q->wpAny (model X.prog X.w) X.A (isTrue e X.env whole) (TP X f8 σ Q) X.xe s
def PW.pt{X:Cx}{e:Expr}{t:TT}(h:PW X e t):PT X e t:=h _
def PA(X:Cx)(es:List Expr)(t:TA):Prop:=
 ∀(pos:Pos) (f8:List (Addr×Obj)) (s:Yc) (σ:St) (H:Hp) (Q:List V->Hp->Prop),Inv X f8 σ H s->t σ H Q->wpAny (model X.prog X.w) X.A (spliced (aae pos (Yw es X.env))) (AP X f8 σ Q) X.xe s
def PS(X:Cx)(st:Stmt)(t:TS):Prop:=
 ∀(f8:List (Addr×Obj)) (s:Yc) (σ:St) (H:Hp) (D:Ends),Inv X f8 σ H s->t D σ H->wpAny (model X.prog X.w) X.A (exec st X.env) (SP X f8 D) X.xe s
def PSs(X:Cx)(st:List Stmt)(t:TS):Prop:=
 ∀(f8:List (Addr×Obj)) (s:Yc) (σ:St) (H:Hp) (D:Ends),Inv X f8 σ H s->t D σ H->wpAny (model X.prog X.w) X.A (execs st X.env) (SP X f8 D) X.xe s
def cJ{α:Type}{t:Sem α}{Q Q':α->Yc->Prop}{M:Model}{A:Y7}{E:Value->Yc->Prop}{s:Yc}(h:wpAny M A t Q E s)(hQ:∀a s,Q a s->Q' a s):wpAny M A t Q' E s:=Zj h hQ λ_ _ x=>x
section
variable{X:Cx}
def bin{a b:Expr}{ta tb:TE}(ha:PE X a ta)(hb:PE X b tb){f8:List (Addr×Obj)}{s:Yc}{σ:St}{H:Hp}{R:V->V->Hp->Prop}(I:Inv X f8 σ H s)(h:ta σ H λx H1=>tb σ H1 λy H2=>R x y H2)
 {α:Type}{Q:α->Yc->Prop}{f:Value->Value->Sem α}
 (hf:∀v u s2 x y H2,Inv X f8 σ H2 s2->RelV x v->RelV y u->R x y H2->wpAny (model X.prog X.w) X.A (f v u) Q X.xe s2):
 wpAny (model X.prog X.w) X.A (eval a X.env) (λv P3=>wpAny (model X.prog X.w) X.A (eval b X.env) (λu v2=>wpAny (model X.prog X.w) X.A (f v u) Q X.xe v2) X.xe P3) X.xe s:=by
 refine cJ (ha f8 s σ H _ I h) λv s1 ⟨x,H1,I1,r1,q1⟩=>?_;refine cJ (hb f8 s1 σ H1 _ I1 q1) λu s2 ⟨y,H2,I2,r2,q2⟩=>?_;exact hf v u s2 x y H2 I2 r1 r2 q2
def mG(i:Nat):TE:=λσ H Q=>∃v,σ[i]? =θ (θ v)/\Q v H
def tC(v:V):TE:=λ_ H Q=>Q v H
def N4{i:Nat}{x:Str}{pos:Pos}(hN:X.N[i]? =θ x)(hv:R8 X.env.scope x)(hd:(x==("__debug__":Str))=μ:=by decide)(Bb:(x==("__classdict__":Str))=μ:=by decide):PE X (.Name x pos) (mG i):=by
 intro f8 s σ H Q I h;obtain⟨v,e,h⟩:=h;obtain⟨m,hn,hl⟩:=I.loc;obtain⟨u,r,l⟩:=hl i x v hN e hv;have fin:EP X f8 σ Q u s:=⟨v,H,I,r,h⟩
 rcases l with⟨hk,hm⟩ | ⟨hk,c,hc,LW⟩
 ·exact wpAny_Name (wpAny_loadName_local I.ok.kind hk hn hm fin) hd
 ·rcases hk with hk | hk
  ·exact wpAny_Name (wpAny_loadName_cell I.ok.kind hk hc LW fin) hd
  ·exact wpAny_Name (wpAny_loadName_free I.ok.kind hk hc LW fin Bb) hd
def NX{i j pos}:PE X (.Constant (.int i) j pos) (tC (.int i)):=λ_ _ _ H _ I h=>wpAny_Constant_int ⟨.int i,H,I.tok _,⟨_,rfl⟩,h⟩
def Mg{b j pos}:PE X (.Constant (.bool b) j pos) (tC (.bl b)):=λ_ _ _ H _ I h=>Constant_bool ⟨.bl b,H,I,rfl,h⟩
def NY{j pos}:PE X (.Constant .none j pos) (tC .non):=λ_ _ _ H _ I h=>Constant_none ⟨.non,H,I,rfl,h⟩
def N1{x j pos}:PE X (.Constant (.str x) j pos) (tC (.str x)):=λ_ _ _ H _ I h=>Calls.Constant_str ⟨.str x,H,I.tok _,⟨_,rfl⟩,h⟩
def Gl(X:Cx)(x:Str):Prop:=X.env.kindOf x=θ .globalImplicit
def Dp{E:Value->Yc->Prop}{f8:List (Addr×Obj)}{s:Yc}{σ:St}{H:Hp}{x:Str}{u:Value}{pos:Pos}{Q:Value->Yc->Prop}(I:Inv X f8 σ H s)(hg:Gl X x)(hm:X.mg x=θ u)(h:Q u s)
 (hd:(x==("__debug__":Str))=μ:=by decide):wpAny (model X.prog X.w) X.A (eval (.Name x pos) X.env) Q E s:=
 acN I.ok.kind hg (Calls.loadGlobal_global (by rw[I.ok.glob];exact I.mod.glob.keeps I.bk) hm h) hd
def j8{E:Value->Yc->Prop}{f8:List (Addr×Obj)}{s:Yc}{σ:St}{H:Hp}{x:Str}{u:Value}{pos:Pos}{Q:Value->Yc->Prop}(I:Inv X f8 σ H s)(hg:Gl X x)(hm:X.mg x=ω)(hv:YW x=θ u)(h:Q u s)
 (hn:x≠"__name__":=by decide)(hd:(x==("__debug__":Str))=μ:=by decide):wpAny (model X.prog X.w) X.A (eval (.Name x pos) X.env) Q E s:=by
 obtain⟨mb,h1,h2⟩:=I.mod.blt;exact acN I.ok.kind hg (Calls.loadGlobal_builtin (by rw[I.ok.glob];exact I.mod.glob.keeps I.bk) hm (by rw[I.ok.blt];exact h1.keeps I.bk) ((h2 x hn).trans hv) h) hd
def K6{x:Str}{v:V}{u:Value}{pos:Pos}(hg:Gl X x)(hm:X.mg x=θ u)(r:RelV v u)(hd:(x==("__debug__":Str))=μ:=by decide):PE X (.Name x pos) (tC v):=
 λ_ _ _ H _ I h=>Dp I hg hm ⟨v,H,I,r,h⟩ hd
def K0{x:Str}{v:V}{u:Value}{pos:Pos}(hg:Gl X x)(hm:X.mg x=ω)(hv:YW x=θ u)(r:RelV v u)(hn:x≠"__name__":=by decide)(hd:(x==("__debug__":Str))=μ:=by decide):PE X (.Name x pos) (tC v):=
 λ_ _ _ H _ I h=>j8 I hg hm hv ⟨v,H,I,r,h⟩ hn hd
variable{a b:Expr}{ta tb:TE}{pos:Pos}
def PC(X:Cx)(op:CmpOp)(a b:Expr)(t:TE):Prop:=
 ∀(f8:List (Addr×Obj)) (s:Yc) (σ:St) (H:Hp) (Q:VK),Inv X f8 σ H s->t σ H Q->
  wpAny (model X.prog X.w) X.A (eval a X.env) (λv P3=>wpAny (model X.prog X.w) X.A (eval b X.env) (λu v2=>wpAny (model X.prog X.w) X.A (Zf op v u) (EP X f8 σ Q) X.xe v2) X.xe P3) X.xe s
def HE(b:Expr){op:CmpOp}(h:op≠ .In)(h2:op≠ .NotIn):Y3 op b=μ:=by
 have e1:(op==CmpOp.In)=μ:=by cases op<;>first | rfl | exact ael rfl h
 have e2:(op==CmpOp.NotIn)=μ:=by cases op<;>first | rfl | exact ael rfl h2
 cases b<;>simp[Y3,e1,e2]
def NW{op:CmpOp}{t:TE}(h:PC X op a b t)(h1:Y3 op b=μ:=by first | exact HE _ (by decide) (by decide) | rfl):PE X (.Compare a [op] [b] pos) t:=λf8 s σ H Q I hw=>wpAny_Compare1 (h f8 s σ H Q I hw) h1
variable{tA cT:TT}{W1:List Expr}
def TX(t u:TT):TT:=λσ H Q=>t σ H λc H1=>if c=ψ then u σ H1 Q else Q μ H1
def XG(t u:TT):TT:=λσ H Q=>t σ H λc H1=>if c=ψ then Q ψ H1 else u σ H1 Q
def T3(t:TT):TT:=λσ H Q=>t σ H λc H1=>Q (!c) H1
def Ld(ha:PT X a tA):PW X (.BoolOp .And [a] pos) tA:=by
 intro wh f8 s σ H Q I h;refine isTrue_and (cJ (ha f8 s σ H Q I h) λc s1 e=>?_);cases c with
 |true=>exact isTrue_and_nil e
 |false=>exact e
def Of(ha:PT X a tA):PW X (.BoolOp .Or [a] pos) tA:=by
 intro wh f8 s σ H Q I h;refine isTrue_or (cJ (ha f8 s σ H Q I h) λc s1 e=>?_);cases c with
 |false=>exact isTrue_or_nil e
 |true=>exact e
def Oe(ha:PT X a tA)(hb:PW X (.BoolOp .And (b::W1) pos) cT):PW X (.BoolOp .And (a::b::W1) pos) (TX tA cT):=by
 intro wh f8 s σ H Q I h;refine isTrue_and (cJ (ha f8 s σ H _ I h) λc s1 ⟨H1,I1,q1⟩=>?_);cases c with
 |true=>exact hb wh f8 s1 σ H1 Q I1 q1
 |false=>exact⟨H1,I1,q1⟩
def QS(ha:PT X a tA)(hb:PW X (.BoolOp .Or (b::W1) pos) cT):PW X (.BoolOp .Or (a::b::W1) pos) (XG tA cT):=by
 intro wh f8 s σ H Q I h;refine isTrue_or (cJ (ha f8 s σ H _ I h) λc s1 ⟨H1,I1,q1⟩=>?_);cases c with
 |true=>exact⟨H1,I1,q1⟩
 |false=>exact hb wh f8 s1 σ H1 Q I1 q1
def Ob(ha:PT X a tA):PT X (.UnaryOp .Not a pos) (T3 tA):=by
 intro f8 s σ H Q I h;exact isTrue_not (ha f8 s σ H (λc H1=>Q (!c) H1) I h)
def Q7(ta tb:TE):TE:=λσ H Q=>ta σ H λx H1=>∃c,x= .bl c/\if c=ψ then tb σ H1 Q else Q (.bl μ) H1
def T5(ta tb:TE):TE:=λσ H Q=>ta σ H λx H1=>∃c,x= .bl c/\if c=ψ then Q (.bl ψ) H1 else tb σ H1 Q
def Rf(ta:TE):TE:=λσ H Q=>ta σ H λx H1=>∃c,x= .bl c/\Q (.bl (!c)) H1
def N0{op}{t:TE}(h:PE X a t):PE X (.BoolOp op [a] pos) t:=λf8 s σ H Q I hw=>BoolOp_one (h f8 s σ H Q I hw)
def NV(ha:PE X a ta)(hb:PE X (.BoolOp .And (b::W1) pos) tb):PE X (.BoolOp .And (a::b::W1) pos) (Q7 ta tb):=by
 intro f8 s σ H Q I h;refine BoolOp_and (cJ (ha f8 s σ H _ I h) λv s1 ⟨x,H1,I1,r1,q1⟩=>?_);obtain⟨c,rfl,q1⟩:=q1;cases r1;refine Zx ?_;cases c with
 |true=>exact hb f8 s1 σ H1 Q I1 q1
 |false=>exact⟨.bl μ,H1,I1,rfl,q1⟩
def QQ(ha:PE X a ta)(hb:PE X (.BoolOp .Or (b::W1) pos) tb):PE X (.BoolOp .Or (a::b::W1) pos) (T5 ta tb):=by
 intro f8 s σ H Q I h;refine BoolOp_or (cJ (ha f8 s σ H _ I h) λv s1 ⟨x,H1,I1,r1,q1⟩=>?_);obtain⟨c,rfl,q1⟩:=q1;cases r1;refine Zx ?_;cases c with
 |false=>exact hb f8 s1 σ H1 Q I1 q1
 |true=>exact⟨.bl ψ,H1,I1,rfl,q1⟩
def NZ(ha:PE X a ta):PE X (.UnaryOp .Not a pos) (Rf ta):=by
 intro f8 s σ H Q I h;refine UnaryOp_ (cJ (ha f8 s σ H _ I h) λv s1 ⟨x,H1,I1,r1,q1⟩=>?_);obtain⟨c,rfl,q1⟩:=q1;cases r1;exact not_of (Zx ⟨.bl (!c),H1,I1,rfl,q1⟩)
def XF(t:TT)(ta tb:TE):TE:=λσ H Q=>t σ H λc H1=>if c=ψ then ta σ H1 Q else tb σ H1 Q
def Io{c:Expr}(hc:PT X c tA)(ha:PE X a ta)(hb:PE X b tb):PE X (.IfExp c a b pos) (XF tA ta tb):=by
 intro f8 s σ H Q I h;refine wpAny_IfExp (cJ (hc f8 s σ H _ I h) λd s1 ⟨H1,I1,q1⟩=>?_);cases d with
 |true=>exact ha f8 s1 σ H1 Q I1 q1
 |false=>exact hb f8 s1 σ H1 Q I1 q1
end
def SqL(K:Ym)(H:Hp)(a:Addr)(xs:List V):Prop:=
 Rd H a (.lst xs)\/
  ∃(o:Obj) (aS:Array Value) (n:Nat),K.lookup a=θ o/\o.cls= .type "list"/\o.dict=ω/\o.data= .seq aS n/\aS.size<=Yv/\Vals xs aS.toList
def SqT(K:Ym)(H:Hp)(a:Addr)(xs:List V):Prop:=
 Rd H a (.tup xs)\/
  ∃(o:Obj) (aS:Array Value) (n:Nat),K.lookup a=θ o/\o.cls= .type "tuple"/\o.data= .seq aS n/\aS.size<=Yv/\Vals xs aS.toList
def R9:Value->Option V
 | .none=>θ .non
 | .bool b=>θ (.bl b)
 | .int i _=>θ (.int i)
 | .str x _=>θ (.str x)
 | .bytes b _=>θ (.byt b)
 | .float b _=>θ (.flt b)
 | .ref a=>θ (.ref a)
 | .type n=>θ (.ty n)
 |_=>ω
def RelV.abs{x:V}{u:Value}(r:RelV x u):R9 u=θ x:=by
 cases x with
 |non=>cases r;rfl
 |bl _=>cases r;rfl
 |int _=>obtain⟨t,rfl⟩:=r;rfl
 |str _=>obtain⟨t,rfl⟩:=r;rfl
 |byt _=>obtain⟨t,rfl⟩:=r;rfl
 |flt _=>obtain⟨t,rfl⟩:=r;rfl
 |ref _=>cases r;rfl
 |ty _=>cases r;rfl
def RelV.inj{x y:V}{u:Value}(r:RelV x u)(q:RelV y u):x=y:=YS (r.abs.symm.trans q.abs)
theorem Vals.inj:∀{xs ys:List V}{us:List Value},Vals xs us->Vals ys us->xs=ys
 |_,_,_, .nil, .nil=>rfl
 |_,_,_, .cons r t, .cons r' t'=>by rw[r.inj r',Vals.inj t t']
section
variable{X:Cx}{f8:List (Addr×Obj)}{σ:St}{H:Hp}{s:Yc}{a:Addr}{xs ys:List V}
def SqL.of{K:Ym}(h:H a=θ (.lst xs)):SqL K H a xs:= .inl (.inl h)
def SqT.of{K:Ym}(h:H a=θ (.tup xs)):SqT K H a xs:= .inl (.inl h)
def Inv.list(I:Inv X f8 σ H s)(h:SqL X.K H a xs):∃aS:List Value,Vals xs aS/\PlainL s.heap a aS.toArray/\xs.length<=Yv:=by
 rcases h with h | ⟨o,aS,n,hk,hc,hd,hs,hz,r⟩
 ·obtain⟨z,aS,n,r,e⟩:=h.ok I.hok;exact⟨aS,r,⟨_,n,e,rfl,rfl,rfl⟩,z⟩
 ·refine⟨aS.toList,r,⟨o,n,I.kIn a o hk,hc,hd,by simpa using hs⟩,?_⟩;have e:=r.length;simp only[Yd] at e;omega
def Inv.tuple(I:Inv X f8 σ H s)(h:SqT X.K H a xs):∃aS:List Value,Vals xs aS/\IsTup s.heap a aS.toArray/\xs.length<=Yv:=by
 rcases h with h | ⟨o,aS,n,hk,hc,hs,hz,r⟩
 ·obtain⟨z,aS,r,p⟩:=h.ok I.hok;exact⟨aS,r,p,z⟩
 ·refine⟨aS.toList,r,⟨o,I.kIn a o hk,hc,n,by simpa using hs⟩,?_⟩;have e:=r.length;simp only[Yd] at e;omega
def Inv.list_inj(I:Inv X f8 σ H s)(h:SqL X.K H a xs)(h':SqL X.K H a ys):xs=ys:=by
 obtain⟨aS,r,⟨o,n,e,_,_,d⟩,_⟩:=I.list h;obtain⟨its',r',⟨o',n',e',_,_,d'⟩,_⟩:=I.list h';rw[e] at e';cases e';rw[d] at d';injection d' with d1 _
 have:aS=its':=by simpa using aeo Array.toList d1
 subst this;exact r.inj r'
def Inv.tuple_inj(I:Inv X f8 σ H s)(h:SqT X.K H a xs)(h':SqT X.K H a ys):xs=ys:=by
 obtain⟨aS,r,⟨o,e,_,n,d⟩,_⟩:=I.tuple h;obtain⟨its',r',⟨o',e',_,n',d'⟩,_⟩:=I.tuple h';rw[e] at e';cases e';rw[d] at d';injection d' with d1 _
 have:aS=its':=by simpa using aeo Array.toList d1
 subst this;exact r.inj r'
end
abbrev Cx.wish(X:Cx)(E:Value->Yc->Prop):Cx:={X with xe:=E}
abbrev Cx.nox(X:Cx):Cx:=X.wish λ_ _=>False
theorem Cx.Ok.wish{X:Cx}(ok:X.Ok)(E:Value->Yc->Prop):(X.wish E).Ok:=
 ⟨ok.mod,ok.kind,ok.glob,ok.blt,ok.above,ok.inj,ok.has,ok.cab,ok.hd,ok.frames,ok.stk,ok.exf,ok.bs,ok.bsz,ok.noex,ok.exfs,ok.funs,ok.frf⟩
def Cx.Ok.unwish{X:Cx}{E:Value->Yc->Prop}(ok:(X.wish E).Ok):X.Ok:=
 ⟨ok.mod,ok.kind,ok.glob,ok.blt,ok.above,ok.inj,ok.has,ok.cab,ok.hd,ok.frames,ok.stk,ok.exf,ok.bs,ok.bsz,ok.noex,ok.exfs,ok.funs,ok.frf⟩
section
variable{X:Cx}{f8:List (Addr×Obj)}{σ:St}{H:Hp}{s:Yc}{E:Value->Yc->Prop}
theorem Inv.wish(I:Inv X f8 σ H s)(E:Value->Yc->Prop):Inv (X.wish E) f8 σ H s:=⟨I.ok.wish E,I.os,I.bare,I.base,I.loc,I.cell,I.free,I.freeC,I.pin,I.hok,I.len⟩
theorem Inv.unwish(I:Inv (X.wish E) f8 σ H s):Inv X f8 σ H s:=⟨I.ok.unwish,I.os,I.bare,I.base,I.loc,I.cell,I.free,I.freeC,I.pin,I.hok,I.len⟩
theorem SP.unwish{D:Ends}{f:Flow}{s':Yc}(h:SP (X.wish E) f8 D f s'):SP X f8 D f s':=by
 cases f with
 |next=>obtain⟨σ',H',I,q⟩:=h;exact⟨σ',H',I.unwish,q⟩
 |brk=>obtain⟨σ',H',I,q⟩:=h;exact⟨σ',H',I.unwish,q⟩
 |cont=>obtain⟨σ',H',I,q⟩:=h;exact⟨σ',H',I.unwish,q⟩
 |ret u=>obtain⟨v,σ',H',I,r,q⟩:=h;exact⟨v,σ',H',I.unwish,r,q⟩
theorem PE.nox{e:Expr}{t:TE}(h:PE X.nox e t):PE X e t:=λf8 s σ H Q I hw=>
 Zj (h f8 s σ H Q (I.wish _) hw) (λ_ _ ⟨v,H',I',r,q⟩=>⟨v,H',I'.unwish,r,q⟩) λ_ _ z=>Z3 z
theorem PT.nox{e:Expr}{t:TT}(h:PT X.nox e t):PT X e t:=λf8 s σ H Q I hw=>
 Zj (h f8 s σ H Q (I.wish _) hw) (λ_ _ ⟨H',I',q⟩=>⟨H',I'.unwish,q⟩) λ_ _ z=>Z3 z
theorem PSs.nox{st:List Stmt}{t:TS}(h:PSs X.nox st t):PSs X st t:=λf8 s σ H D I hw=>
 Zj (h f8 s σ H D (I.wish _) hw) (λ_ _ q=>q.unwish) λ_ _ z=>Z3 z
end
section
variable{X:Cx}{st:Stmt}{W1:List Stmt}{t u:TS}{e:Expr}{te:TE}{pos:Pos}
def Mn:TS:=λD σ H=>D.nx σ H
def Rk(t u:TS):TS:=λD σ H=>t {D with nx:=u D} σ H
def D3:PSs X [] Mn:=λ_ _ σ H _ I h=>abY ⟨σ,H,I,h⟩
def Ao(h1:PS X st t)(h2:PSs X W1 u):PSs X (st::W1) (Rk t u):=by
 intro f8 s σ H D I h;refine wpAny_execs_cons (cJ (h1 f8 s σ H {D with nx:=u D} I h) λf s1 q=>?_);cases f with
 |next=>
  obtain⟨σ',H',I',q⟩:=q;exact h2 f8 s1 σ' H' D I' q
 |ret v=>exact q
 |brk=>exact q
 |cont=>exact q
def rb(h1:PS X st t):PSs X [st] t:=by
 intro f8 s σ H D I h;refine wpAny_execs_cons (cJ (h1 f8 s σ H D I h) λf s1 q=>?_);cases f with
 |next=>exact abY q
 |ret v=>exact q
 |brk=>exact q
 |cont=>exact q
def Inv.quiet{f8:List (Addr×Obj)}{σ:St}{H:Hp}{s:Yc}(I:Inv X f8 σ H s):interactive X.env=μ:=by simp[interactive,I.ok.kind]
def Ji(te:TE):TS:=λD σ H=>te σ H λ_ H1=>D.nx σ H1
def ra(he:PE X e te)(hs:aaY e ω pos.line X.env=pure μ:=by rfl):PS X (.Expr e pos) (Ji te):=by
 intro f8 s σ H D I h;exact wpAny_Expr_any (cJ (he f8 s σ H _ I h) λv s1 ⟨x,H1,I1,r1,q1⟩=>⟨σ,H1,I1,q1⟩) I.quiet hs
def T6(te:TE):TS:=λD σ H=>te σ H D.rt
def N9(he:PE X e te):PS X (.Return (θ e) pos) (T6 te):=by
 intro f8 s σ H D I h;exact wpAny_Return_some (cJ (he f8 s σ H _ I h) λv s1 ⟨x,H1,I1,r1,q1⟩=>⟨x,σ,H1,I1,r1,q1⟩)
def Rc(c:TT)(t u:TS):TS:=λD σ H=>c σ H λb H1=>if b=ψ then t D σ H1 else u D σ H1
def Mi{c:Expr}{a b:List Stmt}{tc:TT}(hc:PT X c tc)(ha:PSs X a t)(hb:PSs X b u):PS X (.If c a b pos) (Rc tc t u):=by
 intro f8 s σ H D I h;refine wpAny_If (cJ (hc f8 s σ H _ I h) λd s1 ⟨H1,I1,q1⟩=>?_);cases d with
 |true=>exact ha f8 s1 σ H1 D I1 q1
 |false=>exact hb f8 s1 σ H1 D I1 q1
end
abbrev TG:=V->St->Hp->(St->Hp->Prop)->Prop
abbrev LI:=List V->St->Hp->(St->Hp->Prop)->Prop
def PG(X:Cx)(target:Expr)(t:TG):Prop:=
 ∀(f8:List (Addr×Obj)) (s:Yc) (σ:St) (H:Hp) (v:V) (u:Value) (Q:St->Hp->Prop),Inv X f8 σ H s->RelV v u->t v σ H Q->
  wpAny (model X.prog X.w) X.A (assign target X.env u) (λ_ s'=>∃σ' H',Inv X f8 σ' H' s'/\Q σ' H') X.xe s
def Rt(X:Cx)(ts:List Expr)(t:LI):Prop:=
 ∀(f8:List (Addr×Obj)) (s:Yc) (σ:St) (H:Hp) (vs:List V) (us:List Value) (Q:St->Hp->Prop),Inv X f8 σ H s->Vals vs us->t vs σ H Q->
  wpAny (model X.prog X.w) X.A (assignInOrder ((abp ts X.env).map (·.2)) us) (λ_ s'=>∃σ' H',Inv X f8 σ' H' s'/\Q σ' H') X.xe s
abbrev R6:=V->V->V->Hp->(Hp->Prop)->Prop
section
variable{X:Cx}{pos:Pos}
def lM(i:Nat):TG:=λv σ H Q=>Q (σ.set i (θ v)) H
def aY{i:Nat}{x:Str}(hN:X.N.Nodup)(hi:X.N[i]? =θ x)(hx:Loc X.env.scope x)(hf:X.fn x=ψ\/X.env.scope.names.lookup x=θ .local:=by first | exact .inl rfl | exact .inr rfl | assumption):PG X (.Name x pos) (lM i):=by
 intro f8 s σ H v u Q I r h;exact acO (AN I hN hi hx r (λs' I'=>⟨_,H,I',h⟩) hf)
def Pq:LI:=λvs σ H Q=>vs=[]/\Q σ H
def LQ(t:TG)(u:LI):LI:=λvs σ H Q=>∃v r,vs=v::r/\t v σ H λσ' H'=>u r σ' H' Q
def DX:Rt X [] Pq:=by
 intro f8 s σ H vs us Q I r h;obtain⟨e,h⟩:=h;subst e;cases r;exact assignInOrder_nil ⟨σ,H,I,h⟩
def nK{e:Expr}{es:List Expr}{t:TG}{u:LI}(h1:PG X e t)(h2:Rt X es u)
 (hs:(abp (e::es) X.env).map (·.2)=assign e X.env::(abp es X.env).map (·.2):=by rfl):Rt X (e::es) (LQ t u):=by
 intro f8 s σ H vs us Q I r h;obtain⟨v,vr,e1,h⟩:=h;subst e1;cases r with
 |cons r rr=>
  rw[hs];refine assignInOrder_cons (cJ (h1 f8 s σ H _ _ _ I r h) λ_ s1 ⟨σ1,H1,I1,q1⟩=>?_);exact h2 f8 s1 σ1 H1 _ _ Q I1 rr q1
def Pt(K:Ym)(n:Nat)(t:LI):TG:=λv σ H Q=>∃a xs,v= .ref a/\SqT K H a xs/\xs.length=n/\t xs σ H Q
def Ir{es:List Expr}{k:Nat}{t:LI}{n:Nat}(hc:X.calm=ψ)(h:Rt X es t)
 (hn:(abp es X.env).length=n:=by rfl)(G4:(abp es X.env).findIdx? (·.1)=ω:=by rfl):PG X (.Tuple es k pos) (Pt X.K n t):=by
 intro f8 s σ H v u Q I r hw;obtain⟨a,xs,e1,hq,hl,hw⟩:=hw;subst e1;cases r;obtain⟨aS,rv,ht,hz⟩:=I.tuple hq;refine assign_Tuple_tuple (I.ok.hd hc) ht (by simp[hn,<-hl,rv.length]) G4 λh' hx=>?_;have I1:Inv X f8 σ H {s with heap:=h'}:=I.kept (t':=s.toks) λb o e=>hx b o (YF (Ys e)) e;exact h f8 _ σ H xs _ Q I1 (by simpa using rv) hw
def rU(to ti:TE)(t:R6):TG:=λv σ H Q=>to σ H λo H1=>ti σ H1 λi H2=>t o i v H2 λH3=>Q σ H3
def Q8(te:TE)(g:TG):TS:=λD σ H=>te σ H λx H1=>g x σ H1 D.nx
def o8{tg e:Expr}{te:TE}{g:TG}(he:PE X e te)(hg:PG X tg g)(hs:acA [tg] e pos.line X.env=pure μ:=by rfl)(hw:swappedStores [tg] e X.env=pure ω:=by rfl)
 (h1:(abp [tg] X.env).map (·.2)=[assign tg X.env]:=by rfl):PS X (.Assign [tg] e pos) (Q8 te g):=by
 intro f8 s σ H D I h;refine wpAny_Assign_stores (cJ (he f8 s σ H _ I h) λv s1 ⟨x,H1,I1,r1,q1⟩=>?_) hs hw;rw[h1];exact cJ (hg f8 s1 σ H1 x v _ I1 r1 q1) λ_ s2 q=>q
end
section
variable{X:Cx}{pos:Pos}
def OA(c:TT)(tb:TS):TS:=λD σ H=>∃W:Nat->St->Hp->Prop,(∃m,W m σ H)/\∀m σ H,W m σ H->
 c σ H λb H1=>if b=ψ then∃N:St->Hp->Prop,(∀σ' H',N σ' H'->∃m',m'<m/\W m' σ' H')/\tb {D with nx:=N,ct:=N,bk:=D.nx} σ H1 else D.nx σ H1
def Iw{c:Expr}{body:List Stmt}{tc:TT}{tb:TS}(hp:adq (model X.prog X.w) X.A X.env X.xe)(hc:PT X c tc)(hb:PSs X body tb):PS X (.While c body [] pos) (OA tc tb):=by
 intro f8 s σ H D I h;obtain⟨W,⟨m0,w0⟩,turn⟩:=h;refine wpAny_While (codeAny_whileLoop (λn s'=>∃σ' H',Inv X f8 σ' H' s'/\W n σ' H') ?_ m0 ⟨σ,H,I,w0⟩);rintro n s1 ⟨σ1,H1,I1,w1⟩;refine aad hp (cJ (hc f8 s1 σ1 H1 _ I1 (turn n σ1 H1 w1)) λb s2 ⟨H2,I2,q2⟩=>?_);cases b with
 |true=>
  obtain⟨N,hN,q2⟩:=q2;rw[aef rfl];refine aad hp (cJ (hb f8 s2 σ1 H2 _ I2 q2) λf s3 q3=>?_);cases f with
  |next=>
   obtain⟨σ3,H3,I3,n3⟩:=q3;obtain⟨m',hm,w3⟩:=hN σ3 H3 n3;exact⟨m',hm,σ3,H3,I3,w3⟩
  |cont=>
   obtain⟨σ3,H3,I3,n3⟩:=q3;obtain⟨m',hm,w3⟩:=hN σ3 H3 n3;exact⟨m',hm,σ3,H3,I3,w3⟩
  |brk=>exact q3
  |ret v=>exact q3
 |false=>
  rw[aeh YI];exact abY ⟨σ1,H2,I2,q2⟩
end
structure It where
 go:Nat->Hp->Prop
 yld:Nat->Hp->V->Hp->Prop
 stop:Nat->Hp->Prop
def uy(X:Cx)(f8:List (Addr×Obj))(H:Hp)(b:Addr):Prop:=
 H b=ω/\b≠X.env.locals/\b∉X.fs/\(b∈X.ex\/X.aeq.heap.objs.size<=b)/\(∀x c,X.env.cells.lookup x=θ c->c≠b)/\∀p∈X.pn++f8,p.1≠b
def Inv.fpOk{X:Cx}{f8:List (Addr×Obj)}{σ:St}{H H':Hp}{s:Yc}{b:Addr}(I:Inv X f8 σ H s)(hb:s.heap.objs.size<=b)(hn:H' b=ω):uy X f8 H' b:=by
 refine⟨hn,abJ (YL I.lt hb),I.nofs hb, .inr (Yz I.sz hb),λx c e z=>?_,λp hp z=>?_⟩
 ·obtain⟨v,q⟩:=I.cell x c e;exact ael (YL q.lt (by rw[z];exact hb)) (Zb _)
 ·exact ael (YL (Ys (I.pin p hp).1) (by rw[z];exact hb)) (Zb _)
structure Turn (P:YM) (w:World) (K:Ym) (tg:Expr) (J:It) (fp:List Addr) (it:Addr) (tn:Nat->Heap->Prop):Prop where
 mem:it∈fp
 obj:∀i h,tn i h->∀b∈fp,∃o,h.get? b=θ o/\∀v,o.data≠ .cell v
 keep:∀i h h',tn i h->(∀b∈fp,∀o,h.get? b=θ o->h'.get? b=θ o)->tn i h'
 item:∀(X:Cx),X.prog=P->X.w=w->X.K=K->X.calm=ψ->∀(i:Nat) (f8:List (Addr×Obj)) (s:Yc) (σ:St) (H:Hp) (E:Value->Yc->Prop),Inv X f8 σ H s->(∀b∈fp,uy X f8 H b)->tn i s.heap->J.go i H->
  wpAny (model P w) X.A (adM (.ref it)) (λr s1=>∃u,r=θ u/\
   wpAny (model P w) X.A (ab0 tg (.ref it) u) (λ_ s2=>∃x H',Inv X f8 σ H' s2/\RelV x u/\J.yld i H x H'/\tn (i+1) s2.heap/\∀b∈fp,H' b=ω) E s1) E s
 done:∀(X:Cx),X.prog=P->X.w=w->X.K=K->X.calm=ψ->∀(i:Nat) (f8:List (Addr×Obj)) (s:Yc) (σ:St) (H:Hp) (E:Value->Yc->Prop),Inv X f8 σ H s->(∀b∈fp,uy X f8 H b)->tn i s.heap->J.stop i H->
  wpAny (model P w) X.A (adM (.ref it)) (λr s1=>r=ω/\Inv X f8 σ H s1) E s
 self:∀(A:Y7) (i:Nat) (s:Yc) (Q:Value->Yc->Prop) (E:Value->Yc->Prop),tn i s.heap->Q (.ref it) s->wpAny (model P w) A (pyIter (.ref it)) Q E s
abbrev TI:=St->Hp->(It->Hp->Prop)->Prop
def Uk(X:Cx)(f8:List (Addr×Obj))(σ:St)(tg:Expr)(R:It->Hp->Prop)(Vg:Value)(s2:Yc):Prop:=
 ∃(it:Addr) (fp:List Addr) (tn:Nat->Heap->Prop) (J:It) (H':Hp),Vg= .ref it/\Inv X f8 σ H' s2/\Turn X.prog X.w X.K tg J fp it tn/\tn 0 s2.heap/\(∀b∈fp,uy X f8 H' b)/\R J H'
def PI(X:Cx)(tg iter:Expr)(wi:TI):Prop:=
 ∀(f8:List (Addr×Obj)) (s:Yc) (σ:St) (H:Hp) (R:It->Hp->Prop),Inv X f8 σ H s->wi σ H R->
  wpAny (model X.prog X.w) X.A (eval iter X.env) (λv s1=>wpAny (model X.prog X.w) X.A (pyIter v) (Uk X f8 σ tg R) X.xe s1) X.xe s
def vw{M:Model}{A:Y7}{E:Value->Yc->Prop}{s:Yc}{tg:Expr}{it:Addr}{u:Value}{o:Obj}{n:String}{vs:Array Value}{Q:Unit->Yc->Prop}(ho:s.heap.get? it=θ o)(hc:o.cls= .type n)(hd:o.data= .fields vs)
 (hn:["enumerate","zip","dict_itemiterator","dict_reverseitemiterator","odict_iterator","itertools.zip_longest","itertools.pairwise"].contains n=μ)(hQ:Q () s):wpAny M A (ab0 tg (.ref it) u) Q E s:=by
 unfold ab0;cases tg<;>first
  |exact Yb hQ
  |(cases u<;>first
    |exact Yb hQ
    |(refine X6 (wpAny_load ho ?_)
      rw[hc,hd];show wpAny M A (if (["enumerate","zip","dict_itemiterator","dict_reverseitemiterator","odict_iterator","itertools.zip_longest","itertools.pairwise"].contains n&&vs[0]? ==θ (acW _))=ψ then _ else _) Q E s;rw[aeh (by intro h;rw[hn,Bool.false_and] at h;cases h)];exact Yb hQ))
def R0(K:Ym)(a:Addr):It:=
 ⟨λi H=>∃xs x,SqL K H a xs/\xs[i]? =θ x,λi H x H'=>H'=H/\∀xs,SqL K H a xs->xs[i]? =θ x,λi H=>∃xs,SqL K H a xs/\xs.length<=i⟩
def R1(K:Ym)(a:Addr):It:=
 ⟨λi H=>∃xs x,SqT K H a xs/\xs[i]? =θ x,λi H x H'=>H'=H/\∀xs,SqT K H a xs->xs[i]? =θ x,λi H=>∃xs,SqT K H a xs/\xs.length<=i⟩
def OY(lo:Int)(n:Nat):It:=⟨λi _=>i<n,λi H x H'=>H'=H/\x= .int (lo+i),λi _=>n<=i⟩
def FL{P:YM}{w:World}{K:Ym}{tg:Expr}(a it:Addr):Turn P w K tg (R0 K a) [it] it (λi h=>h.IsListIter it a i) where
 mem:=by simp
 obj:=λi h st b hb=>by
  have e:b=it:=by simpa using hb
  subst e;obtain⟨o,e,c,d⟩:=st;exact⟨o,e,λv z=>by rw[d] at z;cases z⟩
 keep:=λi h h' st k=>st.at λo e=>k it (by simp) o e
 item:=by
  intro X hP hw hK hc i f8 s σ H E I hf st hg;subst hP hw hK;obtain⟨xs,x,hq,hx⟩:=hg;obtain⟨aS,rv,p,hz⟩:=I.list hq;obtain⟨u,hu,ru⟩:=rv.get hx;obtain⟨f0,f1,f2,f3,f4,f5⟩:=hf it (by simp);refine wpAny_pyNext_list_item st p.isList (x:=u) (by simpa using hu) λh' qk sb=>?_;have I1:Inv X f8 σ H {s with heap:=h'}:=I.turned (t':=s.toks) (λb o hb e=>(sb.2 b hb).trans e) f0 f1 f3 f4 f5;obtain⟨o,e,c,d⟩:=id qk;exact⟨u,rfl,vw (s:={s with heap:=h'}) e c d (by decide) ⟨x,H,I1,ru,⟨rfl,λys hy=>by rw[I.list_inj hy hq];exact hx⟩,qk,λb hb=>(hf b hb).1⟩⟩
 done:=by
  intro X hP hw hK hc i f8 s σ H E I hf st hg;subst hP hw hK;obtain⟨xs,hq,hx⟩:=hg;obtain⟨aS,rv,p,hz⟩:=I.list hq;obtain⟨f0,f1,f2,f3,f4,f5⟩:=hf it (by simp);have hl:=rv.length;exact wpAny_pyNext_list_end (I.ok.hd hc) st p.isList (by simp;omega) λh' eb=>⟨rfl,I.turned (t':=s.toks) (λb o hb e=>eb b o hb e) f0 f1 f3 f4 f5⟩
 self:=λ_ _ _ _ _ st h=>wpAny_pyIter_listiter st h
def Cw{P:YM}{w:World}{K:Ym}{tg:Expr}(a it:Addr):Turn P w K tg (R1 K a) [it] it (λi h=>h.IsTupleIter it a i) where
 mem:=by simp
 obj:=λi h st b hb=>by
  have e:b=it:=by simpa using hb
  subst e;obtain⟨o,e,c,d⟩:=st;exact⟨o,e,λv z=>by rw[d] at z;cases z⟩
 keep:=λi h h' st k=>st.at λo e=>k it (by simp) o e
 item:=by
  intro X hP hw hK hc i f8 s σ H E I hf st hg;subst hP hw hK;obtain⟨xs,x,hq,hx⟩:=hg;obtain⟨aS,rv,p,hz⟩:=I.tuple hq;obtain⟨u,hu,ru⟩:=rv.get hx;obtain⟨f0,f1,f2,f3,f4,f5⟩:=hf it (by simp);refine wpAny_pyNext_tuple_item st (show s.heap.IsTuple a aS.toArray from p) (x:=u) (by simpa using hu) λh' qk sb=>?_;have I1:Inv X f8 σ H {s with heap:=h'}:=I.turned (t':=s.toks) (λb o hb e=>(sb.2 b hb).trans e) f0 f1 f3 f4 f5;obtain⟨o,e,c,d⟩:=id qk;exact⟨u,rfl,vw (s:={s with heap:=h'}) e c d (by decide) ⟨x,H,I1,ru,⟨rfl,λys hy=>by rw[I.tuple_inj hy hq];exact hx⟩,qk,λb hb=>(hf b hb).1⟩⟩
 done:=by
  intro X hP hw hK hc i f8 s σ H E I hf st hg;subst hP hw hK;obtain⟨xs,hq,hx⟩:=hg;obtain⟨aS,rv,p,hz⟩:=I.tuple hq;obtain⟨f0,f1,f2,f3,f4,f5⟩:=hf it (by simp);have hl:=rv.length;exact wpAny_pyNext_tuple_end (I.ok.hd hc) st (show s.heap.IsTuple a aS.toArray from p) (by simp;omega) λh' eb=>⟨rfl,I.turned (t':=s.toks) (λb o hb e=>eb b o hb e) f0 f1 f3 f4 f5⟩
 self:=λ_ _ _ _ _ st h=>wpAny_pyIter_tupleiter st h
def Cv{P:YM}{w:World}{K:Ym}{tg:Expr}(it:Addr)(lo:Int)(n:Nat):Turn P w K tg (OY lo n) [it] it (λi h=>IsRangeIter h it (lo+(i:Nat)*1) ((n:Int) - (i:Nat)) 1) where
 mem:=by simp
 obj:=λi h st b hb=>by
  have e:b=it:=by simpa using hb
  subst e;exact⟨_,st,λv z=>by
   have z':adU _=Data.cell v:=z;cases z'⟩
 keep:=λi h h' st k=>k it (by simp) _ st
 item:=by
  intro X hP hw hK hc i f8 s σ H E I hf st hg;subst hP hw hK;obtain⟨f0,f1,f2,f3,f4,f5⟩:=hf it (by simp);have W:=Walks.range (prog:=X.prog) (w:=X.w) (I.ok.hd hc) it lo 1 n;refine W.item i s _ _ hg st λv h' tk hv qk kk=>?_;obtain⟨t,rfl⟩:=hv;have I1:Inv X f8 σ H {s with heap:=h',toks:=tk}:=I.turned (λb o hb e=>kk b o (by simpa using hb) e) f0 f1 f3 f4 f5;refine⟨_,rfl,vw (s:={s with heap:=h',toks:=tk}) (n:="range_iterator") qk rfl rfl (by decide) ⟨.int (lo+i),H,I1,⟨t,?_⟩,⟨rfl,rfl⟩,qk,λb hb=>(hf b hb).1⟩⟩;rw[Int.mul_one]
 done:=by
  intro X hP hw hK hc i f8 s σ H E I hf st hg;subst hP hw hK;obtain⟨f0,f1,f2,f3,f4,f5⟩:=hf it (by simp);exact wpAny_pyNext_range_end (I.ok.hd hc) st (by have:n<=i:=hg;omega) λh' eb=>⟨rfl,I.turned (t':=s.toks) (λb o hb e=>eb b o hb e) f0 f1 f3 f4 f5⟩
 self:=λ_ _ _ _ _ st h=>wpAny_pyIter_rangeiter st h
section
variable{X:Cx}{tg:Expr}
def Qi(K:Ym)(tl:TE):TI:=λσ H R=>tl σ H λx H1=>∃a,x= .ref a/\(∃xs,SqL K H1 a xs)/\R (R0 K a) H1
def To(K:Ym)(tl:TE):TI:=λσ H R=>tl σ H λx H1=>∃a,x= .ref a/\(∃xs,SqT K H1 a xs)/\R (R1 K a) H1
def K7{l:Expr}{tl:TE}(hl:PE X l tl):PI X tg l (Qi X.K tl):=by
 intro f8 s σ H R I h;refine cJ (hl f8 s σ H _ I h) λv s1 ⟨x,H1,I1,r1,q1⟩=>?_;obtain⟨a,e,⟨xs,hq⟩,q⟩:=q1;subst e;cases r1;obtain⟨aS,rv,p,hz⟩:=I1.list hq;refine wpAny_pyIter_list p.isList ?_;refine⟨s1.heap.objs.size,[s1.heap.objs.size],_,_,H1,rfl,I1.kept (t':=s1.toks) λb o e=>X8 _ e,FL a _,⟨_,Yy _ rfl,rfl,rfl⟩,λb hb=>?_,q⟩;have e:b=s1.heap.objs.size:=by simpa using hb
 subst e;exact I1.fpOk (X_ _) (I1.hok.fresh (X_ _))
def N8{l:Expr}{tl:TE}(hl:PE X l tl):PI X tg l (To X.K tl):=by
 intro f8 s σ H R I h;refine cJ (hl f8 s σ H _ I h) λv s1 ⟨x,H1,I1,r1,q1⟩=>?_;obtain⟨a,e,⟨xs,hq⟩,q⟩:=q1;subst e;cases r1;obtain⟨aS,rv,p,hz⟩:=I1.tuple hq;refine wpAny_pyIter_tuple (show s1.heap.IsTuple a aS.toArray from p) ?_;refine⟨s1.heap.objs.size,[s1.heap.objs.size],_,_,H1,rfl,I1.kept (t':=s1.toks) λb o e=>X8 _ e,Cw a _,⟨_,Yy _ rfl,rfl,rfl⟩,λb hb=>?_,q⟩;have e:b=s1.heap.objs.size:=by simpa using hb
 subst e;exact I1.fpOk (X_ _) (I1.hok.fresh (X_ _))
def As{f8:List (Addr×Obj)}{σ:St}{H:Hp}{s:Yc}{R:It->Hp->Prop}{E:Value->Yc->Prop}{lo hi:Int}{t u v:Tok}{tk:Nat}(I:Inv X f8 σ H s)(h1: -(2 ^ 62)<=lo)(h2:lo<2 ^ 62)(h3: -(2 ^ 62)<=hi)(h4:hi<2 ^ 62)
 (q:R (OY lo (hi - lo).toNat) H):wpAny (model X.prog X.w) X.A (pyIter (.ref s.heap.objs.size)) (Uk X f8 σ tg R) E {s with heap:=s.heap.push {cls:= .type "range",data:= .fields #[.int lo t, .int hi u, .int 1 v]},toks:=tk}:=by
 refine wpAny_pyIter_range (IsRange.new ..) (small_one h1 h2 h3 h4) ?_;have I1:Inv X f8 σ H {s with heap:=s.heap.push {cls:= .type "range",data:= .fields #[.int lo t, .int hi u, .int 1 v]},toks:=tk}:=I.kept λb o e=>X8 _ e;refine⟨(s.heap.push {cls:= .type "range",data:= .fields #[.int lo t, .int hi u, .int 1 v]}).objs.size,[(s.heap.push {cls:= .type "range",data:= .fields #[.int lo t, .int hi u, .int 1 v]}).objs.size],_,_,H,rfl,
  I1.kept (t':=tk) λb o e=>X8 _ e,Cv _ lo (hi - lo).toNat,?_,λb hb=>?_,q⟩
 ·have e1:lo+((0:Nat):Int)*1=lo:=by simp
  have e2:(((hi - lo).toNat:Nat):Int) - ((0:Nat):Int)=Zw lo hi 1:=by rw[rangeSize_one];split<;>omega
  show IsRangeIter _ _ (lo+((0:Nat):Int)*1) ((((hi - lo).toNat:Nat):Int) - ((0:Nat):Int)) 1;rw[e1,e2];exact Yy _ rfl
 ·have e:b=(s.heap.push {cls:= .type "range",data:= .fields #[.int lo t, .int hi u, .int 1 v]}).objs.size:=by simpa using hb
  subst e;exact I1.fpOk (X_ _) (I1.hok.fresh (X_ _))
def Qj(ta:TA):TI:=λσ H R=>ta σ H λvs H1=>∃j:Int,vs=[.int j]/\ -(2 ^ 62)<=j/\j<2 ^ 62/\R (OY 0 j.toNat) H1
def Qk(ta:TA):TI:=λσ H R=>ta σ H λvs H1=>∃i j:Int,vs=[.int i, .int j]/\(-(2 ^ 62)<=i/\i<2 ^ 62/\ -(2 ^ 62)<=j/\j<2 ^ 62)/\R (OY i (j - i).toNat) H1
def Fu{a:Expr}{ta:TA}{p pos:Pos}(hg:Gl X "range")(hm:X.mg "range"=ω)(ha:PA X [a] ta)(hs:Yw [a] X.env=[(μ,eval a X.env)]:=by rfl):PI X tg (.Call (.Name "range" p) [a] [] pos) (Qj ta):=by
 intro f8 s σ H R I h;refine Call_ (j8 I hg hm boot_range (Zl (cJ (ha pos f8 s σ H _ I h) λus s1 ⟨vs,H1,I1,r1,q1⟩=>?_) hs rfl));obtain⟨j,e,q1,q2,q⟩:=q1;subst e;cases r1 with
 |cons r rr=>
  cases rr;obtain⟨t,rfl⟩:=r;exact call_range_1 (As I1 (by omega) (by omega) q1 q2 (by simpa using q))
def Fv{a b:Expr}{ta:TA}{p pos:Pos}(hg:Gl X "range")(hm:X.mg "range"=ω)(ha:PA X [a,b] ta)(hs:Yw [a,b] X.env=[(μ,eval a X.env),(μ,eval b X.env)]:=by rfl)(OP:Yw [b] X.env=[(μ,eval b X.env)]:=by rfl):
 PI X tg (.Call (.Name "range" p) [a,b] [] pos) (Qk ta):=by
 intro f8 s σ H R I h;refine Call_ (j8 I hg hm boot_range (Zl (cJ (ha pos f8 s σ H _ I h) λus s1 ⟨vs,H1,I1,r1,q1⟩=>?_) (by rw[hs,OP]) (by rw[OP];rfl)));obtain⟨i,j,e,⟨q1,q2,q3,q4⟩,q⟩:=q1;subst e;cases r1 with
 |cons r rr=>
  cases rr with
  |cons r' rr=>
   cases rr;obtain⟨t,rfl⟩:=r;obtain⟨t',rfl⟩:=r';exact call_range_2 (As I1 q1 q2 q3 q4 q)
def Ra(wi:TI)(g:TG)(tb:TS):TS:=λD σ H=>wi σ H λJ H1=>∃W:Nat->Nat->St->Hp->Prop,(∃m,W 0 m σ H1)/\∀i m σ H,W i m σ H->
 (J.stop i H/\D.nx σ H)\/(J.go i H/\∃N:St->Hp->Prop,(∀σ' H',N σ' H'->∃m',m'<m/\W (i+1) m' σ' H')/\∀x H',J.yld i H x H'->g x σ H' λσ2 H2=>tb {D with nx:=N,ct:=N,bk:=D.nx} σ2 H2)
def tJ(fp:List Addr)(h:Heap):List (Addr×Obj):=fp.filterMap λb=>(h.get? b).map λo=>(b,o)
def jz{fp:List Addr}{h:Heap}{b:Addr}{o:Obj}(hb:b∈fp)(e:h.get? b=θ o):(b,o)∈tJ fp h:=ad4.mpr ⟨b,hb,by rw[e];rfl⟩
def Fd{fp:List Addr}{h:Heap}{p:Addr×Obj}(hp:p∈tJ fp h):p.1∈fp/\h.get? p.1=θ p.2:=by
 obtain⟨b,hb,e⟩:=ad4.mp hp;cases q:h.get? b with
 |none=>rw[q] at e;cases e
 |some o=>
  rw[q] at e;have e':(b,o)=p:=YS e;subst e';exact⟨hb,q⟩
def Inv.pinned{f8:List (Addr×Obj)}{σ:St}{H:Hp}{s:Yc}{fp:List Addr}(I:Inv X f8 σ H s)(hf:∀b∈fp,uy X f8 H b)(ho:∀b∈fp,∃o,s.heap.get? b=θ o/\∀v,o.data≠ .cell v):Inv X (f8++tJ fp s.heap) σ H s:=
 I.pins_of λp hp=>(YA.mp hp).elim (λz=>I.pin p (YU _ z)) λz=>by
  obtain⟨hb,e⟩:=Fd z;obtain⟨f0,f1,f2,_⟩:=hf p.1 hb;obtain⟨o,e',d⟩:=ho p.1 hb;rw[e] at e';cases e';exact⟨e,f0,f1,f2,d⟩
def Inv.unpinned{f8 pl:List (Addr×Obj)}{σ:St}{H:Hp}{s:Yc}(I:Inv X (f8++pl) σ H s):Inv X f8 σ H s:=I.pins_of λp hp=>I.pin p (YU _ (ZA _ hp))
def Cg{iter:Expr}{body:List Stmt}{wi:TI}{g:TG}{tb:TS}{pos:Pos}(hp:adq (model X.prog X.w) X.A X.env X.xe)(hc:X.calm=ψ)(hi:PI X tg iter wi)(hg:PG X tg g)(hb:PSs X body tb)
 (hs:∀x,aag iter X.env x=pure x:=by intro _;rfl):PS X (.For tg iter body [] pos) (Ra wi g tb):=by
 intro f8 s σ H D I h;refine wpAny_For (cJ (hi f8 s σ H _ I h) λv s1 h1=>cJ h1 λVg s2 h2=>?_) hs;obtain⟨it,fp,tn,J,H2,e,I2,T,uY,f2,W,⟨m0,w0⟩,turn⟩:=h2;subst e;have Ox:∀{H':Hp},(∀b∈fp,H' b=ω)->∀b∈fp,uy X f8 H' b:=λhn b hb=>⟨hn b hb,(f2 b hb).2⟩
 refine codeAny_forLoop_any (λn s'=>∃i σ' H',Inv X f8 σ' H' s'/\tn i s'.heap/\(∀b∈fp,H' b=ω)/\W i n σ' H') ?_ m0 ⟨0,σ,H2,I2,uY,λb hb=>(f2 b hb).1,w0⟩;rintro n s3 ⟨i,σ3,H3,I3,OT,Rx,w3⟩;rcases turn i n σ3 H3 w3 with⟨stop,qn⟩ | ⟨go,N,hN,step⟩
 ·refine aad hp (cJ (T.done X rfl rfl rfl hc i f8 s3 σ3 H3 X.xe I3 (Ox Rx) OT stop) λr s4 ⟨hr,I4⟩=>?_);subst hr;exact abY ⟨σ3,H3,I4,qn⟩
 ·refine aad hp (cJ (T.item X rfl rfl rfl hc i f8 s3 σ3 H3 X.xe I3 (Ox Rx) OT go) λr s4 ⟨u,hr,h4⟩=>?_);subst hr;refine aad hp (cJ h4 λ_ s5 ⟨x,H5,I5,r5,y5,TV,VM⟩=>?_);have I5':=I5.pinned (Ox VM) (T.obj _ _ TV);refine aad hp (cJ (hg _ s5 σ3 H5 x u _ I5' r5 (step x H5 y5)) λ_ s6 ⟨σ6,H6,I6,q6⟩=>?_);refine aad hp (cJ (hb _ s6 σ6 H6 _ I6 q6) λf s7 q7=>?_);have again:∀{σ7:St}{H7:Hp},Inv X (f8++tJ fp s5.heap) σ7 H7 s7->N σ7 H7->∃m,m<n/\∃i σ' H',Inv X f8 σ' H' s7/\tn i s7.heap/\(∀b∈fp,H' b=ω)/\W i m σ' H':=λ{σ7 H7} I7 n7=>by
   obtain⟨m',hm,w7⟩:=hN σ7 H7 n7;refine⟨m',hm,i+1,σ7,H7,I7.unpinned,T.keep _ _ _ TV λb hb o e=>(I7.pin (b,o) (YU _ (YU _ (jz hb e)))).1,λb hb=>?_,w7⟩;obtain⟨o,e,d⟩:=T.obj _ _ TV b hb;exact(I7.pin (b,o) (YU _ (YU _ (jz hb e)))).2.1
  cases f with
  |next=>obtain⟨σ7,H7,I7,n7⟩:=q7;exact again I7 n7
  |cont=>obtain⟨σ7,H7,I7,n7⟩:=q7;exact again I7 n7
  |brk=>obtain⟨σ7,H7,I7,q7⟩:=q7;exact⟨σ7,H7,I7.unpinned,q7⟩
  |ret v=>obtain⟨x7,σ7,H7,I7,r7,q7⟩:=q7;exact⟨x7,σ7,H7,I7.unpinned,r7,q7⟩
end
abbrev R2:=V->V->Hp->VK->Prop
def OpR(X:Cx)(f:Value->Value->Sem Value)(r:R2):Prop:=
 ∀(f8:List (Addr×Obj)) (s:Yc) (σ:St) (H:Hp) (x y:V) (v u:Value) (Q:VK),Inv X f8 σ H s->RelV x v->RelV y u->r x y H Q->
  wpAny (model X.prog X.w) X.A (f v u) (EP X f8 σ Q) X.xe s
def CallR(X:Cx)(f:Value)(r:List V->Hp->VK->Prop):Prop:=
 ∀(f8:List (Addr×Obj)) (s:Yc) (σ:St) (H:Hp) (xs:List V) (us:List Value) (Q:VK),Inv X f8 σ H s->Vals xs us->r xs H Q->
  wpAny (model X.prog X.w) X.A (call f us) (EP X f8 σ Q) X.xe s
def R7(X:Cx)(r:V->Hp->(Bool->Hp->Prop)->Prop):Prop:=
 ∀(f8:List (Addr×Obj)) (s:Yc) (σ:St) (H:Hp) (x:V) (v:Value) (Q:Bool->Hp->Prop),Inv X f8 σ H s->RelV x v->r x H Q->
  wpAny (model X.prog X.w) X.A (truthy v) (TP X f8 σ Q) X.xe s
def Rh(r:R2)(ta tb:TE):TE:=λσ H Q=>ta σ H λx H1=>tb σ H1 λy H2=>r x y H2 Q
def rI(C:Int->Int->Prop)(g:Int->Int->V):R2:=λx y H Q=>∃i j,x= .int i/\y= .int j/\C i j/\Q (g i j) H
def Ea(g:Int->Int->V):R2:=λx y H Q=>∃i j,x= .int i/\y= .int j/\Q (g i j) H
section
variable{X:Cx}{a b:Expr}{ta tb:TE}{pos:Pos}
def Mx(ha:PE X a ta)(hb:PE X b tb){f8:List (Addr×Obj)}{s:Yc}{σ:St}{H:Hp}{R:V->V->Hp->Prop}(I:Inv X f8 σ H s)
 (h:ta σ H λx H1=>tb σ H1 λy H2=>R x y H2){Q:Value->Yc->Prop}{f:Value->Value->Sem Value}
 (hf:∀v u s2 x y H2,Inv X f8 σ H2 s2->RelV x v->RelV y u->R x y H2->wpAny (model X.prog X.w) X.A (f v u) Q X.xe s2):
 wpAny (model X.prog X.w) X.A (eval a X.env) (λv P3=>wpAny (model X.prog X.w) X.A (eval b X.env) (λu v2=>wpAny (model X.prog X.w) X.A (f v u) Q X.xe v2) X.xe P3) X.xe s:=by
 refine cJ (ha f8 s σ H _ I h) λv s1 ⟨x,H1,I1,r1,q1⟩=>?_;refine cJ (hb f8 s1 σ H1 _ I1 q1) λu s2 ⟨y,H2,I2,r2,q2⟩=>?_;exact hf v u s2 x y H2 I2 r1 r2 q2
def QP{op:Operator}{r:R2}(ho:OpR X (aaQ op) r)(ha:PE X a ta)(hb:PE X b tb):PE X (.BinOp a op b pos) (Rh r ta tb):=by
 intro f8 s σ H Q I h;exact wpAny_BinOp (Mx ha hb I h λv u s2 x y H2 I2 rx ry q=>ho f8 s2 σ H2 x y v u Q I2 rx ry q)
def TH{f:Value->Value->Sem Value}{C:Int->Int->Prop}{g:Int->Int->Int}
 (rule:∀(i j:Int) (t u:Tok) (s:Yc) (Q:Value->Yc->Prop) (E:Value->Yc->Prop),C i j->Q (.int (g i j) s.toks) {s with toks:=s.toks+1}->wpAny (model X.prog X.w) X.A (f (.int i t) (.int j u)) Q E s):
 OpR X f (rI C λi j=> .int (g i j)):=by
 intro f8 s σ H x y v u Q I rx ry h;obtain⟨i,j,rfl,rfl,hc,q⟩:=h;obtain⟨t,rfl⟩:=rx;obtain⟨t',rfl⟩:=ry;exact rule i j t t' s _ _ hc ⟨.int (g i j),H,I.tok _,⟨_,rfl⟩,q⟩
def QF{f:Value->Value->Sem Value}{g:Int->Int->Int}
 (rule:∀(i j:Int) (t u:Tok) (s:Yc) (Q:Value->Yc->Prop) (E:Value->Yc->Prop),Q (.int (g i j) s.toks) {s with toks:=s.toks+1}->wpAny (model X.prog X.w) X.A (f (.int i t) (.int j u)) Q E s):
 OpR X f (Ea λi j=> .int (g i j)):=by
 intro f8 s σ H x y v u Q I rx ry h;obtain⟨i,j,rfl,rfl,q⟩:=h;obtain⟨t,rfl⟩:=rx;obtain⟨t',rfl⟩:=ry;exact rule i j t t' s _ _ ⟨.int (g i j),H,I.tok _,⟨_,rfl⟩,q⟩
def NF{f:Value->Value->Sem Value}{g:Int->Int->Bool}
 (rule:∀(i j:Int) (t u:Tok) (s:Yc) (Q:Value->Yc->Prop) (E:Value->Yc->Prop),Q (.bool (g i j)) s->wpAny (model X.prog X.w) X.A (f (.int i t) (.int j u)) Q E s):
 OpR X f (Ea λi j=> .bl (g i j)):=by
 intro f8 s σ H x y v u Q I rx ry h;obtain⟨i,j,rfl,rfl,q⟩:=h;obtain⟨t,rfl⟩:=rx;obtain⟨t',rfl⟩:=ry;exact rule i j t t' s _ _ ⟨.bl (g i j),H,I,rfl,q⟩
def OV(i j:Int):Prop:=0<j/\j<1073741824
def CMul(i j:Int):Prop:=(-(2 ^ 64)<i/\i<2 ^ 64)\/(-(2 ^ 64)<j/\j<2 ^ 64)
def CMul.ok{i j:Int}(h:CMul i j):IntMulOk i j:=by
 rcases h with⟨h1,h2⟩ | ⟨h1,h2⟩
 ·exact .of_left (intBits_le_64 h1 h2)
 ·exact .of_right (intBits_le_64 h1 h2)
def NG:OpR X (aaQ .Add) (Ea λi j=> .int (i+j)):=QF λ_ _ _ _ _ _ _ q=>add_int q
def NM:OpR X (aaQ .Sub) (Ea λi j=> .int (i - j)):=QF λ_ _ _ _ _ _ _ q=>sub_int q
def NK:OpR X (aaQ .Mult) (rI CMul λi j=> .int (i*j)):=TH λ_ _ _ _ _ _ _ hc q=>mul_int q hc.ok
def KI:OpR X (aaQ .FloorDiv) (rI OV λi j=> .int (i / j)):=TH λi j _ _ _ _ _ hc q=>by
 have h1:(0:Int)<j:=hc.1;have h2:j<1073741824:=hc.2;exact floordiv_int (by omega) (by rw[Int.fdiv_eq_ediv_of_nonneg i (by omega)];exact q) (.inl (PyProof.noPylong_small (by omega)))
def NJ:OpR X (aaQ .Mod) (rI (λ_ j=>0<j) λi j=> .int (i % j)):=TH λi j _ _ _ _ _ hc q=>by
 have h1:(0:Int)<j:=hc;exact mod_int' (by omega) (by rw[Int.fmod_eq_emod_of_nonneg i (by omega)];exact q)
end
section
variable{X:Cx}{a b c:Expr}{ta tb tc:TE}{pos:Pos}
def ML{f8:List (Addr×Obj)}{σ:St}{H:Hp}{s:Yc}{Q:VK}{k k':Bool}(I:Inv X f8 σ H s)(q:Q (.bl k) H)(e:k=k'):EP X f8 σ Q (.bool k') s:=by
 subst e;exact⟨.bl k,H,I,rfl,q⟩
def HX:OpR X (Zf .Lt) (Ea λi j=> .bl (decide (i<j))):=NF λ_ _ _ _ _ _ _ q=>lt_int q
def vR:OpR X (Zf .LtE) (Ea λi j=> .bl (decide (i<=j))):=NF λ_ _ _ _ _ _ _ q=>le_int q
def Mb:OpR X (Zf .Gt) (Ea λi j=> .bl (decide (j<i))):=NF λ_ _ _ _ _ _ _ q=>gt_int q
def vQ:OpR X (Zf .In) (λx y H Q=>∃i j,x= .str i/\y= .str j/\Q (.bl (!(Ze j i 0 j.length 1).isEmpty)) H):=by
 intro f8 s σ H x y v u Q I rx ry h;obtain⟨i,j,rfl,rfl,q⟩:=h;obtain⟨t,rfl⟩:=rx;obtain⟨t',rfl⟩:=ry;exact in_str (ML I q rfl)
def OpR.or{f:Value->Value->Sem Value}{r r':R2}(h:OpR X f r)(h':OpR X f r'):OpR X f (λx y H Q=>r x y H Q\/r' x y H Q):=by
 intro f8 s σ H x y v u Q I rx ry q;rcases q with q | q
 ·exact h f8 s σ H x y v u Q I rx ry q
 ·exact h' f8 s σ H x y v u Q I rx ry q
def HG(b:Expr){op:CmpOp}(h:op≠ .In:=by decide)(h2:op≠ .NotIn:=by decide):Y3 op b=μ:=by
 have e1:(op==CmpOp.In)=μ:=by cases op<;>first | rfl | exact ael rfl h
 have e2:(op==CmpOp.NotIn)=μ:=by cases op<;>first | rfl | exact ael rfl h2
 cases b<;>simp[Y3,e1,e2]
def K3{op:CmpOp}{r:R2}(ho:OpR X (Zf op) r)(ha:PE X a ta)(hb:PE X b tb)(hm:Y3 op b=μ):PE X (.Compare a [op] [b] pos) (Rh r ta tb):=by
 intro f8 s σ H Q I h;exact wpAny_Compare1 (Mx ha hb I h λv u s2 x y H2 I2 rx ry q=>ho f8 s2 σ H2 x y v u Q I2 rx ry q) hm
def Mo(t:TE):TT:=λσ H Q=>t σ H λx H'=>∃k,x= .bl k/\Q k H'
def La{op:CmpOp}{r:R2}(ho:OpR X (Zf op) r)(ha:PE X a ta)(hb:PE X b tb)(hm:Y3 op b=μ):PT X (.Compare a [op] [b] pos) (Mo (Rh r ta tb)):=by
 intro f8 s σ H Q I h;refine wpAny_isTrue_Compare1 (cJ (ha f8 s σ H _ I h) λv s1 ⟨x,H1,I1,r1,q1⟩=>cJ (hb f8 s1 σ H1 _ I1 q1) λu s2 ⟨y,H2,I2,r2,q2⟩=>
  cJ (ho f8 s2 σ H2 x y v u _ I2 r1 r2 q2) λc s3 ⟨z,H3,I3,r3,k,e,q3⟩=>?_) hm
 subst e;cases r3;exact Zx ⟨H3,I3,q3⟩
def Cs(r r':R2)(ta tb tc:TE):TE:=λσ H Q=>ta σ H λx H1=>tb σ H1 λy H2=>r x y H2 λz H3=>∃k,z= .bl k/\
 (if k=ψ then tc σ H3 λw' H4=>r' y w' H4 Q else Q (.bl μ) H3)
def Il{op Fg:CmpOp}{r r':R2}(ho:OpR X (Zf op) r)(vz:OpR X (Zf Fg) r')(ha:PE X a ta)(hb:PE X b tb)(hc:PE X c tc)
 (hm:lastMarks [op,Fg] [b,c]=μ:=by with_unfolding_all rfl):PE X (.Compare a [op,Fg] [b,c] pos) (Cs r r' ta tb tc):=by
 intro f8 s σ H Q I h;refine Compare_chain (cJ (ha f8 s σ H _ I h) λv s1 ⟨x,H1,I1,r1,q1⟩=>chain_link (cJ (hb f8 s1 σ H1 _ I1 q1) λu s2 ⟨y,H2,I2,r2,q2⟩=>
  cJ (ho f8 s2 σ H2 x y v u _ I2 r1 r2 q2) λd s3 ⟨z,H3,I3,r3,k,e,q3⟩=>?_)) hm
 subst e;cases r3;refine Zx ?_;cases k with
 |false=>exact ite_ff ⟨.bl μ,H3,I3,rfl,q3⟩
 |true=>exact ite_tt (chain_last (cJ (hc f8 s3 σ H3 _ I3 q3) λw' s4 ⟨z',H4,I4,r4,q4⟩=>vz f8 s4 σ H4 y z' u w' Q I4 r2 r4 q4))
def IA{op Fg:CmpOp}{r r':R2}(ho:OpR X (Zf op) r)(vz:OpR X (Zf Fg) r')(ha:PE X a ta)(hb:PE X b tb)(hc:PE X c tc)
 (hm:lastMarks [op,Fg] [b,c]=μ:=by with_unfolding_all rfl):PT X (.Compare a [op,Fg] [b,c] pos) (Mo (Cs r r' ta tb tc)):=by
 intro f8 s σ H Q I h;refine isTrue_chain (cJ (ha f8 s σ H _ I h) λv s1 ⟨x,H1,I1,r1,q1⟩=>test_link (cJ (hb f8 s1 σ H1 _ I1 q1) λu s2 ⟨y,H2,I2,r2,q2⟩=>
  cJ (ho f8 s2 σ H2 x y v u _ I2 r1 r2 q2) λd s3 ⟨z,H3,I3,r3,k,e,q3⟩=>?_)) hm
 subst e;cases r3;refine Zx ?_;cases k with
 |false=>
  obtain⟨k',e',q'⟩:=q3;cases e';exact ite_ff ⟨H3,I3,q'⟩
 |true=>
  refine ite_tt (test_last (cJ (hc f8 s3 σ H3 _ I3 q3) λw' s4 ⟨z',H4,I4,r4,q4⟩=>cJ (vz f8 s4 σ H4 y z' u w' _ I4 r2 r4 q4) λd' s5 ⟨z2,H5,I5,r5,k2,e2,q5⟩=>?_));subst e2;cases r5;exact Zx ⟨H5,I5,q5⟩
def O3(K:Ym)(x:V)(H:Hp)(k:Bool):Prop:=
 match x with
 | .non=>k=μ
 | .bl b=>k=b
 | .int i=>k=(i !=0)
 | .str y=>y.length<=Yv/\k=((y.length:Int) !=0)
 | .byt y=>y.size<=Yv/\k=((y.size:Int) !=0)
 | .ref p=>(∃xs,SqL K H p xs/\k=!xs.isEmpty)\/(∃xs,SqT K H p xs/\k=!xs.isEmpty)\/∃kvs,H p=θ (.dK kvs)/\k=!kvs.isEmpty
 |_=>False
def BM{κ:Type}{kvs:List (κ×V)}{vs:List (κ×Value)}(r:KV kvs vs):(!vs.isEmpty)=!kvs.isEmpty:=by
 cases r<;>rfl
def sf{xs:List V}{aS:List Value}(r:Vals xs aS):(!aS.toArray.isEmpty)=!xs.isEmpty:=by
 cases r<;>simp
def oK:(Yv:Nat)<2 ^ 63:=by rw[ZJ];decide
def OB:R7 X (λx H Q=>∃k,O3 X.K x H k/\Q k H):=by
 intro f8 s σ H x v Q I rx h;obtain⟨k,e,q⟩:=h;have hl:=oK;have hs:Yv=16777216:=ZJ;cases x with
 |non=>
  cases rx;have e':k=μ:=e;subst e';exact truthy_none ⟨H,I,q⟩
 |bl b=>
  cases rx;have e':k=b:=e;subst e';exact Zx ⟨H,I,q⟩
 |int i=>
  obtain⟨t,rfl⟩:=rx;have e':k=(i !=0):=e;subst e';exact PySem.P.truthy_int ⟨H,I,q⟩
 |str y=>
  obtain⟨t,rfl⟩:=rx;obtain⟨hy,e'⟩:y.length<=Yv/\k=((y.length:Int) !=0):=e;subst e';exact PySem.P.truthy_str (by omega) ⟨H,I.tok _,q⟩
 |byt y=>
  obtain⟨t,rfl⟩:=rx;obtain⟨hy,e'⟩:y.size<=Yv/\k=((y.size:Int) !=0):=e;subst e';exact PySem.W.truthy_bytes (by omega) ⟨H,I.tok _,q⟩
 |ref p=>
  cases rx;have e':(∃xs,SqL X.K H p xs/\k=!xs.isEmpty)\/(∃xs,SqT X.K H p xs/\k=!xs.isEmpty)\/∃kvs,H p=θ (.dK kvs)/\k=!kvs.isEmpty:=e;rcases e' with⟨xs,hx,e'⟩ | ⟨xs,hx,e'⟩ | ⟨kvs,hx,e'⟩
  ·subst e';obtain⟨aS,r,pl,hz⟩:=I.list hx;have v6:=r.length;exact wpAny_truthy_list pl.isList (by simp only[Yj];omega) ⟨H,I.tok _,by rw[sf r];exact q⟩
  ·subst e';obtain⟨aS,r,pl,hz⟩:=I.tuple hx;have v6:=r.length;exact truthy_tuple pl (by simp only[Yj];omega) ⟨H,I.tok _,by rw[sf r];exact q⟩
  ·subst e';obtain⟨hz,hS,vs,r,m⟩:kvs.length<=Yv/\(p==Zy)=μ/\∃vs,KV kvs vs/\s.heap.DictOf (bM X.prog X.w) p vs:=I.hok p _ hx;have v6:kvs.length=vs.length:=ZV r;exact wpAny_truthy_dict hS m (by omega) ⟨H,I.tok _,by rw[BM r];exact q⟩
 |_=>exact(show False from e).elim
def ID(ha:PE X a ta)(he:∀whole,isTrue a X.env whole=(do let v<-whole;standAt a.pos;holding [v] (truthy v))):
 PT X a (λσ H Q=>ta σ H λx H'=>∃k,O3 X.K x H' k/\Q k H'):=by
 intro f8 s σ H Q I h;exact isTrue_plain (cJ (ha f8 s σ H _ I h) λv s1 ⟨x,H1,I1,r1,q1⟩=>OB f8 s1 σ H1 x v Q I1 r1 q1) (he _)
def vals1{x:V}{us:List Value}(r:Vals [x] us):∃u,us=[u]/\RelV x u:=by
 cases r with
 |cons r1 r2=>cases r2;exact⟨_,rfl,r1⟩
def vals2{x y:V}{us:List Value}(r:Vals [x,y] us):∃u w',us=[u,w']/\RelV x u/\RelV y w':=by
 cases r with
 |cons r1 r2=>
  cases r2 with
  |cons r3 r4=>cases r4;exact⟨_,_,rfl,r1,r3⟩
def Gg:CallR X (.builtin "abs") (λxs H Q=>∃i,xs=[.int i]/\Q (.int (if i<0 then -i else i)) H):=by
 intro f8 s σ H xs us Q I r h;obtain⟨i,rfl,q⟩:=h;obtain⟨u,rfl,t,rfl⟩:=vals1 r;exact call_abs_int λu tk=>⟨.int (if i<0 then -i else i),H,I.tok _,⟨_,rfl⟩,q⟩
def Ex(hc:X.calm=ψ):CallR X (.builtin "max") (λxs H Q=>∃i j,xs=[.int i, .int j]/\Q (.int (if j>i then j else i)) H):=by
 intro f8 s σ H xs us Q I r h;obtain⟨i,j,rfl,q⟩:=h;obtain⟨u,w',rfl,⟨t,rfl⟩,⟨t',rfl⟩⟩:=vals2 r;refine max_two_ints (I.ok.hd hc) λh' tk k=>⟨_,H,I.kept k,?_,q⟩
 by_cases hj:j>i
 ·rw[aef hj,aef hj];exact⟨_,rfl⟩
 ·rw[aeh hj,aeh hj];exact⟨_,rfl⟩
def Ey(hc:X.calm=ψ):CallR X (.builtin "min") (λxs H Q=>∃i j,xs=[.int i, .int j]/\Q (.int (if j<i then j else i)) H):=by
 intro f8 s σ H xs us Q I r h;obtain⟨i,j,rfl,q⟩:=h;obtain⟨u,w',rfl,⟨t,rfl⟩,⟨t',rfl⟩⟩:=vals2 r;refine min_two_ints (I.ok.hd hc) λh' tk k=>⟨_,H,I.kept k,?_,q⟩
 by_cases hj:j<i
 ·rw[aef hj,aef hj];exact⟨_,rfl⟩
 ·rw[aeh hj,aeh hj];exact⟨_,rfl⟩
end
structure ObjM (h:Heap) (x dx C:Addr) (mA:Str->Option Value):Prop where
 obj:h.get? x=θ (acv C dx)
 ns:h.Ns1 dx mA
 ne:dx≠x
def E5{h:Heap}{dx:Addr}{mA:Str->Option Value}(n:h.Ns1 dx mA):∃od,h.get? dx=θ od/\∀name,acD name od=θ (mA name):=by
 obtain⟨o,es,ep,ho,hd,hk,_,hm⟩:=n;refine⟨o,ho,λname=>?_⟩;have e:=hm name;unfold nsFind findBy at e;rw[<-Array.find?_toList] at e;unfold acD;rw[hd]
 dsimp only
 split
 ·rename_i y q;rw[q] at e;exact aeo θ e
 ·rename_i q;rw[q] at e;have a:es.toList.any (·.refKey)=μ:=by
   rw[List.any_eq_false];intro y hy;obtain⟨z,t,J_⟩:=hk y (Array.mem_toList_iff.mp hy);simp[DictEntry.refKey,J_]
  have a':¬es.toList.any (·.refKey)=ψ:=by rw[a];exact YI
  rw[aeh a'];exact aeo θ e
def ObjM.look{h:Heap}{x dx C:Addr}{mA:Str->Option Value}(I:ObjM h x dx C mA):∃od,PySem.W.InstAt h x (acv C dx) C (θ od)/\∀name,acD name od=θ (mA name):=
 let ⟨od,ho,hl⟩:=E5 I.ns
 ⟨od,⟨I.obj,rfl,rfl,ho⟩,hl⟩
def RelO.some_of{v:V}{o:Option Value}(r:RelO (θ v) o):∃u,o=θ u/\RelV v u:=by
 cases o with
 |none=>exact(show False from r).elim
 |some u=>exact⟨u,rfl,r⟩
def RelO.none_of{o:Option Value}(r:RelO ω o):o=ω:=by
 cases o with
 |none=>rfl
 |some u=>exact(show False from r).elim
section
variable{P:YM}{w:World}{H:Hp}{h:Heap}{a C dx:Addr}{fs:List (Str×V)}
def Kh(hok:HOk P w H h)(e:H a=θ (.ins C dx fs)):∃mA,ObjM h a dx C mA/\(∀f,RelO (fs.lookup f) (mA f))/\PySem.Within mA (fs.map (·.1))/\fs.length<=1000/\H dx=θ (.own a):=by
 obtain⟨d,z,ne,ob,mA,n,r,q⟩:=(show ObjOk P w H h a (.ins C dx fs) from hok a _ e)
 exact⟨mA,⟨ob,n,ne⟩,r,q,z,d⟩
end
structure Cls (K:Ym) (C:Addr):Prop where
 pg:adP K C Str.empty=ψ
 hd:PySem.W.hasDictIn K C=ψ
 po:PySem.W.plainOver K C=ψ
 sa:ad9 K (.ref C) "__setattr__"=θ (θ (.builtin "object.__setattr__"))
def Cls.get{K:Ym}{C:Addr}(c:Cls K C)(f:Str):adP K C f=ψ:=c.pg
section
variable{X:Cx}{f8:List (Addr×Obj)}{σ:St}{H:Hp}{s:Yc}{A:Y7}{E:Value->Yc->Prop}{Q:Value->Yc->Prop}{c:Value}{b:Bool}
inductive TyOf (K:Ym) (H:Hp):V->Value->Prop where
 |non:TyOf K H .non (.type "NoneType")
 |bl (x:Bool):TyOf K H (.bl x) (.type "bool")
 |int (i:Int):TyOf K H (.int i) (.type "int")
 |str (x:Str):TyOf K H (.str x) (.type "str")
 |flt (x:UInt64):TyOf K H (.flt x) (.type "float")
 |lst {a:Addr}{xs:List V}(e:H a=θ (.lst xs)):TyOf K H (.ref a) (.type "list")
 |frz {a:Addr}{o:Obj}{xs:List V}(e:H a=θ (.frz o (.lst xs))):TyOf K H (.ref a) (.type "list")
 |tup {a:Addr}{xs:List V}(e:H a=θ (.tup xs)):TyOf K H (.ref a) (.type "tuple")
 |dK {a:Addr}{kvs:List (Key×V)}(e:H a=θ (.dK kvs)):TyOf K H (.ref a) (.type "dict")
 |dT {a:Addr}{kvs:List (List Key×V)}(e:H a=θ (.dT kvs)):TyOf K H (.ref a) (.type "dict")
 |ins {a C dx:Addr}{fs:List (Str×V)}(e:H a=θ (.ins C dx fs)) (cl:Cls K C) (ha:ad9 K (.ref C) "__class__"=θ (θ (.builtin "object.__class__")))
   (hn:PySem.W.specialIn K (.builtin "object.__class__") "__get__"=θ (θ (.builtin "getset_descriptor.__get__"))) (U9:PySem.W.takesIn K (.builtin "object.__class__")=θ ψ)
   (hm:PySem.W.mroIn K C (.type "object")=θ ψ):TyOf K H (.ref a) (.ref C)
def EV{x:V}{u t:Value}(I:Inv X f8 σ H s)(rx:RelV x u)(ty:TyOf X.K H x t)(e:acE X.K t c=θ b)(h:∀tk,Q (.bool b) {s with toks:=tk}):
 wpAny (model X.prog X.w) A (call (.builtin "isinstance") [u,c]) Q E s:=by
 cases ty with
 |non=>cases (show u=Y8 from rx);exact Zn PySem.W.kitx_none I.kIn ZR e (λz=>nomatch z) h
 |bl y=>cases (show u=aa0 y from rx);exact Zn PySem.W.kitx_bool I.kIn ZR e (λz=>nomatch z) h
 |int i=>obtain⟨t,q⟩:=(show∃t,u=adp i t from rx);cases q;exact Zn PySem.W.kitx_int I.kIn ZR e (λz=>nomatch z) h
 |str y=>obtain⟨t,q⟩:=(show∃t,u=ado y t from rx);cases q;exact Zn PySem.W.kitx_str I.kIn ZR e (λz=>nomatch z) h
 |flt y=>obtain⟨t,q⟩:=(show∃t,u=Value.float y t from rx);cases q;exact Zn PySem.W.kitx_float I.kIn ZR e (λz=>nomatch z) h
 | @lst a xs ea=>
   cases (show u=YY a from rx);obtain⟨_,_,n,_,h1⟩:=(show ObjOk X.prog X.w H s.heap a (.lst xs) from I.hok a _ ea)
   exact Zn adD I.kIn ⟨_,h1,rfl⟩ e (λz=>nomatch z) h
 | @frz a ob xs ea=>
   cases (show u=YY a from rx);obtain⟨_,_,_,n,_,h1⟩:=(show ObjOk X.prog X.w H s.heap a (.frz ob (.lst xs)) from I.hok a _ ea)
   exact Zn adD I.kIn ⟨_,h1,rfl⟩ e (λz=>nomatch z) h
 | @tup a xs ea=>
   cases (show u=YY a from rx);obtain⟨_,_,_,p⟩:=(show ObjOk X.prog X.w H s.heap a (.tup xs) from I.hok a _ ea)
   obtain⟨o,h1,h2,_⟩:=p;exact Zn PySem.W.kitx_tuple I.kIn ⟨o,h1,h2⟩ e (λz=>nomatch z) h
 | @dK a kvs ea=>
   cases (show u=YY a from rx);obtain⟨_,_,vs,_,p⟩:=(show ObjOk X.prog X.w H s.heap a (.dK kvs) from I.hok a _ ea)
   obtain⟨o,es,ep,h1,h2,_⟩:=p;exact Zn adE I.kIn ⟨o,h1,h2.1⟩ e (λz=>nomatch z) h
 | @dT a kvs ea=>
   cases (show u=YY a from rx);obtain⟨_,_,xs,_,o,es,ep,h1,h2,_⟩:=(show ObjOk X.prog X.w H s.heap a (.dT kvs) from I.hok a _ ea)
   exact Zn adE I.kIn ⟨o,h1,h2.1⟩ e (λz=>nomatch z) h
 | @ins a C dx fs ea cl ha hn U9 hm=>
   cases (show u=YY a from rx);obtain⟨mA,O,_⟩:=Kh I.hok ea;obtain⟨od,J,_⟩:=O.look;exact Zn (PySem.W.kitx_own (cl.get _) cl.hd ha hn U9 hm) I.kIn J e (λz=>nomatch z) h
end
structure Room (k:Nat) (A:Y7):Prop where
 hd:A.handled=ω
 dp:A.depth+3*k+5<adz
 un:A.units+16*k+200<cLine
def Room.mono{j k:Nat}{A:Y7}(r:Room k A)(h:j<=k):Room j A:=⟨r.hd,by have:=r.dp;omega,by have:=r.un;omega⟩
theorem Room.deeper{k:Nat}{A:Y7}(r:Room (k+1) A)(env:Env):Room k (A.deeper env):=
 ⟨r.hd,by have:=r.dp;show A.depth+1+3*k+5<_;omega,by have:=r.un;show A.units+3+16*k+200<_;omega⟩
theorem Room.depth{k:Nat}{A:Y7}(r:Room k A):A.depth<adz:=by have:=r.dp;omega
theorem Room.units{k:Nat}{A:Y7}(r:Room k A):A.units+64<cLine:=by have:=r.un;omega
def Oz:TA:=λ_ H Q=>Q [] H
def Jg(ta:TE)(tr:TA):TA:=λσ H Q=>ta σ H λx H1=>tr σ H1 λxs H2=>Q (x::xs) H2
section
variable{X:Cx}{e:Expr}{es:List Expr}{te:TE}{t:TA}{pos:Pos}
def xM:PA X [] Oz:=λ_ _ _ _ H Q I h=>aax ⟨[],H,I, .nil,h⟩
def xK(ha:PE X e te)(hr:PA X es t)(hs:Yw (e::es) X.env=(μ,eval e X.env)::Yw es X.env:=by rfl):PA X (e::es) (Jg te t):=by
 intro pos f8 s σ H Q I h;rw[hs];show wpAny _ _ (spliced ((μ,eval e X.env)::aae pos (Yw es X.env))) _ _ s;refine Z6 (cJ (ha f8 s σ H _ I h) λu s1 ⟨x,H1,I1,r1,q1⟩=>?_);exact cJ (hr pos f8 s1 σ H1 _ I1 q1) λus s2 ⟨xs,H2,I2,r2,q2⟩=>⟨x::xs,H2,I2, .cons r1 r2,q2⟩
def T7(t:TA):TE:=λσ H Q=>t σ H λxs H1=>xs.length<=Yv/\∀p,H1 p=ω->Q (.ref p) (upd H1 p (.tup xs))
def T2(t:TA):TE:=λσ H Q=>t σ H λxs H1=>xs.length<=Yv/\∀p,H1 p=ω->Q (.ref p) (upd H1 p (.lst xs))
def N2{x1}(h:PA X es t):PE X (.Tuple es x1 pos) (T7 t):=by
 intro f8 s σ H Q I hq;refine wpAny_Tuple_spliced (cJ (h pos f8 s σ H _ I hq) λus s1 ⟨xs,H1,I1,r,z,q⟩=>⟨by rw[<-r.length];exact z,?_⟩);have hf:H1 s1.heap.objs.size=ω:=I1.hok.fresh (X_ _);refine⟨.ref s1.heap.objs.size,upd H1 s1.heap.objs.size (.tup xs),I1.laid (t':=s1.toks) (λb u e=>X8 _ e) (X_ _) ?_,rfl,q _ hf⟩;exact⟨z,us,r,⟨_,Yy _ rfl,rfl,_,rfl⟩⟩
def Ip(h:PA X es t):PE X (.List es pos) (T2 t):=by
 intro f8 s σ H Q I hq;refine wpAny_List_spliced (cJ (h pos f8 s σ H _ I hq) λus s1 ⟨xs,H1,I1,r,z,q⟩=>⟨by rw[<-r.length];exact z,?_⟩);have hf:H1 s1.heap.objs.size=ω:=I1.hok.fresh (X_ _);refine⟨.ref s1.heap.objs.size,upd H1 s1.heap.objs.size (.lst xs),I1.laid (t':=s1.toks) (λb u e=>X8 _ e) (X_ _) ?_,rfl,q _ hf⟩;exact⟨z,us,0,r,Yy _ rfl⟩
end
abbrev Sp:=List V->Hp->VK->XK->Prop
abbrev CG:=List Env->Hp->Yc->XK->Value->Yc->Prop
structure Env0 (P:YM) (w:World) (K:Ym) (mg:Str->Option Value) (base:Heap) (A:Y7) (outer:List Env) (s:Yc) (H:Hp):Prop where
 frames:A.frames=θ outer
 mod:Mod K mg base
 bs:∀b o,base.get? b=θ o->s.heap.get? b=θ o/\H b=ω
 bsz:base.objs.size<=s.heap.objs.size
 funs:s.heap.FunFrames base outer
 frf:∀b∈qU outer,H b=ω
 hok:HOk P w H s.heap
 bare:ab_ s.gens
def CE(outer:List Env)(P:YM)(w:World)(H:Hp)(s:Yc)(Q:VK)(u:Value)(s':Yc):Prop:=
 ∃v H',s'.os=s.os/\ab_ s'.gens/\Un (qU outer) [] H H' s.heap s'.heap/\HOk P w H' s'.heap/\RelV v u/\Q v H'
def CR(CX:CG)(outer:List Env)(P:YM)(w:World)(H:Hp)(s:Yc)(Q:VK)(E:XK)(r:Result)(s':Yc):Prop:=
 match r with
 | .ok (.ret u)=>CE outer P w H s Q u s'
 | .ok _=>False
 | .error e=>CX outer H s E e s'
structure FnOk (P:YM) (w:World) (K:Ym) (mg:Str->Option Value) (base:Heap) (CX:CG) (k:Nat) (f:Addr) (fd:aat) (ps:List Str) (sp:Sp):Prop where
 len:∀vs H Q E,sp vs H Q E->vs.length=ps.length
 run:∀(A:Y7) (outer:List Env) (s:Yc) (H:Hp) (args:Args) (us:List Value) (vs:List V) (Q:VK) (E:XK),Room k A->Env0 P w K mg base A outer s H->ad6 s fd args (ps.zip us)->Vals vs us->sp vs H Q E->
  adn (model P w) A (.call (.ref f) args) (CR CX outer P w H s Q E) s
theorem FnOk.mono{P:YM}{w:World}{K:Ym}{mg:Str->Option Value}{base:Heap}{CX:CG}{j k:Nat}{f:Addr}{fd:aat}{ps:List Str}{sp:Sp}(F:FnOk P w K mg base CX j f fd ps sp)(h:j<=k):
 FnOk P w K mg base CX k f fd ps sp:=⟨F.len,λA outer s H args us vs Q E hr=>F.run A outer s H args us vs Q E (hr.mono h)⟩
section
variable{X:Cx}{f8:List (Addr×Obj)}{σ:St}{H:Hp}{s s':Yc}
def Inv.env0(I:Inv X f8 σ H s):Env0 X.prog X.w X.K X.mg X.base X.A X.stack s H:=
 ⟨I.ok.frames,I.ok.mod,I.bs,Yz I.ok.bsz I.sz,I.stack,I.stkFree,I.hok,I.bare⟩
def Inv.after{Q:VK}{u:Value}(I:Inv X f8 σ H s)(h:CE X.stack X.prog X.w H s Q u s'):EP X f8 σ Q u s':=by
 obtain⟨v,H',os,bare,un,hok,r,q⟩:=h;obtain⟨hh,g,d,t,Xx⟩:=s';obtain rfl:Xx=s.os:=os;exact⟨v,H',I.call (h':=hh) (g':=g) (d':=d) (t':=t) (ch:=[]) un hok bare (λb z=>ael z (by simp)),r,q⟩
end
def Q9(sp:Sp)(LN:List V)(E:XK)(t:TA):TE:=λσ H Q=>t σ H λvs H1=>sp (vs++LN) H1 Q E
def Binds(K:Ym)(fd:aat)(ps:List Str)(ds:List Value):Prop:=
 ∀(s:Yc) (us:List Value),K.In s.heap->(us++ds).length=ps.length->ad6 s fd ⟨us,[]⟩ (ps.zip (us++ds))
def Binds.all{K:Ym}{fd:aat}{ps:List Str}(h:∀us:List Value,us.length=ps.length->bindArgs fd ⟨us,[]⟩=pure (ps.zip us)):Binds K fd ps []:=λs us _ hl=>by
 rw[Zk] at hl⊢;exact .of_eq (h us hl)
def Passes(CX:CG)(X:Cx)(E:XK):Prop:=∀(f8:List (Addr×Obj)) (σ:St) (H:Hp) (s:Yc) (e:Value) (s':Yc),Inv X f8 σ H s->CX X.stack H s E e s'->X.xe e s'
section
variable{X:Cx}{CX:CG}{k:Nat}{f:Addr}{fd:aat}{ps:List Str}{sp:Sp}{LN:List V}{ds:List Value}{E:XK}{x:Str}{p pos:Pos}{e:Expr}{es:List Expr}{t:TA}
def Om{f8:List (Addr×Obj)}{σ:St}{H:Hp}{s:Yc}{Q:VK}{us:List Value}{vs:List V}(F:FnOk X.prog X.w X.K X.mg X.base CX k f fd ps sp)(hr:Room k X.A)(hb:Binds X.K fd ps ds)(hd:Vals LN ds)(hx:Passes CX X E)
 (I:Inv X f8 σ H s)(r:Vals vs us)(h:sp (vs++LN) H Q E):wpAny (model X.prog X.w) X.A (call (.ref f) us) (EP X f8 σ Q) X.xe s:=by
 have r2:Vals (vs++LN) (us++ds):=r.append hd;have hl:(us++ds).length=ps.length:=by rw[<-r2.length];exact F.len _ _ _ _ h
 refine wpAny_call (acZ (F.run X.A X.stack s H ⟨us,[]⟩ (us++ds) (vs++LN) Q E hr I.env0 (hb s us I.kIn hl) r2 h) λr s' hq=>?_);cases r with
 |error e=>exact hx f8 σ H s e s' I hq
 |ok fl=>
  cases fl with
  |ret u=>exact I.after hq
  |next=>exact Z3 hq
  |brk=>exact Z3 hq
  |cont=>exact Z3 hq
def K2(F:FnOk X.prog X.w X.K X.mg X.base CX k f fd ps sp)(hr:Room k X.A)(hg:Gl X x)(hm:X.mg x=θ (.ref f))(hk:ZX X.K (.ref f)=ψ)(hb:Binds X.K fd ps ds)(hd:Vals LN ds)(hx:Passes CX X E)
 (ha:PA X (e::es) t)(xa:(x==("__debug__":Str))=μ:=by decide)(he:Yw (e::es) X.env=(μ,eval e X.env)::Yw es X.env:=by rfl)(uI:(aae pos (Yw es X.env)).any (·.1)=μ:=by rfl):
 PE X (.Call (.Name x p) (e::es) [] pos) (Q9 sp LN E t):=by
 intro f8 s σ H Q I h;refine aaB (Dp I hg hm ?_ xa);refine PySem.W.callWith_K (h₀:=X.base) I.ok.mod.kin hk (cJ (ha pos f8 s σ H _ I h) λus s1 ⟨vs,H1,I1,r,q⟩=>⟨I1.kIn,?_⟩) he uI;exact Om F hr hb hd hx I1 r q
end
section
variable{ks:List Str}
end
structure FnScope (N P:List Str) (sc:Scope):Prop where
 kind:sc.kind= .function
 co:sc.isCoroutine=μ
 gen:sc.isGenerator=μ
 nd:N.Nodup
 pre:N.take P.length=P
 par:∀x∈P,sc.names.lookup x=θ .local\/sc.names.lookup x=θ .cell
 nofree:∀y∈sc.names,y.2≠ .free
theorem vh{abO:Str->Option abb}{x:Str}:∀{binds:List (Str×Value)}{m:Str->Option Value},(∀v,(x,v)∉binds)->bindL abO binds m x=m x
 |[],_,_=>rfl
 |(n,v)::r,m,h=>by
  unfold bindL;rw[vh λw hw=>h w (X4 _ hw)];split
  ·have:x≠n:=by rintro rfl;exact h v X5
   simp[this]
  ·rfl
theorem vf{abO:Str->Option abb}{x:Str}:∀{binds:List (Str×Value)}{m:Str->Option Value},(∀v,(x,v)∉binds)->bindC abO binds m x=m x
 |[],_,_=>rfl
 |(n,v)::r,m,h=>by
  unfold bindC;rw[vf λw hw=>h w (X4 _ hw)];split
  ·rfl
  ·have:x≠n:=by rintro rfl;exact h v X5
   simp[this]
theorem vg{abO:Str->Option abb}{x:Str}{v:Value}:∀{P:List Str}{vs:List Value}{i:Nat}{m:Str->Option Value},P.Nodup->P[i]? =θ x->vs[i]? =θ v->abO x=θ .local->
 bindL abO (P.zip vs) m x=θ v
 |[],_,_,_,_,h,_,_=>by simp at h
 |_::_,[],_,_,_,_,h,_=>by simp at h
 |p::P,w::vs,0,m,nd,h1,h2,hk=>by
  simp at h1 h2;subst h1;subst h2;show bindL abO ((p,w)::P.zip vs) m p=_;unfold bindL;rw[vh λv hv=>(YZ.mp nd).1 (abv hv).1,aef hk];simp
 |p::P,w::vs,i+1,m,nd,h1,h2,hk=>by
  show bindL abO ((p,w)::P.zip vs) m x=_;unfold bindL;exact vg (i:=i) (YZ.mp nd).2 (by simpa using h1) (by simpa using h2) hk
theorem ve{abO:Str->Option abb}{x:Str}{v:Value}:∀{P:List Str}{vs:List Value}{i:Nat}{m:Str->Option Value},P.Nodup->P[i]? =θ x->vs[i]? =θ v->abO x≠θ .local->
 bindC abO (P.zip vs) m x=θ v
 |[],_,_,_,_,h,_,_=>by simp at h
 |_::_,[],_,_,_,_,h,_=>by simp at h
 |p::P,w::vs,0,m,nd,h1,h2,hk=>by
  simp at h1 h2;subst h1;subst h2;show bindC abO ((p,w)::P.zip vs) m p=_;unfold bindC;rw[vf λv hv=>(YZ.mp nd).1 (abv hv).1,aeh hk];simp
 |p::P,w::vs,i+1,m,nd,h1,h2,hk=>by
  show bindC abO ((p,w)::P.zip vs) m x=_;unfold bindC;exact ve (i:=i) (YZ.mp nd).2 (by simpa using h1) (by simpa using h2) hk
def start(N:List Str)(vs:List V):St:=vs.map θ++Y4 (N.length - vs.length) ω
def d9(CX:CG)(P:YM)(w:World)(K:Ym)(mg:Str->Option Value)(base:Heap)(N:List Str)(qual:Str)(scope:Scope)(f:Addr)(cd:Value)(A:Y7)(outer:List Env)(s:Yc)(H:Hp)(E:XK):Cx where
 prog:=P
 w:=w
 K:=K
 mg:=mg
 base:=base
 A:=A.deeper (ZU qual scope s.heap.objs.size f cd)
 N:=N
 aeq:=s
 aep:=H
 env:=ZU qual scope s.heap.objs.size f cd
 outer:=outer
 stack:=ZU qual scope s.heap.objs.size f cd::outer
 ex:=[]
 calm:=ψ
 fn:=λ_=>ψ
 pn:=[]
 xe:=λe s'=>wpAny (model P w) (A.deeper (ZU qual scope s.heap.objs.size f cd)) (leaving (ZU qual scope s.heap.objs.size f cd) e) (λ_ RS=>CX outer H s E e RS) (λe' RS=>CX outer H s E e' RS) s'
def yZ{sc:Scope}{n:Nat}{x:Str}(h:sc.names.lookup x=θ .cell):∃c,(cellsFrom n sc.names []).lookup x=θ c:=by
 have q:=ac1 sc.names n [] (.inl h);exact aai.mp q
def ES{CX:CG}{P:YM}{w:World}{K:Ym}{mg:Str->Option Value}{base:Heap}{N ps:List Str}{qual:Str}{scope:Scope}{f:Addr}{cd:Value}{A:Y7}{outer:List Env}{s s1:Yc}{H:Hp}{E:XK}{us:List Value}{vs:List V}
 (S:FnScope N ps scope)(hd:A.handled=ω)(e0:Env0 P w K mg base A outer s H)(hl:vs.length=ps.length)(r:Vals vs us)
 (x:InCallC s s.heap.objs.size (bindL (ZU qual scope s.heap.objs.size f cd).kindOf (ps.zip us) λ_=>ω) (cellsFrom (s.heap.objs.size+1) scope.names []) (bindC (ZU qual scope s.heap.objs.size f cd).kindOf (ps.zip us) λ_=>ω) s1):
 Inv (d9 CX P w K mg base N qual scope f cd A outer s H E) [] (start N vs) H s1:=by
 have uI:ps.length<=N.length:=by have:=aeo adT S.pre;rw[ZL] at this;omega
 obtain⟨h1,tk,rfl,hk⟩:=x.done;have QB:∀b:Addr,b∉(d9 CX P w K mg base N qual scope f cd A outer s H E).ex:=λb z=>ael (show b∈([]:List Addr) from z) (by simp);refine⟨⟨e0.mod,S.kind,rfl,rfl,X_ _,λy z c h1 h2=>?_,λy hy=>?_,λy c _ h=>?_,λ_=>hd,Around.frames_deeper e0.frames, .inr ⟨rfl,rfl⟩,λb z=>ael z (QB b),e0.bs,e0.bsz,λb _ _=>QB b,λb z=>ael z (QB b),e0.funs,e0.frf⟩,
  rfl,e0.bare,Un.kept hk,⟨_,x.toInCall.ns,λi y v h1 h2 h3=>?_⟩,λy c h=>⟨_,x.cell y c h⟩,e0.hok.fresh (X_ _),λy c h=>?_,λp hp=>ael (show p∈([]:List (Addr×Obj)) from hp) (by simp),e0.hok.kept hk,?_⟩
 ·exact name_of_addr x.apart (ZD h1) (ZD h2)
 ·have hy:scope.names.lookup y=θ .cell\/scope.names.lookup y=θ .free:=hy;rcases hy with hy | hy
  ·exact yZ hy
  ·exact ael rfl (S.nofree _ (ZD hy))
 ·exact Zm (x.above y c (ZD h))
 ·have hi:i<vs.length:=by
   unfold start at h2;by_cases hi:i<vs.length
   ·exact hi
   ·rw[Y_ (by simpa using hi)] at h2;rw[Z0] at h2;split at h2<;>cases h2
  have ha:vs[i]? =θ v:=by
   unfold start at h2;rw[YV (by simpa using hi),Yl] at h2;cases e:vs[i]? with
   |none=>rw[e] at h2;cases h2
   |some a=>rw[e] at h2;cases h2;rfl
  obtain⟨u,hu,rv⟩:=r.get ha;have hp:ps[i]? =θ y:=by
   rw[<-S.pre,List.getElem?_take_of_lt (by omega)];exact h1
  have Vk:ps.Nodup:=by rw[<-S.pre];exact S.nd.sublist (List.take_sublist _ _)
  refine⟨u,rv,?_⟩;rcases S.par y (YB hp) with k | k
  ·exact .inl ⟨k,vg Vk hp hu k⟩
  ·obtain⟨c,e⟩:=yZ (n:=s.heap.objs.size+1) k;refine .inr ⟨.inl k,c,e,?_⟩;have q:=x.cell y c e;rw[ve Vk hp hu (by show scope.names.lookup y≠_;rw[k];decide)] at q;exact q
 ·exact e0.hok.fresh (Zm (x.above y c (ZD h)))
 ·unfold start;show _=N.length;rw[Yg,X3,abx];omega
def LP{CX:CG}{P:YM}{w:World}{K:Ym}{mg:Str->Option Value}{base:Heap}{k:Nat}{f:Addr}{name qual:Str}{params:Arguments}{body:List Stmt}{scope:Scope}{dV kV doc pm cR ct oc:Value}{an od:Option Addr}
 {KQ:Array (Option Value)}{N ps:List Str}{sp:Sp}(lk:K.lookup f=θ ⟨oc,od, .func (ZH name qual params body scope dV kV doc pm an cR ct),KQ⟩)(Bb:aav K cR qual=ψ)(S:FnScope N ps scope)
 (len:∀vs H Q E,sp vs H Q E->vs.length=ps.length)
 (rX:∀(A:Y7) (outer:List Env) (s:Yc) (H:Hp) (vs:List V) (Q:VK) (E:XK),Room k (A.deeper (ZU qual scope s.heap.objs.size f cR))->sp vs H Q E->
  ∃t,PSs (d9 CX P w K mg base N qual scope f cR A outer s H E) body t/\t {nx:=λ_ H'=>Q .non H',rt:=Q} (start N vs) H):
 FnOk P w K mg base CX (k+1) f (ZH name qual params body scope dV kV doc pm an cR ct) ps sp:=by
 refine⟨len,λA outer s H args us vs Q E hr e0 hb r Jz=>?_⟩;have hl:=len _ _ _ _ Jz;have KX:K.In s.heap:=e0.mod.kin.keeps λb o e=>(e0.bs b o e).1;have lim:s.heap.NoLimit:=e0.mod.nolimit.keeps λb o e=>(e0.bs b o e).1;have zy:∀y∈ps.zip us,scope.names.lookup y.1=θ .local\/(scope.names.lookup y.1=θ .cell/\((cellsFrom (s.heap.objs.size+1) scope.names []).lookup y.1).isSome=ψ):=λ⟨n,v⟩ hy=>by
  rcases S.par n (abv hy).1 with q | q
  ·exact .inl q
  ·exact .inr ⟨q,ac1 _ _ _ (.inl q)⟩
 refine codeAny_call_function hr.depth (KX _ _ lk) rfl S.co S.gen rfl (PySem.W.codeRec_of KX Bb) (hb _ _ _ _ ?_);refine wpAny_newFunctionEnv_cells S.kind zy λenv he s1 x=>?_;subst he;refine⟨lim.keeps x.toInCall.keep,codeAny_func ?_⟩;obtain⟨t,ht,hq⟩:=rX A outer s H vs Q E (hr.deeper _) Jz;have I:Inv (d9 CX P w K mg base N qual scope f cR A outer s H E) [] (start N vs) H s1:=ES S hr.hd e0 hl r x;refine Zj (ht [] s1 (start N vs) H _ I hq) (λfl s' hs=>?_) λe s' hs=>hs;have fin:∀{σ':St}{H':Hp}{v:V}{u:Value},Inv (d9 CX P w K mg base N qual scope f cR A outer s H E) [] σ' H' s'->RelV v u->Q v H'->CE outer P w H s Q u s':=
  λ{σ' H' v u} J rv q=>⟨v,H',J.os,J.bare,J.base,J.hok,rv,q⟩
 cases fl with
 |ret u=>
  obtain⟨v,σ',H',J,rv,q⟩:=hs;exact fin J rv q
 |next=>
  obtain⟨σ',H',J,q⟩:=hs;exact fin (v:=V.non) (u:=Y8) J rfl q
 |brk=>
  obtain⟨_,_,_,q⟩:=hs;exact Z3 q
 |cont=>
  obtain⟨_,_,_,q⟩:=hs;exact Z3 q
section
variable{X:Cx}{x:Str}{p pos:Pos}{e:Expr}{es:List Expr}{t:TA}{id T:String}{r:List V->Hp->VK->Prop}
def TZ(r:List V->Hp->VK->Prop)(t:TA):TE:=λσ H Q=>t σ H λvs H1=>r vs H1 Q
def Ik(hc:CallR X (.builtin id) r)(hg:Gl X x)(hm:X.mg x=ω)(hv:YW x=θ (.builtin id))(ha:PA X (e::es) t)(hn:x≠"__name__":=by decide)(xa:(x==("__debug__":Str))=μ:=by decide)
 (he:Yw (e::es) X.env=(μ,eval e X.env)::Yw es X.env:=by rfl)(uI:(aae pos (Yw es X.env)).any (·.1)=μ:=by rfl):PE X (.Call (.Name x p) (e::es) [] pos) (TZ r t):=by
 intro f8 s σ H Q I h;refine aaB (j8 I hg hm hv ?_ hn xa);exact PyProof.Rows.callWith_builtin1 (cJ (ha pos f8 s σ H _ I h) λus s1 ⟨vs,H1,I1,r1,q1⟩=>hc f8 s1 σ H1 vs us Q I1 r1 q1) he uI
def Ft(hc:CallR X (.type T) r)(hg:Gl X x)(hm:X.mg x=ω)(hv:YW x=θ (.type T))(ha:PA X (e::es) t)(hn:x≠"__name__":=by decide)(xa:(x==("__debug__":Str))=μ:=by decide)
 (he:Yw (e::es) X.env=(μ,eval e X.env)::Yw es X.env:=by rfl)(uI:(aae pos (Yw es X.env)).any (·.1)=μ:=by rfl):PE X (.Call (.Name x p) (e::es) [] pos) (TZ r t):=by
 intro f8 s σ H Q I h;refine aaB (j8 I hg hm hv ?_ hn xa);exact Zl (cJ (ha pos f8 s σ H _ I h) λus s1 ⟨vs,H1,I1,r1,q1⟩=>hc f8 s1 σ H1 vs us Q I1 r1 q1) he uI
end
end L2
namespace HT
open PySem PyProof.Rows
section
variable{prog:YM}{w:World}{A:Y7}{E:Value->Yc->Prop}{s:Yc}
def cat_tup{t b:Addr}{vs ws:List Value}{Q:Value->Yc->Prop}(ht:IsTup s.heap t vs.toArray)(hb:IsTup s.heap b ws.toArray)(hv:vs≠[])
 (h1:ws=[]->Q (.ref t) s)(h2:ws≠[]->Q (.ref s.heap.objs.size) {s with heap:=s.heap.push {cls:= .type "tuple",data:= .seq (vs++ws).toArray} })
 (hsz:vs.length+ws.length<=Yv):wpAny (model prog w) A (aaQ .Add (.ref t) (.ref b)) Q E s:=by
 obtain⟨⟨cls,dd,data,sl⟩,ho,hc,n,hd⟩:=id ht;obtain⟨⟨Sb,JP,data2,RT⟩,M3,J8,n2,hd2⟩:=id hb;simp only at hc hd J8 hd2;subst hc hd J8 hd2;have e:vs.toArray++ws.toArray=(vs++ws).toArray:=by simp
 by_cases hw:ws=[]
 ·exact concat_meets ⟨_,ho,rfl⟩ ⟨_,M3,rfl⟩ ac7 adW aa6 aa2 (aaR _ _)
   (tuple_addW1 t b vs.toArray ws.toArray n n2 dd JP sl RT (by simpa using hv) (by simp[hw])) ⟨ho,M3,h1 hw⟩
 ·refine concat_meets ⟨_,ho,rfl⟩ ⟨_,M3,rfl⟩ ac7 adW aa6 aa2 (aaR _ _)
   (tuple_addW2 t b vs.toArray ws.toArray n n2 dd JP sl RT (by simpa using hv) (by simpa using hw) (by rw[Yj,Yj];exact hsz)) ⟨ho,M3,?_⟩
  rw[e];exact h2 hw
def sIx(n d:Nat):Option Int->Nat
 |none=>d
 |some v=>if v<0 then(v+(n:Int)).toNat else min v.toNat n
def sIx_le(n d:Nat)(hd:d<=n)(o:Option Int):sIx n d o<=n:=by
 cases o with
 |none=>exact hd
 |some v=>
  show (if v<0 then(v+(n:Int)).toNat else min v.toNat n)<=n;by_cases hv:v<0
  ·rw[aef hv];omega
  ·rw[aeh hv];exact Nat.min_le_right _ _
def clip_eq(v:Int)(n d:Nat):(if v<0 then max (v+(n:Int)) 0 else min v (n:Int))=((sIx n d (θ v):Nat):Int):=by
 show (if v<0 then max (v+(n:Int)) 0 else min v (n:Int))=(((if v<0 then(v+(n:Int)).toNat else min v.toNat n):Nat):Int)
 by_cases hv:v<0
 ·simp only[aef hv];omega
 ·simp only[aeh hv];omega
def adjust_gen(lo hi:Option Int)(n:Nat):aaF lo hi 1 (n:Int)=(((sIx n 0 lo:Nat):Int),((sIx n n hi:Nat):Int)):=by
 have h1:¬((1:Int)<0):=by omega
 unfold aaF;simp only[h1,if_false];refine aba ?_ ?_
 ·cases lo with
  |none=>rfl
  |some v=>exact clip_eq v n 0
 ·cases hi with
  |none=>rfl
  |some v=>exact clip_eq v n n
def places_gen(i j:Nat):Z7 (i:Int) (j:Int) 1=j - i:=by
 unfold Z7;have h1:(1:Int)>0:=by omega
 simp only[h1,if_true,Int.ediv_one];split<;>omega
def slicePart_{v:Value}{o:Option Int}{Q:Option Int->Yc->Prop}(p:ac4 v o)(h:Q o s):wpAny (model prog w) A (Builtin.Slice.slicePartIndex v) Q E s:=by
 cases p with
 |none=>exact slicePart_none h
 |int i t=>exact slicePart_int h
def sliceApplied_gen{sl:Addr}{vl vu:Value}{lo hi:Option Int}{n:Nat}{Q:Int×Int×Nat->Yc->Prop}(hs:s.heap.IsSliceOf sl vl vu .none)(pl:ac4 vl lo)(pu:ac4 vu hi)
 (h:Q (((sIx n 0 lo:Nat):Int),1,sIx n n hi - sIx n 0 lo) s):wpAny (model prog w) A (abW (.ref sl) (pure (n:Int))) Q E s:=by
 obtain⟨os,G2,RC,LX⟩:=id hs;unfold abW Builtin.Slice.sliceFields;refine X6 (X6 (wpAny_field G2 LX (x:=vl) rfl (X6 (wpAny_field G2 LX (x:=vu) rfl (X6 (wpAny_field G2 LX (x:= .none) rfl (Yb ?_)))))));refine X6 (slicePart_none ?_);show wpAny _ _ (if ((1:Int)==0)=ψ then _ else _) _ _ s;rw[aeh (by decide)];refine X6 (slicePart_ pl (X6 (slicePart_ pu (X6 (Yb ?_)))));show wpAny _ _ (match aaF lo hi 1 (n:Int) with | (lo,hi)=>pure (lo,(1:Int),Z7 lo hi 1)) _ _ s;rw[adjust_gen lo hi n];show wpAny _ _ (pure (((sIx n 0 lo:Nat):Int),(1:Int),Z7 ((sIx n 0 lo:Nat):Int) ((sIx n n hi:Nat):Int) 1)) _ _ s;rw[places_gen];exact Yb h
def pick_gen(xs:Array Value)(i k:Nat):((Yr k).filterMap λ(m:Nat)=>xs[((i:Int)+(m:Int)*1).toNat]?).toArray=((xs.toList.drop i).take k).toArray:=by
 have e:(λ(m:Nat)=>xs[((i:Int)+(m:Int)*1).toNat]?)=λm=>xs[i+m]? :=by
  funext m;have:((i:Int)+(m:Int)*1).toNat=i+m:=by omega
  rw[this]
 rw[e];have:=pick_run xs i k;rw[List.filterMap_map] at this;have e2:((λx=>xs[x]?)∘λx=>i+x)=λm=>xs[i+m]? :=rfl;rw[e2] at this;rw[this]
def getItem_tuple_cut{t sl:Addr}{items:Array Value}{vl vu:Value}{lo hi:Option Int}{Q:Value->Yc->Prop}(ht:IsTup s.heap t items)(hs:s.heap.IsSliceOf sl vl vu .none)(pl:ac4 vl lo)(pu:ac4 vu hi)
 (hw:¬(sIx items.size 0 lo=0/\sIx items.size items.size hi=items.size))
 (h:Q (.ref s.heap.objs.size) {s with heap:=s.heap.push {cls:= .type "tuple",data:= .seq ((items.toList.drop (sIx items.size 0 lo)).take (sIx items.size items.size hi - sIx items.size 0 lo)).toArray} })
 (hsz:items.size<=Yv):wpAny (model prog w) A (ab1 (.ref t) (.ref sl)) Q E s:=by
 have Df:sizeOk (.seq ((items.toList.drop (sIx items.size 0 lo)).take (sIx items.size items.size hi - sIx items.size 0 lo)).toArray):=by
  show ((items.toList.drop (sIx items.size 0 lo)).take (sIx items.size items.size hi - sIx items.size 0 lo)).toArray.size<=Yv;rw[Yj,ZL,acz,Yd];omega
 have hj:sIx items.size items.size hi<=items.size:=sIx_le _ _ (X_ _) hi;obtain⟨os,G2,RC,LX⟩:=id hs;have OL:s.TypeIs (.ref sl) "slice":=⟨os,G2,RC⟩
 unfold ab1
 try with_reducible refine ZF ?_
 first | refine X6 (Yb ?_) | skip
 refine X6 (wpAny_sequenceKey ht.typeIs (by decide) ?_);refine X6 (aaA (name:=ZW "__getitem__") ht.typeIs ZI
  (Zs ZI ht.typeIs entry_tuple_getitem ?_ (args_tuple_getitem _ _)))
 show wpAny _ _ (abV (.ref t)>>=_) _ _ s;refine X6 (tupleItemsOf_ ht ?_);refine X6 (abX OL ?_);rw[aef (by decide)];refine X6 (sliceApplied_gen hs pl pu ?_);have xc:¬((((sIx items.size 0 lo:Nat):Int)==0&&(1:Int)==1&&(sIx items.size items.size hi - sIx items.size 0 lo)==items.size)=ψ):=by
  intro q;rw[Yq,Yq] at q;have q1:((sIx items.size 0 lo:Nat):Int)=0:=eq_of_beq q.1.1;have q2:sIx items.size items.size hi - sIx items.size 0 lo=items.size:=eq_of_beq q.2;exact hw ⟨by omega,by omega⟩
 show wpAny _ _ (if (((sIx items.size 0 lo:Nat):Int)==0&&(1:Int)==1&&(sIx items.size items.size hi - sIx items.size 0 lo)==items.size)=ψ then _ else _) _ _ s;rw[aeh xc,pick_gen]
 first
  |exact X6 (m:=Zr _) (Zo (Yb ⟨_,rfl,Yb h⟩) Df)
  |exact X6 (m:=Zr _) (Zo (X6 (Yb (Yb ⟨_,rfl,Yb h⟩))) Df)
  |exact X6 (X6 (m:=Zr _) (Zo (Yb (Yb ⟨_,rfl,Yb h⟩)) Df))
  |exact X6 (X6 (m:=Zr _) (Zo (Yb ⟨_,rfl,Yb h⟩) Df))
end
end HT
namespace L2
open PySem PySem.Spec PyProof.Rows
abbrev TO:=St->Hp->(Option Int->Hp->Prop)->Prop
def PO(X:Cx)(e:Option Expr)(t:TO):Prop:=
 ∀(f8:List (Addr×Obj)) (s:Yc) (σ:St) (H:Hp) (Q:Option Int->Hp->Prop),Inv X f8 σ H s->t σ H Q->
  wpAny (model X.prog X.w) X.A (evalPart e X.env) (λu s'=>∃o H',Inv X f8 σ H' s'/\ac4 u o/\Q o H') X.xe s
def LA:TO:=λ_ H Q=>Q ω H
def Rj(t:TE):TO:=λσ H Q=>t σ H λx H1=>∃i,x= .int i/\Q (θ i) H1
def intsAre_of{ns:List Int}:∀{us:List Value},Vals (ns.map V.int) us->aaK us ns:=by
 induction ns with
 |nil=>intro us r;rw[aaj] at r;cases r;exact .nil
 |cons n ns ih=>
  intro us r;rw[X9] at r;cases r with
  |cons r1 r2=>
   obtain⟨t,e⟩:=r1;subst e;exact .cons n t (ih r2)
section
variable{X:Cx}{e:Expr}{te:TE}{lo hi:Option Expr}{tl th:TO}{pos p2:Pos}
def K8:PO X ω LA:=by
 intro f8 s σ H Q I h;rw[evalPart_none];exact Yb ⟨ω,H,I, .none,h⟩
def K9(h:PE X e te):PO X (θ e) (Rj te):=by
 intro f8 s σ H Q I hw;rw[evalPart_some];refine cJ (h f8 s σ H _ I hw) λu s1 ⟨x,H1,I1,r1,q1⟩=>?_;obtain⟨i,rfl,q⟩:=q1;obtain⟨t,rfl⟩:=r1;exact⟨θ i,H1,I1, .int i t,q⟩
def SlR(X:Cx)(r:V->Option Int->Option Int->Hp->VK->Prop):Prop:=
 ∀(f8:List (Addr×Obj)) (s:Yc) (σ:St) (H:Hp) (x:V) (v vl vu:Value) (lo hi:Option Int) (sl:Addr) (Q:VK),Inv X f8 σ H s->RelV x v->s.heap.IsSliceOf sl vl vu .none->ac4 vl lo->ac4 vu hi->r x lo hi H Q->
  ∃T id,typeLookup (.type T) "__getitem__"=pure (θ (.builtin id))/\s.TypeIs v T/\wpAny (model X.prog X.w) X.A (ab1 v (.ref sl)) (EP X f8 σ Q) X.xe s
def SlR.or{r r':V->Option Int->Option Int->Hp->VK->Prop}(h:SlR X r)(h':SlR X r'):SlR X (λx lo hi H Q=>r x lo hi H Q\/r' x lo hi H Q):=by
 intro f8 s σ H x v vl vu lo hi sl Q I rx hs pl pu q;rcases q with q | q
 ·exact h f8 s σ H x v vl vu lo hi sl Q I rx hs pl pu q
 ·exact h' f8 s σ H x v vl vu lo hi sl Q I rx hs pl pu q
def XH(r:V->Option Int->Option Int->Hp->VK->Prop)(te:TE)(tl th:TO):TE:=λσ H Q=>te σ H λx H1=>tl σ H1 λl H2=>th σ H2 λu H3=>r x l u H3 Q
def Iq{r:V->Option Int->Option Int->Hp->VK->Prop}(hr:SlR X r)(he:PE X e te)(hl:PO X lo tl)(hu:PO X hi th):PE X (.Subscript e (.Slice lo hi ω p2) pos) (XH r te tl th):=by
 intro f8 s σ H Q I h;refine Subscript_ (cJ (he f8 s σ H _ I h) λv s1 ⟨x,H1,I1,r1,q1⟩=>?_);refine wpAny_Slice (cJ (hl f8 s1 σ H1 _ I1 q1) λvl s2 ⟨l,H2,I2,pl,q2⟩=>cJ (hu f8 s2 σ H2 _ I2 q2) λvu s3 ⟨u,H3,I3,pu,q3⟩=>?_);rw[evalPart_none];refine Yb ?_;have I4:Inv X f8 σ H3 {s3 with heap:=s3.heap.push {cls:= .type "slice",data:= .fields #[vl,vu, .none]} }:=I3.kept (t':=s3.toks) λb ob q=>X8 _ q;obtain⟨T,id,hT,ht,hg⟩:=hr f8 {s3 with heap:=s3.heap.push {cls:= .type "slice",data:= .fields #[vl,vu, .none]} } σ H3 x v vl vu l u s3.heap.objs.size Q I4 r1 (Heap.IsSliceOf.new ..) pl pu q3;show wpAny (model X.prog X.w) X.A (adV e (.Slice lo hi ω p2) v (.ref s3.heap.objs.size)) (EP X f8 σ Q) X.xe {s3 with heap:=s3.heap.push {cls:= .type "slice",data:= .fields #[vl,vu, .none]} };exact tail_any (ops:=[.ref s3.heap.objs.size,v]) ht hT hg (by with_unfolding_all rfl)
def y_(xs:List V)(lo hi:Option Int):List V:=(xs.drop (HT.sIx xs.length 0 lo)).take (HT.sIx xs.length xs.length hi - HT.sIx xs.length 0 lo)
def pK(xs:List V)(lo hi:Option Int):(y_ xs lo hi).length<=xs.length:=by
 unfold y_;rw[ZL,acz];omega
def TR(K:Ym):V->Option Int->Option Int->Hp->VK->Prop:=λx lo hi H Q=>∃a xs,x= .ref a/\SqT K H a xs/\
 ¬(HT.sIx xs.length 0 lo=0/\HT.sIx xs.length xs.length hi=xs.length)/\∀p,H p=ω->Q (.ref p) (upd H p (.tup (y_ xs lo hi)))
def Ov:SlR X (TR X.K):=by
 intro f8 s σ H x v vl vu lo hi sl Q I rx hs pl pu h;obtain⟨a,xs,rfl,hx,hw,q⟩:=h;cases rx;obtain⟨aS,r,ht,hz⟩:=I.tuple hx;have v6:aS.toArray.size=xs.length:=by rw[Yj];exact r.length.symm
 refine⟨"tuple",_,PyProof.Rows.slot_tuple_getitem.lookup,ht.typeIs,?_⟩;refine HT.getItem_tuple_cut ht hs pl pu (by rw[v6];exact hw) ?_ (by rw[v6];exact hz);rw[v6];refine⟨.ref s.heap.objs.size,_,I.laid (t':=s.toks) (o:= .tup (y_ xs lo hi)) (λb ob q=>X8 _ q) (X_ _) ?_,rfl,q _ (I.hok.fresh (X_ _))⟩;exact⟨Yz (pK xs lo hi) hz,_,(r.drop (HT.sIx xs.length 0 lo)).take (HT.sIx xs.length xs.length hi - HT.sIx xs.length 0 lo),adu _ _⟩
def QT(K:Ym):R2:=λx y H Q=>∃a b xs ys,x= .ref a/\y= .ref b/\SqT K H a xs/\SqT K H b ys/\xs≠[]/\xs.length+ys.length<=Yv/\
 (ys=[]->Q (.ref a) H)/\(ys≠[]->∀p,H p=ω->Q (.ref p) (upd H p (.tup (xs++ys))))
def Vals.nil_iff{xs:List V}{us:List Value}(r:Vals xs us):us=[]↔xs=[]:=by
 cases r with
 |nil=>simp
 |cons _ _=>simp
def KH:OpR X (aaQ .Add) (QT X.K):=by
 intro f8 s σ H x y v u Q I rx ry h;obtain⟨a,b,xs,ys,rfl,rfl,ha,hb,hx,hz,q1,q2⟩:=h;cases rx;cases ry;obtain⟨aS,r1,p1,_⟩:=I.tuple ha;obtain⟨i1,r2,p2,_⟩:=I.tuple hb;refine HT.cat_tup p1 p2 (λz=>hx (r1.nil_iff.mp z)) (λz=>⟨.ref a,H,I,rfl,q1 (r2.nil_iff.mp z)⟩) (λz=>?_) (by rw[<-r1.length,<-r2.length];exact hz);refine⟨.ref s.heap.objs.size,_,I.laid (t':=s.toks) (o:= .tup (xs++ys)) (λb ob q=>X8 _ q) (X_ _) ?_,rfl,q2 (λw=>z (r2.nil_iff.mpr w)) _ (I.hok.fresh (X_ _))⟩;exact⟨by rw[Yg];exact hz,_,r1.append r2,adu _ _⟩
end
def JD(n:Nat)(i:Int):Option Nat:=if 0<=i then(if i<n then θ i.toNat else ω) else if -(n:Int)<=i then θ (i+n).toNat else ω
def atI{α:Type}(xs:List α)(i:Int):Option α:=(JD xs.length i).bind λj=>xs[j]?
def Km{n:Nat}{i:Int}{j:Nat}(h:JD n i=θ j):seqIndex? i n=θ j/\j<n/\ -(n:Int)<=i/\i<n:=by
 unfold JD at h;by_cases h0:0<=i
 ·rw[aef h0] at h;by_cases h1:i<n
  ·rw[aef h1] at h;have e:i.toNat=j:=YS h;exact⟨by rw[seqIndex_of h0 h1,e],by omega,by omega,h1⟩
  ·rw[aeh h1] at h;cases h
 ·rw[aeh h0] at h;by_cases h1: -(n:Int)<=i
  ·rw[aef h1] at h;have e:(i+n).toNat=j:=YS h;exact⟨by rw[seqIndex_neg (by omega) h1,e],by omega,h1,by omega⟩
  ·rw[aeh h1] at h;cases h
def wK{α:Type}{xs:List α}{i:Int}{v:α}(h:atI xs i=θ v):∃j,seqIndex? i xs.length=θ j/\xs[j]? =θ v/\j<xs.length/\ -(xs.length:Int)<=i/\i<xs.length:=by
 unfold atI at h;cases e:JD xs.length i with
 |none=>rw[e] at h;cases h
 |some j=>
  rw[e] at h;obtain⟨h1,h2,h3,h4⟩:=Km e;exact⟨j,h1,h,h2,h3,h4⟩
def yW{α:Type}(xs:List α)(v:α):atI (xs++[v]) (-1)=θ v:=by
 have hl:(xs++[v]).length=xs.length+1:=by simp
 have e:JD (xs++[v]).length (-1)=θ xs.length:=by
  unfold JD;rw[hl,aeh (by decide),aef (by omega)];congr 1;omega
 unfold atI;rw[e];show (xs++[v])[xs.length]? =θ v;simp
def kY(b:Expr):Prop:=∀o i,subscripted b μ o i=operate [o,i] (ab1 o i)
def OZ(X:Cx)(r:R2):Prop:=
 ∀(value slice:Expr) (f8:List (Addr×Obj)) (s:Yc) (σ:St) (H:Hp) (x y:V) (v u:Value) (Q:VK),Inv X f8 σ H s->RelV x v->RelV y u->r x y H Q->
  subscripted slice μ v u=operate [v,u] (ab1 v u)->wpAny (model X.prog X.w) X.A (adV value slice v u) (EP X f8 σ Q) X.xe s
def Rp(X:Cx)(id:String)(r:V->List V->Hp->VK->Prop):Prop:=
 ∀(f8:List (Addr×Obj)) (s:Yc) (σ:St) (H:Hp) (x:V) (xs:List V) (v:Value) (us:List Value) (Q:VK),Inv X f8 σ H s->RelV x v->Vals xs us->r x xs H Q->
  wpAny (model X.prog X.w) X.A (call (.builtin id) (v::us)) (EP X f8 σ Q) X.xe s
section
variable{X:Cx}{a b:Expr}{ta tb:TE}{pos:Pos}
def QO{r:R2}(hr:OZ X r)(ha:PE X a ta)(hb:PE X b tb)(hs:kY b):PE X (.Subscript a b pos) (Rh r ta tb):=by
 intro f8 s σ H Q I h;exact Subscript_ (Mx ha hb I h λv u s2 x y H2 I2 rx ry q=>hr a b f8 s2 σ H2 x y v u Q I2 rx ry q (hs _ _))
def Oj(K:Ym):R2:=λx y H Q=>∃p xs i v,x= .ref p/\y= .int i/\SqL K H p xs/\atI xs i=θ v/\Q v H
def QX(K:Ym):R2:=λx y H Q=>∃p xs i v,x= .ref p/\y= .int i/\SqT K H p xs/\atI xs i=θ v/\Q v H
def QW:R2:=λx y H Q=>∃z i c,x= .str z/\y= .int i/\z.length<=Yv/\atI z.cps.toList i=θ c/\Q (.str ⟨#[c]⟩) H
def Dj:OZ X (Oj X.K):=by
 intro value slice f8 s σ H x y v u Q I rx ry h hs;obtain⟨p,xs,i,z,rfl,rfl,hq,he,q⟩:=h;cases rx;obtain⟨t,rfl⟩:=ry;obtain⟨aS,r,pl,hz⟩:=I.list hq;obtain⟨j,h1,h2,h3,h4,h5⟩:=wK he;obtain⟨w,ew,Eb⟩:=r.get h2;have hl:=r.length;have hn:=oK;have fin:EP X f8 σ Q w s:=⟨z,H,I,Eb,q⟩
 by_cases h0:0<=i
 ·have hj:i.toNat=j:=by
   rw[seqIndex_of h0 h5] at h1;exact YS h1
  exact item_listR pl.isList h0 (by omega) (by rw[hj];simpa using ew) fin hs
 ·have hj:(i+(aS.toArray.size:Int)).toNat=j:=by
   rw[seqIndex_neg (by omega) h4] at h1;rw[Yj,<-hl];exact YS h1
  exact ad8 (x:=w) pl.isList.typeIs slot_list_getitem.lookup
   (wpAny_getItem_list_neg (Q:=λr s'=>r=w/\EP X f8 σ Q r s') pl.isList (by omega) (by rw[Yj]<;>omega) (by omega) (by rw[hj];simpa using ew) ⟨rfl,fin⟩) hs
def Ng:OZ X (QX X.K):=by
 intro value slice f8 s σ H x y v u Q I rx ry h hs;obtain⟨p,xs,i,z,rfl,rfl,hq,he,q⟩:=h;cases rx;obtain⟨t,rfl⟩:=ry;obtain⟨aS,r,pl,hz⟩:=I.tuple hq;obtain⟨j,h1,h2,h3,h4,h5⟩:=wK he;obtain⟨w,ew,Eb⟩:=r.get h2;have hl:=r.length;have hn:=oK;have fin:EP X f8 σ Q w s:=⟨z,H,I,Eb,q⟩
 exact ad8 (x:=w) pl.typeIs slot_tuple_getitem.lookup
  (getItem_tuple (j:=j) (Q:=λr s'=>r=w/\EP X f8 σ Q r s') pl (by omega) (by omega) (by rw[Yj,<-hl];exact h1) (by simpa using ew) ⟨rfl,fin⟩) hs
def Nf:OZ X QW:=by
 intro value slice f8 s σ H x y v u Q I rx ry h hs;obtain⟨z,i,c,rfl,rfl,hz,he,q⟩:=h;obtain⟨t,rfl⟩:=rx;obtain⟨t',rfl⟩:=ry;obtain⟨j,h1,h2,h3,h4,h5⟩:=wK he;have hl:z.cps.toList.length=z.length:=by simp[acu]
 rw[hl] at h1 h4 h5;have hn:=oK;exact tail_any (abo s z t) slot_str_getitem.lookup (getItem_str (c:=c) (by
  have e1:decide (i< -(2 ^ 63:Int))=μ:=aek (by omega);have e2:decide (i>=2 ^ 63)=μ:=aek (by omega);rw[e1,e2,Bool.or_false]) (by rw[h1];simpa using h2) ⟨.str ⟨#[c]⟩,H,I.tok _,⟨_,rfl⟩,q⟩) hs
theorem Inv.lst{f8:List (Addr×Obj)}{σ:St}{H:Hp}{s:Yc}{p:Addr}{xs:List V}(I:Inv X f8 σ H s)(h:H p=θ (.lst xs)):
 ∃(aS:List Value) (n:Nat),Vals xs aS/\s.heap.get? p=θ {cls:= .type "list",data:= .seq aS.toArray n}/\xs.length<=Yv:=by
 obtain⟨z,aS,n,r,e⟩:=I.hok p _ h;exact⟨aS,n,r,e,z⟩
def yo(lo hi:Option Int)(n:Nat):(aaZ lo hi ω n).1=((HT.sIx n 0 lo:Nat):Int)/\(aaZ lo hi ω n).2.1=((HT.sIx n n hi:Nat):Int)/\(aaZ lo hi ω n).2.2=1:=by
 refine⟨?_,?_,rfl⟩
 ·cases lo with
  |none=>simp[aaZ,HT.sIx]
  |some i=>
   simp only[aaZ,HT.sIx,ad1,show (1:Int)>0 by decide,if_true];by_cases h:i<0
   ·simp only[h,if_true]<;>omega
   ·simp only[h,if_false]<;>omega
 ·cases hi with
  |none=>simp[aaZ,HT.sIx]
  |some i=>
   simp only[aaZ,HT.sIx,ad1,show (1:Int)>0 by decide,if_true];by_cases h:i<0
   ·simp only[h,if_true]<;>omega
   ·simp only[h,if_false]<;>omega
def uW(aS:List Value)(lo hi:Option Int):slicePick aS.toArray lo hi ω=((aS.drop (HT.sIx aS.length 0 lo)).take (HT.sIx aS.length aS.length hi - HT.sIx aS.length 0 lo)).toArray:=by
 obtain⟨h1,h2,h3⟩:=yo lo hi aS.toArray.size;unfold slicePick;rw[h1,h2,h3];simp only[sliceRange_one,pick_run,Yj]<;>rfl
def TQ(K:Ym):V->Option Int->Option Int->Hp->VK->Prop:=λx lo hi H Q=>∃a xs,x= .ref a/\SqL K H a xs/\∀p,H p=ω->Q (.ref p) (upd H p (.lst (y_ xs lo hi)))
def Lp:SlR X (TQ X.K):=by
 intro f8 s σ H x v vl vu lo hi sl Q I rx hs pl pu h;obtain⟨a,xs,rfl,hx,q⟩:=h;cases rx;obtain⟨aS,r,ht,hz⟩:=I.list hx;have v6:=r.length;refine⟨"list",_,slot_list_getitem.lookup,ht.isList.typeIs,?_⟩;refine wpAny_getItem_list_slice ht.isList hs pl pu .none (by simp) ?_ (by rw[Yj]<;>omega);rw[uW,<-v6];refine⟨.ref s.heap.objs.size,_,I.laid (t':=s.toks) (o:= .lst (y_ xs lo hi)) (λb ob q=>X8 _ q) (X_ _) ?_,rfl,q _ (I.hok.fresh (X_ _))⟩;exact⟨Yz (pK xs lo hi) hz,_,0,(r.drop (HT.sIx xs.length 0 lo)).take (HT.sIx xs.length xs.length hi - HT.sIx xs.length 0 lo),Yy _ rfl⟩
def pL:V->Bool
 | .non=>ψ
 | .bl _=>ψ
 | .int _=>ψ
 | .str _=>ψ
 |_=>μ
def Js:V->V->Bool
 | .non, .non=>ψ
 | .bl a, .bl b=>a==b
 | .bl a, .int b=>(if a then 1 else 0)==b
 | .int a, .bl b=>a==(if b then 1 else 0)
 | .int a, .int b=>a==b
 | .str a, .str b=>a==b
 |_,_=>μ
def MH{A:Y7}{s:Yc}{y x:V}{u v:Value}(ry:RelV y u)(rx:RelV x v)(fy:pL y=ψ)(fx:pL x=ψ):SeqAt.EqAt A s u v (Js y x):=by
 cases y with
 |non=>
  cases ry;cases x with
  |non=>cases rx;exact SeqAt.EqAt.same _
  |bl b=>cases rx;exact SeqAt.EqAt.none_bool b
  |int b=>obtain⟨t,rfl⟩:=rx;exact SeqAt.EqAt.none_int b t
  |str b=>obtain⟨t,rfl⟩:=rx;exact SeqAt.EqAt.none_str b t
  |_=>exact ael (show μ=ψ from fx) YI
 |bl a=>
  cases ry;cases x with
  |non=>cases rx;exact SeqAt.EqAt.bool_none a
  |bl b=>cases rx;exact SeqAt.EqAt.bool_bool a b
  |int b=>obtain⟨t,rfl⟩:=rx;exact SeqAt.EqAt.bool_int a b t
  |str b=>obtain⟨t,rfl⟩:=rx;exact SeqAt.EqAt.bool_str a b t
  |_=>exact ael (show μ=ψ from fx) YI
 |int a=>
  obtain⟨t',rfl⟩:=ry;cases x with
  |non=>cases rx;exact SeqAt.EqAt.int_none a t'
  |bl b=>cases rx;exact SeqAt.EqAt.int_bool a t' b
  |int b=>obtain⟨t,rfl⟩:=rx;exact SeqAt.EqAt.int_int a t' b t
  |str b=>obtain⟨t,rfl⟩:=rx;exact ac9 a t' b t
  |_=>exact ael (show μ=ψ from fx) YI
 |str a=>
  obtain⟨t',rfl⟩:=ry;cases x with
  |non=>cases rx;exact SeqAt.EqAt.str_none a t'
  |bl b=>cases rx;exact SeqAt.EqAt.str_bool a t' b
  |int b=>obtain⟨t,rfl⟩:=rx;exact ac8 a t' b t
  |str b=>obtain⟨t,rfl⟩:=rx;exact SeqAt.EqAt.str_str a t' b t
  |_=>exact ael (show μ=ψ from fx) YI
 |_=>exact ael (show μ=ψ from fy) YI
def JZ(x:V)(u:Value):Bool:=match u with
 | .none=>Js .non x
 | .bool b=>Js (.bl b) x
 | .int i _=>Js (.int i) x
 | .str z _=>Js (.str z) x
 |_=>μ
def GJ{x y:V}{u:Value}(r:RelV y u)(f:pL y=ψ):JZ x u=Js y x:=by
 cases y with
 |non=>cases r;rfl
 |bl b=>cases r;rfl
 |int i=>obtain⟨t,rfl⟩:=r;rfl
 |str z=>obtain⟨t,rfl⟩:=r;rfl
 |_=>exact ael (show μ=ψ from f) YI
theorem wH{x:V}:∀{xs:List V}{us:List Value},Vals xs us->xs.all pL=ψ->us.any (JZ x)=xs.any λy=>Js y x
 |_,_, .nil,_=>rfl
 |y::xs,u::us, .cons r t,f=>by
  rw[aas,Yq] at f;rw[aar,aar,GJ r f.1,wH t f.2]
theorem sD{A:Y7}{s:Yc}{x:V}{v:Value}(rx:RelV x v)(fx:pL x=ψ):∀{xs:List V}{us:List Value},Vals xs us->xs.all pL=ψ->∀u∈us,SeqAt.EqAt A s u v (JZ x u)
 |_,_, .nil,_=>λu hu=>by cases hu
 |y::xs,u::us, .cons r t,f=>λu' hu=>by
  rw[aas,Yq] at f;rcases Ye.mp hu with rfl | hu
  ·rw[GJ r f.1];exact MH r rx f.1 fx
  ·exact sD rx fx t f.2 u' hu
def RN(x:V)(xs:List V):Bool:=xs.any λy=>Js y x
def Vt(K:Ym)(neg:Bool):R2:=λx y H Q=>∃p xs,y= .ref p/\(SqL K H p xs\/SqT K H p xs)/\pL x=ψ/\xs.all pL=ψ/\Q (.bl (if neg then !RN x xs else RN x xs)) H
def xH:OpR X (Zf .NotIn) (Vt X.K ψ):=by
 intro f8 s σ H x y v u Q I rx ry h;obtain⟨p,xs,rfl,hq,fx,fs,q⟩:=h;cases ry;rcases hq with hq | hq
 ·obtain⟨aS,r,pl,hz⟩:=I.list hq;refine adO (JZ x) pl.isList (λw hw=>sD rx fx r fs w (by simpa using hw)) ⟨.bl _,H,I,rfl,?_⟩;rw[show aS.toArray.any (JZ x)=aS.any (JZ x) by simp,wH r fs];exact q
 ·obtain⟨aS,r,pl,hz⟩:=I.tuple hq;refine adC (JZ x) pl (λw hw=>sD rx fx r fs w (by simpa using hw)) ⟨.bl _,H,I,rfl,?_⟩;rw[show aS.toArray.any (JZ x)=aS.any (JZ x) by simp,wH r fs];exact q
def wQ:CallR X (.builtin "len") (λxs H Q=>∃p ys,xs=[.ref p]/\(SqL X.K H p ys\/SqT X.K H p ys)/\Q (.int ys.length) H):=by
 intro f8 s σ H xs us Q I r h;obtain⟨p,ys,rfl,hq,q⟩:=h;obtain⟨u,rfl,rx⟩:=vals1 r;cases rx;have hn:=oK;rcases hq with hq | hq
 ·obtain⟨aS,r',pl,hz⟩:=I.list hq;have v6:=r'.length;exact Calls.call_len_list pl.isList (by simp only[Yj]<;>omega) ⟨.int ys.length,H,I.tok _,⟨s.toks+1,by rw[Yj,v6]⟩,q⟩
 ·obtain⟨aS,r',pl,hz⟩:=I.tuple hq;have v6:=r'.length;exact len_tuple pl (by simp only[Yj]<;>omega) ⟨.int ys.length,H,I.tok _,⟨s.toks+1,by rw[Yj,v6]⟩,q⟩
def wR:CallR X (.builtin "len") (λxs H Q=>∃z,xs=[.str z]/\z.length<=Yv/\Q (.int z.length) H):=by
 intro f8 s σ H xs us Q I r h;obtain⟨z,rfl,hz,q⟩:=h;obtain⟨u,rfl,t,rfl⟩:=vals1 r;have hn:=oK;exact len_str (by omega) ⟨.int z.length,H,I.tok _,⟨_,rfl⟩,q⟩
def CallR.or{f:Value}{r r':List V->Hp->VK->Prop}(h:CallR X f r)(h':CallR X f r'):CallR X f (λxs H Q=>r xs H Q\/r' xs H Q):=by
 intro f8 s σ H xs us Q I rs q;rcases q with q | q
 ·exact h f8 s σ H xs us Q I rs q
 ·exact h' f8 s σ H xs us Q I rs q
def uB:CallR X (.type "tuple") (λxs H Q=>∃p ys,xs=[.ref p]/\((SqL X.K H p ys/\∀l,H l=ω->Q (.ref l) (upd H l (.tup ys)))\/(SqT X.K H p ys/\Q (.ref p) H))):=by
 intro f8 s σ H xs us Q I r h;obtain⟨p,ys,rfl,h⟩:=h;obtain⟨u,rfl,rx⟩:=vals1 r;cases rx;rcases h with⟨hq,q⟩ | ⟨hq,q⟩
 ·obtain⟨aS,r',pl,hz⟩:=I.list hq;have v6:=r'.length;refine call_tuple_list pl.isList (λh' kp=>?_) (by simp only[Yj]<;>omega);have I1:Inv X f8 σ H {s with heap:=h'}:=I.kept (t':=s.toks) kp;have I2:Inv X f8 σ (upd H h'.objs.size (.tup ys)) {s with heap:=h'.push {cls:= .type "tuple",data:= .seq aS.toArray} }:=
   I1.laid (t':=s.toks) (λb o e=>X8 _ e) (X_ _) (show ObjOk X.prog X.w _ _ _ (.tup ys) from⟨hz,aS,r',adu _ _⟩)
  exact⟨.ref h'.objs.size,_,I2,rfl,q _ (I1.hok.fresh (X_ _))⟩
 ·obtain⟨aS,r',pl,hz⟩:=I.tuple hq;exact call_tuple_same pl ⟨.ref p,H,I,rfl,q⟩
def RX(K:Ym)(T:String)(x:V)(H:Hp):Prop:=match x with
 | .str _=>T="str"
 | .int _=>T="int"
 | .ref p=>(T="list"/\∃xs,SqL K H p xs)\/(T="tuple"/\∃o,K.lookup p=θ o/\o.cls= .type "tuple"/\o.dict=ω)\/
    (T="dict"/\((∃kvs,H p=θ (.dK kvs))\/∃kvs,H p=θ (.dT kvs)))\/(T="set"/\∃S n,H p=θ (.set S n))
 |_=>False
def OC{f8:List (Addr×Obj)}{σ:St}{H:Hp}{s:Yc}{T:String}{x:V}{v:Value}(I:Inv X f8 σ H s)(r:RelV x v)(ty:RX X.K T x H):
 s.TypeIs v T/\∀a,v= .ref a->∃ob,s.heap.get? a=θ ob/\ob.dict=ω:=by
 cases x with
 |str z=>
  obtain⟨t,rfl⟩:=r;cases (show T="str" from ty);exact⟨abo s z t,λ_ e=>nomatch e⟩
 |int i=>
  obtain⟨t,rfl⟩:=r;cases (show T="int" from ty);exact⟨typeIs_int s i t,λ_ e=>nomatch e⟩
 |ref p=>
  cases r;rcases ty with⟨rfl,xs,hq⟩ | ⟨rfl,o,hk,hc,hd⟩ | ⟨rfl,hk⟩ | ⟨rfl,S,n,hk⟩
  ·obtain⟨aS,_,pl,_⟩:=I.list hq;refine⟨pl.isList.typeIs,λa e=>?_⟩;cases e;obtain⟨o,n,e,c,hd,_⟩:=pl;exact⟨o,e,hd⟩
  ·refine⟨⟨o,I.kIn p o hk,hc⟩,λa e=>?_⟩;cases e;exact⟨o,I.kIn _ o hk,hd⟩
  ·have z:∃o,s.heap.get? p=θ o/\o.ExactDict:=by
    rcases hk with⟨kvs,hk⟩ | ⟨kvs,hk⟩
    ·obtain⟨_,_,_,_,o,_,_,e,ex,_⟩:=I.hok p _ hk;exact⟨o,e,ex⟩
    ·obtain⟨_,_,_,_,o,_,_,e,ex,_⟩:=I.hok p _ hk;exact⟨o,e,ex⟩
   obtain⟨o,e,ex⟩:=z;refine⟨⟨o,e,ex.1⟩,λa e2=>?_⟩;cases e2;exact⟨o,e,ex.2.1⟩
  ·obtain⟨o,_,_,_,e,ex,_⟩:=I.hok p _ hk;refine⟨⟨o,e,ex.1⟩,λa e2=>?_⟩;cases e2;exact⟨o,e,ex.2.1⟩
 |_=>exact Z3 ty
def TY(K:Ym)(T:String)(r:V->List V->Hp->VK->Prop)(to:TE)(t:TA):TE:=λσ H Q=>to σ H λx H1=>RX K T x H1/\t σ H1 λxs H2=>r x xs H2 Q
variable{o e:Expr}{es:List Expr}{to:TE}{t:TA}{name:Str}{T0 bJ:Pos}{T id:String}{r:V->List V->Hp->VK->Prop}
def Ij(pa:PlainAttrs T)(slot:Slot T name id)(Ta:typeOf (.builtin id)=pure (.type "method_descriptor"))(hm:Rp X id r)(ho:PE X o to)(ha:PA X (e::es) t)
 (j4:aah o name X.env (eval o X.env)=eval o X.env:=by rfl)
 (r0:((aae bJ (Yw (e::es) X.env)).all (λx=>!x.1)&&(aca bJ (aaH [] X.env)).all (λx=>x.1.isSome)
  &&decide ((e::es).length+([]:List aaC).length+(if ([]:List aaC).isEmpty then 0 else 1)<30))=ψ:=by rfl)
 (j5:(T0.endLine==bJ.line)=ψ:=by rfl) (hs:Yw (e::es) X.env=(μ,eval e X.env)::Yw es X.env:=by rfl) (BI:(aae bJ (Yw es X.env)).any (·.1)=μ:=by rfl):
 PE X (.Call (.Attribute o name T0) (e::es) [] bJ) (TY X.K T r to t):=by
 intro f8 s σ H Q I h;refine wpAny_Call_method_late j4 r0 j5 rfl (cJ (ho f8 s σ H _ I h) λv s1 ⟨x,H1,I1,r1,ty,q1⟩=>?_);obtain⟨h1,h2⟩:=OC I1 r1 ty;refine⟨T,id,pa,slot,Ta,h1,h2,?_⟩;have hA:=ha bJ f8 s1 σ H1 _ I1 q1;rw[hs] at hA⊢;refine abj (by show (μ||(aae bJ (Yw es X.env)).any (·.1))=μ;rw[BI]<;>rfl) (abN ?_);exact cJ hA λus s2 ⟨vs,H2,I2,r2,q2⟩=>hm f8 s2 σ H2 x vs v us Q I2 r1 r2 q2
end
def Uj(X:Cx)(id:String)(r:V->List V->Hp->VK->Prop):Prop:=
 ∀(f8:List (Addr×Obj)) (s:Yc) (σ:St) (H:Hp) (x:V) (xs:List V) (v:Value) (us:List Value) (Q:VK),Inv X f8 σ H s->RelV x v->Vals xs us->r x xs H Q->
  wpAny (model X.prog X.w) X.A (call (.builtin id) (v::us)) (EP X f8 σ Q) X.xe s
def Vals.one:∀{x:V}{us:List Value},Vals [x] us->∃u,us=[u]/\RelV x u
 |_,_, .cons r .nil=>⟨_,rfl,r⟩
section
variable{X:Cx}{f8:List (Addr×Obj)}{σ:St}{H:Hp}{s:Yc}{l:Addr}{xs ys:List V}
def Inv.lset{aS its':List Value}{n:Nat}{f:Array Value->Array Value}{t':Nat}(I:Inv X f8 σ H s)(hH:H l=θ (.lst xs))
 (e:s.heap.get? l=θ {cls:= .type "list",data:= .seq aS.toArray n})(hf:f aS.toArray=its'.toArray)(hv:Vals ys its')(hz:ys.length<=Yv):
 Inv X f8 σ (upd H l (.lst ys)) {s with heap:=s.heap.update l (Y2 f),toks:=t'}:=by
 have q:=PySem.IsL.update e f;rw[hf] at q;refine I.write (x:=l) (e:=l) (by rw[hH];exact trivial) (.inl rfl) (λb' u hb hu=>(Heap.get?_update_other s.heap (Y2 f) (Y9 hb)).trans hu) ⟨_,q⟩ ?_;exact⟨hz,its',_,hv,q⟩
def Inv.lnew{aS:List Value}{t':Nat}(I:Inv X f8 σ H s)(hv:Vals ys aS)(hz:ys.length<=Yv):
 Inv X f8 σ (upd H s.heap.objs.size (.lst ys)) {s with heap:=s.heap.push {cls:= .type "list",data:= .seq aS.toArray},toks:=t'}:=
 I.laid (λ_ _ q=>X8 _ q) (X_ _) ⟨hz,aS,0,hv,Yy _ rfl⟩
theorem Inv.fresh(I:Inv X f8 σ H s):H s.heap.objs.size=ω:=I.hok.fresh (X_ _)
def Inv.lstM(I:Inv X f8 σ H s)(hH:H l=θ (.lst xs)):xs.length<=Yv/\∃(aS:List Value) (n:Nat),Vals xs aS/\xs.length=aS.length/\s.heap.get? l=θ {cls:= .type "list",data:= .seq aS.toArray n}:=by
 obtain⟨z,aS,n,r,e⟩:=I.hok l _ hH;exact⟨z,aS,n,r,r.length,e⟩
def HH{n:Nat}(h:n<=Yv):aaN n=μ:=by
 unfold aaN;exact aek (by omega)
end
section
variable{X:Cx}
def D9:V->List V->Hp->VK->Prop:=λx vs H Q=>∃l xs y,x= .ref l/\vs=[y]/\H l=θ (.lst xs)/\xs.length<Yv/\Q .non (upd H l (.lst (xs++[y])))
def vM:Uj X "list.append" D9:=by
 intro f8 s σ H x vs v us Q I rx rv h;obtain⟨l,xs,y,rfl,rfl,hH,hz,q⟩:=h;cases rx;obtain⟨u,rfl,ru⟩:=rv.one;obtain⟨z,aS,n,r,hl,e⟩:=I.lstM hH;refine call_meets F.slot_list_append ⟨_,e,rfl⟩ F.entry_list_append (F.args_list_append_2 _ _) (PySem.list_append l aS.toArray n u (by rw[Yj];omega)) ⟨e,?_⟩;refine⟨.non,_,I.lset (its':=aS++[u]) hH e (by simp) (r.append (.cons ru .nil)) ?_,rfl,q⟩;rw[Yg,List.length_singleton];omega
def D_:V->List V->Hp->VK->Prop:=λx vs H Q=>∃l b xs zs,x= .ref l/\vs=[.ref b]/\H l=θ (.lst xs)/\H b=θ (.lst zs)/\xs.length+zs.length<=Yv/\Q .non (upd H l (.lst (xs++zs)))
def E9:Uj X "list.extend" D_:=by
 intro f8 s σ H x vs v us Q I rx rv h;obtain⟨l,b,xs,zs,rfl,rfl,hH,hB,hz,q⟩:=h;cases rx;obtain⟨u,rfl,ru⟩:=rv.one;cases ru;obtain⟨z,aS,n,r,hl,e⟩:=I.lstM hH;obtain⟨z2,i1,n2,r2,Bd,e2⟩:=I.lstM hB;have hsz:aS.toArray.size+i1.toArray.size<=Yv:=by rw[Yj,Yj];omega
 have P1:¬(!aS.toArray.isEmpty&&aaN (aS.toArray.size+i1.toArray.size))=ψ:=by
  rw[HH hsz,abT];exact YI
 refine call_meets F.slot_list_extend ⟨_,e,rfl⟩ F.entry_list_extend (F.args_list_extend_2 _ _)
  (AutoSeq1.list_extend_list_list_0 l aS.toArray n b i1.toArray n2 P1 (by rw[Yj];omega) (by omega)) ⟨e,e2,?_⟩
 refine⟨.non,_,I.lset (its':=aS++i1) hH e (by simp) (r.append r2) ?_,rfl,q⟩;rw[Yg];omega
def TN:R2:=λx y H Q=>∃l b xs zs,x= .ref l/\y= .ref b/\H l=θ (.lst xs)/\H b=θ (.lst zs)/\xs.length+zs.length<=Yv/\∀p,H p=ω->Q (.ref p) (upd H p (.lst (xs++zs)))
def NH:OpR X (aaQ .Add) TN:=by
 intro f8 s σ H x y v u Q I rx ry h;obtain⟨l,b,xs,zs,rfl,rfl,hH,hB,hz,q⟩:=h;cases rx;cases ry;obtain⟨z,aS,n,r,hl,e⟩:=I.lstM hH;obtain⟨z2,i1,n2,r2,Bd,e2⟩:=I.lstM hB;refine PySem.P.add_list e e2 ?_ (by rw[Yj,Yj];omega);have ea:aS.toArray++i1.toArray=(aS++i1).toArray:=by simp
 rw[ea];exact⟨.ref _,_,I.lnew (t':=s.toks) (r.append r2) (by rw[Yg];omega),rfl,q _ I.fresh⟩
end
end L2
namespace Att
open PySem PySem.W PySem.Calls PyProof.Rows
def ints_of_wellAll{P:Params}{h:Heap}:∀(ns:List Int) (vs:List Value),WellAll P h vs (ns.map WData.int)->aaK vs ns:=by
 intro ns;induction ns with
 |nil=>
  intro vs w;rw[aaj] at w;cases w;exact .nil
 |cons n ns ih=>
  intro vs w;rw[X9] at w;cases w with
  |cons a b=>
   cases a;exact .cons _ _ (ih _ b)
def script_of{l:OpenLaw}{n:Nat}(hn:l.most=θ n){P:Params}{h:Heap}{args:List WData}{vals:List Value}
 (Ka:l.row.toRowW.claim.pre args=ψ)(Tf:WellAll P h vals args):
 ∃a vs ns,vals=[YY a]/\args=[WData.list (ns.map WData.int)]/\h.get? a=θ {cls:= .type "list",data:= .seq vs.toArray}/\aaK vs ns/\ns.length<=n:=by
 have WN:WShape.hasAll [] args [.list .int]=ψ:=(pre_splitW Ka).1;have hc:l.pre.holds [] {args:=args}=ψ:=(pre_splitW Ka).2;obtain⟨d,r,rfl,h1,h2⟩:=hasAllW_cons WN;obtain rfl:=hasAllW_nil h2;obtain⟨xs,rfl,h3⟩:=hasW_list h1;obtain⟨ns,rfl⟩:=items_int h3;have v6:ns.length<=n:=by
  unfold OpenLaw.pre at hc;have h4:(WTm.not (.lt (.lit (.int (n:Int))) (.len (.arg 0)))).holds [] {args:=[.list (ns.map .int)]}=ψ:=by
   have h4:=(holds_andW hc).1;rw[hn] at h4;exact h4
  have h5:=condW_of h4 (w_not (w_lt w_lit (w_len_list (w_arg rfl))));rw[X3] at h5;refine Nat.le_of_not_lt λq=>?_;have q':(n:Int)<((ns.length:Nat):Int):=by omega
  first
   |(rw [aeg q'] at h5;exact ael h5 (by decide))
   |(simp at h5;omega)
 cases Tf with
 |cons w1 w2=>
  cases w2;cases w1 with
  |list ho oC=>exact⟨_,_,ns,rfl,rfl,ho,ints_of_wellAll ns _ oC,v6⟩
def post_true(l:OpenLaw)(args:List WData):l.row.toRowW.claim.post args (.bool ψ) args=ψ:=
 postW_of (r:=l.row.toRowW) (X:=(ψ==ψ))
  (show WShape.has [] (.bool ψ) .bool=ψ by first | rfl | decide | simp[WShape.has,WShape.arms,WShape.armsAll])
  (show (WTm.eq .res (.lit (.bool ψ))).value [] {args:=args,res:=θ (.bool ψ),after:=args}=θ (.bool (ψ==ψ)) from w_eq_bool (w_res rfl) w_lit) rfl
def attach_call{l:OpenLaw}{n:Nat}{q:YM}{loose:List Str}{XP:(Str->Option Value)->Heap->Prop}{YP:World->Heap->Prop}{d:DefRec}
 (hn:l.most=θ n)(PM:d.params.defaults=[])
 (call:∀(w:World) (aeq P3:Yc) (mg mb:Str->Option Value) (fa:Addr) (o:Obj) (pm cd doc:Value) (a:Addr) (vs:List Value) (ns:List Int),
  Ground q loose [] XP w aeq mg mb P3.heap->YP w P3.heap->
  P3.heap.get? fa=θ o->o.data= .func (docDef d.name d.params d.body d.scope pm cd doc)->P3.heap.CodeRec cd d.name->mg d.name=θ (.ref fa)->
  P3.heap.get? a=θ {cls:= .type "list",data:= .seq vs.toArray}->aaK vs ns->ns.length<=n->P3.gens= #[]->
  adn (model l.prog w) acP (.call (.ref fa) ⟨[.ref a],[]⟩) (λr s'=>r= .ok (.ret (.bool ψ))/\OldK P3.heap s'.heap/\s'.os=P3.os/\ab_ s'.gens) P3):
 WalkO q loose XP YP l.row.toRowW d [] (λf vs=>adZ f vs):=by
 intro w aeq P3 mg mb G Y fa o pm cd doc dV kV ho hd Bb hD MX hg args vals as Ka Wr XX Tf XU;obtain rfl:dV= .none:=Dflts.none hD PM;obtain rfl:kV= .none:=Dflts.noKw hD;obtain⟨a,vs,ns,rfl,rfl,G0,hints,v6⟩:=script_of hn Ka Tf;refine enter_call (acZ (call w aeq P3 mg mb fa o pm cd doc a vs ns G Y ho (fd_plain hd) Bb MX G0 hints v6 hg) λr s' hq=>?_);obtain⟨rfl,h2,h3,h4⟩:=hq;exact⟨.inl ⟨.bool ψ, .bool ψ,[],rfl,λ_=>rfl, .bool ψ,post_true l _,λ_=>⟨abq,λ_ hm=>(nomatch hm)⟩⟩,h2,h3,h4⟩
def ledger(h:Heap)(L d:Addr):List (Addr×Obj):=(Yr h.objs.size).filterMap λa=>if a=L\/a=d then ω else(h.get? a).map λo=>(a,o)
end Att
namespace L2
open PySem PySem.Spec PyProof.Rows
theorem wD:∀{vs:List Value}{ns:List Int},aaK vs ns->Vals (ns.map V.int) vs
 |_,_, .nil=> .nil
 |_,_, .cons n t h=> .cons ⟨t,rfl⟩ (wD h)
def Ms(H:Hp):Prop:=∀b,H b=ω\/∃o xs,H b=θ (.frz o (.lst xs))
def zI{P:YM}{w:World}{K:Ym}{mg mb:Str->Option Value}{CX:CG}{k:Nat}{fa a:Addr}{fd:aat}{x:Str}{sp:Sp}{P3:Yc}{vs:List Value}{ns:List Int}
 (KX:K.In P3.heap)(U3:P3.heap.Ns YG mg)(hb:P3.heap.Ns builtinsNs mb)(J7:∀x:Str,x≠"__name__"->mb x=YW x)(GX:P3.heap.NoLimit)(hg:P3.gens= #[])
 (ha:P3.heap.get? a=θ {cls:= .type "list",data:= .seq vs.toArray})(hi:aaK vs ns)(hl:ns.length<=Yv)(hr:Room k acP)
 (F:∀base:Heap,K.In base->base.Ns YG mg->FnOk P w K mg base CX k fa fd [x] sp)(PH:∀(s:Yc) (u:Value),ad6 s fd ⟨[u],[]⟩ [(x,u)])
 (Jz:∀H:Hp,Ms H->SqL K H a (ns.map V.int)->sp [.ref a] H (λv _=>v= .bl ψ) λ_ _ _=>False)
 (Sv:∀H e s',CX [] H P3 (λ_ _ _=>False) e s'->False):
 adn (model P w) acP (.call (.ref fa) ⟨[.ref a],[]⟩) (λr s'=>r= .ok (.ret (.bool ψ))/\OldK P3.heap s'.heap/\s'.os=P3.os/\ab_ s'.gens) P3:=by
 have rv:=wD hi;have Tx:=hi.length;have core:∀H:Hp,Ms H->SqL K H a (ns.map V.int)->HOk P w H P3.heap->(∀b,H b≠ω->b=a)->(H a≠ω->K.lookup a=ω)->
  adn (model P w) acP (.call (.ref fa) ⟨[.ref a],[]⟩) (λr s'=>r= .ok (.ret (.bool ψ))/\OldK P3.heap s'.heap/\s'.os=P3.os/\ab_ s'.gens) P3:=by
  intro H hO hS hok hA hK;have CN:∀{b:Addr}{o:Obj},P3.heap.get? b=θ o->H b=ω->(xb P3.heap H).get? b=θ o:=λe n=>GV e n;have QB:∀{b:Addr}{o:Obj}{es:Array abt}{ep:Nat},P3.heap.get? b=θ o->o.data= .dict es ep->H b=ω:=λ{b o es ep} e d=>by
   cases q:H b with
   |none=>rfl
   |some u=>
    have e':b=a:=hA b (by rw[q];simp);subst e';rw[ha] at e;cases e;have d':Data.seq vs.toArray _=aa4 es ep:=d;cases d'
  have RQ:∀{b:Addr}{m:Str->Option Value},P3.heap.Ns b m->(xb P3.heap H).Ns b m:=λ{b m} ⟨o,es,ep,e,d,r⟩=>⟨o,es,ep,CN e (QB e d),d,r⟩
  have UI:K.In (xb P3.heap H):=λb o e=>CN (KX b o e) (by
   cases q:H b with
   |none=>rfl
   |some u=>
    have e':b=a:=hA b (by rw[q];simp);subst e';rw[hK (by rw[q];simp)] at e;cases e)
  have hM:Mod K mg (xb P3.heap H):=⟨UI,RQ U3,⟨mb,RQ hb,J7⟩,let ⟨mc,h1,h2⟩:=GX;⟨mc,RQ h1,h2⟩⟩
  have e0:Env0 P w K mg (xb P3.heap H) acP [] P3 H:=⟨rfl,hM,λb o e=>KC e,Nat.le_of_eq (EN _ _),trivial,λb hb=>ael (show b∈([]:List Addr) from hb) (by simp),hok, .of_eq hg⟩
  refine acZ ((F _ UI (RQ U3)).run acP [] P3 H ⟨[.ref a],[]⟩ [.ref a] [.ref a] _ _ hr e0 (PH P3 (.ref a)) (.cons rfl .nil) (Jz H hO hS)) λr s' h=>?_;cases r with
  |error e=>exact(Sv H e s' h).elim
  |ok fl=>
   cases fl with
   |next=>exact Z3 h
   |brk=>exact Z3 h
   |cont=>exact Z3 h
   |ret u=>
    obtain⟨v,H',os,bare,un,S5,r',q⟩:=h;have q':v= .bl ψ:=q;subst q';obtain rfl:u=aa0 ψ:=r';refine⟨rfl,OldK.of_keep λb o e=>?_,os,bare⟩;cases q:H b with
    |none=>exact un.keep b o e q (by intro z;exact ael (show b∈([]:List Addr) from z) (by simp)) (by simp)
    |some u=>
     rcases hO b with z | ⟨ob,xs,z⟩
     ·rw[q] at z;cases z
     ·have z2:=un.frzs b ob _ z;obtain⟨e1,_⟩:=hok b _ z;obtain⟨e2,_⟩:=S5 b _ z2;rw[e] at e1;cases e1;exact e2
 cases hk:K.lookup a with
 |some o=>
  have e:=KX a o hk;rw[ha] at e;cases e;refine core (λ_=>ω) (λ_=> .inl rfl) (.inr ⟨_,vs.toArray,_,hk,rfl,rfl,rfl,by rw[Yj,Tx];exact hl,by simpa using rv⟩) (λb u z=>by have z':(ω:Option HO)=θ u:=z;cases z') (λb z=>ael rfl z) λz=>ael rfl z
 |none=>
  refine core (λb=>if b=a then θ (.frz {cls:= .type "list",data:= .seq vs.toArray} (.lst (ns.map V.int))) else ω) (λb=>?_) (.inl (.inr ⟨{cls:= .type "list",data:= .seq vs.toArray},aef rfl⟩)) (λb u z=>?_) (λb z=>?_) λ_=>hk
  ·by_cases hb:b=a
   ·exact .inr ⟨_,_,aef hb⟩
   ·exact .inl (aeh hb)
  ·by_cases hb:b=a
   ·have z':=(aef hb).symm.trans z;cases z';subst hb;exact⟨ha,by rw[X3];exact hl,vs,_,rv,ha⟩
   ·have z':=(aeh hb).symm.trans z;cases z'
  ·by_cases hb:b=a
   ·exact hb
   ·exact ael (aeh hb) z
abbrev XN{K:Ym}{h:Heap}(_:K.In h):Ym:=K
def RY{l:ad0}{n k:Nat}{q:YM}{loose:List Str}{XP:(Str->Option Value)->Heap->Prop}{YP:World->Heap->Prop}{d:DefRec}{K:Params->Ym}{CX:World->CG}{sp:World->Sp}{x:Str}
 (hn:l.most=θ n)(RH:n<=Yv)(PM:d.params.defaults=[])(hr:Room k acP)
 (hY:∀(w:World) (h:Heap),YP w h->(K w.params).In h)
 (F:∀(w:World) (mg:Str->Option Value) (fa:Addr) (h:Heap),(K w.params).In h->h.Ns YG mg->mg d.name=θ (.ref fa)->
  ∃fd:aat,(∀(s:Yc) (u:Value),ad6 s fd ⟨[u],[]⟩ [(x,u)])/\
   ∀base:Heap,(K w.params).In base->base.Ns YG mg->FnOk l.prog w (K w.params) mg base (CX w) k fa fd [x] (sp w))
 (Jz:∀(w:World) (H:Hp) (a:Addr) (ns:List Int),ns.length<=n->Ms H->SqL (K w.params) H a (ns.map V.int)->sp w [.ref a] H (λv _=>v= .bl ψ) λ_ _ _=>False)
 (Sv:∀(w:World) (H:Hp) (s:Yc) (e:Value) (s':Yc),CX w [] H s (λ_ _ _=>False) e s'->False):
 PySem.W.WalkO q loose XP YP l.row.toRowW d [] (λf vs=>adZ f vs):=by
 refine Att.attach_call hn PM λw aeq P3 mg mb fa o pm cd doc a vs ns G Y ho hd Bb MX G0 hints v6 hg=>?_;have KX:=hY w _ Y;obtain⟨fd,hb,hF⟩:=F w mg fa _ KX G.T.g MX;exact zI KX G.T.g G.T.b G.T.builtins G.T.nolimit hg G0 hints (Yz v6 RH) hr hF hb (λH hO hS=>Jz w H a ns v6 hO hS) λH e s'=>Sv w H P3 e s'
abbrev Ug:CG:=λ_ _ _ _ _ _=>False
structure Fun (K:Ym) (x qual:Str) (st:Stmt) (f:Addr) (fd:aat):Prop where
 ex:∃(oc:Value) (od:Option Addr) (kV doc pm:Value) (an:Option Addr) (cR ct:Value) (KQ:Array (Option Value)),
  fd=ZH x qual (fZ st) (ba st) (ah st) .none kV doc pm an cR ct/\K.lookup f=θ ⟨oc,od, .func fd,KQ⟩/\aav K cR qual=ψ
 kp:ZX K (.ref f)=ψ
section
variable{P:YM}{w:World}{K:Ym}{mg:Str->Option Value}{base:Heap}
def Fun.ok{x qual:Str}{st:Stmt}{f:Addr}{fd:aat}{N ps:List Str}{k:Nat}{sp:Sp}(F:Fun K x qual st f fd)(S:FnScope N ps (ah st))(len:∀vs H Q E,sp vs H Q E->vs.length=ps.length)
 (rX:∀(cR:Value) (A:Y7) (outer:List Env) (s:Yc) (H:Hp) (vs:List V) (Q:VK) (E:XK),Room k (A.deeper (ZU qual (ah st) s.heap.objs.size f cR))->sp vs H Q E->
  ∃t,PSs (d9 Ug P w K mg base N qual (ah st) f cR A outer s H E).nox (ba st) t/\t {nx:=λ_ H'=>Q .non H',rt:=Q} (start N vs) H):FnOk P w K mg base Ug (k+1) f fd ps sp:=by
 obtain⟨oc,od,kV,doc,pm,an,cR,ct,KQ,rfl,lk,Bb⟩:=F.ex;refine LP lk Bb S len λA outer s H vs Q E hr Jz=>?_;obtain⟨t,h,q⟩:=rX cR A outer s H vs Q E hr Jz;exact⟨t,h.nox,q⟩
def Fun.binds{x qual:Str}{st:Stmt}{f:Addr}{fd:aat}{ps:List Str}(F:Fun K x qual st f fd)
 (h:∀(kV doc pm:Value) (an:Option Addr) (cR ct:Value) (us:List Value),us.length=ps.length->bindArgs (ZH x qual (fZ st) (ba st) (ah st) .none kV doc pm an cR ct) ⟨us,[]⟩=pure (ps.zip us)):Binds K fd ps []:=by
 obtain⟨oc,od,kV,doc,pm,an,cR,ct,KQ,rfl,lk,Bb⟩:=F.ex;exact .all (h kV doc pm an cR ct)
def GK{x qual:Str}{st:Stmt}{f:Addr}{oc:Value}{od an:Option Addr}{KQ:Array (Option Value)}{kV doc pm cR ct:Value}(l:K.lookup f=θ ⟨oc,od, .func (ZH x qual (fZ st) (ba st) (ah st) .none kV doc pm an cR ct),KQ⟩)
 (c:aav K cR qual=ψ)(k:ZX K (.ref f)=ψ):Fun K x qual st f (ZH x qual (fZ st) (ba st) (ah st) .none kV doc pm an cR ct):=⟨⟨oc,od,kV,doc,pm,an,cR,ct,KQ,rfl,l,c⟩,k⟩
end
section
variable{X:Cx}
def pv(i:Nat){x:Str}{pos:Pos}(hN:X.N[i]? =θ x:=by rfl)(hv:R8 X.env.scope x:=by first | exact Or.inl rfl | exact Or.inr (Or.inl rfl) | exact Or.inr (Or.inr rfl))(hd:(x==("__debug__":Str))=μ:=by decide)
 (Bb:(x==("__classdict__":Str))=μ:=by decide):PE X (.Name x pos) (mG i):=N4 hN hv hd Bb
end
def Same(H H':Hp):Prop:=∀b o,H b=θ o->H' b=θ o
def Same.refl(H:Hp):Same H H:=λ_ _ h=>h
def Same.trans{H H1 H2:Hp}(a:Same H H1)(b:Same H1 H2):Same H H2:=λc o h=>b c o (a c o h)
def Same.free{H H':Hp}(e:Same H H'){l:Addr}(h:H' l=Option.none):H l=Option.none:=by
 cases q:H l with
 |none=>rfl
 |some o=>
  rw[e l o q] at h;cases h
def Same.seq{K:Ym}{H H':Hp}{a:Addr}{xs:List V}(e:Same H H')(h:SqL K H a xs):SqL K H' a xs:=by
 rcases h with(h | ⟨o,h⟩) | h
 ·exact .inl (.inl (e _ _ h))
 ·exact .inl (.inr ⟨o,e _ _ h⟩)
 ·exact .inr h
section
variable{κ:Type}[DecidableEq κ]
def gu(kvs:List (κ×V))(k:κ):Option V:=(kvs.find? λkv=>decide (kv.1=k)).map (·.2)
def putK(kvs:List (κ×V))(k:κ)(v:V):List (κ×V):=
 if (kvs.any λkv=>decide (kv.1=k))=ψ then kvs.map (λkv=>if kv.1=k then(kv.1,v) else kv) else kvs++[(k,v)]
def kX{p:κ×V}{r:List (κ×V)}{k:κ}(e:p.1=k):gu (p::r) k=θ p.2:=by simp[gu,aaq,e]
def kW{p:κ×V}{r:List (κ×V)}{k:κ}(e:¬p.1=k):gu (p::r) k=gu r k:=by simp[gu,aaq,e]
theorem kU(k:κ):∀kvs:List (κ×V),(kvs.any λkv=>decide (kv.1=k))=(gu kvs k).isSome
 |[]=>rfl
 |p::r=>by
  rw[aar];by_cases e:p.1=k
  ·simp only[kX e,aeg e,Bool.true_or,Option.isSome_some]
  ·rw[kW e,aek e,Bool.false_or];exact kU k r
def eO(kvs:List (κ×V))(k:κ)(v:V):(putK kvs k v).length<=kvs.length+1:=by
 unfold putK;split
 ·rw[X3];omega
 ·rw[Yg,Yh,ZT];omega
def Ar{kvs:List (κ×V)}{k:κ}(v:V)(h:gu kvs k=ω):putK kvs k v=kvs++[(k,v)]:=by
 unfold putK;rw[kU,h];exact aeh (by decide)
def RelO.isSome_eq{o:Option V}{u:Option Value}(r:RelO o u):o.isSome=u.isSome:=by
 cases o with
 |none=>cases u with
  |none=>rfl
  |some _=>exact(show False from r).elim
 |some _=>cases u with
  |none=>exact(show False from r).elim
  |some _=>rfl
theorem RelO.getD{o:Option V}{u:Option Value}{d:V}{d':Value}(r:RelO o u)(rd:RelV d d'):RelV (o.getD d) (u.getD d'):=by
 cases o with
 |none=>cases u with
  |none=>exact rd
  |some _=>exact(show False from r).elim
 |some _=>cases u with
  |none=>exact(show False from r).elim
  |some _=>exact r
def KV.val{kvs:List (κ×V)}{vs:List (κ×Value)}(r:KV kvs vs)(k:κ):RelO (gu kvs k) (adj vs k):=by
 unfold KV at r;induction r with
 |nil=>exact ZR
 | @cons p q ps qs h t ih=>
   obtain⟨h1,h2⟩:=h;by_cases e:p.1=k
   ·have e':q.1=k:=h1.symm.trans e;have b:adj (q::qs) k=θ q.2:=by simp[adj,aaq,e']
    rw[kX e,b];exact h2
   ·have e':¬q.1=k:=λz=>e (h1.trans z);have b:adj (q::qs) k=adj qs k:=by simp[adj,aaq,e']
    rw[kW e,b];exact ih
theorem KV.any{kvs:List (κ×V)}{vs:List (κ×Value)}(r:KV kvs vs)(k:κ):(kvs.any λkv=>decide (kv.1=k))=vs.any λkv=>decide (kv.1=k):=by
 unfold KV at r;induction r with
 |nil=>rfl
 |cons h t ih=>rw[aar,aar,ih,h.1]
def KV.repl{kvs:List (κ×V)}{vs:List (κ×Value)}(r:KV kvs vs)(k:κ){y:V}{u:Value}(ry:RelV y u):
 KV (kvs.map λkv=>if kv.1=k then(kv.1,y) else kv) (vs.map λkv=>if kv.1=k then(kv.1,u) else kv):=by
 unfold KV at r⊢;induction r with
 |nil=>exact .nil
 | @cons p q ps qs h t ih=>
   rw[X9,X9];refine .cons ?_ ih;obtain⟨h1,h2⟩:=h;by_cases e:p.1=k
   ·rw[aef e,aef (h1.symm.trans e)];exact⟨h1,ry⟩
   ·rw[aeh e,aeh (λz=>e (h1.trans z))];exact⟨h1,h2⟩
def KV.put{kvs:List (κ×V)}{vs:List (κ×Value)}(r:KV kvs vs)(k:κ){y:V}{u:Value}(ry:RelV y u):KV (putK kvs k y) (stored vs k u):=by
 unfold putK stored;rw[r.any k];by_cases e:(vs.any λkv=>decide (kv.1=k))=ψ
 ·rw[aef e,aef e];exact r.repl k ry
 ·rw[aeh e,aeh e];exact Paired.snoc r ⟨rfl,ry⟩
def KV.keys{kvs:List (κ×V)}{vs:List (κ×Value)}(r:KV kvs vs):kvs.map (·.1)=vs.map (·.1):=by
 unfold KV at r;induction r with
 |nil=>rfl
 |cons h t ih=>rw[X9,X9,ih,h.1]
theorem KV.length{kvs:List (κ×V)}{vs:List (κ×Value)}(r:KV kvs vs):kvs.length=vs.length:=ZV r
end
def sj{P:YM}{w:World}{k:Key}{u:Value}(r:RelV (kV k) u):(bM P w).is k u=ψ:=by
 cases k with
 |inl i=>obtain⟨t,e⟩:=(show∃t,u=adp i t from r);subst e;exact zQ P w i t
 |inr x=>obtain⟨t,e⟩:=(show∃t,u=ado x t from r);subst e;exact zR P w x t
def Nh{a b:Key}(e:kV a=kV b):a=b:=by
 cases a with
 |inl i=>cases b with
  |inl j=>have e':V.int i=V.int j:=e;injection e' with e';rw[e']
  |inr y=>exact nomatch (show V.int i=V.str y from e)
 |inr x=>cases b with
  |inl j=>exact nomatch (show V.str x=V.int j from e)
  |inr y=>have e':V.str x=V.str y:=e;injection e' with e';rw[e']
theorem Dk:∀{a b:List Key},a.map kV=b.map kV->a=b
 |[],[],_=>rfl
 |[],_::_,e=>by simp at e
 |_::_,[],e=>by simp at e
 |x::xs,y::ys,e=>by
  rw[X9,X9] at e;injection e with e1 e2
  rw[Nh e1,Dk e2]
theorem vE{P:YM}{w:World}:∀{ks:List Key}{us:List Value},Vals (ks.map kV) us->ItemsAre (bM P w) ks us
 |[],_,r=>by rw[aaj] at r;cases r;exact .nil
 |k::ks,_,r=>by
  rw[X9] at r;cases r with
  |cons h t=>exact .cons (sj h) (vE t)
abbrev KT(H:Hp):List (List Key×V)->List (List Key×Addr×Value)->Prop:=abQ λp q=>p.1=q.1/\H q.2.1=θ (.tup (p.1.map kV))/\RelV p.2 q.2.2
def KT.val{H:Hp}{kvs:List (List Key×V)}{xs:List (List Key×Addr×Value)}(r:KT H kvs xs)(k:List Key):RelO (gu kvs k) ((atKey xs k).map (·.2)):=by
 induction r with
 |nil=>exact ZR
 | @cons p q ps qs h t ih=>
   obtain⟨h1,_,h2⟩:=h;by_cases e:p.1=k
   ·have e':q.1=k:=h1.symm.trans e;have b:atKey (q::qs) k=θ q.2:=by simp[atKey,aaq,e']
    rw[kX e,b];exact h2
   ·have e':¬q.1=k:=λz=>e (h1.trans z);have b:atKey (q::qs) k=atKey qs k:=by simp[atKey,aaq,e']
    rw[kW e,b];exact ih
def KT.repl{H:Hp}{kvs:List (List Key×V)}{xs:List (List Key×Addr×Value)}(r:KT H kvs xs)(k:List Key){y:V}{u:Value}(ry:RelV y u):
 KT H (kvs.map λkv=>if kv.1=k then(kv.1,y) else kv) (xs.map (putAt k u)):=by
 induction r with
 |nil=>exact .nil
 | @cons p q ps qs h t ih=>
   rw[X9,X9];refine .cons ?_ ih;obtain⟨h1,h2,h3⟩:=h;unfold putAt;by_cases e:p.1=k
   ·rw[aef e,aef (h1.symm.trans e)];exact⟨h1,h2,ry⟩
   ·rw[aeh e,aeh (λz=>e (h1.trans z))];exact⟨h1,h2,h3⟩
def KT.put{H:Hp}{kvs:List (List Key×V)}{xs:List (List Key×Addr×Value)}(r:KT H kvs xs)(k:List Key){b:Addr}{y:V}{u:Value}(hb:H b=θ (.tup (k.map kV)))(ry:RelV y u):
 KT H (putK kvs k y) (abD xs k b u):=by
 have e:(kvs.any λkv=>decide (kv.1=k))=(atKey xs k).isSome:=by
  rw[kU,(r.val k).isSome_eq,acb]
 unfold putK abD;rw[e];by_cases q:(atKey xs k).isSome=ψ
 ·rw[aef q,aef q];exact r.repl k ry
 ·rw[aeh q,aeh q];exact Paired.snoc r ⟨rfl,hb,ry⟩
def KT.keeps{H H':Hp}{kvs:List (List Key×V)}{xs:List (List Key×Addr×Value)}(r:KT H kvs xs)(ht:∀b ys,H b=θ (.tup ys)->H' b=θ (.tup ys)):KT H' kvs xs:=
 Paired.mapP r λ_ _ z=>⟨z.1,ht _ _ z.2.1,z.2.2⟩
section
variable{P:YM}{w:World}{H:Hp}{h:Heap}{a:Addr}
def Mk{u:HO}(ok:HOk P w H h)(e:Rd H a u):ObjOk P w H h a u:=e.ok ok
def rL{kvs:List (Key×V)}(ok:HOk P w H h)(e:Rd H a (.dK kvs)):kvs.length<=Yv/\(a==Zy)=μ/\∃vs,KV kvs vs/\h.DictOf (bM P w) a vs:=
 show ObjOk P w H h a (.dK kvs) from Mk ok e
def GA{kvs:List (Key×V)}(ok:HOk P w H h)(e:H a=θ (.dK kvs)):kvs.length<=Yv/\(a==Zy)=μ/\∃vs,KV kvs vs/\h.DictOf (bM P w) a vs:=rL ok (.inl e)
def oG{ks:List Key}(ok:HOk P w H h)(e:H a=θ (.tup (ks.map kV))):(aan (bM P w)).is h ks a:=by
 obtain⟨_,aS,r,o,h1,h2,n,h3⟩:=(show ObjOk P w H h a (.tup (ks.map kV)) from ok a _ e)
 exact⟨o,aS.toArray,n,h1,h2,h3,by simpa using vE r⟩
def rN{kvs:List (List Key×V)}(ok:HOk P w H h)(e:Rd H a (.dT kvs)):kvs.length<=Yv/\(a==Zy)=μ/\
 ∃xs,KT H kvs xs/\h.DictOfH (aan (bM P w)) a xs:=by
 obtain⟨z,y,xs,r,o,es,ep,h1,h2,h3,h4,h5⟩:=(show ObjOk P w H h a (.dT kvs) from Mk ok e)
 refine⟨z,y,xs,r,o,es,ep,h1,h2,h3,h4,λx hx=>?_,h5⟩;have all:∀{l:List (List Key×V)}{m:List (List Key×Addr×Value)},KT H l m->∀x∈m,(aan (bM P w)).is h x.1 x.2.1:=by
  intro l m q;induction q with
  |nil=>intro x hx;exact nomatch hx
  | @cons p q ps qs hq t ih=>
    intro x hx;rcases Ye.mp hx with e | hx
    ·subst e;exact oG ok (by rw[<-hq.1];exact hq.2.1)
    ·exact ih x hx
 exact all r x hx
def GD{kvs:List (List Key×V)}(ok:HOk P w H h)(e:H a=θ (.dT kvs)):kvs.length<=Yv/\(a==Zy)=μ/\
 ∃xs,KT H kvs xs/\h.DictOfH (aan (bM P w)) a xs:=rN ok (.inl e)
end
def ux(H:Hp)(a:Addr)(y:V)(r:Option V):Prop:=
 (∃kvs k,Rd H a (.dK kvs)/\y=kV k/\r=gu kvs k)\/∃kvs k b,Rd H a (.dT kvs)/\y= .ref b/\H b=θ (.tup (k.map kV))/\r=gu kvs k
def DPut(H:Hp)(a:Addr)(y v:V)(H':Hp):Prop:=
 (∃kvs k,H a=θ (.dK kvs)/\y=kV k/\kvs.length<Yv/\H'=upd H a (.dK (putK kvs k v)))\/
 ∃kvs k b,H a=θ (.dT kvs)/\y= .ref b/\H b=θ (.tup (k.map kV))/\kvs.length<Yv/\H'=upd H a (.dT (putK kvs k v))
theorem DPut.k{H:Hp}{a:Addr}{kvs:List (Key×V)}{k:Key}{v:V}(e:H a=θ (.dK kvs))(hl:kvs.length<Yv):DPut H a (kV k) v (upd H a (.dK (putK kvs k v))):= .inl ⟨kvs,k,e,rfl,hl,rfl⟩
def DPut.t{H:Hp}{a b:Addr}{kvs:List (List Key×V)}{k:List Key}{v:V}(e:H a=θ (.dT kvs))(eb:H b=θ (.tup (k.map kV)))(hl:kvs.length<Yv):
 DPut H a (.ref b) v (upd H a (.dT (putK kvs k v))):= .inr ⟨kvs,k,b,e,rfl,eb,hl,rfl⟩
section
variable{X:Cx}{f8:List (Addr×Obj)}{σ:St}{H:Hp}{s:Yc}{a:Addr}{y v:V}{u r:Value}{o:Option V}{A:Y7}{E:Value->Yc->Prop}
def Inv.big(I:Inv X f8 σ H s):Zy<s.heap.objs.size:=by
 have h:YG<s.heap.objs.size:=(I.mod.glob.keeps I.bk).lt;exact aam (by decide) h
def EG{Q:Value->Yc->Prop}(hu:A.units+1<cLine)(I:Inv X f8 σ H s)(g:ux H a y (θ v))(ry:RelV y u)(h:∀w' s',Inv X f8 σ H s'->RelV v w'->Q w' s'):
 wpAny (model X.prog X.w) A (ab1 (.ref a) u) Q E s:=by
 rcases g with⟨kvs,k,e,ey,l⟩ | ⟨kvs,k,b,e,ey,eb,l⟩
 ·subst ey;obtain⟨z,hd,vs,rel,dd⟩:=rL I.hok e;obtain⟨w',hw,Eb⟩:=RelO.some_of (v:=v) (o:=adj vs k) (by rw[l];exact rel.val k);exact wpAny_getItem_of (sj ry) dd.mapOf hw (h w' _ (I.tok _) Eb)
 ·subst ey;cases (show u=YY b from ry);obtain⟨z,hd,xs,rel,dd⟩:=rN I.hok e;obtain⟨w',hw,Eb⟩:=RelO.some_of (v:=v) (o:=(atKey xs k).map (·.2)) (by rw[l];exact rel.val k);obtain⟨p,hp,P8⟩:=ac_.mp hw;refine wpAny_getItem_heap (aa_ hu) (oG I.hok eb) dd hp ?_;rw[P8];exact h w' _ (I.tok _) Eb
def Pc{Q:Value->Yc->Prop}(hu:A.units+1<cLine)(I:Inv X f8 σ H s)(g:ux H a y o)(ry:RelV y u)(h:∀s',Inv X f8 σ H s'->Q (.bool o.isSome) s'):
 wpAny (model X.prog X.w) A (Zf .In u (.ref a)) Q E s:=by
 rcases g with⟨kvs,k,e,ey,l⟩ | ⟨kvs,k,b,e,ey,eb,l⟩
 ·subst ey;obtain⟨z,hd,vs,rel,dd⟩:=rL I.hok e;refine wpAny_in_of (sj ry) hd dd.mapOf ?_;rw[<-(rel.val k).isSome_eq,<-l];exact h _ (I.tok _)
 ·subst ey;cases (show u=YY b from ry);obtain⟨z,hd,xs,rel,dd⟩:=rN I.hok e;refine wpAny_in_heap (aa_ hu) (oG I.hok eb) hd dd ?_;have q:=(rel.val k).isSome_eq;rw[acb] at q;rw[<-q,<-l];exact h _ (I.tok _)
def JO{Q:Value->Yc->Prop}(hu:A.units+1<cLine)(I:Inv X f8 σ H s)(g:ux H a y o)(ry:RelV y u)(h:∀s',Inv X f8 σ H s'->Q (.bool (!o.isSome)) s'):
 wpAny (model X.prog X.w) A (Zf .NotIn u (.ref a)) Q E s:=by
 rcases g with⟨kvs,k,e,ey,l⟩ | ⟨kvs,k,b,e,ey,eb,l⟩
 ·subst ey;obtain⟨z,hd,vs,rel,dd⟩:=rL I.hok e;refine wpAny_notIn_of (sj ry) hd dd.mapOf ?_;rw[<-(rel.val k).isSome_eq,<-l];exact h _ (I.tok _)
 ·subst ey;cases (show u=YY b from ry);obtain⟨z,hd,xs,rel,dd⟩:=rN I.hok e;refine wpAny_notIn_heap (aa_ hu) (oG I.hok eb) hd dd ?_;have q:=(rel.val k).isSome_eq;rw[acb] at q;rw[<-q,<-l];exact h _ (I.tok _)
def k8{h':Heap}{t':Nat}{ob:HO}(I:Inv X f8 σ H s)(mu:O0 (H a))(hs:aal a s.heap h')(he:∃q,h'.get? a=θ q)(new:ObjOk X.prog X.w (upd H a ob) h' a ob):
 Inv X f8 σ (upd H a ob) {s with heap:=h',toks:=t'}:=
 I.write (x:=a) (e:=a) mu (.inl rfl) (λb q hb z=>(hs.2 b hb).trans z) he new
def Bu{P:YM}{w:World}{H':Hp}{h':Heap}{kvs:List (Key×V)}{vs:List (Key×Value)}(z:kvs.length<=Yv)(hd:(a==Zy)=μ)(rel:KV kvs vs)(dd:h'.DictOf (bM P w) a vs):
 ObjOk P w H' h' a (.dK kvs):=⟨z,hd,vs,rel,dd⟩
def EH{H':Hp}{Q:Unit->Yc->Prop}(hu:A.units+1<cLine)(I:Inv X f8 σ H s)(g:DPut H a y v H')(ry:RelV y u)(rv:RelV v r)(h:∀s',Inv X f8 σ H' s'->Q () s'):
 wpAny (model X.prog X.w) A (setItem (.ref a) u r) Q E s:=by
 rcases g with⟨kvs,k,e,ey,l,eH⟩ | ⟨kvs,k,b,e,ey,eb,l,eH⟩
 ·subst ey eH;obtain⟨z,hd,vs,rel,dd⟩:=GA I.hok e;have hz:vs.length<=Yv:=by rw[<-rel.length];exact z
  have hl:(putK kvs k v).length<=Yv:=by have:=eO kvs k v;omega
  refine wpAny_setItem_pairs (hsz:=hz) (sj ry) dd λh' CU hs=>h _ ?_;have he:∃q,h'.get? a=θ q:=let ⟨q,_,_,hq,_⟩:=CU;⟨q,hq⟩
  exact k8 I (by rw[e];exact ZR) hs he (Bu hl hd (rel.put k rv) CU)
 ·subst ey eH;cases (show u=YY b from ry);obtain⟨z,hd,xs,rel,dd⟩:=GD I.hok e;have hz:xs.length<=Yv:=by rw[<-ZV rel];exact z
  have hl:(putK kvs k v).length<=Yv:=by have:=eO kvs k v;omega
  refine wpAny_setItem_heap (hsz:=hz) (aa_ hu) (oG I.hok eb) dd λh' CU hs=>h _ ?_;obtain⟨q,es,ep,hq,h2,h3,h4,_,h5⟩:=CU;refine k8 I (by rw[e];exact ZR) hs ⟨q,hq⟩ ⟨hl,hd,_,(rel.put k eb rv).keeps λc ys ec=>?_,q,es,ep,hq,h2,h3,h4,h5⟩;rw[ay (HA ec e (λz=>nomatch z))];exact ec
end
def Mq(i:Expr):Prop:=∀ov iv,subscripted i μ ov iv=operate [ov,iv] (ab1 ov iv)
def Lx{prog:YM}{w:World}{A:Y7}{E:Value->Yc->Prop}{s:Yc}{env:Env}{value slice:Expr}{pos:Pos}{T id:String}{Q:Value->Yc->Prop}
 (hl:typeLookup (.type T) "__getitem__"=pure (θ (.builtin id)))(hs:Mq slice)
 (h:wpAny (model prog w) A (eval value env) (λo P3=>wpAny (model prog w) A (eval slice env) (λi v2=>v2.TypeIs o T/\wpAny (model prog w) A (ab1 o i) Q E v2) E P3) E s):
 wpAny (model prog w) A (eval (.Subscript value slice pos) env) Q E s:=by
 refine Subscript_ (Zj h (λo P3 h₁=>Zj h₁ (λi v2 h₂=>?_) λ_ _ x=>x) λ_ _ x=>x);obtain⟨hT,h₂⟩:=h₂;unfold adV;refine X6 ?_;rw[getitemInPython_of_ne hT.not_modules];refine X6 (adi hT hl ?_);have fin:wpAny (model prog w) A (subscripted slice μ o i) (λr s₃=>wpAny (model prog w) A (letTemporaryGo value o r>>=λ_=>pure r) Q E s₃) E v2:=by
  rw[hs o i];exact wpAny_operating (Zj h₂ (λr s₃ h₃=>X6 (wpAny_letTemporaryGo (Yb h₃))) λ_ _ x=>x)
 first
  |exact Yb (X6 fin)
  |exact X6 (Yb (X6 fin))
  |exact X6 fin
def ze{X:Cx}{f8:List (Addr×Obj)}{σ:St}{H:Hp}{s:Yc}{a:Addr}{y:V}{o:Option V}(I:Inv X f8 σ H s)(g:ux H a y o):s.TypeIs (.ref a) "dict":=by
 rcases g with⟨kvs,k,e,_,_⟩ | ⟨kvs,k,b,e,_,_,_⟩
 ·obtain⟨_,_,vs,_,dd⟩:=rL I.hok e;exact dd.typeIs
 ·obtain⟨_,_,xs,_,dd⟩:=rN I.hok e;exact dd.typeIs
def Q_(td ty:TE):TE:=λσ H Q=>td σ H λx H1=>ty σ H1 λy H2=>∃a v,x= .ref a/\ux H2 a y (θ v)/\Q v H2
def T1(ty td:TE):TE:=λσ H Q=>ty σ H λy H1=>td σ H1 λx H2=>∃a o,x= .ref a/\ux H2 a y o/\Q (.bl o.isSome) H2
def Ml(td ty tv:TE):TS:=λD σ H=>tv σ H λv H1=>td σ H1 λx H2=>ty σ H2 λy H3=>∃a H4,x= .ref a/\DPut H3 a y v H4/\D.nx σ H4
section
variable{X:Cx}{o i value:Expr}{pos pos':Pos}{td ty tv:TE}
def K4(hu:X.A.units+1<cLine)(ho:PE X o td)(hi:PE X i ty)(hs:Mq i):PE X (.Subscript o i pos) (Q_ td ty):=by
 intro f8 s σ H Q I h;refine Lx PySem.F.slot_dict_getitem.lookup hs (cJ (ho f8 s σ H _ I h) λu s1 ⟨x,H1,I1,rx,q1⟩=>cJ (hi f8 s1 σ H1 _ I1 q1) λiv s2 ⟨y,H2,I2,ry,a,v,ex,g,q2⟩=>?_);subst ex;obtain rfl:u=YY a:=rx;exact⟨ze I2 g,EG hu I2 g ry λw' s3 I3 Eb=>⟨v,H2,I3,Eb,q2⟩⟩
def NO(hu:X.A.units+1<cLine)(hi:PE X i ty)(ho:PE X o td):PC X .In i o (T1 ty td):=by
 intro f8 s σ H Q I h;refine cJ (hi f8 s σ H _ I h) λiv s1 ⟨y,H1,I1,ry,q1⟩=>cJ (ho f8 s1 σ H1 _ I1 q1) λu s2 ⟨x,H2,I2,rx,a,ov,ex,g,q2⟩=>?_;subst ex;obtain rfl:u=YY a:=rx;exact Pc hu I2 g ry λs3 I3=>⟨.bl ov.isSome,H2,I3,rfl,q2⟩
def DZ(hu:X.A.units+1<cLine)(ho:PE X o td)(hi:PE X i ty)(hv:PE X value tv)(hs:aaY value (θ (.Subscript o i pos')) pos.line X.env=pure μ):
 PS X (.Assign [.Subscript o i pos'] value pos) (Ml td ty tv):=by
 intro f8 s σ H D I h;refine wpAny_Assign_Subscript (cJ (hv f8 s σ H _ I h) λr s1 ⟨v,H1,I1,rv,q1⟩=>cJ (ho f8 s1 σ H1 _ I1 q1) λu s2 ⟨x,H2,I2,rx,q2⟩=>cJ (hi f8 s2 σ H2 _ I2 q2) λiv s3 ⟨y,H3,I3,ry,a,H4,ex,g,q3⟩=>?_) hs;subst ex;obtain rfl:u=YY a:=rx;exact EH hu I3 g ry rv λs4 I4=>⟨σ,H4,I4,q3⟩
end
def zh{P:YM}{w:World}{H:Hp}(h:Heap)(hb:Zy<h.objs.size):ObjOk P w H (h.push {cls:= .type "dict",data:= .dict #[]}) h.objs.size (.dK []):=
 ⟨YH _,aen.mpr (Y9 (YF hb)),[], .nil,Heap.DictOf.new h⟩
def zj{P:YM}{w:World}{H:Hp}(h:Heap)(hb:Zy<h.objs.size):ObjOk P w H (h.push {cls:= .type "dict",data:= .dict #[]}) h.objs.size (.dT []):=
 ⟨YH _,aen.mpr (Y9 (YF hb)),[], .nil,_,#[],0,Yy _ rfl,⟨rfl,rfl,rfl⟩,rfl,rfl,Zv⟩
def Jh:TE:=λ_ H Q=>∀p,H p=ω->Q (.ref p) (upd H p (.dK []))
def Oy:TE:=λ_ H Q=>∀p,H p=ω->Q (.ref p) (upd H p (.dT []))
section
variable{X:Cx}{pos:Pos}
def Al:PE X (.Dict [] [] pos) Jh:=λf8 s σ H Q I h=>
 wpAny_Dict_empty ⟨.ref s.heap.objs.size,_,I.laid (a:=s.heap.objs.size) (o:= .dK []) (t':=s.toks) (λ_ _ q=>X8 _ q) (X_ _) (zh s.heap I.big),rfl,h _ (I.hok.fresh (X_ _))⟩
def Im:PE X (.Dict [] [] pos) Oy:=λf8 s σ H Q I h=>
 wpAny_Dict_empty ⟨.ref s.heap.objs.size,_,I.laid (a:=s.heap.objs.size) (o:= .dT []) (t':=s.toks) (λ_ _ q=>X8 _ q) (X_ _) (zj s.heap I.big),rfl,h _ (I.hok.fresh (X_ _))⟩
end
def Jj:List (TE×TE)->St->Hp->(List (V×V)->Hp->Prop)->Prop
 |[],_,H,Q=>Q [] H
 |(tk,tv)::r,σ,H,Q=>tk σ H λx H1=>tv σ H1 λy H2=>Jj r σ H2 λps H3=>Q ((x,y)::ps) H3
abbrev VV:List (V×V)->List (Value×Value)->Prop:=abQ λp q=>RelV p.1 q.1/\RelV p.2 q.2
def R4(X:Cx)(pos:Pos)(keys:List (Option Expr))(values:List Expr)(RW:List (TE×TE)):Prop:=
 ∀(f8:List (Addr×Obj)) (s:Yc) (σ:St) (H:Hp) (Q:List (V×V)->Hp->Prop),Inv X f8 σ H s->Jj RW σ H Q->
  wpAny (model X.prog X.w) X.A (evalPairs (pairTrees keys values X.env pos)) (λvs s'=>∃ps H',Inv X f8 σ H' s'/\VV ps vs/\Q ps H') X.xe s
def K_{X:Cx}{pos:Pos}:R4 X pos [] [] []:=λf8 s σ H Q I h=>pairTrees_nil_walk ⟨[],H,I, .nil,h⟩
def Iu{X:Cx}{pos:Pos}{k v:Expr}{ks:List (Option Expr)}{vs:List Expr}{tk tv:TE}{RW:List (TE×TE)}(hk:PE X k tk)(hv:PE X v tv)(hr:R4 X pos ks vs RW):
 R4 X pos (θ k::ks) (v::vs) ((tk,tv)::RW):=λf8 s σ H Q I h=>
 pairTrees_cons_walk (cJ (hk f8 s σ H _ I h) λu s1 ⟨x,H1,I1,rx,q1⟩=>cJ (hv f8 s1 σ H1 _ I1 q1) λw2 s2 ⟨y,H2,I2,ry,q2⟩=>
  cJ (hr f8 s2 σ H2 _ I2 q2) λws s3 ⟨ps,H3,I3,rel,q3⟩=>⟨(x,y)::ps,H3,I3, .cons ⟨rx,ry⟩ rel,q3⟩)
structure M1 (X:Cx) (o:Expr) (m:Str) (T0:Pos) (e:Expr) (bJ:Pos):Prop where
 base:aah o m X.env (eval o X.env)=eval o X.env
 few:((aae bJ (Yw [e] X.env)).all (λx=>!x.1)&&(aca bJ (aaH [] X.env)).all (λx=>x.1.isSome)
  &&decide (([e]:List Expr).length+([]:List aaC).length+(if ([]:List aaC).isEmpty then 0 else 1)<30))=ψ
 line:(T0.endLine==bJ.line)=ψ
 trees:aae bJ (Yw [e] X.env)=[(μ,eval e X.env)]
structure M2 (X:Cx) (o:Expr) (m:Str) (T0:Pos) (e f:Expr) (bJ:Pos):Prop where
 base:aah o m X.env (eval o X.env)=eval o X.env
 few:((aae bJ (Yw [e,f] X.env)).all (λx=>!x.1)&&(aca bJ (aaH [] X.env)).all (λx=>x.1.isSome)
  &&decide (([e,f]:List Expr).length+([]:List aaC).length+(if ([]:List aaC).isEmpty then 0 else 1)<30))=ψ
 line:(T0.endLine==bJ.line)=ψ
 trees:aae bJ (Yw [e,f] X.env)=[(μ,eval e X.env),(μ,eval f X.env)]
def RZ(H:Hp)(a:Addr):Prop:=(∃kvs,Rd H a (.dK kvs))\/∃kvs,Rd H a (.dT kvs)
def G9{X:Cx}{f8:List (Addr×Obj)}{σ:St}{H:Hp}{s:Yc}{a:Addr}(I:Inv X f8 σ H s)(d:RZ H a):
 s.TypeIs (.ref a) "dict"/\(∀b,YY a= .ref b->∃ob,s.heap.get? b=θ ob/\ob.dict=ω)/\(a==Zy)=μ:=by
 rcases d with⟨kvs,e⟩ | ⟨kvs,e⟩
 ·obtain⟨_,hd,vs,_,dd⟩:=rL I.hok e;refine⟨dd.typeIs,λb q=>?_,hd⟩;cases q;obtain⟨ob,_,_,h1,h2,_⟩:=dd;exact⟨ob,h1,h2.2.1⟩
 ·obtain⟨_,hd,xs,_,dd⟩:=rN I.hok e;refine⟨dd.typeIs,λb q=>?_,hd⟩;cases q;obtain⟨ob,_,_,h1,h2,_⟩:=dd;exact⟨ob,h1,h2.2.1⟩
end L2
namespace L3
open PySem PySem.Spec L2
open PyProof.Rows hiding St
inductive Rs (α:Type) where
 |ok (a:α) | ex (n:Nat)
def M(α:Type):=Option (Rs α)
def aa(a:α):M α:=θ (.ok a)
noncomputable def M.bind(m:M α)(k:α->M β):M β:=match m with
 |none=>ω
 |some (.ex n)=>θ (.ex n)
 |some (.ok a)=>k a
def af:M α:=ω
def qX(n:Nat):M α:=θ (.ex n)
instance:Monad M where
 pure:=aa
 bind:=M.bind
@[simp] def aw{α β:Type}(a:α)(k:α->M β):(aa a>>=k)=k a:=rfl
@[simp] def My{α β:Type}(a:α)(k:α->M β):((pure a:M α)>>=k)=k a:=rfl
@[simp] def Mz{α β:Type}(n:Nat)(k:α->M β):(qX n>>=k)=qX n:=rfl
@[simp] def MA{α β:Type}(k:α->M β):((af:M α)>>=k)=af:=rfl
def M.cs(m:M α):m=af\/(∃n,m=qX n)\/∃a,m=aa a:=by
 match m with
 |none=>exact .inl rfl
 |some (.ex n)=>exact .inr (.inl ⟨n,rfl⟩)
 |some (.ok a)=>exact .inr (.inr ⟨a,rfl⟩)
def fi(h:aa a=aa b):a=b:=by
 have h:θ (Rs.ok a)=θ (Rs.ok b):=h;cases h;rfl
def fw(h:af=aa a):False:=by
 have h:ω=θ (Rs.ok a):=h;cases h
def IK(h:qX n=aa a):False:=by
 have h:θ (Rs.ex n)=θ (Rs.ok a):=h;cases h
def eC(h:(m>>=k)=aa r):∃a,m=aa a/\k a=aa r:=by
 rcases m.cs with e | ⟨n,e⟩ | ⟨a,e⟩
 ·subst e;exact(fw h).elim
 ·subst e;exact(IK h).elim
 ·subst e;exact⟨a,rfl,h⟩
def OX(h:Heap)(ea D:Addr):Prop:=∃ox,h.get? ea=θ ox/\ox.cls= .ref D
def VC(ea D:Addr):HO:= .ext λh=>OX h ea D
inductive D where
 |non | bl (b:Bool) | int (i:Int) | str (x:Str) | raw (v:V) | exc (C:Addr) | scr (l:List Int) | tup (l:List D) | lst (l:List D)
 |dct (ks:List (List Key)) (l:List D) | dci (ks:List Key) (l:List D)
instance:Inhabited D:=⟨.non⟩
def lim:Nat:=4096
def dH:lim<Yv:=by rw[ZJ];decide
mutual
def Den(K:Ym)(F:Hp):D->V->Prop
 | .non,v=>v= .non
 | .bl b,v=>v= .bl b
 | .int i,v=>v= .int i
 | .str x,v=>v= .str x/\x.length<=lim
 | .raw u,v=>v=u
 | .exc C,v=>∃ea,v= .ref ea/\F ea=θ (VC ea C)
 | .scr ns,v=>∃a,v= .ref a/\SqL K F a (ns.map V.int)/\ns.length<=lim
 | .tup ds,v=>∃a vs,v= .ref a/\F a=θ (.tup vs)/\DenL K F ds vs/\ds.length<=lim
 | .lst ds,v=>∃a vs,v= .ref a/\F a=θ (.lst vs)/\DenL K F ds vs/\ds.length<=lim
 | .dct ks ds,v=>∃a ob vs,v= .ref a/\F a=θ (.frz ob (.dT (ks.zip vs)))/\DenL K F ds vs/\ks.length=ds.length/\ds.length<=lim
 | .dci ks ds,v=>∃a ob vs,v= .ref a/\F a=θ (.frz ob (.dK (ks.zip vs)))/\DenL K F ds vs/\ks.length=ds.length/\ds.length<=lim
def DenL(K:Ym)(F:Hp):List D->List V->Prop
 |[],vs=>vs=[]
 |d::ds,vs=>∃v r,vs=v::r/\Den K F d v/\DenL K F ds r
end
def Same.rd(e:Same H H')(h:Rd H a u):Rd H' a u:=by
 rcases h with h | ⟨o,h⟩
 ·exact .inl (e _ _ h)
 ·exact .inr ⟨o,e _ _ h⟩
def Same.tup{K:Ym}(e:Same H H')(h:SqT K H a xs):SqT K H' a xs:=by
 rcases h with h | h
 ·exact .inl (Same.rd e h)
 ·exact .inr h
section
variable{K:Ym}{F F':Hp}
mutual
theorem Den.mono(e:Same F F'):∀{d:D}{v:V},Den K F d v->Den K F' d v
 | .non,_,h=>h
 | .bl _,_,h=>h
 | .int _,_,h=>h
 | .str _,_,h=>h
 | .raw _,_,h=>h
 | .exc _,_,⟨a,h1,h2⟩=>⟨a,h1,e _ _ h2⟩
 | .scr _,_,⟨a,h1,h2,h3⟩=>⟨a,h1,Same.seq e h2,h3⟩
 | .tup _,_,⟨a,vs,h1,h2,h3,h4⟩=>⟨a,vs,h1,e _ _ h2,DenL.mono e h3,h4⟩
 | .lst _,_,⟨a,vs,h1,h2,h3,h4⟩=>⟨a,vs,h1,e _ _ h2,DenL.mono e h3,h4⟩
 | .dct _ _,_,⟨a,ob,vs,h1,h2,h3,h4⟩=>⟨a,ob,vs,h1,e _ _ h2,DenL.mono e h3,h4⟩
 | .dci _ _,_,⟨a,ob,vs,h1,h2,h3,h4⟩=>⟨a,ob,vs,h1,e _ _ h2,DenL.mono e h3,h4⟩
theorem DenL.mono(e:Same F F'):∀{ds:List D}{vs:List V},DenL K F ds vs->DenL K F' ds vs
 |[],_,h=>h
 |_::_,_,⟨v,r,h1,h2,h3⟩=>⟨v,r,h1,Den.mono e h2,DenL.mono e h3⟩
end
def DenL.nil:DenL K F [] []:=rfl
def DenL.cons(h:Den K F d v)(r:DenL K F ds vs):DenL K F (d::ds) (v::vs):=⟨v,vs,rfl,h,r⟩
theorem DenL.len:∀{ds:List D}{vs:List V},DenL K F ds vs->ds.length=vs.length
 |[],_,h=>by cases (show _=_ from h);rfl
 |_::ds,_,⟨v,r,h1,_,h3⟩=>by subst h1;rw[Yh,Yh,DenL.len h3]
theorem DenL.get:∀{ds:List D}{vs:List V}{i:Nat}{d:D},DenL K F ds vs->ds[i]? =θ d->∃v,vs[i]? =θ v/\Den K F d v
 |[],_,_,_,_,e=>by simp at e
 |d::ds,_,0,_,⟨v,r,h1,h2,h3⟩,e=>by subst h1;simp at e;subst e;exact⟨v,rfl,h2⟩
 |d::ds,_,i+1,_,⟨v,r,h1,h2,h3⟩,e=>by
  subst h1;obtain⟨w,e1,e2⟩:=DenL.get h3 (by simpa using e);exact⟨w,by simpa using e1,e2⟩
theorem DenL.at:∀{ds:List D}{vs:List V}{i:Nat}{v:V},DenL K F ds vs->vs[i]? =θ v->∃d,ds[i]? =θ d/\Den K F d v
 |[],_,_,_,h,e=>by cases (show _=_ from h);simp at e
 |d::ds,_,0,_,⟨v,r,h1,h2,h3⟩,e=>by subst h1;simp at e;subst e;exact⟨d,rfl,h2⟩
 |d::ds,_,i+1,_,⟨v,r,h1,h2,h3⟩,e=>by
  subst h1;obtain⟨w,e1,e2⟩:=DenL.at h3 (by simpa using e);exact⟨w,by simpa using e1,e2⟩
theorem DenL.append:∀{ds es:List D}{vs ws:List V},DenL K F ds vs->DenL K F es ws->DenL K F (ds++es) (vs++ws)
 |[],_,_,_,h,h'=>by cases (show _=_ from h);exact h'
 |d::ds,_,_,_,⟨v,r,h1,h2,h3⟩,h'=>by subst h1;exact⟨v,_,rfl,h2,DenL.append h3 h'⟩
theorem DenL.take:∀{ds:List D}{vs:List V}(n:Nat),DenL K F ds vs->DenL K F (ds.take n) (vs.take n)
 |_,_,0,_=>by simp[List.take];rfl
 |[],_,_+1,h=>by cases (show _=_ from h);rfl
 |d::ds,_,n+1,⟨v,r,h1,h2,h3⟩=>by subst h1;exact⟨v,_,rfl,h2,DenL.take n h3⟩
theorem DenL.drop:∀{ds:List D}{vs:List V}(n:Nat),DenL K F ds vs->DenL K F (ds.drop n) (vs.drop n)
 |_,_,0,h=>by simpa using h
 |[],_,_+1,h=>by cases (show _=_ from h);rfl
 |d::ds,_,n+1,⟨v,r,h1,h2,h3⟩=>by subst h1;exact DenL.drop n h3
def DenL.ints(ns:List Int):DenL K F (ns.map D.int) (ns.map V.int):=by
 induction ns with
 |nil=>rfl
 |cons n ns ih=>exact .cons rfl ih
end
structure Ext (F H F' H':Hp):Prop where
 hh:Same H H'
 ff:Same F F'
 fh:Same F' H'
 new:∀a,H a≠ω->F' a=F a\/∃ts,H a=θ (.tup ts)
def Ext.old(e:Ext F H F' H')(h:H a=θ o)(hn:∀ts,o≠ .tup ts):F' a=F a:=by
 rcases e.new a (by rw[h];exact λz=>nomatch z) with q | ⟨ts,q⟩
 ·exact q
 ·rw[h] at q;cases q;exact ael rfl (hn ts)
theorem Ext.refl(h:Same F H):Ext F H F H:=⟨Same.refl _,Same.refl _,h,λ_ _=> .inl rfl⟩
theorem Ext.trans(a:Ext F H F' H')(b:Ext F' H' F'' H''):Ext F H F'' H'':=
 ⟨a.hh.trans b.hh,a.ff.trans b.ff,b.fh,λc hc=>by
  have:H' c≠ω:=by
   cases q:H c with
   |none=>exact ael q hc
   |some o=>rw[a.hh c o q];exact λz=>nomatch z
  rcases a.new c hc with p | p
  ·rcases b.new c this with q | ⟨ts,q⟩
   ·exact .inl (q.trans p)
   ·cases z:H c with
    |none=>exact ael z hc
    |some o=>
     rw[a.hh c o z] at q;exact .inr ⟨ts,q⟩
  ·exact .inr p⟩
def Ext.lay(h:Same F H)(n:H a=ω):Ext F H (upd F a o) (upd H a o):=by
 have nf:F a=ω:=Same.free h n;refine⟨λb u e=>?_,λb u e=>?_,λb u e=>?_,λb hb=>?_⟩
 ·rw[ay (bB e n)];exact e
 ·rw[ay (bB e nf)];exact e
 ·by_cases q:b=a
  ·subst q;rw[aD] at e⊢;exact e
  ·rw[ay q] at e⊢;exact h b u e
 ·exact .inl (ay λz=>hb (by rw[z];exact n))
def Ext.free(h:Same F H)(n:H a=ω):Ext F H F (upd H a o):=
 ⟨λb u e=>by rw[ay (bB e n)];exact e,Same.refl _,λb u e=>by rw[ay (bB (h b u e) n)];exact h b u e,λ_ _=> .inl rfl⟩
theorem Ext.tup(h:Same F H)(e:H a=θ (.tup ts)):Ext F H (upd F a (.tup ts)) H:=by
 refine⟨Same.refl _,λb u q=>?_,λb u q=>?_,λb hb=>?_⟩
 ·by_cases z:b=a
  ·subst z;rw[aD,<-e];exact h b u q
  ·rw[ay z];exact q
 ·by_cases z:b=a
  ·subst z;rw[aD] at q;rw[e];exact q
  ·rw[ay z] at q;exact h b u q
 ·by_cases z:b=a
  ·subst z;exact .inr ⟨ts,e⟩
  ·exact .inl (ay z)
def WP(K:Ym)(Xw:Nat->Hp->Prop)(F H:Hp)(m:M D)(Q:VK):Prop:=
 match m with
 |none=>False
 |some (.ok d)=>∀v H' F',Ext F H F' H'->Den K F' d v->Q v H'
 |some (.ex n)=>∀F' H',Ext F H F' H'->Xw n H'
def WPL(K:Ym)(Xw:Nat->Hp->Prop)(F H:Hp)(m:M (List D))(Q:List V->Hp->Prop):Prop:=
 match m with
 |none=>False
 |some (.ok ds)=>∀vs H' F',Ext F H F' H'->DenL K F' ds vs->Q vs H'
 |some (.ex n)=>∀F' H',Ext F H F' H'->Xw n H'
def WPB(Xw:Nat->Hp->Prop)(F H:Hp)(m:M Bool)(Q:Bool->Hp->Prop):Prop:=
 match m with
 |none=>False
 |some (.ok b)=>∀H' F',Ext F H F' H'->Q b H'
 |some (.ex n)=>∀F' H',Ext F H F' H'->Xw n H'
section
variable{K:Ym}{Xw:Nat->Hp->Prop}{F F' H H':Hp}{Q:VK}
def WP.ext(e:Ext F H F' H')(h:WP K Xw F H m Q):WP K Xw F' H' m Q:=by
 match m,h with
 |none,h=>exact h
 |some (.ok d),h=>exact λv H2 F2 e2 q=>h v H2 F2 (e.trans e2) q
 |some (.ex n),h=>exact λF2 H2 e2=>h F2 H2 (e.trans e2)
def WPL.ext{Q:List V->Hp->Prop}(e:Ext F H F' H')(h:WPL K Xw F H m Q):WPL K Xw F' H' m Q:=by
 match m,h with
 |none,h=>exact h
 |some (.ok d),h=>exact λv H2 F2 e2 q=>h v H2 F2 (e.trans e2) q
 |some (.ex n),h=>exact λF2 H2 e2=>h F2 H2 (e.trans e2)
def WPB.ext{Q:Bool->Hp->Prop}(e:Ext F H F' H')(h:WPB Xw F H m Q):WPB Xw F' H' m Q:=by
 match m,h with
 |none,h=>exact h
 |some (.ok d),h=>exact λH2 F2 e2=>h H2 F2 (e.trans e2)
 |some (.ex n),h=>exact λF2 H2 e2=>h F2 H2 (e.trans e2)
def WP.fin(h:WP K Xw F H (aa d) Q)(e:Ext F H F' H')(q:Den K F' d v):Q v H':=h v H' F' e q
def WP.now(h:WP K Xw F H (aa d) Q)(s:Same F H)(q:Den K F d v):Q v H:=h v H F (Ext.refl s) q
def WP.bind(h:WP K Xw F H (m>>=k) Q):WP K Xw F H m λv H1=>∃F1 d,Ext F H F1 H1/\Den K F1 d v/\WP K Xw F1 H1 (k d) Q:=by
 match m,h with
 |none,h=>exact h
 |some (.ok d),h=>exact λv H2 F2 e2 q=>⟨F2,d,e2,q,WP.ext e2 (show WP K Xw F H (k d) Q from h)⟩
 |some (.ex n),h=>exact h
def WP.bindL(h:WP K Xw F H (m>>=k) Q):WPL K Xw F H m λvs H1=>∃F1 ds,Ext F H F1 H1/\DenL K F1 ds vs/\WP K Xw F1 H1 (k ds) Q:=by
 match m,h with
 |none,h=>exact h
 |some (.ok d),h=>exact λv H2 F2 e2 q=>⟨F2,d,e2,q,WP.ext e2 (show WP K Xw F H (k d) Q from h)⟩
 |some (.ex n),h=>exact h
def WP.bindB(h:WP K Xw F H (m>>=k) Q):WPB Xw F H m λb H1=>∃F1,Ext F H F1 H1/\WP K Xw F1 H1 (k b) Q:=by
 match m,h with
 |none,h=>exact h
 |some (.ok d),h=>exact λH2 F2 e2=>⟨F2,e2,WP.ext e2 (show WP K Xw F H (k d) Q from h)⟩
 |some (.ex n),h=>exact h
def WPB.bind{Q:Bool->Hp->Prop}(h:WPB Xw F H (m>>=k) Q):WP K Xw F H m λv H1=>∃F1 d,Ext F H F1 H1/\Den K F1 d v/\WPB Xw F1 H1 (k d) Q:=by
 match m,h with
 |none,h=>exact h
 |some (.ok d),h=>exact λv H2 F2 e2 q=>⟨F2,d,e2,q,WPB.ext e2 (show WPB Xw F H (k d) Q from h)⟩
 |some (.ex n),h=>exact h
def WPB.bindB{Q:Bool->Hp->Prop}(h:WPB Xw F H (m>>=k) Q):WPB Xw F H m λb H1=>∃F1,Ext F H F1 H1/\WPB Xw F1 H1 (k b) Q:=by
 match m,h with
 |none,h=>exact h
 |some (.ok d),h=>exact λH2 F2 e2=>⟨F2,e2,WPB.ext e2 (show WPB Xw F H (k d) Q from h)⟩
 |some (.ex n),h=>exact h
def WPL.bind{Q:List V->Hp->Prop}(h:WPL K Xw F H (m>>=k) Q):WP K Xw F H m λv H1=>∃F1 d,Ext F H F1 H1/\Den K F1 d v/\WPL K Xw F1 H1 (k d) Q:=by
 match m,h with
 |none,h=>exact h
 |some (.ok d),h=>exact λv H2 F2 e2 q=>⟨F2,d,e2,q,WPL.ext e2 (show WPL K Xw F H (k d) Q from h)⟩
 |some (.ex n),h=>exact h
def WPL.bindL{Q:List V->Hp->Prop}(h:WPL K Xw F H (m>>=k) Q):WPL K Xw F H m λvs H1=>∃F1 ds,Ext F H F1 H1/\DenL K F1 ds vs/\WPL K Xw F1 H1 (k ds) Q:=by
 match m,h with
 |none,h=>exact h
 |some (.ok d),h=>exact λv H2 F2 e2 q=>⟨F2,d,e2,q,WPL.ext e2 (show WPL K Xw F H (k d) Q from h)⟩
 |some (.ex n),h=>exact h
def WP.mono(h:WP K Xw F H m Q)(k:∀v H',Q v H'->Q' v H'):WP K Xw F H m Q':=by
 match m,h with
 |none,h=>exact h
 |some (.ok d),h=>exact λv H2 F2 e2 q=>k _ _ (h v H2 F2 e2 q)
 |some (.ex n),h=>exact h
def WPL.mono{Q Q':List V->Hp->Prop}(h:WPL K Xw F H m Q)(k:∀v H',Q v H'->Q' v H'):WPL K Xw F H m Q':=by
 match m,h with
 |none,h=>exact h
 |some (.ok d),h=>exact λv H2 F2 e2 q=>k _ _ (h v H2 F2 e2 q)
 |some (.ex n),h=>exact h
def WPB.mono{Q Q':Bool->Hp->Prop}(h:WPB Xw F H m Q)(k:∀v H',Q v H'->Q' v H'):WPB Xw F H m Q':=by
 match m,h with
 |none,h=>exact h
 |some (.ok d),h=>exact λH2 F2 e2=>k _ _ (h H2 F2 e2)
 |some (.ex n),h=>exact h
end
inductive C where
 |lst (l:List D) | dct (ks:List (List Key)) (l:List D) | dci (ks:List Key) (l:List D)
def C.d:C->D
 | .lst ds=> .lst ds
 | .dct ks ds=> .dct ks ds
 | .dci ks ds=> .dci ks ds
inductive Sl where
 |fz (d:D) | ow (c:C)
abbrev bQ:=List (Option Sl)
def DenC(K:Ym)(F:Hp):C->HO->Prop
 | .lst ds,o=>∃vs,o= .lst vs/\DenL K F ds vs/\ds.length<=lim
 | .dct ks ds,o=>∃vs,o= .dT (ks.zip vs)/\DenL K F ds vs/\ks.length=ds.length/\ds.length<=lim
 | .dci ks ds,o=>∃vs,o= .dK (ks.zip vs)/\DenL K F ds vs/\ks.length=ds.length/\ds.length<=lim
theorem DenC.mono{K:Ym}(e:Same F F'):∀{c:C}{o:HO},DenC K F c o->DenC K F' c o
 | .lst _,_,⟨vs,h1,h2,h3⟩=>⟨vs,h1,DenL.mono e h2,h3⟩
 | .dct _ _,_,⟨vs,h1,h2,h3⟩=>⟨vs,h1,DenL.mono e h2,h3⟩
 | .dci _ _,_,⟨vs,h1,h2,h3⟩=>⟨vs,h1,DenL.mono e h2,h3⟩
def DenC.notup{K:Ym}:∀{c:C}{o:HO},DenC K F c o->∀ts,o≠ .tup ts
 | .lst _,_,⟨_,h1,_⟩,ts,z=>by rw[h1] at z;cases z
 | .dct _ _,_,⟨_,h1,_⟩,ts,z=>by rw[h1] at z;cases z
 | .dci _ _,_,⟨_,h1,_⟩,ts,z=>by rw[h1] at z;cases z
def qD(ob:Obj):HO->HO
 | .dT kvs=> .frz ob (.dT kvs)
 | .dK kvs=> .frz ob (.dK kvs)
 |o=>o
def DenC.den{K:Ym}:∀{c:C}{o:HO},DenC K F c o->Same F F'->F' a=θ (qD ob o)->Den K F' c.d (.ref a)
 | .lst _,_,⟨vs,h1,h2,h3⟩,e,q=>by subst h1;exact⟨a,vs,rfl,q,DenL.mono e h2,h3⟩
 | .dct _ _,_,⟨vs,h1,h2,h3⟩,e,q=>by subst h1;exact⟨a,ob,vs,rfl,q,DenL.mono e h2,h3⟩
 | .dci _ _,_,⟨vs,h1,h2,h3⟩,e,q=>by subst h1;exact⟨a,ob,vs,rfl,q,DenL.mono e h2,h3⟩
def DenO(K:Ym)(F H:Hp):Sl->V->Prop
 | .fz d,v=>Den K F d v
 | .ow c,v=>∃a o,v= .ref a/\H a=θ o/\F a=ω/\DenC K F c o
structure StE (K:Ym) (F H:Hp) (σ:St) (ρ:bQ):Prop where
 fh:Same F H
 den:∀(i:Nat) (sl:Sl),ρ[i]? =θ (θ sl)->∃v,σ[i]? =θ (θ v)/\DenO K F H sl v
def DenO.ext{K:Ym}(e:Ext F H F' H'):∀{sl:Sl}{v:V},DenO K F H sl v->DenO K F' H' sl v
 | .fz _,_,h=>Den.mono e.ff h
 | .ow _,_,⟨a,o,h1,h2,h3,h4⟩=>⟨a,o,h1,e.hh _ _ h2,by rw[e.old h2 h4.notup];exact h3,DenC.mono e.ff h4⟩
theorem StE.ext{K:Ym}(s:StE K F H σ ρ)(e:Ext F H F' H'):StE K F' H' σ ρ:=
 ⟨e.fh,λi sl q=>let ⟨v,h1,h2⟩:=s.den i sl q;⟨v,h1,h2.ext e⟩⟩
abbrev DE:=bQ->M D
abbrev DT:=bQ->M Bool
abbrev DA:=bQ->M (List D)
def tD(K:Ym)(Xw:Nat->Hp->Prop)(δ:DE):TE:=λσ H Q=>∃F ρ,StE K F H σ ρ/\WP K Xw F H (δ ρ) Q
def RU(K:Ym)(Xw:Nat->Hp->Prop)(δ:DT):TT:=λσ H Q=>∃F ρ,StE K F H σ ρ/\WPB Xw F H (δ ρ) Q
def Vx(K:Ym)(Xw:Nat->Hp->Prop)(δ:DA):TA:=λσ H Q=>∃F ρ,StE K F H σ ρ/\WPL K Xw F H (δ ρ) Q
def PD(X:Cx)(Xw:Nat->Hp->Prop)(e:Expr)(δ:DE):Prop:=PE X e (tD X.K Xw δ)
def n0(X:Cx)(Xw:Nat->Hp->Prop)(e:Expr)(δ:DT):Prop:=PT X e (RU X.K Xw δ)
def nZ(X:Cx)(Xw:Nat->Hp->Prop)(es:List Expr)(δ:DA):Prop:=PA X es (Vx X.K Xw δ)
def PE.weak(h:PE X e t)(k:∀σ H Q,t' σ H Q->t σ H Q):PE X e t':=λf8 s σ H Q I w=>h f8 s σ H Q I (k σ H Q w)
def PT.weak(h:PT X e t)(k:∀σ H Q,t' σ H Q->t σ H Q):PT X e t':=λf8 s σ H Q I w=>h f8 s σ H Q I (k σ H Q w)
def PA.weak(h:PA X e t)(k:∀σ H Q,t' σ H Q->t σ H Q):PA X e t':=λpos f8 s σ H Q I w=>h pos f8 s σ H Q I (k σ H Q w)
def dV(i:Nat):DE:=λρ=>match ρ[i]? with
 |some (θ (.fz d))=>aa d
 |_=>af
def dC(d:D):DE:=λ_=>aa d
def d1(g:D->M D)(a:DE):DE:=λρ=>a ρ>>=g
def d2(g:D->D->M D)(a b:DE):DE:=λρ=>a ρ>>=λx=>b ρ>>=λy=>g x y
def aN:DA:=λ_=>aa []
def aC(a:DE)(r:DA):DA:=λρ=>a ρ>>=λx=>r ρ>>=λxs=>aa (x::xs)
def dA(g:List D->M D)(a:DA):DE:=λρ=>a ρ>>=g
def Er:D->M Bool
 | .bl b=>aa b
 |_=>af
def cT(a:DE):DT:=λρ=>a ρ>>=Er
def Gs(a b:DT):DT:=λρ=>a ρ>>=λx=>if x then b ρ else aa μ
def qS(a b:DT):DT:=λρ=>a ρ>>=λx=>if x then aa ψ else b ρ
def cZ(a:DT):DT:=λρ=>a ρ>>=λx=>aa (!x)
def Gv(c:DT)(a b:DE):DE:=λρ=>c ρ>>=λx=>if x then a ρ else b ρ
def gT(a b:DE):DE:=λρ=>a ρ>>=λx=>Er x>>=λc=>if c then b ρ else aa (.bl μ)
def EF(a b:DE):DE:=λρ=>a ρ>>=λx=>Er x>>=λc=>if c then aa (.bl ψ) else b ρ
def CT(a:DE):DE:=λρ=>a ρ>>=λx=>Er x>>=λc=>aa (.bl (!c))
section
variable{X:Cx}{Xw:Nat->Hp->Prop}{a b:Expr}{δa δb:DE}{pos:Pos}
def ae(h:PE X (.Name x pos) (mG i)):PD X Xw (.Name x pos) (dV i):=PE.weak h λσ H Q ⟨F,ρ,s,w⟩=>by
 unfold dV at w;split at w
 ·rename_i d e;obtain⟨v,h1,h2⟩:=s.den i _ e;exact⟨v,h1,WP.now w s.fh h2⟩
 ·exact w.elim
def jb(h:PE X e (tC v))(hd:∀F,Den X.K F d v):PD X Xw e (dC d):=PE.weak h λσ H Q ⟨F,ρ,s,w⟩=>WP.now w s.fh (hd F)
def ax:PD X Xw (.Constant (.int i) j pos) (dC (.int i)):=jb NX λ_=>rfl
def fI:PD X Xw (.Constant (.bool i) j pos) (dC (.bl i)):=jb Mg λ_=>rfl
def NS:PD X Xw (.Constant .none j pos) (dC .non):=jb NY λ_=>rfl
def iL(h:x.length<=lim:=by decide):PD X Xw (.Constant (.str x) j pos) (dC (.str x)):=jb N1 λ_=>⟨rfl,h⟩
def A_(K:Ym)(r:R2)(g:D->D->M D):Prop:=∀(Xw:Nat->Hp->Prop) (F H:Hp) (x y:V) (dx dy:D) (Q:VK),Same F H->Den K F dx x->Den K F dy y->WP K Xw F H (g dx dy) Q->r x y H Q
def yD(hg:A_ X.K r g):∀σ H Q,tD X.K Xw (d2 g δa δb) σ H Q->Rh r (tD X.K Xw δa) (tD X.K Xw δb) σ H Q:=λσ H Q ⟨F,ρ,s,w⟩=>by
 refine⟨F,ρ,s,WP.mono (WP.bind w) λv H1 ⟨F1,d,e1,q1,w1⟩=>?_⟩;refine⟨F1,ρ,s.ext e1,WP.mono (WP.bind w1) λu H2 ⟨F2,d',e2,q2,w2⟩=>?_⟩;exact hg Xw F2 H2 v u d d' Q e2.fh (Den.mono e2.ff q1) q2 w2
def tB(ho:OpR X (aaQ op) r)(hg:A_ X.K r g)(ha:PD X Xw a δa)(hb:PD X Xw b δb):PD X Xw (.BinOp a op b pos) (d2 g δa δb):=
 PE.weak (QP ho ha hb) (yD hg)
def xQ(ho:OpR X (Zf op) r)(hg:A_ X.K r g)(ha:PD X Xw a δa)(hb:PD X Xw b δb)(hm:Y3 op b=μ:=by first | exact HG _ | rfl):PD X Xw (.Compare a [op] [b] pos) (d2 g δa δb):=
 PE.weak (K3 ho ha hb hm) (yD hg)
def f9(ho:OpR X (Zf op) r)(hg:A_ X.K r g)(ha:PD X Xw a δa)(hb:PD X Xw b δb)(hm:Y3 op b=μ:=by first | exact HG _ | rfl):n0 X Xw (.Compare a [op] [b] pos) (cT (d2 g δa δb)):=
 PT.weak (La ho ha hb hm) λσ H Q ⟨F,ρ,s,w⟩=>by
  refine yD hg σ H _ ⟨F,ρ,s,WP.mono (WPB.bind w) λv H1 ⟨F1,d,e1,q1,w1⟩=>?_⟩;cases d with
  |bl k=>exact⟨k,q1,w1 _ _ (Ext.refl e1.fh)⟩
  |_=>exact w1.elim
def DR(hr:OZ X r)(hg:A_ X.K r g)(ha:PD X Xw a δa)(hb:PD X Xw b δb)(hs:kY b:=by intro _ _;rfl):PD X Xw (.Subscript a b pos) (d2 g δa δb):=
 PE.weak (QO hr ha hb hs) (yD hg)
def ag:nZ X Xw [] aN:=PA.weak xM λσ H Q ⟨F,ρ,s,w⟩=>w [] H F (Ext.refl s.fh) rfl
def ab(ha:PD X Xw a δa)(hr:nZ X Xw es δs)(hs:Yw (a::es) X.env=(μ,eval a X.env)::Yw es X.env:=by rfl):nZ X Xw (a::es) (aC δa δs):=
 PA.weak (xK ha hr hs) λσ H Q ⟨F,ρ,s,w⟩=>by
  refine⟨F,ρ,s,WP.mono (WPL.bind w) λv H1 ⟨F1,d,e1,q1,w1⟩=>?_⟩;refine⟨F1,ρ,s.ext e1,WPL.mono (WPL.bindL w1) λvs H2 ⟨F2,ds,e2,q2,w2⟩=>?_⟩;exact w2 _ _ _ (Ext.refl e2.fh) (.cons (Den.mono e2.ff q1) q2)
def e7(ds:List D):M D:=if ds.length<=lim then aa (.tup ds) else af
def dm(ds:List D):M D:=if ds.length<=lim then aa (.lst ds) else af
def BW{f:List D->D}(w:WP X.K Xw F H (if ds.length<=lim then aa (f ds) else af) Q):ds.length<=lim/\WP X.K Xw F H (aa (f ds)) Q:=by
 split at w
 ·rename_i h;exact⟨h,w⟩
 ·exact w.elim
def iM(h:nZ X Xw es δs):PD X Xw (.Tuple es x1 pos) (dA e7 δs):=PE.weak (N2 h) λσ H Q ⟨F,ρ,s,w⟩=>by
 refine⟨F,ρ,s,WPL.mono (WP.bindL w) λvs H1 ⟨F1,ds,e1,q1,w1⟩=>?_⟩;obtain⟨hl,w1⟩:=BW w1;have hv:=q1.len;refine⟨by have:=dH;omega,λp hp=>WP.fin w1 (Ext.lay e1.fh hp) ⟨p,vs,rfl,aD,DenL.mono (Ext.lay e1.fh hp).ff q1,hl⟩⟩
def fe(h:nZ X Xw es δs):PD X Xw (.List es pos) (dA dm δs):=PE.weak (Ip h) λσ H Q ⟨F,ρ,s,w⟩=>by
 refine⟨F,ρ,s,WPL.mono (WP.bindL w) λvs H1 ⟨F1,ds,e1,q1,w1⟩=>?_⟩;obtain⟨hl,w1⟩:=BW w1;have hv:=q1.len;refine⟨by have:=dH;omega,λp hp=>WP.fin w1 (Ext.lay e1.fh hp) ⟨p,vs,rfl,aD,DenL.mono (Ext.lay e1.fh hp).ff q1,hl⟩⟩
end
def ItD(K:Ym)(F:Hp)(J:It)(ds:List D):Prop:=∀(F' H':Hp) (i:Nat),Same F F'->Same F' H'->
 (∀d,ds[i]? =θ d->J.go i H'/\∀x H'',J.yld i H' x H''->∃F'',Ext F' H' F'' H''/\Den K F'' d x)/\(ds.length<=i->J.stop i H')
def ItD.mono{K:Ym}(h:ItD K F J ds)(e:Same F F1):ItD K F1 J ds:=λF' H' i s1 s2=>h F' H' i (e.trans s1) s2
def WPI(K:Ym)(Xw:Nat->Hp->Prop)(F H:Hp)(m:M (List D))(R:It->Hp->Prop):Prop:=
 match m with
 |none=>False
 |some (.ok ds)=>∀J H' F',Ext F H F' H'->ItD K F' J ds->R J H'
 |some (.ex n)=>∀F' H',Ext F H F' H'->Xw n H'
def Vy(K:Ym)(Xw:Nat->Hp->Prop)(δ:DA):TI:=λσ H R=>∃F ρ,StE K F H σ ρ/\WPI K Xw F H (δ ρ) R
def Ba(X:Cx)(Xw:Nat->Hp->Prop)(tg iter:Expr)(δ:DA):Prop:=PI X tg iter (Vy X.K Xw δ)
def PI.weak{X:Cx}(h:PI X tg e t)(k:∀σ H Q,t' σ H Q->t σ H Q):PI X tg e t':=λf8 s σ H Q I w=>h f8 s σ H Q I (k σ H Q w)
def WPI.bind{K:Ym}(h:WPI K Xw F H (m>>=k) R):
 WP K Xw F H m λv H1=>∃F1 d,Ext F H F1 H1/\Den K F1 d v/\WPI K Xw F1 H1 (k d) R:=by
 match m,h with
 |none,h=>exact h
 |some (.ok d),h=>
  refine λv H2 F2 e2 q=>⟨F2,d,e2,q,?_⟩
  have h:WPI K Xw F H (k d) R:=h;show WPI K Xw F2 H2 (k d) R
  match k d,h with
  |none,h=>exact h
  |some (.ok ds),h=>exact λJ H3 F3 e3 q3=>h J H3 F3 (e2.trans e3) q3
  |some (.ex n),h=>exact λF3 H3 e3=>h F3 H3 (e2.trans e3)
 |some (.ex n),h=>exact h
def WPI.bindL{K:Ym}(h:WPI K Xw F H (m>>=k) R):
 WPL K Xw F H m λv H1=>∃F1 d,Ext F H F1 H1/\DenL K F1 d v/\WPI K Xw F1 H1 (k d) R:=by
 match m,h with
 |none,h=>exact h
 |some (.ok d),h=>
  refine λv H2 F2 e2 q=>⟨F2,d,e2,q,?_⟩
  have h:WPI K Xw F H (k d) R:=h;show WPI K Xw F2 H2 (k d) R
  match k d,h with
  |none,h=>exact h
  |some (.ok ds),h=>exact λJ H3 F3 e3 q3=>h J H3 F3 (e2.trans e3) q3
  |some (.ex n),h=>exact λF3 H3 e3=>h F3 H3 (e2.trans e3)
 |some (.ex n),h=>exact h
def lstM:D->M (List D)
 | .lst ds=>aa ds
 |_=>af
def Rl:D->M (List D)
 | .tup ds=>aa ds
 |_=>af
def cE(a:DE):DA:=λρ=>a ρ>>=lstM
def rE(a:DE):DA:=λρ=>a ρ>>=Rl
def Hc{K:Ym}(h:SqL K F a vs)(hd:DenL K F ds vs):ItD K F (R0 K a) ds:=λF' H' i s1 s2=>by
 have hs:=Same.seq s2 (Same.seq s1 h);refine⟨λd e=>?_,λhl=>⟨vs,hs,by rw[<-hd.len];exact hl⟩⟩;obtain⟨v,e1,q⟩:=hd.get e;refine⟨⟨vs,v,hs,e1⟩,λx H'' y=>?_⟩;obtain⟨e2,y⟩:=y;subst e2;have:=y vs hs;rw[e1] at this;cases this;exact⟨F',Ext.refl s2,Den.mono s1 q⟩
def Kk{K:Ym}(h:SqT K F a vs)(hd:DenL K F ds vs):ItD K F (R1 K a) ds:=λF' H' i s1 s2=>by
 have hs:=Same.tup s2 (Same.tup s1 h);refine⟨λd e=>?_,λhl=>⟨vs,hs,by rw[<-hd.len];exact hl⟩⟩;obtain⟨v,e1,q⟩:=hd.get e;refine⟨⟨vs,v,hs,e1⟩,λx H'' y=>?_⟩;obtain⟨e2,y⟩:=y;subst e2;have:=y vs hs;rw[e1] at this;cases this;exact⟨F',Ext.refl s2,Den.mono s1 q⟩
def jh(lo:Int)(n:Nat):List D:=(Yr n).map λ(i:Nat)=>D.int (lo+(i:Int))
def vD{K:Ym}{F:Hp}(lo:Int)(n:Nat):ItD K F (OY lo n) (jh lo n):=λF' H' i s1 s2=>by
 refine⟨λd e=>?_,λhl=>show n<=i by simpa[jh] using hl⟩;unfold jh at e;rw[Yl] at e;have hi:i<n:=by
  by_cases hi:i<n
  ·exact hi
  ·rw[ZP (by simpa using hi)] at e;cases e
 rw[Z1 hi] at e;cases e;refine⟨hi,λx H'' y=>?_⟩;obtain⟨e2,y⟩:=y;subst e2 y;exact⟨F',Ext.refl s2,rfl⟩
section
variable{X:Cx}{Xw:Nat->Hp->Prop}{tg l:Expr}{δ:DE}{pos:Pos}
def a_(h:PD X Xw l δ):Ba X Xw tg l (cE δ):=PI.weak (K7 h) λσ H R ⟨F,ρ,s,w⟩=>by
 refine⟨F,ρ,s,WP.mono (WPI.bind w) λv H1 ⟨F1,d,e1,q1,w1⟩=>?_⟩;cases d with
 |lst ds=>
  obtain⟨a,vs,h1,h2,h3,h4⟩:=q1;exact⟨a,h1,⟨vs,Same.seq e1.fh (SqL.of h2)⟩,w1 _ _ _ (Ext.refl e1.fh) (Hc (SqL.of h2) h3)⟩
 |_=>exact w1.elim
def q_(h:PD X Xw l δ):Ba X Xw tg l (rE δ):=PI.weak (N8 h) λσ H R ⟨F,ρ,s,w⟩=>by
 refine⟨F,ρ,s,WP.mono (WPI.bind w) λv H1 ⟨F1,d,e1,q1,w1⟩=>?_⟩;cases d with
 |tup ds=>
  obtain⟨a,vs,h1,h2,h3,h4⟩:=q1;exact⟨a,h1,⟨vs,Same.tup e1.fh (SqT.of h2)⟩,w1 _ _ _ (Ext.refl e1.fh) (Kk (SqT.of h2) h3)⟩
 |_=>exact w1.elim
def lW:List D->M (List D)
 |[.int j]=>if -4096<=j/\j<=4096 then aa (jh 0 j.toNat) else af
 |_=>af
def wk:List D->M (List D)
 |[.int i, .int j]=>if (-4096<=i/\i<=4096)/\(-4096<=j/\j<=4096) then aa (jh i (j - i).toNat) else af
 |_=>af
def DenL.one{K:Ym}(h:DenL K F [d] vs):∃v,vs=[v]/\Den K F d v:=by
 obtain⟨v,r,h1,h2,h3⟩:=h;cases (show r=[] from h3);exact⟨v,h1,h2⟩
def DenL.two{K:Ym}(h:DenL K F [d,d'] vs):∃v v',vs=[v,v']/\Den K F d v/\Den K F d' v':=by
 obtain⟨v,r,h1,h2,h3⟩:=h;obtain⟨v',h4,h5⟩:=h3.one;subst h4;exact⟨v,v',h1,h2,h5⟩
def fV{a:Expr}(hg:Gl X "range")(hm:X.mg "range"=ω)(ha:nZ X Xw [a] δs)(hs:Yw [a] X.env=[(μ,eval a X.env)]:=by rfl):Ba X Xw tg (.Call (.Name "range" p) [a] [] pos) (λρ=>δs ρ>>=lW):=
 PI.weak (Fu hg hm ha hs) λσ H R ⟨F,ρ,s,w⟩=>by
  refine⟨F,ρ,s,WPL.mono (WPI.bindL w) λvs H1 ⟨F1,ds,e1,q1,w1⟩=>?_⟩;unfold lW at w1;split at w1
  ·rename_i j;obtain⟨v,h1,h2⟩:=q1.one;cases (show v=_ from h2);split at w1
   ·exact⟨j,h1,by omega,by omega,w1 _ _ _ (Ext.refl e1.fh) (vD 0 _)⟩
   ·exact w1.elim
  ·exact w1.elim
def tH{a b:Expr}(hg:Gl X "range")(hm:X.mg "range"=ω)(ha:nZ X Xw [a,b] δs)(hs:Yw [a,b] X.env=[(μ,eval a X.env),(μ,eval b X.env)]:=by rfl)
 (OP:Yw [b] X.env=[(μ,eval b X.env)]:=by rfl):Ba X Xw tg (.Call (.Name "range" p) [a,b] [] pos) (λρ=>δs ρ>>=wk):=
 PI.weak (Fv hg hm ha hs OP) λσ H R ⟨F,ρ,s,w⟩=>by
  refine⟨F,ρ,s,WPL.mono (WPI.bindL w) λvs H1 ⟨F1,ds,e1,q1,w1⟩=>?_⟩;unfold wk at w1;split at w1
  ·rename_i i j;obtain⟨v,v',h1,h2,h3⟩:=q1.two;cases (show v=_ from h2);cases (show v'=_ from h3);split at w1
   ·exact⟨i,j,h1,⟨by omega,by omega,by omega,by omega⟩,w1 _ _ _ (Ext.refl e1.fh) (vD i _)⟩
   ·exact w1.elim
  ·exact w1.elim
end
def dj(tg N:List Str):List Str:=N.map λy=>if tg.contains y then y++(" ":Str) else y
def lK(X:Cx)(scope:Scope)(tn:List Str)(f8:List (Addr×Obj))(cl:List (Str×Addr))(C:Addr)(fp:List Addr)(v2:Yc)(H:Hp):Cx:=
 {X with N:=tn++dj tn X.N,aeq:=v2,aep:=H,env:=compEnvC scope cl C X.env,outer:=X.stack,ex:=fp,fn:=λ_=>μ,pn:=X.pn++f8,xe:=λ_ _=>False}
structure CompSc (X:Cx) (scope:Scope) (tn:List Str):Prop where
 kind:scope.kind= .function
 nocell:∀y∈scope.names,y.2≠ .cell
 names:∀y∈scope.names,y.2= .local->scope.names.lookup y.1=θ .local
 frees:∀y∈scope.names,y.2= .free->X.env.kindOf y.1=θ .cell\/X.env.kindOf y.1=θ .free
 vis:∀p∈(dj tn X.N).zip X.N,scope.names.lookup p.1=ω\/(p.1=p.2/\scope.names.lookup p.1=θ .free)
theorem l9{env:Env}:∀(names:List (Str×abb)) (v4:List (Str×Addr)),(∀y∈names,y.2= .free->∃c,env.cells.lookup y.1=θ c)->
 (∀x c,v4.lookup x=θ c->env.cells.lookup x=θ c)->
 ∃cl,(forIn names v4 (λ(x:Str×abb) (r:List (Str×Addr))=>do
   let __x:=x
   if (__x.2==aeb)=ψ then do let c<-cellOf env __x.1;pure (Zi ((__x.1,c)::r)) else pure (Zi r)):Sem (List (Str×Addr)))=pure cl/\
  (∀x c,cl.lookup x=θ c->env.cells.lookup x=θ c)/\(∀x c,v4.lookup x=θ c->∃c',cl.lookup x=θ c')/\(∀x,names.lookup x=θ .free->∃c,cl.lookup x=θ c)
 |[],v4,_,h2=>⟨v4,rfl,h2,λx c e=>⟨c,e⟩,λx e=>by simp at e⟩
 |(n,k)::r,v4,h1,h2=>by
  by_cases hk:k= .free
  ·subst hk;obtain⟨c,hc⟩:=h1 (n, .free) X5 rfl;obtain⟨cl,e,a1,a2,a3⟩:=l9 r ((n,c)::v4) (λy hy=>h1 y (X4 _ hy)) (λx c' q=>by
    rw[ZK] at q;split at q
    ·rename_i hx;cases q;rw[show x=n from by simpa using hx];exact hc
    ·exact h2 x c' q)
   refine⟨cl,?_,a1,λx c' q=>?_,λx q=>?_⟩
   ·rw[aby];have:cellOf env n=pure c:=by unfold cellOf;rw[hc]
    simp only[beq_self_eq_true,if_true,this,pure_bind];exact e
   ·by_cases hx:x=n
    ·subst hx;exact a2 x c (by simp[ZK])
    ·exact a2 x c' (by rw[ZK,show (x==n)=μ from by simpa using hx];exact q)
   ·rw[ZK] at q;split at q
    ·rename_i hx;exact a2 x c (by rw[ZK,hx])
    ·exact a3 x q
  ·obtain⟨cl,e,a1,a2,a3⟩:=l9 r v4 (λy hy=>h1 y (X4 _ hy)) h2;refine⟨cl,?_,a1,a2,λx q=>?_⟩
   ·rw[aby];have:((k==aeb)=ψ)=False:=by simpa using hk
    simp only[this,if_false,pure_bind];exact e
   ·rw[ZK] at q;split at q
    ·cases q;exact ael rfl hk
    ·exact a3 x q
def rB{scope:Scope}(h:∀y∈scope.names,y.2= .free->∃c,env.cells.lookup y.1=θ c):
 ∃cl,closureFor scope env=pure cl/\(∀x c,cl.lookup x=θ c->env.cells.lookup x=θ c)/\(∀x,scope.names.lookup x=θ .free->∃c,cl.lookup x=θ c):=by
 obtain⟨cl,e,a1,_,a3⟩:=l9 scope.names [] h (λx c q=>by simp at q);refine⟨cl,?_,a1,a3⟩;unfold closureFor;show (forIn scope.names [] _>>=λr=>pure r)=_;rw[bind_pure];exact e
def noex:M α->M α
 |some (.ok a)=>θ (.ok a)
 |_=>ω
def ej(f:D->M (Option D)):List D->M (List D)
 |[]=>aa []
 |d::ds=>f d>>=λo=>ej f ds>>=λr=>aa (match o with | some y=>y::r | none=>r)
def Vz(n:Nat):D->M (List D):=λd=>match n,d with
 |0,d=>aa [d]
 |n, .tup ds=>if ds.length=n then aa ds else af
 |_,_=>af
def jO(n:Nat)(δt:DT)(δe:DE)(ρ:bQ):D->M (Option D):=λd=>
 Vz n d>>=λts=>δt (ts.map (λt=>θ (Sl.fz t))++ρ)>>=λb=>if b then δe (ts.map (λt=>θ (Sl.fz t))++ρ)>>=λy=>aa (θ y) else aa ω
def bw(n:Nat)(δi:DA)(δt:DT)(δe:DE):DE:=λρ=>δi ρ>>=λds=>noex (ej (jO n δt δe ρ) ds)>>=dm
def c6:DT:=λ_=>aa ψ
def fN(f:D->M (Option D))(d:D)(ds:List D):ej f (d::ds)=(f d>>=λo=>ej f ds>>=λr=>aa (match o with | some y=>y::r | none=>r)):=rfl
def Bt(hd:ds[i]? =θ d)
 (h:ej f ds=(ej f (ds.drop i)>>=λr=>aa (ys++r)))(hR:ej f ds=aa R):
 ∃o,f d=aa o/\ej f ds=(ej f (ds.drop (i+1))>>=λr=>aa ((match o with | some y=>ys++[y] | none=>ys)++r)):=by
 have e:ds.drop i=d::ds.drop (i+1):=by
  obtain⟨hi,e⟩:=Yk.mp hd;rw[aaV hi,e]
 rw[e,fN] at h;have h':=h.symm.trans hR;obtain⟨r,h1,h2⟩:=eC h';obtain⟨o,h3,h4⟩:=eC h1;refine⟨o,h3,?_⟩;obtain⟨r',h5,h6⟩:=eC h4;rw[h5,hR];rw[<-h2,<-fi h6];show aa _=aa _;cases o with
 |none=>rfl
 |some y=>simp
def EC(I:Nat->Yc->Prop)
 (turn:∀n s,I n s->wpAny (model prog w) A (adM it) (λr P3=>match r with
  |none=>R (.ok .next) P3
  |some v=>wpAny (model prog w) A (ab0 target it v) (λ_ Vw=>wpAny (model prog w) A (assign target env v) (λ_ v2=>
    wpAny (model prog w) A (forIn ifs ψ λc r=>if r=ψ then do let ok<-isTrue c env (eval c env);pure (Zi ok) else pure (Zi r)) (λok s₃=>
     if ok=ψ then wpAny (model prog w) A (eval elt env) (λx s₄=>
      wpAny (model prog w) A (call (.builtin "list.append") [v4,x]) (λ_ s₅=>∃m,m<n/\I m s₅) (adX (model prog w) A env λe s'=>R (.error e) s') s₄) (adX (model prog w) A env λe s'=>R (.error e) s') s₃
     else∃m,m<n/\I m s₃) (adX (model prog w) A env λe s'=>R (.error e) s') v2) (adX (model prog w) A env λe s'=>R (.error e) s') Vw) (adX (model prog w) A env λe s'=>R (.error e) s') P3) (adX (model prog w) A env λe s'=>R (.error e) s') s)
 (n:Nat) (h:I n s):
 adn (model prog w) A (.compLoop (.ListComp elt [⟨target,iter,ifs,0⟩] scope pos) 0 it v4 env) R s:=by
 refine codeAny_loop rfl I (λn s hI=>?_) n h;show wpAny _ A ((compTurn (.ListComp elt [⟨target,iter,ifs,0⟩] scope pos) 0 it v4 env).onRaise (λx=>do noteFrame x env;theTreesLotGoes x)) _ _ s;refine wpAny_noted ?_;rw[compTurn_list];refine X6 (wpAny_standAt (X6 (Zj (turn n s hI) (λr P3 h₁=>?_) λ_ _ h'=>h')));cases r with
 |none=>exact Yb h₁
 |some v=>
  refine X6 (Zj h₁ (λ_ Vw h₁=>?_) λ_ _ h'=>h');refine X6 (Zj h₁ (λ_ v2 h₂=>X6 (Zj h₂ (λok s₃ h₃=>?_) λ_ _ h'=>h')) λ_ _ h'=>h');cases ok with
  |false=>exact Yb ⟨rfl,h₃⟩
  |true=>
   exact X6 (X6 (Zj h₃ (λx s₄ h₄=>X6 (Zj h₄ (λ_ s₅ h₅=>Yb (Yb ⟨rfl,h₅⟩)) λ_ _ h'=>h')) λ_ _ h'=>h'))
def F4(X:Cx)(tg:Expr)(n:Nat)(σ:St):Prop:=∀(f8:List (Addr×Obj)) (s:Yc) (σ':St) (F H:Hp) (d:D) (ts:List D) (v:V) (u:Value),Inv X f8 σ' H s->Same F H->σ'.drop (max n 1)=σ->RelV v u->Den X.K F d v->Vz n d=aa ts->
 wpAny (model X.prog X.w) X.A (assign tg X.env u) (λ_ s'=>∃vs,Inv X f8 (vs.map θ++σ) H s'/\DenL X.K F ts vs) X.xe s
def n9(X:Cx)(ifs:List Expr)(δt:DT):Prop:=∀(f8:List (Addr×Obj)) (s:Yc) (σ:St) (H:Hp) (Q:Bool->Hp->Prop),Inv X f8 σ H s->RU X.K (λ_ _=>False) δt σ H Q->
 wpAny (model X.prog X.w) X.A (forIn ifs ψ λc r=>if r=ψ then do let ok<-isTrue c X.env (eval c X.env);pure (Zi ok) else pure (Zi r)) (TP X f8 σ Q) X.xe s
def fB:n9 X [] c6:=λf8 s σ H Q I ⟨F,ρ,S,w⟩=>wpAny_tests_nil ⟨H,I,w H F (Ext.refl S.fh)⟩
def ij(h:n0 X (λ_ _=>False) c δ):n9 X [c] δ:=λf8 s σ H Q I w=>wpAny_tests_one (h f8 s σ H Q I w)
def StE.cons{K:Ym}(s:StE K F H σ ρ)(h:DenL K F ts vs):StE K F H (vs.map θ++σ) (ts.map (λt=>θ (Sl.fz t))++ρ):=by
 refine⟨s.fh,λi sl e=>?_⟩;have hl:=h.len;by_cases hi:i<ts.length
 ·rw[YV (by simpa using hi),Yl] at e;cases q:ts[i]? with
  |none=>rw[q] at e;cases e
  |some t=>
   rw[q] at e;cases e;obtain⟨v,e1,e2⟩:=h.get q;exact⟨v,by rw[YV (by simp;omega),Yl,e1];rfl,e2⟩
 ·rw[Y_ (by simpa using hi)] at e;obtain⟨v,e1,e2⟩:=s.den _ _ e;refine⟨v,?_,e2⟩;rw[Y_ (by simp;omega)];simpa[hl] using e1
def WPB.take:WPB Xw F H (aa b) λb' H'=>b'=b/\∃F',Ext F H F' H':=λH' F' e=>⟨rfl,F',e⟩
def WP.take{K:Ym}:WP K Xw F H (aa d) λv H'=>∃F',Ext F H F' H'/\Den K F' d v:=λv H' F' e q=>⟨F',e,q⟩
def pe(env:Env)(p:Str×abb):Str×abb:=if (p.2== .free&&env.scope.kind== .function&&env.kindOf p.1==θ .cell) then(p.1, .cell) else(p.1,p.2)
def iN(scope:Scope)(env:Env):(relabel scope env).names=scope.names.map (pe env):=rfl
def IP(env:Env)(p:Str×abb):(pe env p).1=p.1:=by unfold pe;split<;>rfl
theorem jy(env:Env)(x:Str):∀ns:List (Str×abb),(ns.map (pe env)).lookup x=(ns.lookup x).map λk=>(pe env (x,k)).2
 |[]=>rfl
 |(m,k)::r=>by
  rw[X9,ZK,ZK];have e:pe env (m,k)=(m,(pe env (m,k)).2):=aba (IP env (m,k)) rfl;rw[e]
  dsimp only
  by_cases hx:(x==m)=ψ
  ·have hm:x=m:=by simpa using hx
   subst hm;rw[hx];rfl
  ·have hx:(x==m)=μ:=by simpa using hx
   rw[hx];exact jy env x r
def ya(h:scope.names.lookup x=ω):(relabel scope env).names.lookup x=ω:=by
 rw[iN,jy,h];rfl
def x_(hc:∀y∈scope.names,y.2≠ .cell)(h:(relabel scope env).names.lookup x=θ .cell\/(relabel scope env).names.lookup x=θ .free):scope.names.lookup x=θ .free:=by
 rw[iN,jy] at h;cases q:scope.names.lookup x with
 |none=>rw[q] at h;rcases h with h | h<;>cases h
 |some k=>
  rw[q] at h;have hk:k≠ .cell:=hc _ (ZD q);have h:(pe env (x,k)).2= .cell\/(pe env (x,k)).2= .free:=by simpa using h
  by_cases hf:k= .free
  ·rw[hf]
  ·have:(pe env (x,k)).2=k:=by
    unfold pe;rw[aeh];simp[hf]
   rw[this] at h;rcases h with h | h
   ·exact ael h hk
   ·exact ael h hf
def pf(h:scope.names.lookup x=θ .free):¬(relabel scope env).names.lookup x=θ .local:=by
 rw[iN,jy,h];intro z;have z:(pe env (x, .free)).2= .local:=by simpa using z
 unfold pe at z;split at z<;>cases z
structure BlockEnd (X:Cx) (f8:List (Addr×Obj)) (C:Addr) (H':Hp) (s1:Yc):Prop where
 ns:∃m,s1.heap.Ns C m
 free:H' C=ω
 nl:C≠X.env.locals
 nw:X.aeq.heap.objs.size<=C
 nc:∀x c,X.env.cells.lookup x=θ c->c≠C
 np:∀p∈X.pn++f8,p.1≠C
def y8{RR:Value->Addr->Result->Yc->Prop}
 (sc:CompSc X scope tn)(hn:tn.length=max n 1)(hc:X.calm=ψ)(hi:Ba X Xw tg iter δi)
 (hg:∀f8 cl C fp v2 H σ,F4 (lK X scope tn f8 cl C fp v2 H) tg n σ)
 (ht:∀f8 cl C fp v2 H,n9 (lK X scope tn f8 cl C fp v2 H) ifs δt)
 (he:∀f8 cl C fp v2 H,PD (lK X scope tn f8 cl C fp v2 H) (λ_ _=>False) elt δe)
 (I:Inv X f8 σ H s)(S:StE X.K F H σ ρ)(w:WP X.K Xw F H (bw n δi δt δe ρ) Q)
 (Gm:∀x c,cl.lookup x=θ c->X.env.cells.lookup x=θ c)(OG:∀x,scope.names.lookup x=θ .free->∃c,cl.lookup x=θ c)
 (VU:∀(s1:Yc) (C D:Addr) (H':Hp),Inv X f8 σ H' s1->Q (.ref D) H'->BlockEnd X f8 C H' s1->RR (.ref D) C (.ok .next) s1):
 wpAny (model X.prog X.w) X.A (eval iter X.env) (λx P3=>wpAny (model X.prog X.w) X.A (pyIter x) (λit v2=>wpAny (model X.prog X.w) X.A (newList []) (λv4 s₃=>
  wpAny (model X.prog X.w) X.A (newFunctionEnv scope X.env.globals cl [] X.env.qual ω .none (θ X.env)) (λO7 s₄=>
   adn (model X.prog X.w) X.A (.compStart (.ListComp elt [⟨tg,iter,ifs,0⟩] scope pos) 0 it v4 {O7 with scope:=relabel scope X.env}) (RR v4 O7.locals) s₄) X.xe s₃) X.xe v2) X.xe P3) X.xe s:=by
 refine cJ (hi f8 s σ H (λJ H2=>∃F2 ds,Ext F H F2 H2/\ItD X.K F2 J ds/\WP X.K Xw F2 H2 (noex (ej (jO n δt δe ρ) ds)>>=dm) Q) I ⟨F,ρ,S,?_⟩) λxv P3 h₁=>cJ h₁ λit v2 h₂=>?_
 ·unfold bw at w;rcases(δi ρ).cs with hq | ⟨m,hq⟩ | ⟨ds,hq⟩
  ·rw[hq] at w;exact w.elim
  ·rw[hq] at w⊢;exact w
  ·rw[hq] at w⊢;exact λJ H' F' e q=>⟨F',ds,e,q,WP.ext e w⟩
 obtain⟨ia,fp,VA,J,H2,rfl,I2,T,uY,f2,F2,ds,e2,Ve,w2⟩:=h₂;obtain⟨R,hR,UJ,w2⟩:∃R,ej (jO n δt δe ρ) ds=aa R/\R.length<=lim/\WP X.K Xw F2 H2 (aa (.lst R)) Q:=by
  rcases(ej (jO n δt δe ρ) ds).cs with hq | ⟨m,hq⟩ | ⟨R,hq⟩
  ·rw[hq] at w2;exact w2.elim
  ·rw[hq] at w2;exact w2.elim
  ·rw[hq] at w2;obtain⟨h1,h2⟩:=BW (show WP X.K Xw F2 H2 (dm R) Q from w2);exact⟨R,hq,h1,h2⟩
 refine Zo (wpAny_newFunctionEnv sc.nocell (by intro y hy;simp at hy) (λh₁ M0 Kc=>?_) sc.kind)
 dsimp only at M0 Kc⊢
 generalize Sx:v2.heap.push {cls:= .type "list",dict:=ω,data:= .seq ([]:List Value).toArray}=HL at M0 Kc⊢;have hC:HL.objs.size=v2.heap.objs.size+1:=by rw[<-Sx,Heap.size_push]
 have EK:v2.heap.objs.size<HL.objs.size:=by rw[hC];exact acF _
 have old:∀b o,v2.heap.get? b=θ o->h₁.get? b=θ o:=λb o e=>Kc.extBut b o (YF (aam (Ys e) EK)) (X8 _ (Sx▸X8 _ e));have g6:h₁.get? v2.heap.objs.size=θ {cls:= .type "list",data:= .seq ([]:List Value).toArray}:=Kc.extBut _ _ (YF EK) (X8 _ (Sx▸Yy _ rfl));have nD:H2 v2.heap.objs.size=ω:=I2.hok.fresh (X_ _);have nC:H2 HL.objs.size=ω:=I2.hok.fresh (Zm EK);have gC:v2.heap.get? HL.objs.size=ω:=adK (Zm EK);have fl:∀b∈fp,b<v2.heap.objs.size:=λb hb=>by
  obtain⟨o,e,_⟩:=T.obj 0 _ uY b hb;exact Ys e
 generalize zv:lK X scope tn f8 cl HL.objs.size fp v2 H2=X';have Vp:X'.Ok:=by
  subst zv;refine⟨I2.ok.mod,sc.kind,I2.ok.glob,I2.ok.blt,Zm EK,λx y c h1 h2=>I2.ok.inj x y c (Gm _ _ h1) (Gm _ _ h2),λx hx=>?_,λ_ _ h=>(by cases h),I2.ok.hd,I2.ok.frames, .inl rfl,
   λb hb=>⟨YF (aam (fl b hb) EK),λx c h=>(f2 b hb).2.2.2.2.1 x c (Gm _ _ h)⟩,I2.bs,Yz I2.ok.bsz I2.sz,λb o e hb=>?_,λb hb z=>?_,I2.stack,I2.stkFree⟩
  ·have hx:(relabel scope X.env).names.lookup x=θ .cell\/(relabel scope X.env).names.lookup x=θ .free:=hx;exact OG x (x_ sc.nocell hx)
  ·rcases(f2 b hb).2.2.2.1 with z | z
   ·exact I2.ok.noex b o e z
   ·exact ael (YL (Ys (I2.ok.bs b o e).1) z) (Zb _)
  ·rcases Ye.mp (I2.stkSub b z) with q | q
   ·exact(f2 b hb).2.1 q
   ·exact(f2 b hb).2.2.1 q
 have Tz:∀b o,H2 b=θ o->b≠v2.heap.objs.size:=λb o e=>bB e nD;have MN:∀{H':Hp},(∀b∈fp,H' b=ω)->∀b∈fp,uy X' [] H' b:=λWz b hb=>by
  subst zv;refine⟨Wz b hb,YF (aam (fl b hb) EK),λz=>Vp.exfs b hb z, .inl hb,λx c h=>(f2 b hb).2.2.2.2.1 x c (Gm _ _ h),λp hp=>?_⟩;rw[Zk] at hp;exact(f2 b hb).2.2.2.2.2 p hp
 have I0:Inv X' [] (Y4 (max n 1) ω++σ) (upd H2 v2.heap.objs.size (.lst [])) {v2 with heap:=h₁,toks:=v2.toks+([]:List (Str×Value)).length}:=by
  subst zv;have S6:HOk X.prog X.w (upd H2 v2.heap.objs.size (.lst [])) h₁:=I2.hok.laid old (X_ _) ⟨YH _,[],_, .nil,g6⟩;refine⟨Vp,rfl,I2.bare,Un.laid old (X_ _) nD,⟨_,M0,λi x v h1 h2 h3=>?_⟩,λx c h=>?_,?_,λx c h=>?_,λp hp=>?_,S6,?_⟩
  ·by_cases hi:i<max n 1
   ·rw[YV (by simpa using hi),Z0,aef hi] at h2;cases h2
   ·have PX:tn.length<=i:=by omega
    have h1:(tn++dj tn X.N)[i]? =θ x:=h1;rw[Y_ PX] at h1;rw[Y_ (by simpa using hi),abx,<-hn] at h2;have hN:∃y,X.N[i - tn.length]? =θ y/\(x,y)∈(dj tn X.N).zip X.N:=by
     have il:=(Yk.mp h1).1;have P2:i - tn.length<X.N.length:=by simpa[dj] using il
     refine⟨X.N[i - tn.length],X7 P2,?_⟩;refine List.mem_iff_getElem?.mpr ⟨i - tn.length,?_⟩;rw[List.getElem?_zip_eq_some];exact⟨h1,X7 P2⟩
    obtain⟨y,hy,hm⟩:=hN;have hV:(relabel scope X.env).names.lookup x=θ .local\/(relabel scope X.env).names.lookup x=θ .cell\/(relabel scope X.env).names.lookup x=θ .free:=h3;rcases sc.vis _ hm with xc | ⟨JC,LY⟩
    ·have xc:scope.names.lookup x=ω:=xc;have:(relabel scope X.env).names.lookup x=ω:=ya xc;rw[this] at hV;rcases hV with z | z | z<;>cases z
    ·have JC:x=y:=JC;subst JC;have LY:scope.names.lookup x=θ .free:=LY;have hk:=sc.frees (x, .free) (ZD LY) rfl;obtain⟨m,GY,Bd⟩:=I2.loc;obtain⟨u,ru,lk⟩:=Bd _ x v hy h2 (by rcases hk with z | z;exact .inr (.inl z);exact .inr (.inr z));refine⟨u,ru, .inr ⟨?_,?_⟩⟩
     ·rcases hV with z | z | z
      ·exact ael z (pf LY)
      ·exact .inl z
      ·exact .inr z
     ·rcases lk with⟨z,_⟩ | ⟨_,c,V1,J8⟩
      ·rcases hk with q | q
       ·rw[show X.env.kindOf x=θ .local from z] at q;cases q
       ·rw[show X.env.kindOf x=θ .local from z] at q;cases q
      ·obtain⟨c',BE⟩:=OG x LY;have:=Gm _ _ BE;rw[V1] at this;cases this;obtain⟨o,ho,hd⟩:=J8;exact⟨c,BE,o,old _ _ ho,hd⟩
  ·obtain⟨v,o,ho,hd⟩:=I2.cell x c (Gm _ _ h);exact⟨v,o,old _ _ ho,hd⟩
  ·show upd H2 v2.heap.objs.size (.lst []) HL.objs.size=ω;rw[ay (abJ EK)];exact nC
  ·have RB:=Gm _ _ h;obtain⟨v,q⟩:=I2.cell x c RB;rw[ay (YF q.lt)];exact I2.freeC x c RB
  ·rw[Zk] at hp;obtain⟨e,nn,ne,nf,d⟩:=I2.pin p hp;have il:=Ys e;refine⟨old _ _ e,by rw[ay (YF il)];exact nn,YF (aam il EK),λz=>?_,d⟩;rcases Ye.mp (I2.stkSub p.1 z) with q | q
   ·exact ne q
   ·exact nf q
  ·show (Y4 (max n 1) ω++σ).length=(tn++dj tn X.N).length;rw[Yg,Yg,abx,hn,show (dj tn X.N).length=X.N.length from by simp[dj],I2.len]
 have loop:∀s₃:Yc,s₃={v2 with heap:=h₁,toks:=v2.toks+([]:List (Str×Value)).length}->
  adn (model X.prog X.w) X.A (.compLoop (.ListComp elt [⟨tg,iter,ifs,0⟩] scope pos) 0 (.ref ia) (.ref v2.heap.objs.size) (compEnvC scope cl HL.objs.size X.env))
   (RR (.ref v2.heap.objs.size) HL.objs.size) s₃:=by
  intro s₃ WS;have GI:X'.env=compEnvC scope cl HL.objs.size X.env:=by subst zv;rfl
  have hA:X'.A=X.A:=by subst zv;rfl
  have hP:X'.prog=X.prog:=by subst zv;rfl
  have hw:X'.w=X.w:=by subst zv;rfl
  have hK:X'.K=X.K:=by subst zv;rfl
  have W_:X'.xe=λ_ _=>False:=by subst zv;rfl
  have LV:X'.calm=ψ:=by subst zv;exact hc
  have Wa:X'.fs=qU X.stack:=by subst zv;rfl
  have hex:X'.ex=fp:=by subst zv;rfl
  have VS:X'.aep=H2:=by subst zv;rfl
  have U7:X'.aeq=v2:=by subst zv;rfl
  have pass:∀{α:Type}{t:Sem α}{P:α->Yc->Prop}{E':Value->Yc->Prop}{s:Yc},wpAny (model X'.prog X'.w) X'.A t P X'.xe s->wpAny (model X.prog X.w) X.A t P E' s:=λ{α t P E' s} h=>by
   rw[hP,hw,hA,W_] at h;exact Zj h (λ_ _ q=>q) λ_ _ q=>q.elim
  refine EC (λm s'=>∃(i:Nat) (F' H':Hp) (vs:List V) (ys:List D) (σt:St),m=ds.length - i/\i<=ds.length/\σt.length=max n 1/\Inv X' [] (σt++σ) H' s'/\VA i s'.heap/\(∀b∈fp,H' b=ω)/\Ext F2 H2 F' H'/\
   H' v2.heap.objs.size=θ (.lst vs)/\F' v2.heap.objs.size=ω/\DenL X.K F' ys vs/\ej (jO n δt δe ρ) ds=(ej (jO n δt δe ρ) (ds.drop i)>>=λr=>aa (ys++r))) ?_ ds.length ?_
  ·rintro m s' ⟨i,F',H',vs,ys,σt,rfl,SQ,Xi,I',qk,Ux,Bx,hD,fD,RM,heq⟩;by_cases il:i<ds.length
   ·
    obtain⟨d,hd⟩:∃d,ds[i]? =θ d:=⟨_,X7 il⟩
    obtain⟨MU,BK⟩:=(Ve F' H' i Bx.ff Bx.fh).1 d hd;obtain⟨o,ho,PQ⟩:=Bt hd heq hR;have Ti:ys.length<=lim:=by
     rw[heq] at hR;obtain⟨r,_,hr⟩:=eC hR;rw[<-fi hr,Yg] at UJ;omega
    obtain⟨ts,WX,ho⟩:=eC ho;refine pass ?_;rw[hP,hw];refine cJ (T.item X' hP hw hK LV i [] s' (σt++σ) H' X'.xe I' (MN Ux) qk MU) ?_;rintro r s1 ⟨u,rfl,h1⟩;refine pass ?_;rw[hP,hw];refine cJ h1 ?_;rintro _ s2 ⟨x,H3,I3,rx,y3,OT,Rx⟩;obtain⟨F3,C1,q3⟩:=BK x H3 y3;have UE:H3 v2.heap.objs.size=θ (.lst vs):=C1.hh _ _ hD;have VL:F3 v2.heap.objs.size=ω:=by rw[C1.old hD (λ_ z=>nomatch z)];exact fD
    have I3':=I3.pinned (MN Rx) (T.obj _ _ OT);have Dl:∀{σ7:St}{H7:Hp}{s7:Yc},Inv X' ([]++tJ fp s2.heap) σ7 H7 s7->VA (i+1) s7.heap/\∀b∈fp,H7 b=ω:=λ{σ7 H7 s7} I7=>
     ⟨T.keep _ _ _ OT λb hb o e=>(I7.pin (b,o) (YU _ (YU _ (jz hb e)))).1,λb hb=>by
      obtain⟨o,e,_⟩:=T.obj _ _ OT b hb;exact(I7.pin (b,o) (YU _ (YU _ (jz hb e)))).2.1⟩
    have We:F4 X' tg n σ:=by subst zv;exact hg _ _ _ _ _ _ _
    have WU:n9 X' ifs δt:=by subst zv;exact ht _ _ _ _ _ _
    have V8:PD X' (λ_ _=>False) elt δe:=by subst zv;exact he _ _ _ _ _ _
    refine pass ?_;rw[<-GI];refine cJ (We _ s2 (σt++σ) F3 H3 d ts x u I3' C1.fh (by rw[<-Xi];simp) rx (by rw[hK];exact q3) WX) ?_;rintro _ s4 ⟨vt,I4,dt⟩;rw[hK] at dt;have S4:StE X.K F3 H3 (vt.map θ++σ) (ts.map (λt=>θ (Sl.fz t))++ρ):=StE.cons ((S.ext e2).ext (Bx.trans C1)) dt;obtain⟨b,hb,ho⟩:=eC ho;refine pass ?_
    try rw[<-GI]
    refine cJ (WU _ s4 _ H3 (λb' H5=>b'=b/\∃F5,Ext F3 H3 F5 H5) I4 ⟨F3,_,by rw[hK];exact S4,by rw[hb];exact WPB.take⟩) ?_;rintro b' s5 ⟨H5,I5,rfl,F5,MJ⟩;have Sw:H5 v2.heap.objs.size=θ (.lst vs):=MJ.hh _ _ UE;have Uu:F5 v2.heap.objs.size=ω:=by rw[MJ.old UE (λ_ z=>nomatch z)];exact VL
    cases b' with
    |false=>
     rw[aeh YI] at ho⊢;obtain rfl:=fi ho;refine⟨ds.length - (i+1),by omega,i+1,F5,H5,vs,ys,vt.map θ,rfl,il,?_,I5.unpinned,(Dl I5).1,(Dl I5).2,Bx.trans (C1.trans MJ),Sw,Uu,DenL.mono (C1.trans MJ).ff RM,PQ⟩;have h1:=I5.len;have h2:=I3.len;rw[Yg] at h1 h2;omega
    |true=>
     rw[aef rfl] at ho⊢;obtain⟨yv,hy,ho⟩:=eC ho;obtain rfl:=fi ho;refine pass ?_
     try rw[<-GI]
     refine cJ (V8 _ s5 _ H5 (λv H6=>∃F6,Ext F5 H5 F6 H6/\Den X.K F6 yv v) I5 ⟨F5,_,by rw[hK];exact S4.ext MJ,by rw[hy,hK];exact WP.take⟩) ?_;rintro xv s6 ⟨v,H6,I6,rv,F6,Rw,qv⟩;have VR:H6 v2.heap.objs.size=θ (.lst vs):=Rw.hh _ _ Sw;have Uv:F6 v2.heap.objs.size=ω:=by rw[Rw.old Sw (λ_ z=>nomatch z)];exact Uu
     have Te:vs.length<Yv:=by
      have:=RM.len;have:=dH;omega
     refine pass ?_;refine cJ (vM _ s6 _ H6 (.ref v2.heap.objs.size) [v] (.ref v2.heap.objs.size) [xv] (λ_ H7=>H7=upd H6 v2.heap.objs.size (.lst (vs++[v]))) I6 rfl (.cons rv .nil) ⟨_,vs,v,rfl,rfl,VR,Te,rfl⟩) ?_;rintro _ s7 ⟨_,H7,I7,_,rfl⟩;have VJ:Ext F2 H2 F6 (upd H6 v2.heap.objs.size (.lst (vs++[v]))):=by
      have e:=Bx.trans (C1.trans (MJ.trans Rw));refine⟨λb u q=>?_,e.ff,λb u q=>?_,e.new⟩
      ·rw[ay (Tz b u q)];exact e.hh b u q
      ·rw[ay (λz=>by rw[z,Uv] at q;cases q)];exact e.fh b u q
     refine⟨ds.length - (i+1),by omega,i+1,F6,_,vs++[v],ys++[yv],vt.map θ,rfl,il,?_,I7.unpinned,(Dl I7).1,(Dl I7).2,VJ,aD,Uv,
      DenL.append (DenL.mono (C1.trans (MJ.trans Rw)).ff RM) (.cons qv .nil),PQ⟩
     have h1:=I5.len;have h2:=I3.len;rw[Yg] at h1 h2;omega
   ·
    have hi:i=ds.length:=by omega
    subst hi;rw[abh] at heq;have VW:R=ys:=by
     rw[heq] at hR;have hR:aa (ys++[])=aa R:=hR;rw[<-fi hR,Zk]
    subst VW;refine pass ?_;rw[hP,hw];refine cJ (T.done X' hP hw hK LV ds.length [] s' (σt++σ) H' X'.xe I' (MN Ux) qk ((Ve F' H' ds.length Bx.ff Bx.fh).2 (X_ _))) ?_;rintro r s1 ⟨rfl,I1⟩;obtain⟨m,hm,_⟩:=I1.loc;rw[GI] at hm;have VQ:H' HL.objs.size=ω:=by
     have:=I1.free;rw[GI] at this;exact this
    have u:=I1.base;rw[Wa,hex,VS,U7] at u;have G2:s1.os=v2.os:=by have:=I1.os;rw[U7] at this;exact this
    have PV:=I1.hok;rw[hP,hw] at PV;refine VU s1 HL.objs.size v2.heap.objs.size H' (I2.call' G2 u PV I1.bare (λb hb=>⟨(f2 b hb).2.2.2.1,(f2 b hb).2.1,(f2 b hb).2.2.2.2.1,(f2 b hb).2.2.2.2.2⟩)) ?_
     ⟨⟨m,hm⟩,VQ,abJ (aam I2.lt EK),Yz I2.sz (Zm EK),λx c q z=>?_,λp hp z=>?_⟩
    rotate_left
    ·obtain⟨v,q'⟩:=I2.cell x c q;exact ael (aam q'.lt EK) (by rw[z];exact Zb _)
    ·exact ael (aam (Ys (I2.pin p hp).1) EK) (by rw[z];exact Zb _)
    refine WP.fin w2 (F':=upd F' v2.heap.objs.size (.lst vs)) ⟨Bx.hh,λb u q=>?_,λb u q=>?_,λa ha=>?_⟩ ⟨_,vs,rfl,aD,DenL.mono (λb u q=>?_) RM,UJ⟩
    ·rw[ay (λz=>by have:=Bx.ff b u q;rw[z,fD] at this;cases this)];exact Bx.ff b u q
    ·by_cases z:b=v2.heap.objs.size
     ·rw[z,aD] at q;rw[z,hD];exact q
     ·rw[ay z] at q;exact Bx.fh b u q
    ·rcases Bx.new a ha with q | q
     ·exact .inl (by rw[ay (λz=>ha (by rw[z];exact nD))];exact q)
     ·exact .inr q
    ·rw[ay (λz=>by rw[z,fD] at q;cases q)];exact q
  ·rw[WS];refine⟨0,F2,_,[],[],Y4 (max n 1) ω,by simp,YH _,by simp,I0,T.keep _ _ _ uY (λb hb o e=>old b o e),λb hb=>?_,⟨λb u q=>?_,Same.refl _,λb u q=>?_,λ_ _=> .inl rfl⟩,aD,Same.free e2.fh nD,rfl,?_⟩
   ·rw[ay (YF (fl b hb))];exact(f2 b hb).1
   ·rw[ay (Tz b u q)];exact q
   ·rw[ay (Tz b u (e2.fh b u q))];exact e2.fh b u q
   ·rw[ac3];rcases(ej (jO n δt δe ρ) ds).cs with hq | ⟨m,hq⟩ | ⟨R,hq⟩<;>rw[hq]<;>rfl
 exact codeAny_compStart_list (loop _ rfl) (T.self X.A 0 _ _ _ (T.keep _ _ _ uY (λb hb o e=>old b o e)) (loop _ rfl))
def Inv.block{C:Addr}(I:Inv X f8 σ H' s1)(b:BlockEnd X f8 C H' s1)(Qb:aal C s1.heap h'):Inv X f8 σ H' {s1 with heap:=h'}:=
 I.turned (λa o ha e=>(Qb.2 a ha).trans e) b.free b.nl (.inr b.nw) b.nc b.np
section
variable{X:Cx}{Xw:Nat->Hp->Prop}{elt iter tg:Expr}{ifs:List Expr}{scope:Scope}{pos:Pos}{tn:List Str}{n:Nat}{δi:DA}{δt:DT}{δe:DE}
def dZ(sc:CompSc X scope tn)(hn:tn.length=max n 1)(hc:X.calm=ψ)(hi:Ba X Xw tg iter δi)
 (hg:∀f8 cl C fp v2 H σ,F4 (lK X scope tn f8 cl C fp v2 H) tg n σ)
 (ht:∀f8 cl C fp v2 H,n9 (lK X scope tn f8 cl C fp v2 H) ifs δt)
 (he:∀f8 cl C fp v2 H,PD (lK X scope tn f8 cl C fp v2 H) (λ_ _=>False) elt δe)
 (hs:∀x,aag iter X.env x=pure x:=by intro _;rfl):
 PD X Xw (.ListComp elt [⟨tg,iter,ifs,0⟩] scope pos) (bw n δi δt δe):=by
 intro f8 s σ H Q I ⟨F,ρ,S,w⟩;obtain⟨cl,GS,Gm,OG⟩:=rB λy hy hf=>I.ok.has y.1 (sc.frees y hy hf);rw[eval_ListComp];refine adL rfl hs GS sc.kind sc.names (y8 (RR:=λv4 C=>compPost (model X.prog X.w) X.A X.xe ω (EP X f8 σ Q) v4 C) sc hn hc hi hg ht he I S w Gm OG λs1 C D H' I1 q b=>?_);obtain⟨m,hm⟩:=b.ns;exact⟨m,hm,λh' Qb=>⟨.ref D,H',Inv.block I1 b Qb,rfl,q⟩⟩
end
inductive Out where
 |nx (ρ:bQ) | rt (d:D)
abbrev DS:=bQ->M Out
structure StOk (K:Ym) (u8 aep F H:Hp) (σ:St) (ρ:bQ):Prop where
 ext:Ext u8 aep F H
 st:StE K F H σ ρ
 len:ρ.length=σ.length
 own:∀(i:Nat) (c:C) (a:Addr),ρ[i]? =θ (θ (.ow c))->σ[i]? =θ (θ (.ref a))->aep a=ω
 sep:∀(i j:Nat) (c c':C) (a:Addr),ρ[i]? =θ (θ (.ow c))->ρ[j]? =θ (θ (.ow c'))->σ[i]? =θ (θ (.ref a))->σ[j]? =θ (θ (.ref a))->i=j
def WPS(K:Ym)(Xw:Nat->Hp->Prop)(u8 aep:Hp)(m:M Out)(Dn:Ends):Prop:=
 match m with
 |none=>False
 |some (.ok (.nx ρ))=>∀σ F H,StOk K u8 aep F H σ ρ->Dn.nx σ H
 |some (.ok (.rt d))=>∀v F H,Ext u8 aep F H->Den K F d v->Dn.rt v H
 |some (.ex n)=>∀F H,Ext u8 aep F H->Xw n H
def tS(K:Ym)(Xw:Nat->Hp->Prop)(u8 aep:Hp)(τ:DS):TS:=λDn σ H=>∃F ρ,StOk K u8 aep F H σ ρ/\WPS K Xw u8 aep (τ ρ) Dn
def iQ(X:Cx)(Xw:Nat->Hp->Prop)(st:Stmt)(τ:DS):Prop:=∀u8 aep,PS X st (tS X.K Xw u8 aep τ)
def PSDs(X:Cx)(Xw:Nat->Hp->Prop)(st:List Stmt)(τ:DS):Prop:=∀u8 aep,PSs X st (tS X.K Xw u8 aep τ)
def PS.weak{st:Stmt}(h:PS X st t)(k:∀D σ H,t' D σ H->t D σ H):PS X st t':=λf8 s σ H D I w=>h f8 s σ H D I (k D σ H w)
def PSs.weak{st:List Stmt}(h:PSs X st t)(k:∀D σ H,t' D σ H->t D σ H):PSs X st t':=λf8 s σ H D I w=>h f8 s σ H D I (k D σ H w)
section
variable{K:Ym}{u8 aep F H F' H':Hp}{σ:St}{ρ:bQ}
def StOk.ext'(s:StOk K u8 aep F H σ ρ)(e:Ext F H F' H'):StOk K u8 aep F' H' σ ρ:=⟨s.ext.trans e,s.st.ext e,s.len,s.own,s.sep⟩
theorem StOk.set(s:StOk K u8 aep F H σ ρ){d:D}(h:Den K F d v):StOk K u8 aep F H (σ.set i (θ v)) (ρ.set i (θ (.fz d))):=by
 have hl:=s.len;have get:∀(j:Nat) (sl:Sl),(ρ.set i (θ (.fz d)))[j]? =θ (θ sl)->(j=i/\i<ρ.length/\sl= .fz d)\/(j≠i/\ρ[j]? =θ (θ sl)):=λj sl e=>by
  by_cases hj:j=i
  ·subst hj;have hi:j<ρ.length:=by
    have:=(Yk.mp e).1;simpa using this
   rw[Yt hi] at e;cases e;exact .inl ⟨rfl,hi,rfl⟩
  ·rw[Yn (Y9 hj)] at e;exact .inr ⟨hj,e⟩
 refine⟨s.ext,⟨s.st.fh,λj sl e=>?_⟩,by simp[hl],λj c a e e'=>?_,λj k c c' a e1 e2 e3 e4=>?_⟩
 ·rcases get j sl e with⟨rfl,hi,rfl⟩ | ⟨hj,e⟩
  ·exact⟨v,by rw[Yt (by omega)],h⟩
  ·obtain⟨u,h1,h2⟩:=s.st.den j sl e;exact⟨u,by rw[Yn (Y9 hj)];exact h1,h2⟩
 ·rcases get j _ e with⟨_,_,z⟩ | ⟨hj,e⟩
  ·cases z
  ·rw[Yn (Y9 hj)] at e';exact s.own j c a e e'
 ·rcases get j _ e1 with⟨_,_,z⟩ | ⟨hj,e1⟩
  ·cases z
  ·rcases get k _ e2 with⟨_,_,z⟩ | ⟨hk,e2⟩
   ·cases z
   ·rw[Yn (Y9 hj)] at e3;rw[Yn (Y9 hk)] at e4;exact s.sep j k c c' a e1 e2 e3 e4
def StOk.setNew(s:StOk K u8 aep F H σ ρ){o:HO}(n:H a=ω)(h:DenC K F c₀ o):
 StOk K u8 aep F (upd H a o) (σ.set i (θ (.ref a))) (ρ.set i (θ (.ow c₀))):=by
 have hle:=s.len;have e0:=Ext.free (o:=o) s.st.fh n;have nF:F a=ω:=Same.free s.st.fh n;have get:∀(j:Nat) (sl:Sl),(ρ.set i (θ (.ow c₀)))[j]? =θ (θ sl)->(j=i/\i<ρ.length/\sl= .ow c₀)\/(j≠i/\ρ[j]? =θ (θ sl)):=λj sl e=>by
  by_cases hj:j=i
  ·subst hj;have hi:j<ρ.length:=by
    have:=(Yk.mp e).1;simpa using this
   rw[Yt hi] at e;cases e;exact .inl ⟨rfl,hi,rfl⟩
  ·rw[Yn (Y9 hj)] at e;exact .inr ⟨hj,e⟩
 have old:∀(j:Nat) (c:C) (b:Addr),ρ[j]? =θ (θ (.ow c))->σ[j]? =θ (θ (.ref b))->b≠a:=λj c b e e' z=>by
  obtain⟨u,h1,b',o,h2,h3,_⟩:=s.st.den j _ e;rw[h1] at e';cases e';cases h2;rw[z,n] at h3;cases h3
 refine⟨s.ext.trans e0,⟨e0.fh,λj sl e=>?_⟩,by simp[hle],λj c b e e'=>?_,λj k c c' b e1 e2 e3 e4=>?_⟩
 ·rcases get j sl e with⟨rfl,hi,rfl⟩ | ⟨hj,e⟩
  ·exact⟨.ref a,by rw[Yt (by omega)],a,_,rfl,aD,nF,h⟩
  ·obtain⟨u,h1,h2⟩:=s.st.den j sl e;exact⟨u,by rw[Yn (Y9 hj)];exact h1,h2.ext e0⟩
 ·rcases get j _ e with⟨rfl,hi,_⟩ | ⟨hj,e⟩
  ·rw[Yt (by omega)] at e';cases e';exact Same.free s.ext.hh n
  ·rw[Yn (Y9 hj)] at e';exact s.own j c b e e'
 ·rcases get j _ e1 with⟨rfl,hi,_⟩ | ⟨hj,e1⟩
  ·rw[Yt (by omega)] at e3;cases e3;rcases get k _ e2 with⟨rfl,_,_⟩ | ⟨hk,e2⟩
   ·rfl
   ·rw[Yn (Y9 hk)] at e4;exact ael rfl (old k c' a e2 e4)
  ·rcases get k _ e2 with⟨SW,hi,_⟩ | ⟨hk,e2⟩
   ·rw[SW,Yt (by omega)] at e4;cases e4;rw[Yn (Y9 hj)] at e3;exact ael rfl (old j c a (by assumption) e3)
   ·rw[Yn (Y9 hj)] at e3;rw[Yn (Y9 hk)] at e4;exact s.sep j k c c' b e1 e2 e3 e4
def StOk.chg(s:StOk K u8 aep F H σ ρ){c c₀:C}(hi:ρ[i]? =θ (θ (.ow c)))(ha:σ[i]? =θ (θ (.ref a)))(h:DenC K F c₀ o₀):
 StOk K u8 aep F (upd H a o₀) σ (ρ.set i (θ (.ow c₀))):=by
 have hle:=s.len;have h0:=s.own i c a hi ha;obtain⟨u,q1,a',o,q2,q3,q4,q5⟩:=s.st.den i _ hi;rw[ha] at q1;cases q1;cases q2;have SO:i<ρ.length:=(Yk.mp hi).1;have get:∀(j:Nat) (sl:Sl),(ρ.set i (θ (.ow c₀)))[j]? =θ (θ sl)->(j=i/\sl= .ow c₀)\/(j≠i/\ρ[j]? =θ (θ sl)):=λj sl e=>by
  by_cases hj:j=i
  ·subst hj;rw[Yt SO] at e;cases e;exact .inl ⟨rfl,rfl⟩
  ·rw[Yn (Y9 hj)] at e;exact .inr ⟨hj,e⟩
 have fh:Same F (upd H a o₀):=λb o e=>by
  rw[ay (λz=>by rw[z,q4] at e;cases e)];exact s.st.fh b o e
 refine⟨⟨λb o e=>?_,s.ext.ff,fh,s.ext.new⟩,⟨fh,λj sl e=>?_⟩,by simp[hle],λj c' b e e'=>?_,λj k c1 c2 b e1 e2 e3 e4=>?_⟩
 ·rw[ay (λz=>by rw[z,h0] at e;cases e)];exact s.ext.hh b o e
 ·rcases get j sl e with⟨rfl,rfl⟩ | ⟨hj,e⟩
  ·exact⟨.ref a,ha,a,_,rfl,aD,q4,h⟩
  ·obtain⟨u,h1,h2⟩:=s.st.den j sl e;refine⟨u,h1,?_⟩;cases sl with
   |fz d=>exact h2
   |ow c'=>
    obtain⟨b,o',r1,r2,r3,r4⟩:=h2;refine⟨b,o',r1,?_,r3,r4⟩;rw[ay (λz=>hj (s.sep j i c' c a e hi (by rw[h1,r1,z]) ha))];exact r2
 ·rcases get j _ e with⟨rfl,_⟩ | ⟨hj,e⟩
  ·rw[ha] at e';cases e';exact h0
  ·exact s.own j c' b e e'
 ·have k1:∃c,ρ[j]? =θ (θ (.ow c)):=by
   rcases get j _ e1 with⟨rfl,_⟩ | ⟨_,e⟩
   ·exact⟨c,hi⟩
   ·exact⟨_,e⟩
  have k2:∃c,ρ[k]? =θ (θ (.ow c)):=by
   rcases get k _ e2 with⟨rfl,_⟩ | ⟨_,e⟩
   ·exact⟨c,hi⟩
   ·exact⟨_,e⟩
  obtain⟨_,k1⟩:=k1;obtain⟨_,k2⟩:=k2;exact s.sep j k _ _ b k1 k2 e3 e4
def frz(i:Nat)(ρ:bQ):bQ:=match ρ[i]? with
 |some (θ (.ow c))=>ρ.set i (θ (.fz c.d))
 |_=>ρ
theorem StOk.frz(s:StOk K u8 aep F H σ ρ)(i:Nat)(obj:Addr->Obj):(∃a o,H a=θ o/\DenC K F (ρ[i]?.elim (.lst []) λx=>x.elim (.lst []) λy=>match y with | .ow c=>c | _=> .lst []) o/\σ[i]? =θ (θ (.ref a))/\StOk K u8 aep (upd F a (qD (obj a) o)) (upd H a (qD (obj a) o)) σ (frz i ρ))\/frz i ρ=ρ:=by
 unfold L3.frz;split
 ·rename_i c₀ hi;have hle:=s.len;obtain⟨u,ha,a,o,rfl,q3,q4,LX⟩:=s.st.den i _ hi;refine .inl ⟨a,o,q3,by rw[hi];exact LX,ha,?_⟩;have h0:=s.own i _ a hi ha;have SO:i<ρ.length:=(Yk.mp hi).1;have ff:Same F (upd F a (qD (obj a) o)):=λb o e=>by rw[ay (λz=>by rw[z,q4] at e;cases e)];exact e
  have fh:Same (upd F a (qD (obj a) o)) (upd H a (qD (obj a) o)):=λb o e=>by
   by_cases z:b=a
   ·rw[z,aD] at e⊢;exact e
   ·rw[ay z] at e⊢;exact s.st.fh b o e
  have get:∀(j:Nat) (sl:Sl),(ρ.set i (θ (.fz c₀.d)))[j]? =θ (θ sl)->(j=i/\sl= .fz c₀.d)\/(j≠i/\ρ[j]? =θ (θ sl)):=λj sl e=>by
   by_cases hj:j=i
   ·subst hj;rw[Yt SO] at e;cases e;exact .inl ⟨rfl,rfl⟩
   ·rw[Yn (Y9 hj)] at e;exact .inr ⟨hj,e⟩
  refine⟨⟨λb u q=>?_,s.ext.ff.trans ff,fh,λb hb=>?_⟩,⟨fh,λj sl e=>?_⟩,by simp[hle],λj c' b e e'=>?_,λj k c1 c2 b e1 e2 e3 e4=>?_⟩
  ·rw[ay (λz=>by rw[z,h0] at q;cases q)];exact s.ext.hh b u q
  ·rcases s.ext.new b hb with q | q
   ·exact .inl (by rw[ay (λz=>hb (by rw[z];exact h0))];exact q)
   ·exact .inr q
  ·rcases get j sl e with⟨rfl,rfl⟩ | ⟨hj,e⟩
   ·exact⟨.ref a,ha,DenC.den LX ff aD⟩
   ·obtain⟨u,h1,h2⟩:=s.st.den j sl e;refine⟨u,h1,?_⟩;cases sl with
    |fz d=>exact Den.mono ff h2
    |ow c'=>
     obtain⟨b,o',r1,r2,r3,r4⟩:=h2;have fE:b≠a:=λz=>hj (s.sep j i c' _ a e hi (by rw[h1,r1,z]) ha);exact⟨b,o',r1,by rw[ay fE];exact r2,by rw[ay fE];exact r3,DenC.mono ff r4⟩
  ·rcases get j _ e with⟨_,z⟩ | ⟨hj,e⟩
   ·cases z
   ·exact s.own j c' b e e'
  ·rcases get j _ e1 with⟨_,z⟩ | ⟨_,e1⟩
   ·cases z
   ·rcases get k _ e2 with⟨_,z⟩ | ⟨_,e2⟩
    ·cases z
    ·exact s.sep j k _ _ b e1 e2 e3 e4
 ·exact .inr rfl
end
def join(F H:Hp):Hp:=λa=>match F a with
 |some o=>θ o
 |none=>H a
def StOk.rebase{K:Ym}{u8 aep F H:Hp}(s:StOk K u8 aep F H σ ρ):StOk K F (join F aep) F H σ ρ/\∀F' H',Ext F (join F aep) F' H'->Ext u8 aep F' H':=by
 have hj:Same (join F aep) H:=λb o e=>by
  unfold join at e;cases q:F b with
  |some u=>rw[q] at e;cases e;exact s.st.fh b _ q
  |none=>rw[q] at e;exact s.ext.hh b o e
 have h0:Same aep (join F aep):=λb o e=>by
  unfold join;cases q:F b with
  |some u=>
   have h1:=s.st.fh b u q;rw[s.ext.hh b o e] at h1;exact h1.symm
  |none=>exact e
 refine⟨⟨⟨hj,Same.refl _,s.st.fh,λ_ _=> .inl rfl⟩,s.st,s.len,λi c a e e'=>?_,s.sep⟩,λF' H' x=>⟨h0.trans x.hh,s.ext.ff.trans x.ff,x.fh,λa ha=>?_⟩⟩
 ·have h1:=s.own i c a e e';obtain⟨v,q1,a',o,q2,q3,q4,_⟩:=s.st.den i _ e;rw[e'] at q1;cases q1;cases q2;unfold join;rw[q4];exact h1
 ·have:join F aep a≠ω:=by
   cases q:aep a with
   |none=>exact ael q ha
   |some o=>rw[h0 a o q];exact λz=>nomatch z
  rcases s.ext.new a ha with p | p
  ·rcases x.new a this with q | ⟨ts,q⟩
   ·exact .inl (q.trans p)
   ·cases z:aep a with
    |none=>exact ael z ha
    |some o=>
     rw[h0 a o z] at q;exact .inr ⟨ts,q⟩
  ·exact .inr p
def StOk.unbase{K:Ym}{u8 aep F U F' H':Hp}(k:∀F' H',Ext F U F' H'->Ext u8 aep F' H')(s:StOk K F U F' H' σ ρ)(h:Same aep U):StOk K u8 aep F' H' σ ρ:=
 ⟨k _ _ s.ext,s.st,s.len,λi c a e e'=>Same.free h (s.own i c a e e'),s.sep⟩
def EW{K:Ym}{u8 aep F H:Hp}(s:StOk K u8 aep F H σ ρ):Same aep (join F aep):=λb o e=>by
 unfold join;cases q:F b with
 |some u=>
  have h1:=s.st.fh b u q;rw[s.ext.hh b o e] at h1;exact h1.symm
 |none=>exact e
def Inv.refrz(I:Inv X f8 σ H s)(e:H a=θ o)
 (ho:o'=o\/∃u,o'= .frz ((s.heap.get? a).getD {cls:= .none,data:= .fields #[]}) u/\((∃k,o= .dT k/\u= .dT k)\/∃k,o= .dK k/\u= .dK k)):Inv X f8 σ (upd H a o') s:=by
 rcases ho with rfl | ⟨u,rfl,hu⟩
 ·have:upd H a o'=H:=by
   funext b;by_cases z:b=a
   ·rw[z,aD,e]
   ·rw[ay z]
  rw[this];exact I
 have WB:o=u:=by rcases hu with⟨k,h1,h2⟩ | ⟨k,h1,h2⟩<;>rw[h1,h2]
 subst WB;have nt:∀ts,o≠ .tup ts:=λts z=>by rcases hu with⟨k,h1,_⟩ | ⟨k,h1,_⟩<;>rw[h1] at z<;>cases z
 have nf:∀ob v,o≠ .frz ob v:=λob v z=>by rcases hu with⟨k,h1,_⟩ | ⟨k,h1,_⟩<;>rw[h1] at z<;>cases z
 have nb:∀p,o≠ .tbl p:=λp z=>by rcases hu with⟨k,h1,_⟩ | ⟨k,h1,_⟩<;>rw[h1] at z<;>cases z
 have no:∀p,o≠ .own p:=λp z=>by rcases hu with⟨k,h1,_⟩ | ⟨k,h1,_⟩<;>rw[h1] at z<;>cases z
 have ne:∀b,H b=ω->b≠a:=λb hb z=>by rw[z,e] at hb;cases hb
 have hk:=I.hok a o e;have il:=hk.lt;obtain⟨ob,M5⟩:∃ob,s.heap.get? a=θ ob:=by
  rcases hu with⟨k,h1,_⟩ | ⟨k,h1,_⟩
  ·subst h1;obtain⟨_,_,_,_,ob,_,_,q,_⟩:=hk;exact⟨ob,q⟩
  ·subst h1;obtain⟨_,_,_,_,ob,_,_,q,_⟩:=hk;exact⟨ob,q⟩
 rw[M5];refine⟨I.ok,I.os,I.bare,⟨I.base.keep,I.base.slot,λb q h1 h2 h3=>?_,I.base.there,λb xs q=>?_,λb q1 v q=>?_,λb ps q=>?_⟩,I.loc,I.cell,?_,λx c q=>?_,λp hp=>?_,λb v q=>?_,I.len⟩
 ·have:=I.base.free b q h1 h2 h3;rw[ay (ne b this)];exact this
 ·have:=I.base.tups b xs q;rw[ay (λz=>by rw[z,e] at this;exact nt xs (YS this))];exact this
 ·have:=I.base.frzs b q1 v q;rw[ay (λz=>by rw[z,e] at this;exact nf _ _ (YS this))];exact this
 ·obtain⟨m,this⟩:=I.base.tbls b ps q;exact⟨m,by rw[ay (λz=>by rw[z,e] at this;exact nb _ (YS this))];exact this⟩
 ·rw[ay (ne _ I.free)];exact I.free
 ·rw[ay (ne _ (I.freeC x c q))];exact I.freeC x c q
 ·obtain⟨h1,h2,h3⟩:=I.pin p hp;exact⟨h1,by rw[ay (ne _ h2)];exact h2,h3⟩
 ·have st:∀{c:Addr}{v:HO},ObjOk X.prog X.w H s.heap c v->ObjOk X.prog X.w (upd H a (.frz ob o)) s.heap c v:=λ{c v} k=>k.stay (λ_ _ _ q=>q)
   (λc' q=>by rw[ay (λz=>by rw[z,e] at q;exact no _ (YS q))];exact q) λc' xs q=>by rw[ay (λz=>by rw[z,e] at q;exact nt _ (YS q))];exact q
  by_cases z:b=a
  ·subst z;rw[show (θ ob).getD _=ob from rfl,aD] at q;cases q;exact⟨M5,st hk⟩
  ·rw[ay z] at q;exact st (I.hok b v q)
def aA(a b:DS):DS:=λρ=>a ρ>>=λo=>match o with | .nx ρ'=>b ρ' | .rt d=>aa (.rt d)
def eg:DS:=λρ=>aa (.nx ρ)
def bI(δ:DE):DS:=λρ=>δ ρ>>=λd=>aa (.rt d)
def eK(δ:DE):DS:=λρ=>δ ρ>>=λ_=>aa (.nx ρ)
def bN(i:Nat)(δ:DE):DS:=λρ=>δ ρ>>=λd=>aa (.nx (ρ.set i (θ (.fz d))))
def jQ(c:DT)(a b:DS):DS:=λρ=>c ρ>>=λx=>if x then a ρ else b ρ
def uT(i:Nat)(a:DS):DS:=λρ=>a (frz i ρ)
def tV(i:Nat):DS:=λρ=>aa (.nx (ρ.set i (θ (.ow (.lst [])))))
def Fj(ρ:bQ)(i:Nat):Option (List D):=match ρ[i]? with
 |some (θ (.ow (.lst ds)))=>θ ds
 |_=>ω
def vT{i:Nat}(h:Fj ρ i=θ ds):ρ[i]? =θ (θ (.ow (.lst ds))):=by
 unfold Fj at h;split at h
 ·rename_i ds' e;cases h;exact e
 ·cases h
def pj(i:Nat)(δ:DE):DS:=λρ=>match Fj ρ i with
 |some ds=>δ ρ>>=λd=>if ds.length<lim then aa (.nx (ρ.set i (θ (.ow (.lst (ds++[d])))))) else af
 |none=>af
def Fz(i:Nat)(δ:DE):DS:=λρ=>match Fj ρ i with
 |some ds=>δ ρ>>=λd=>lstM d>>=λes=>if ds.length+es.length<=lim then aa (.nx (ρ.set i (θ (.ow (.lst (ds++es)))))) else af
 |none=>af
def forL(put:D->bQ->Option bQ)(body:DS):List D->DS
 |[],ρ=>aa (.nx ρ)
 |d::ds,ρ=>(match put d ρ with | none=>af | some ρ1=>body ρ1>>=λo=>match o with | .nx ρ2=>forL put body ds ρ2 | .rt v=>aa (.rt v))
def putN(i:Nat):D->bQ->Option bQ:=λd ρ=>θ (ρ.set i (θ (.fz d)))
def dN(put:D->bQ->Option bQ)(δi:DA)(body:DS):DS:=λρ=>δi ρ>>=λds=>forL put body ds ρ
section
variable{X:Cx}{Xw:Nat->Hp->Prop}{u8 aep:Hp}{st:Stmt}{W1:List Stmt}{τ τ':DS}{e:Expr}{δ:DE}{pos:Pos}
def br:PSDs X Xw [] eg:=λu8 aep=>PSs.weak D3 λD σ H ⟨F,ρ,s,w⟩=>w σ F H s
def ai(h1:iQ X Xw st τ)(h2:PSDs X Xw W1 τ'):PSDs X Xw (st::W1) (aA τ τ'):=λu8 aep=>PSs.weak (Ao (h1 u8 aep) (h2 u8 aep)) λD σ H ⟨F,ρ,s,w⟩=>by
 refine⟨F,ρ,s,?_⟩;unfold aA at w
 match τ ρ,w with
 |none,w=>exact w
 |some (.ok (.nx ρ')),w=>exact λσ' F' H' s'=>⟨F',ρ',s',w⟩
 |some (.ok (.rt d)),w=>exact w
 |some (.ex n),w=>exact w
def ar(h1:iQ X Xw st τ):PSDs X Xw [st] τ:=λu8 aep=>rb (h1 u8 aep)
def cG{i:Nat}(h:iQ X Xw st τ):iQ X Xw st (uT i τ):=λu8 aep f8 sh σ H D I ⟨F,ρ,s,w⟩=>by
 rcases s.frz i (λa=>(sh.heap.get? a).getD {cls:= .none,data:= .fields #[]}) with⟨a,o,ha,hc,hσ,s'⟩ | e
 ·refine h u8 aep f8 sh σ _ D (L3.Inv.refrz I ha ?_) ⟨_,_,s',w⟩;generalize (ρ[i]?.elim (C.lst []) λx=>x.elim (.lst []) λy=>match y with | .ow c=>c | _=> .lst [])=c at hc;cases c with
  |lst ds=>obtain⟨vs,rfl,_⟩:=hc;exact .inl rfl
  |dct ks ds=>obtain⟨vs,rfl,_⟩:=hc;exact .inr ⟨_,rfl, .inl ⟨_,rfl,rfl⟩⟩
  |dci ks ds=>obtain⟨vs,rfl,_⟩:=hc;exact .inr ⟨_,rfl, .inr ⟨_,rfl,rfl⟩⟩
 ·exact h u8 aep f8 sh σ H D I ⟨F,ρ,s,by unfold uT at w;rw[e] at w;exact w⟩
def aB(h:PD X Xw e δ):iQ X Xw (.Return (θ e) pos) (bI δ):=λu8 aep=>PS.weak (N9 h) λD σ H ⟨F,ρ,s,w⟩=>by
 refine⟨F,ρ,s.st,?_⟩;unfold bI at w
 match δ ρ,w with
 |none,w=>exact w
 |some (.ok d),w=>exact λv H' F' e' q=>w v F' H' (s.ext.trans e') q
 |some (.ex n),w=>exact λF' H' e'=>w F' H' (s.ext.trans e')
def bq(h:PD X Xw e δ)(hs:aaY e ω pos.line X.env=pure μ:=by rfl):iQ X Xw (.Expr e pos) (eK δ):=λu8 aep=>PS.weak (ra h hs) λD σ H ⟨F,ρ,s,w⟩=>by
 refine⟨F,ρ,s.st,?_⟩;unfold eK at w
 match δ ρ,w with
 |none,w=>exact w
 |some (.ok d),w=>exact λv H' F' e' q=>w σ F' H' (s.ext' e')
 |some (.ex n),w=>exact λF' H' e'=>w F' H' (s.ext.trans e')
def aL{x:Str}(hN:X.N.Nodup)(hi:X.N[i]? =θ x)(hx:Loc X.env.scope x)(he:PD X Xw e δ)(hf:X.fn x=ψ\/X.env.scope.names.lookup x=θ .local:=by first | exact .inl rfl | exact .inr rfl)
 (hs:acA [.Name x pos'] e pos.line X.env=pure μ:=by rfl):
 iQ X Xw (.Assign [.Name x pos'] e pos) (bN i δ):=λu8 aep=>PS.weak (o8 he (aY hN hi hx hf) hs) λD σ H ⟨F,ρ,s,w⟩=>by
 refine⟨F,ρ,s.st,?_⟩;unfold bN at w
 match δ ρ,w with
 |none,w=>exact w
 |some (.ok d),w=>exact λv H' F' e' q=>w _ F' H' ((s.ext' e').set q)
 |some (.ex n),w=>exact λF' H' e'=>w F' H' (s.ext.trans e')
def kC(hN:X.N.Nodup)(PX:X.N[i]? =θ x)(hx:Loc X.env.scope x)
 (sc:CompSc X scope tn)(hn:tn.length=max n 1)(hc:X.calm=ψ)(hi:Ba X Xw tg iter δi)
 (hg:∀f8 cl C fp v2 H σ,F4 (lK X scope tn f8 cl C fp v2 H) tg n σ)
 (ht:∀f8 cl C fp v2 H,n9 (lK X scope tn f8 cl C fp v2 H) ifs δt)
 (he:∀f8 cl C fp v2 H,PD (lK X scope tn f8 cl C fp v2 H) (λ_ _=>False) elt δe)
 (hf:X.fn x=ψ\/X.env.scope.names.lookup x=θ .local:=by first | exact .inl rfl | exact .inr rfl)
 (WR:aaY (.ListComp elt [⟨tg,iter,ifs,0⟩] scope bJ) (θ (.Name x pos')) pos.line X.env=pure ψ:=by rfl)
 (hs:∀x,aag iter X.env x=pure x:=by intro _;rfl):
 iQ X Xw (.Assign [.Name x pos'] (.ListComp elt [⟨tg,iter,ifs,0⟩] scope bJ) pos) (bN i (bw n δi δt δe)):=λu8 aep f8 s σ H D I ⟨F,ρ,S,w⟩=>by
 obtain⟨cl,GS,Gm,OG⟩:=rB λy hy hf=>I.ok.has y.1 (sc.frees y hy hf);have w':WP X.K Xw F H (bw n δi δt δe ρ) (λv H'=>D.nx (σ.set i (θ v)) H'):=by
  have w:WPS X.K Xw u8 aep (bw n δi δt δe ρ>>=λd=>aa (.nx (ρ.set i (θ (.fz d))))) D:=w
  match bw n δi δt δe ρ,w with
  |none,w=>exact w
  |some (.ok d),w=>exact λv H' F' e' q=>w _ F' H' ((S.ext' e').set q)
  |some (.ex n),w=>exact λF' H' e'=>w F' H' (S.ext.trans e')
 rw[exec_Assign_Name_used _ _ _ _ WR];refine X6 (wpAny_standAt (X6 ?_));show wpAny _ X.A (do let _<-comprehension (.ListComp elt [⟨tg,iter,ifs,0⟩] scope bJ) scope X.env _ (newList []) μ (eval iter X.env) (θ (assign (.Name x pos') X.env))) _ _ s;refine X6 (Zj (adL rfl hs GS sc.kind sc.names
  (y8 sc hn hc hi hg ht he I S.st w' Gm OG λs1 C D' H' I1 q b=>?_)) (λ_ s' hq=>Yb (Yb hq)) λ_ _ e=>e)
 show wpAny _ X.A (assign (.Name x pos') X.env (.ref D')) _ _ _;refine acO (wu I1 hN PX hx (v:= .ref D') rfl (λs2 I2 ⟨a,sb,ha⟩=>?_) hf);have VP:C≠a:=by
  rcases ha with z | z
  ·rw[z];exact b.nl
  ·exact Y9 (b.nc x a z)
 obtain⟨m,hm⟩:=b.ns;have GY:s2.heap.Ns C m:=hm.sameBut sb VP;refine⟨m,GY,λh' Qb=>⟨_,H',Inv.block I2 ⟨⟨m,GY⟩,b.free,b.nl,b.nw,b.nc,b.np⟩ Qb,q⟩⟩
def bY{a b:List Stmt}(hc:n0 X Xw c tc)(ha:PSDs X Xw a τ)(hb:PSDs X Xw b τ'):iQ X Xw (.If c a b pos) (jQ tc τ τ'):=λu8 aep=>PS.weak (Mi hc (ha u8 aep) (hb u8 aep)) λD σ H ⟨F,ρ,s,w⟩=>by
 refine⟨F,ρ,s.st,?_⟩;unfold jQ at w
 match tc ρ,w with
 |none,w=>exact w
 |some (.ok ψ),w=>exact λH' F' e'=>⟨F',ρ,s.ext' e',w⟩
 |some (.ok μ),w=>exact λH' F' e'=>⟨F',ρ,s.ext' e',w⟩
 |some (.ex n),w=>exact λF' H' e'=>w F' H' (s.ext.trans e')
def gB{pos' Am:Pos}(hN:X.N.Nodup)(hi:X.N[i]? =θ x)(hx:Loc X.env.scope x)(hf:X.fn x=ψ\/X.env.scope.names.lookup x=θ .local:=by first | exact .inl rfl | exact .inr rfl):
 iQ X Xw (.Assign [.Name x pos'] (.List [] Am) pos) (tV i):=λu8 aep=>PS.weak (o8 (Ip xM) (aY hN hi hx hf) rfl) λD σ H ⟨F,ρ,s,w⟩=>by
 refine⟨YH _,λp hp=>?_⟩;exact w _ F _ (s.setNew hp ⟨[],rfl,rfl,YH _⟩)
def FZ(K:Ym)(g:TG)(put:D->bQ->Option bQ):Prop:=∀(u8 aep F H:Hp) (σ:St) (ρ ρ':bQ) (d:D) (v:V) (Q:St->Hp->Prop),StOk K u8 aep F H σ ρ->Den K F d v->put d ρ=θ ρ'->
 (∀σ',StOk K u8 aep F H σ' ρ'->Q σ' H)->g v σ H Q
def bj{K:Ym}{i:Nat}:FZ K (lM i) (putN i):=λu8 aep F H σ ρ ρ' d v Q s q e k=>by
 cases e;exact k _ (s.set q)
def XI(K:Ym)(Xw:Nat->Hp->Prop)(τ:DS):TS:=λD σ H=>∃u8 aep,tS K Xw u8 aep τ D σ H
def PSDs.ex{body:List Stmt}(h:PSDs X Xw body τ):PSs X body (XI X.K Xw τ):=λf8 s σ H D I ⟨u8,aep,w⟩=>h u8 aep f8 s σ H D I w
def bx{tg iter:Expr}{body:List Stmt}(hp:adq (model X.prog X.w) X.A X.env X.xe)(hc:X.calm=ψ)(hi:Ba X Xw tg iter δi)(hg:PG X tg g)(S8:FZ X.K g put)(hb:PSDs X Xw body τ)
 (hs:∀x,aag iter X.env x=pure x:=by intro _;rfl):iQ X Xw (.For tg iter body [] pos) (dN put δi τ):=λu8 aep=>PS.weak (Cg hp hc hi hg hb.ex hs) λD σ H ⟨F,ρ,s,w⟩=>by
 refine⟨F,ρ,s.st,?_⟩;unfold dN at w
 match δi ρ,w with
 |none,w=>exact w
 |some (.ex n),w=>exact λF' H' e'=>w F' H' (s.ext.trans e')
 |some (.ok ds),w=>
  have w:WPS X.K Xw u8 aep (forL put τ ds ρ) D:=w;intro J H1 F1 e1 Vf;obtain⟨s1,back⟩:=(s.ext' e1).rebase;have hU:=EW (s.ext' e1);generalize join F1 aep=U at s1 back hU;refine⟨λi m σ H=>m=ds.length - i/\i<=ds.length/\∃F ρ,StOk X.K F1 U F H σ ρ/\WPS X.K Xw u8 aep (forL put τ (ds.drop i) ρ) D,⟨ds.length,by simp,YH _,F1,ρ,s1,by simpa using w⟩,?_⟩;rintro i m σ2 H2 ⟨rfl,SQ,F2,ρ2,s2,w2⟩;by_cases il:i<ds.length
  ·obtain⟨d,hd⟩:∃d,ds[i]? =θ d:=⟨_,X7 il⟩
   obtain⟨MU,BK⟩:=(Vf F2 H2 i s2.ext.ff s2.st.fh).1 d hd;have ed:ds.drop i=d::ds.drop (i+1):=by
    obtain⟨hi,e⟩:=Yk.mp hd;rw[aaV hi,e]
   rw[ed] at w2;unfold forL at w2;refine .inr ⟨MU,λσ' H'=>∃F' ρ',StOk X.K F1 U F' H' σ' ρ'/\WPS X.K Xw u8 aep (forL put τ (ds.drop (i+1)) ρ') D,λσ' H' ⟨F',ρ',h2,h3⟩=>⟨ds.length - (i+1),by omega,rfl,il,F',ρ',h2,h3⟩,λx H3 y3=>?_⟩;obtain⟨F3,C1,q3⟩:=BK x H3 y3
   match WC:put d ρ2,w2 with
   |none,w2=>exact w2.elim
   |some ρ3,w2=>
    refine S8 F1 U F3 H3 σ2 ρ2 ρ3 d x _ (s2.ext' C1) q3 WC λσ3 s3=>⟨F1,U,F3,ρ3,s3,?_⟩
    have w2:WPS X.K Xw u8 aep (τ ρ3>>=λo=>match o with | .nx ρ2=>forL put τ (ds.drop (i+1)) ρ2 | .rt v=>aa (.rt v)) D:=w2
    match τ ρ3,w2 with
    |none,w2=>exact w2
    |some (.ok (.nx ρ')),w2=>exact λσ' F' H' s'=>⟨F',ρ',s',w2⟩
    |some (.ok (.rt d)),w2=>exact λv F' H' e q=>w2 v F' H' (back _ _ e) q
    |some (.ex n),w2=>exact λF' H' e=>w2 F' H' (back _ _ e)
  ·have hi:i=ds.length:=by omega
   subst hi;rw[abh] at w2;exact .inl ⟨(Vf F2 H2 ds.length s2.ext.ff s2.st.fh).2 (X_ _),w2 σ2 F2 H2 (s2.unbase back hU)⟩
end
def gI(f:Int->Int->D):D->D->M D
 | .int i, .int j=>aa (f i j)
 |_,_=>af
def Pp(c:Int->Int->Bool)(f:Int->Int->D):D->D->M D
 | .int i, .int j=>if c i j then aa (f i j) else af
 |_,_=>af
def vS{K:Ym}{gd:Int->Int->D}(h:∀F i j,Den K F (gd i j) (gv i j)):A_ K (Ea gv) (gI gd):=λXw F H x y dx dy Q s hx hy w=>by
 unfold gI at w;split at w
 ·rename_i i j;exact⟨i,j,hx,hy,WP.now w s (h F i j)⟩
 ·exact w.elim
def Cb{K:Ym}{C:Int->Int->Prop}(h:∀F i j,Den K F (gd i j) (gv i j))(hc:∀i j,c i j=ψ->C i j):A_ K (rI C gv) (Pp c gd):=λXw F H x y dx dy Q s hx hy w=>by
 unfold Pp at w;split at w
 ·rename_i i j;split at w
  ·rename_i ON;exact⟨i,j,hx,hy,hc i j ON,WP.now w s (h F i j)⟩
  ·exact w.elim
 ·exact w.elim
def gk:=gI λi j=> .int (i+j)
def rU:=gI λi j=> .int (i - j)
def lI:=Pp (λi j=>decide ((-(2 ^ 64)<i/\i<2 ^ 64)\/(-(2 ^ 64)<j/\j<2 ^ 64))) λi j=> .int (i*j)
def uE:=Pp (λ_ j=>decide (0<j/\j<1073741824)) λi j=> .int (i / j)
def mT:=Pp (λ_ j=>decide (0<j)) λi j=> .int (i % j)
def Uz:=gI λi j=> .bl (decide (i<j))
def MO:=gI λi j=> .bl (decide (j<i))
section
variable{X:Cx}{Xw:Nat->Hp->Prop}{a b:Expr}{δa δb:DE}{pos:Pos}
def dJ(ha:PD X Xw a δa)(hb:PD X Xw b δb):PD X Xw (.BinOp a .Add b pos) (d2 gk δa δb):=tB NG (vS λ_ _ _=>rfl) ha hb
def o4(ha:PD X Xw a δa)(hb:PD X Xw b δb):PD X Xw (.BinOp a .Sub b pos) (d2 rU δa δb):=tB NM (vS λ_ _ _=>rfl) ha hb
def mr(ha:PD X Xw a δa)(hb:PD X Xw b δb):PD X Xw (.BinOp a .Mult b pos) (d2 lI δa δb):=tB NK (Cb (λ_ _ _=>rfl) λi j h=>by unfold CMul;exact aei h) ha hb
def xR(ha:PD X Xw a δa)(hb:PD X Xw b δb):PD X Xw (.BinOp a .FloorDiv b pos) (d2 uE δa δb):=tB KI (Cb (λ_ _ _=>rfl) λi j h=>by unfold OV;exact aei h) ha hb
def o3(ha:PD X Xw a δa)(hb:PD X Xw b δb):PD X Xw (.BinOp a .Mod b pos) (d2 mT δa δb):=tB NJ (Cb (λ_ _ _=>rfl) λi j h=>aei h) ha hb
def QR(ha:PD X Xw a δa)(hb:PD X Xw b δb):n0 X Xw (.Compare a [.Lt] [b] pos) (cT (d2 Uz δa δb)):=f9 HX (vS λ_ _ _=>rfl) ha hb
def Mj(ha:PD X Xw a δa)(hb:PD X Xw b δb):n0 X Xw (.Compare a [.Gt] [b] pos) (cT (d2 MO δa δb)):=f9 Mb (vS λ_ _ _=>rfl) ha hb
def j3:D->D->M D
 | .lst ds, .int i=>match atI ds i with | some d=>aa d | none=>af
 |_,_=>af
def cu:D->D->M D
 | .tup ds, .int i=>match atI ds i with | some d=>aa d | none=>af
 |_,_=>af
def GL:D->D->M D
 | .scr ns, .int i=>match atI ns i with | some n=>aa (.int n) | none=>af
 |_,_=>af
def uG:D->D->M D
 | .str x, .int i=>match atI x.cps.toList i with | some c=>aa (.str ⟨#[c]⟩) | none=>af
 |_,_=>af
theorem DenL.atI{K:Ym}(h:DenL K F ds vs){d:D}(e:L2.atI ds i=θ d):∃v,L2.atI vs i=θ v/\Den K F d v:=by
 unfold L2.atI at e⊢;rw[<-h.len];cases q:JD ds.length i with
 |none=>rw[q] at e;cases e
 |some j=>
  rw[q] at e;exact h.get e
def KJ{K:Ym}:A_ K (Oj K) j3:=λXw F H x y dx dy Q s hx hy w=>by
 unfold j3 at w;split at w
 ·rename_i ds i;obtain⟨a,vs,h1,h2,h3,h4⟩:=hx;split at w
  ·rename_i d e;obtain⟨v,e1,q⟩:=h3.atI e;exact⟨a,vs,i,v,h1,hy,SqL.of (s _ _ h2),e1,WP.now w s q⟩
  ·exact w.elim
 ·exact w.elim
def KO{K:Ym}:A_ K (QX K) cu:=λXw F H x y dx dy Q s hx hy w=>by
 unfold cu at w;split at w
 ·rename_i ds i;obtain⟨a,vs,h1,h2,h3,h4⟩:=hx;split at w
  ·rename_i d e;obtain⟨v,e1,q⟩:=h3.atI e;exact⟨a,vs,i,v,h1,hy,SqT.of (s _ _ h2),e1,WP.now w s q⟩
  ·exact w.elim
 ·exact w.elim
def KL{K:Ym}:A_ K (Oj K) GL:=λXw F H x y dx dy Q s hx hy w=>by
 unfold GL at w;split at w
 ·rename_i ns i;obtain⟨a,h1,h2,h3⟩:=hx;split at w
  ·rename_i n e;refine⟨a,_,i, .int n,h1,hy,Same.seq s h2,?_,WP.now w s rfl⟩;unfold L2.atI at e⊢;rw[X3];cases q:JD ns.length i with
   |none=>rw[q] at e;cases e
   |some j=>
    rw[q] at e;have e:ns[j]? =θ n:=e;show (ns.map V.int)[j]? =θ (.int n);rw[Yl,e];rfl
  ·exact w.elim
 ·exact w.elim
def KN{K:Ym}:A_ K QW uG:=λXw F H x y dx dy Q s hx hy w=>by
 unfold uG at w;split at w
 ·rename_i z i;obtain⟨h1,h2⟩:=hx;split at w
  ·rename_i c e;exact⟨z,i,c,h1,hy,by have:=dH;omega,e,WP.now w s ⟨rfl,by show 1<=lim;decide⟩⟩
  ·exact w.elim
 ·exact w.elim
def tw(ha:PD X Xw a δa)(hb:PD X Xw b δb)(hs:kY b:=by intro _ _;rfl):PD X Xw (.Subscript a b pos) (d2 j3 δa δb):=DR Dj KJ ha hb hs
def NR(ha:PD X Xw a δa)(hb:PD X Xw b δb)(hs:kY b:=by intro _ _;rfl):PD X Xw (.Subscript a b pos) (d2 GL δa δb):=DR Dj KL ha hb hs
def de(ha:PD X Xw a δa)(hb:PD X Xw b δb)(hs:kY b:=by intro _ _;rfl):PD X Xw (.Subscript a b pos) (d2 cu δa δb):=DR Ng KO ha hb hs
def Ce(ha:PD X Xw a δa)(hb:PD X Xw b δb)(hs:kY b:=by intro _ _;rfl):PD X Xw (.Subscript a b pos) (d2 uG δa δb):=DR Nf KN ha hb hs
def zu:D->D->M D
 | .lst x, .lst y=>if x.length+y.length<=lim then aa (.lst (x++y)) else af
 |_,_=>af
def kR(x y:Str):(x++y).length=x.length+y.length:=by
 show (x.cps++y.cps).size=_;simp[acu]
def KS(ha:PD X Xw a δa)(hb:PD X Xw b δb):PD X Xw (.BinOp a .Add b pos) (d2 zu δa δb):=tB NH (λXw F H x y dx dy Q s hx hy w=>by
 unfold zu at w;split at w
 ·rename_i i j;obtain⟨a,vs,h1,h2,h3,h4⟩:=hx;obtain⟨a',ei,k1,k2,k3,k4⟩:=hy;split at w
  ·rename_i hl;have e1:=h3.len;have e2:=k3.len;have:=dH;refine⟨a,a',vs,ei,h1,k1,s _ _ h2,s _ _ k2,by omega,λp hp=>?_⟩;exact WP.fin w (Ext.lay s hp) ⟨p,_,rfl,aD,DenL.mono (Ext.lay s hp).ff (h3.append k3),by rw[Yg];exact hl⟩
  ·exact w.elim
 ·exact w.elim) ha hb
end
end L3
namespace L3
open PySem PySem.Spec L2 SeqAt
open PyProof.Rows hiding St
def rO(f:D->D->Option Bool):List D->List D->Option Bool
 |[],[]=>θ ψ
 |x::xs,y::ys=>match f x y,rO f xs ys with
  |some b,θ r=>θ (b&&r)
  |_,_=>ω
 |[],_::_=>θ μ
 |_::_,[]=>θ μ
def Bv:D->D->Option Bool
 | .non, .non=>θ ψ
 | .bl a, .bl b=>θ (a==b)
 | .bl a, .int j=>θ ((if a then 1 else 0)==j)
 | .int i, .bl b=>θ (i==(if b then 1 else 0))
 | .int i, .int j=>θ (i==j)
 | .str x, .str y=>θ (x==y)
 | .non, .bl _=>θ μ
 | .non, .int _=>θ μ
 | .non, .str _=>θ μ
 | .non, .lst _=>θ μ
 | .non, .tup _=>θ μ
 | .bl _, .non=>θ μ
 | .bl _, .str _=>θ μ
 | .bl _, .lst _=>θ μ
 | .bl _, .tup _=>θ μ
 | .int _, .non=>θ μ
 | .int _, .str _=>θ μ
 | .int _, .lst _=>θ μ
 | .int _, .tup _=>θ μ
 | .str _, .non=>θ μ
 | .str _, .bl _=>θ μ
 | .str _, .int _=>θ μ
 | .str _, .lst _=>θ μ
 | .str _, .tup _=>θ μ
 | .lst _, .non=>θ μ
 | .lst _, .bl _=>θ μ
 | .lst _, .int _=>θ μ
 | .lst _, .str _=>θ μ
 | .lst _, .tup _=>θ μ
 | .tup _, .non=>θ μ
 | .tup _, .bl _=>θ μ
 | .tup _, .int _=>θ μ
 | .tup _, .str _=>θ μ
 | .tup _, .lst _=>θ μ
 |_,_=>ω
def ma:Nat->D->D->Option Bool
 |n+1, .tup xs, .tup ys=>rO (ma n) xs ys
 |n+1, .lst xs, .lst ys=>rO (ma n) xs ys
 |n+1, .scr xs, .lst ys=>rO (ma n) (xs.map D.int) ys
 |_,x,y=>Bv x y
structure EqAll (A:Y7) (s:Yc) (u v:Value) (b:Bool):Prop where
 rc:RcAt A s u v b
 ne:RcNeAt A s u v (!b)
 eq:EqAt A s u v b
section
variable{X:Cx}{f8:List (Addr×Obj)}{σ:St}{F H:Hp}{s:Yc}{A:Y7}
def yE(I:Inv X f8 σ H s)(hs:Same F H)(h:Den X.K F (.tup ds) v)(r:RelV v u):∃a vs aS,u= .ref a/\v= .ref a/\F a=θ (.tup vs)/\DenL X.K F ds vs/\Vals vs aS/\s.heap.IsTuple a aS.toArray:=by
 obtain⟨a,vs,rfl,h2,h3,h4⟩:=h;obtain⟨aS,r1,p1,_⟩:=I.tuple (SqT.of (hs _ _ h2));exact⟨a,vs,aS,r,rfl,h2,h3,r1,p1⟩
def sy(I:Inv X f8 σ H s)(hs:Same F H)(h:Den X.K F (.lst ds) v)(r:RelV v u):∃a vs aS,u= .ref a/\v= .ref a/\F a=θ (.lst vs)/\DenL X.K F ds vs/\Vals vs aS/\s.heap.IsList a aS.toArray:=by
 obtain⟨a,vs,rfl,h2,h3,h4⟩:=h;obtain⟨aS,r1,p1,_⟩:=I.list (SqL.of (hs _ _ h2));exact⟨a,vs,aS,r,rfl,h2,h3,r1,p1.isList⟩
def Oq(I:Inv X f8 σ H s)(hs:Same F H)(h:Den X.K F (.scr ns) v)(r:RelV v u):∃a aS,u= .ref a/\v= .ref a/\SqL X.K F a (ns.map V.int)/\Vals (ns.map V.int) aS/\s.heap.IsList a aS.toArray:=by
 obtain⟨a,rfl,h2,h3⟩:=h;obtain⟨aS,r1,p1,_⟩:=I.list (Same.seq hs h2);exact⟨a,aS,r,rfl,h2,r1,p1.isList⟩
def zm(I:Inv X f8 σ H s)(hs:Same F H)(hu:A.units<cLine)(hx:Den X.K F x v)(hy:Den X.K F y w)(rx:RelV v u)(ry:RelV w t)(e:Bv x y=θ b):EqAll A s u t b:=by
 cases x<;>cases y<;>cases e<;>(first | (cases (show _=V.non from hx);cases rx) | (cases (show _=V.bl _ from hx);cases rx) | (cases (show _=V.int _ from hx);obtain⟨_,rfl⟩:=rx) | (cases (show _=V.str _ from hx.1);obtain⟨_,rfl⟩:=rx) | (have q:=yE I hs hx rx;obtain⟨_,_,_,rfl,_,_,_,_,p1⟩:=q) | (have q:=sy I hs hx rx;obtain⟨_,_,_,rfl,_,_,_,_,p1⟩:=q))<;>(first | (cases (show _=V.non from hy);cases ry) | (cases (show _=V.bl _ from hy);cases ry) | (cases (show _=V.int _ from hy);obtain⟨_,rfl⟩:=ry) | (cases (show _=V.str _ from hy.1);obtain⟨_,rfl⟩:=ry) | (have q:=yE I hs hy ry;obtain⟨_,_,_,rfl,_,_,_,_,p2⟩:=q) | (have q:=sy I hs hy ry;obtain⟨_,_,_,rfl,_,_,_,_,p2⟩:=q))
 ·exact⟨RcAt.none_none,RcNeAt.none_none,EqAt.same _⟩
 ·exact⟨RcAt.none_bool _,RcNeAt.none_bool _,EqAt.none_bool _⟩
 ·exact⟨RcAt.none_int _ _,RcNeAt.none_int _ _,EqAt.none_int _ _⟩
 ·exact⟨RcAt.none_str _ _,RcNeAt.none_str _ _,EqAt.none_str _ _⟩
 ·exact⟨RcAt.none_tuple p2 hu,RcNeAt.none_tuple p2 hu,EqAt.none_tuple p2 hu⟩
 ·exact⟨RcAt.none_list p2 hu,RcNeAt.none_list p2 hu,EqAt.none_list p2 hu⟩
 ·exact⟨RcAt.bool_none _,RcNeAt.bool_none _,EqAt.bool_none _⟩
 ·exact⟨RcAt.bool_bool _ _,RcNeAt.bool_bool _ _,EqAt.bool_bool _ _⟩
 ·exact⟨RcAt.bool_int _ _ _,RcNeAt.bool_int _ _ _,EqAt.bool_int _ _ _⟩
 ·exact⟨RcAt.bool_str _ _ _,RcNeAt.bool_str _ _ _,EqAt.bool_str _ _ _⟩
 ·exact⟨RcAt.bool_tuple _ p2 hu,RcNeAt.bool_tuple _ p2 hu,EqAt.bool_tuple _ p2 hu⟩
 ·exact⟨RcAt.bool_list _ p2 hu,RcNeAt.bool_list _ p2 hu,EqAt.bool_list _ p2 hu⟩
 ·exact⟨RcAt.int_none _ _,RcNeAt.int_none _ _,EqAt.int_none _ _⟩
 ·exact⟨RcAt.int_bool _ _ _,RcNeAt.int_bool _ _ _,EqAt.int_bool _ _ _⟩
 ·exact⟨RcAt.int_int _ _ _ _,RcNeAt.int_int _ _ _ _,EqAt.int_int _ _ _ _⟩
 ·exact⟨RcAt.int_str _ _ _ _,RcNeAt.int_str _ _ _ _,EqAt.int_str _ _ _ _⟩
 ·exact⟨RcAt.int_tuple _ _ p2 hu,RcNeAt.int_tuple _ _ p2 hu,EqAt.int_tuple _ _ p2 hu⟩
 ·exact⟨RcAt.int_list _ _ p2 hu,RcNeAt.int_list _ _ p2 hu,EqAt.int_list _ _ p2 hu⟩
 ·exact⟨RcAt.str_none _ _,RcNeAt.str_none _ _,EqAt.str_none _ _⟩
 ·exact⟨RcAt.str_bool _ _ _,RcNeAt.str_bool _ _ _,EqAt.str_bool _ _ _⟩
 ·exact⟨RcAt.str_int _ _ _ _,RcNeAt.str_int _ _ _ _,EqAt.str_int _ _ _ _⟩
 ·exact⟨RcAt.str_str _ _ _ _,RcNeAt.str_str _ _ _ _,EqAt.str_str _ _ _ _⟩
 ·exact⟨RcAt.str_tuple _ _ p2 hu,RcNeAt.str_tuple _ _ p2 hu,EqAt.str_tuple _ _ p2 hu⟩
 ·exact⟨RcAt.str_list _ _ p2 hu,RcNeAt.str_list _ _ p2 hu,EqAt.str_list _ _ p2 hu⟩
 ·exact⟨RcAt.tuple_none p1 hu,RcNeAt.tuple_none p1 hu,EqAt.tuple_none p1 hu⟩
 ·exact⟨RcAt.tuple_bool _ p1 hu,RcNeAt.tuple_bool _ p1 hu,EqAt.tuple_bool _ p1 hu⟩
 ·exact⟨RcAt.tuple_int _ _ p1 hu,RcNeAt.tuple_int _ _ p1 hu,EqAt.tuple_int _ _ p1 hu⟩
 ·exact⟨RcAt.tuple_str _ _ p1 hu,RcNeAt.tuple_str _ _ p1 hu,EqAt.tuple_str _ _ p1 hu⟩
 ·exact⟨RcAt.tuple_list p1 p2 hu,RcNeAt.tuple_list p1 p2 hu,EqAt.tuple_list p1 p2 hu⟩
 ·exact⟨RcAt.list_none p1 hu,RcNeAt.list_none p1 hu,EqAt.list_none p1 hu⟩
 ·exact⟨RcAt.list_bool _ p1 hu,RcNeAt.list_bool _ p1 hu,EqAt.list_bool _ p1 hu⟩
 ·exact⟨RcAt.list_int _ _ p1 hu,RcNeAt.list_int _ _ p1 hu,EqAt.list_int _ _ p1 hu⟩
 ·exact⟨RcAt.list_str _ _ p1 hu,RcNeAt.list_str _ _ p1 hu,EqAt.list_str _ _ p1 hu⟩
 ·exact⟨RcAt.list_tuple p1 p2 hu,RcNeAt.list_tuple p1 p2 hu,EqAt.list_tuple p1 p2 hu⟩
end
def ev(f:D->D->Option Bool)(xs ys:List D)(j:Nat):Bool:=match xs[j]?,ys[j]? with
 |some x,θ y=>(f x y).getD μ
 |_,_=>μ
theorem zl:∀{xs ys:List D}{b:Bool},rO f xs ys=θ b->∀(j:Nat) (x y:D),xs[j]? =θ x->ys[j]? =θ y->∃c,f x y=θ c
 |[],_,_,_,_,_,_,h,_=>by simp at h
 |_::_,[],_,_,_,_,_,_,h=>by simp at h
 |x::xs,y::ys,b,e,j,x',y',hx,hy=>by
  unfold rO at e;split at e
  ·rename_i b1 r1 e1 e2;cases j with
   |zero=>simp at hx hy;subst hx hy;exact⟨_,e1⟩
   |succ j=>exact zl e2 j x' y' (by simpa using hx) (by simpa using hy)
  ·cases e
theorem wY:∀{xs ys:List D}{b:Bool},rO f xs ys=θ b->b=((Yr (min xs.length ys.length)).all (ev f xs ys)&&xs.length==ys.length)
 |[],[],_,e=>by cases e;rfl
 |[],_::_,_,e=>by cases e;simp
 |_::_,[],_,e=>by cases e;simp
 |x::xs,y::ys,b,e=>by
  unfold rO at e;split at e
  ·rename_i b1 r1 e1 e2;cases e;have h:=wY e2;rw[Yh,Yh,Nat.succ_min_succ,Z5,aas,aak];have e0:ev f (x::xs) (y::ys) 0=b1:=by unfold ev;simp[e1]
   have e3:(ev f (x::xs) (y::ys)∘Nat.succ)=ev f xs ys:=by funext j;simp[ev,acL]
   have e4:(xs.length+1==ys.length+1)=(xs.length==ys.length):=by simp
   rw[e0,e3,e4,h,Bool.and_assoc]
  ·cases e
section
variable{X:Cx}{f8:List (Addr×Obj)}{σ:St}{F H:Hp}{s:Yc}
theorem mN(h:∀x y v b,Den X.K F x v->Den X.K F y v->f x y=θ b->b=ψ):∀{xs ys:List D}{vs:List V}{b:Bool},DenL X.K F xs vs->DenL X.K F ys vs->rO f xs ys=θ b->b=ψ
 |[],[],_,_,_,_,e=>by cases e;rfl
 |[],_::_,_,_,h1,h2,_=>by
  cases (show _=_ from h1);obtain⟨v,r,z,_⟩:=h2;cases z
 |_::_,[],_,_,h1,h2,_=>by
  cases (show _=_ from h2);obtain⟨v,r,z,_⟩:=h1;cases z
 |x::xs,y::ys,_,b,⟨v,r,e1,q1,q2⟩,⟨v',r',e2,q3,q4⟩,e=>by
  subst e1;cases e2;unfold rO at e;split at e
  ·rename_i b1 r1 f1 f2;cases e;rw[h x y v b1 q1 q3 f1,mN h q2 q4 f2];rfl
  ·cases e
def vp(hx:Den X.K F x v)(hy:Den X.K F y v)(e:Bv x y=θ b):b=ψ:=by
 cases x<;>cases y<;>first
  |(cases e;done)
  |(cases e;cases (show _=_ from hx);cases (show _=_ from hy);first | rfl | simp)
  |(cases e;cases (show _=_ from hx.1);cases (show _=_ from hy.1);simp)
  |(cases e;cases (show _=_ from hx);cases (show _=_ from hy.1))
  |(cases e;cases (show _=_ from hx.1);cases (show _=_ from hy))
  |(cases e;obtain⟨_,_,z,_⟩:=hx;subst z;cases (show _=_ from hy);done)
  |(cases e;obtain⟨_,_,z,_⟩:=hx;subst z;cases (show _=_ from hy.1);done)
  |(cases e;obtain⟨_,z,_⟩:=hx;subst z;cases (show _=_ from hy);done)
  |(cases e;obtain⟨_,z,_⟩:=hx;subst z;cases (show _=_ from hy.1);done)
  |(cases e;obtain⟨_,_,z,_⟩:=hy;subst z;cases (show _=_ from hx);done)
  |(cases e;obtain⟨_,_,z,_⟩:=hy;subst z;cases (show _=_ from hx.1);done)
  |(cases e;obtain⟨_,z,_⟩:=hy;subst z;cases (show _=_ from hx);done)
  |(cases e;obtain⟨_,z,_⟩:=hy;subst z;cases (show _=_ from hx.1);done)
  |(cases e;obtain⟨_,_,z,h2,_⟩:=hx;obtain⟨_,_,z',UC,_⟩:=hy;subst z;cases z';rw[h2] at UC;cases UC;done)
  |(cases e;cases (show _=_ from hx);cases (show _=_ from hy);done)
  |(cases e;cases (show _=_ from hx.1);cases (show _=_ from hy.1);done)
theorem mM(I:Inv X f8 σ H s)(hs:Same F H):∀(n:Nat) (x y:D) (v:V) (b:Bool),Den X.K F x v->Den X.K F y v->ma n x y=θ b->b=ψ
 |0,x,y,v,b,hx,hy,e=>vp hx hy (by unfold ma at e;exact e)
 |n+1,x,y,v,b,hx,hy,e=>by
  unfold ma at e;split at e
  ·rename_i xs ys _;obtain⟨a,vs,rfl,h2,h3,_⟩:=hx;obtain⟨a',ei,z,k2,k3,_⟩:=hy;cases z;rw[h2] at k2;cases k2;exact mN (mM I hs _) h3 k3 (by simpa using e)
  ·rename_i xs ys _;obtain⟨a,vs,rfl,h2,h3,_⟩:=hx;obtain⟨a',ei,z,k2,k3,_⟩:=hy;cases z;rw[h2] at k2;cases k2;exact mN (mM I hs _) h3 k3 (by simpa using e)
  ·rename_i xs ys _;obtain⟨a,rfl,h2,_⟩:=hx;obtain⟨a',ei,z,k2,k3,_⟩:=hy;cases z;have hv:=I.list_inj (Same.seq hs h2) (SqL.of (hs _ _ k2));rw[<-hv] at k3;exact mN (mM I hs _) (DenL.ints xs) k3 (by simpa using e)
  ·exact vp hx hy e
theorem Vals.at(r:Vals vs aS)(h:j<aS.toArray.size):∃v,vs[j]? =θ v/\RelV v aS.toArray[j]:=by
 have hl:=r.length;have hj:j<vs.length:=by rw[Yj] at h;omega
 obtain⟨u,e1,e2⟩:=r.get (X7 hj);refine⟨vs[j],X7 hj,?_⟩;have:aS.toArray[j]=u:=by
  have:=(Yk.mp e1).2;simpa using this
 rw[this];exact e2
def qT(h1:DenL X.K F xs vs)(h2:DenL X.K F ys ws)(r1:Vals vs aS)(r2:Vals ws i1)(e:rO f xs ys=θ b)
 (ih:∀x y v w u t c,Den X.K F x v->Den X.K F y w->RelV v u->RelV w t->f x y=θ c->EqAt A s u t c):
 ∀j (k1:j<aS.toArray.size) (k2:j<i1.toArray.size),EqAt A s aS.toArray[j] i1.toArray[j] (ev f xs ys j):=λj k1 k2=>by
 obtain⟨v,e1,q1⟩:=Vals.at r1 k1;obtain⟨w,e2,q2⟩:=Vals.at r2 k2;obtain⟨x,e3,q3⟩:=h1.at e1;obtain⟨y,e4,q4⟩:=h2.at e2;obtain⟨c,hc⟩:=zl e j x y e3 e4;have:ev f xs ys j=c:=by unfold ev;rw[e3,e4];simp[hc]
 rw[this];exact ih x y v w _ _ c q3 q4 q1 q2 hc
def vJ(hu:A.units<cLine)(h1:DenL X.K F xs vs)(h2:DenL X.K F ys ws)(r1:Vals vs aS)(r2:Vals ws i1)
 (p1:s.heap.IsList a aS.toArray)(p2:s.heap.IsList a' i1.toArray)(e:rO f xs ys=θ b)(hr:a=a'->b=ψ)
 (ih:∀x y v w u t c,Den X.K F x v->Den X.K F y w->RelV v u->RelV w t->f x y=θ c->EqAt A.in1 s u t c):EqAll A s (.ref a) (.ref a') b:=by
 have l1:=h1.len;have l2:=h2.len;have l3:=r1.length;have l4:=r2.length;have hv:=wY e;have core:RcAt A s (.ref a) (.ref a') b/\RcNeAt A s (.ref a) (.ref a') (!b):=by
  by_cases hl:xs.length=ys.length
  ·have hsz:aS.toArray.size=i1.toArray.size:=by rw[Yj,Yj];omega
   have hb:b=(Yr aS.toArray.size).all (ev f xs ys):=by
    rw[hv,hl,adH,beq_self_eq_true,adh];congr 2;rw[Yj];omega
   rw[hb];exact⟨RcAt.lists p1 p2 hsz hu (qT h1 h2 r1 r2 e ih),RcNeAt.lists p1 p2 hsz hu (qT h1 h2 r1 r2 e ih)⟩
  ·have hb:b=μ:=by rw[hv,show (xs.length==ys.length)=μ from by simpa using hl,abT]
   have hsz:(aS.toArray.size !=i1.toArray.size)=ψ:=by
    rw[Yj,Yj];simp;omega
   rw[hb];exact⟨RcAt.lists_lengths p1 p2 hsz hu,RcNeAt.lists_lengths p1 p2 hsz hu⟩
 refine⟨core.1,core.2,?_⟩;by_cases hq:a=a'
 ·rw[hr hq];subst hq;exact EqAt.same _
 ·exact EqAt.of_refs hq core.1
def Cu(hu:A.units<cLine)(h1:DenL X.K F xs vs)(h2:DenL X.K F ys ws)(r1:Vals vs aS)(r2:Vals ws i1)
 (p1:s.heap.IsTuple a aS.toArray)(p2:s.heap.IsTuple a' i1.toArray)(e:rO f xs ys=θ b)(hr:a=a'->b=ψ)
 (ih:∀x y v w u t c,Den X.K F x v->Den X.K F y w->RelV v u->RelV w t->f x y=θ c->EqAt A.in1 s u t c):EqAll A s (.ref a) (.ref a') b:=by
 have l1:=h1.len;have l2:=h2.len;have l3:=r1.length;have l4:=r2.length;have hb:b=((Yr (min aS.toArray.size i1.toArray.size)).all (ev f xs ys)&&aS.toArray.size==i1.toArray.size):=by
  rw[wY e,Yj,Yj,<-l3,<-l4,<-l1,<-l2]
 have core:RcAt A s (.ref a) (.ref a') b/\RcNeAt A s (.ref a) (.ref a') (!b):=by
  rw[hb];exact⟨RcAt.tuples p1 p2 hu (qT h1 h2 r1 r2 e ih),RcNeAt.tuples p1 p2 hu (qT h1 h2 r1 r2 e ih)⟩
 refine⟨core.1,core.2,?_⟩;by_cases hq:a=a'
 ·rw[hr hq];subst hq;exact EqAt.same _
 ·exact EqAt.of_refs hq core.1
theorem wZ(I:Inv X f8 σ H s)(hs:Same F H):∀(n:Nat) (A:Y7) (x y:D) (v w:V) (u t:Value) (b:Bool),A.units+n<cLine->Den X.K F x v->Den X.K F y w->RelV v u->RelV w t->ma n x y=θ b->EqAll A s u t b
 |0,A,x,y,v,w,u,t,b,hu,hx,hy,rx,ry,e=>zm I hs (by omega) hx hy rx ry (by unfold ma at e;exact e)
 |n+1,A,x,y,v,w,u,t,b,hu,hx,hy,rx,ry,e=>by
  have RJ:A.units<cLine:=by omega
  have WY:A.in1.units+n<cLine:=by show A.units+1+n<cLine;omega
  have hrefl:=mM I hs (n+1) x y;have ih:∀x y v w u t c,Den X.K F x v->Den X.K F y w->RelV v u->RelV w t->ma n x y=θ c->EqAt A.in1 s u t c:=λx y v w u t c q1 q2 q3 q4 q5=>(wZ I hs n A.in1 x y v w u t c WY q1 q2 q3 q4 q5).eq;have e0:=e;unfold ma at e;split at e
  ·rename_i xs ys heq;cases heq;obtain⟨a,vs,aS,rfl,Pl,h2,h3,r1,p1⟩:=yE I hs hx rx;obtain⟨a',ei,its',rfl,Pm,k2,k3,Og,QI⟩:=yE I hs hy ry;exact Cu RJ h3 k3 r1 Og p1 QI e (λz=>by subst z;exact hrefl v b hx (by rw[Pl,<-Pm];exact hy) e0) ih
  ·rename_i xs ys heq;cases heq;obtain⟨a,vs,aS,rfl,Pl,h2,h3,r1,p1⟩:=sy I hs hx rx;obtain⟨a',ei,its',rfl,Pm,k2,k3,Og,QI⟩:=sy I hs hy ry;exact vJ RJ h3 k3 r1 Og p1 QI e (λz=>by subst z;exact hrefl v b hx (by rw[Pl,<-Pm];exact hy) e0) ih
  ·rename_i xs ys heq;cases heq;obtain⟨a,aS,rfl,Pl,h2,r1,p1⟩:=Oq I hs hx rx;obtain⟨a',ei,its',rfl,Pm,k2,k3,Og,QI⟩:=sy I hs hy ry;exact vJ RJ (DenL.ints _) k3 r1 Og p1 QI e (λz=>by subst z;exact hrefl v b hx (by rw[Pl,<-Pm];exact hy) e0) ih
  ·exact zm I hs RJ hx hy rx ry e
end
def mS(x y:D):M D:=match ma 6 x y with | some b=>aa (.bl b) | none=>af
def qF(x y:D):M D:=match ma 6 x y with | some b=>aa (.bl (!b)) | none=>af
def QU(K:Ym):R2:=λx y H Q=>∃F dx dy b,Same F H/\Den K F dx x/\Den K F dy y/\ma 6 dx dy=θ b/\Q (.bl b) H
def QZ(K:Ym):R2:=λx y H Q=>∃F dx dy b,Same F H/\Den K F dx x/\Den K F dy y/\ma 6 dx dy=θ b/\Q (.bl (!b)) H
section
variable{X:Cx}{Xw:Nat->Hp->Prop}{a b:Expr}{δa δb:DE}{pos:Pos}
def HV(hu:X.A.units+64<cLine):OpR X (Zf .Eq) (QU X.K):=by
 intro f8 s σ H x y v u Q I rx ry h;obtain⟨F,dx,dy,b,hs,hx,hy,e,q⟩:=h;exact(wZ I hs 6 X.A dx dy x y v u b (by omega) hx hy rx ry e).rc _ _ _ _ ⟨.bl b,H,I,rfl,q⟩
def NL(hu:X.A.units+64<cLine):OpR X (Zf .NotEq) (QZ X.K):=by
 intro f8 s σ H x y v u Q I rx ry h;obtain⟨F,dx,dy,b,hs,hx,hy,e,q⟩:=h;exact(wZ I hs 6 X.A dx dy x y v u b (by omega) hx hy rx ry e).ne _ _ _ _ ⟨.bl (!b),H,I,rfl,q⟩
def HY{K:Ym}:A_ K (QU K) mS:=λXw F H x y dx dy Q s hx hy w=>by
 unfold mS at w;split at w
 ·rename_i b e;exact⟨F,dx,dy,b,s,hx,hy,e,WP.now w s rfl⟩
 ·exact w.elim
def NN{K:Ym}:A_ K (QZ K) qF:=λXw F H x y dx dy Q s hx hy w=>by
 unfold qF at w;split at w
 ·rename_i b e;exact⟨F,dx,dy,b,s,hx,hy,e,WP.now w s rfl⟩
 ·exact w.elim
def Ap(hu:X.A.units+64<cLine)(ha:PD X Xw a δa)(hb:PD X Xw b δb):n0 X Xw (.Compare a [.Eq] [b] pos) (cT (d2 mS δa δb)):=f9 (HV hu) HY ha hb
def lV(hu:X.A.units+64<cLine)(ha:PD X Xw a δa)(hb:PD X Xw b δb):n0 X Xw (.Compare a [.NotEq] [b] pos) (cT (d2 qF δa δb)):=f9 (NL hu) NN ha hb
def Ah(hu:X.A.units+64<cLine)(ha:PD X Xw a δa)(hb:PD X Xw b δb):PD X Xw (.Compare a [.Eq] [b] pos) (d2 mS δa δb):=xQ (HV hu) HY ha hb
end
def PDW(X:Cx)(Xw:Nat->Hp->Prop)(e:Expr)(δ:DT):Prop:=PW X e (RU X.K Xw δ)
def PW.weak(h:PW X e t)(k:∀σ H Q,t' σ H Q->t σ H Q):PW X e t':=λwh f8 s σ H Q I w=>h wh f8 s σ H Q I (k σ H Q w)
section
variable{X:Cx}{Xw:Nat->Hp->Prop}{a b c:Expr}{W1:List Expr}{δa δb δc:DE}{τa τb:DT}{pos:Pos}
def Ak(ha:n0 X Xw a τa):PDW X Xw (.BoolOp .And [a] pos) τa:=Ld ha
def iC(ha:n0 X Xw a τa):PDW X Xw (.BoolOp .Or [a] pos) τa:=Of ha
def DW(ha:n0 X Xw a τa)(hb:PDW X Xw (.BoolOp .And (b::W1) pos) τb):PDW X Xw (.BoolOp .And (a::b::W1) pos) (Gs τa τb):=PW.weak (Oe ha hb) λσ H Q ⟨F,ρ,s,w⟩=>by
 refine⟨F,ρ,s,WPB.mono (WPB.bindB w) λv H1 ⟨F1,e1,w1⟩=>?_⟩;cases v with
 |true=>exact⟨F1,ρ,s.ext e1,w1⟩
 |false=>exact w1 _ _ (Ext.refl e1.fh)
def kB(ha:n0 X Xw a τa)(hb:PDW X Xw (.BoolOp .Or (b::W1) pos) τb):PDW X Xw (.BoolOp .Or (a::b::W1) pos) (qS τa τb):=PW.weak (QS ha hb) λσ H Q ⟨F,ρ,s,w⟩=>by
 refine⟨F,ρ,s,WPB.mono (WPB.bindB w) λv H1 ⟨F1,e1,w1⟩=>?_⟩;cases v with
 |false=>exact⟨F1,ρ,s.ext e1,w1⟩
 |true=>exact w1 _ _ (Ext.refl e1.fh)
def PDW.t(h:PDW X Xw a τa):n0 X Xw a τa:=PW.pt h
def df(ha:n0 X Xw a τa):n0 X Xw (.UnaryOp .Not a pos) (cZ τa):=PT.weak (Ob ha) λσ H Q ⟨F,ρ,s,w⟩=>
 ⟨F,ρ,s,WPB.mono (WPB.bindB w) λv H1 ⟨F1,e1,w1⟩=>w1 _ _ (Ext.refl e1.fh)⟩
def AV:D->M Bool
 | .non=>aa μ
 | .bl b=>aa b
 | .lst ds=>aa (!ds.isEmpty)
 | .tup ds=>aa (!ds.isEmpty)
 |_=>af
def cq(δ:DE):DT:=λρ=>δ ρ>>=AV
theorem DenL.isEmpty{K:Ym}(h:DenL K F ds vs):ds.isEmpty=vs.isEmpty:=by
 have:=h.len;cases ds<;>cases vs<;>simp_all
def cO(ha:PD X Xw a δa)(he:∀whole,isTrue a X.env whole=(do let v<-whole;standAt a.pos;holding [v] (truthy v)):=by intro _;rfl):n0 X Xw a (cq δa):=PT.weak (ID ha he) λσ H Q ⟨F,ρ,s,w⟩=>by
 refine⟨F,ρ,s,WP.mono (WPB.bind (K:=X.K) w) λv H1 ⟨F1,d,e1,q1,w1⟩=>?_⟩;cases d with
 |non=>cases (show _=_ from q1);exact⟨μ,rfl,w1 _ _ (Ext.refl e1.fh)⟩
 |bl b=>cases (show _=_ from q1);exact⟨b,rfl,w1 _ _ (Ext.refl e1.fh)⟩
 |lst ds=>
  obtain⟨a,vs,rfl,h2,h3,_⟩:=q1;exact⟨!ds.isEmpty, .inl ⟨vs,SqL.of (e1.fh _ _ h2),by rw[h3.isEmpty]⟩,w1 _ _ (Ext.refl e1.fh)⟩
 |tup ds=>
  obtain⟨a,vs,rfl,h2,h3,_⟩:=q1;exact⟨!ds.isEmpty, .inr (.inl ⟨vs,SqT.of (e1.fh _ _ h2),by rw[h3.isEmpty]⟩),w1 _ _ (Ext.refl e1.fh)⟩
 |_=>exact w1.elim
def xT(h:PD X Xw a δa):PD X Xw (.BoolOp op [a] pos) δa:=N0 h
def xP(ha:PD X Xw a δa)(hb:PD X Xw (.BoolOp .And (b::W1) pos) δb):PD X Xw (.BoolOp .And (a::b::W1) pos) (gT δa δb):=PE.weak (NV ha hb) λσ H Q ⟨F,ρ,s,w⟩=>by
 refine⟨F,ρ,s,WP.mono (WP.bind w) λv H1 ⟨F1,d,e1,q1,w1⟩=>?_⟩;cases d with
 |bl k=>
  refine⟨k,q1,?_⟩;cases k with
  |true=>exact⟨F1,ρ,s.ext e1,w1⟩
  |false=>exact WP.now w1 e1.fh rfl
 |_=>exact w1.elim
def QL(ha:PD X Xw a δa)(hb:PD X Xw (.BoolOp .Or (b::W1) pos) δb):PD X Xw (.BoolOp .Or (a::b::W1) pos) (EF δa δb):=PE.weak (QQ ha hb) λσ H Q ⟨F,ρ,s,w⟩=>by
 refine⟨F,ρ,s,WP.mono (WP.bind w) λv H1 ⟨F1,d,e1,q1,w1⟩=>?_⟩;cases d with
 |bl k=>
  refine⟨k,q1,?_⟩;cases k with
  |false=>exact⟨F1,ρ,s.ext e1,w1⟩
  |true=>exact WP.now w1 e1.fh rfl
 |_=>exact w1.elim
def Ig(ha:PD X Xw a δa):PD X Xw (.UnaryOp .Not a pos) (CT δa):=PE.weak (NZ ha) λσ H Q ⟨F,ρ,s,w⟩=>by
 refine⟨F,ρ,s,WP.mono (WP.bind w) λv H1 ⟨F1,d,e1,q1,w1⟩=>?_⟩;cases d with
 |bl k=>exact⟨k,q1,WP.now w1 e1.fh rfl⟩
 |_=>exact w1.elim
def Me(hc:n0 X Xw c τa)(ha:PD X Xw a δa)(hb:PD X Xw b δb):PD X Xw (.IfExp c a b pos) (Gv τa δa δb):=PE.weak (Io hc ha hb) λσ H Q ⟨F,ρ,s,w⟩=>by
 refine⟨F,ρ,s,WPB.mono (WP.bindB w) λv H1 ⟨F1,e1,w1⟩=>?_⟩;cases v with
 |true=>exact⟨F1,ρ,s.ext e1,w1⟩
 |false=>exact⟨F1,ρ,s.ext e1,w1⟩
def Bq(p q:Int->Int->Bool)(a b c:DE):DE:=λρ=>a ρ>>=λx=>b ρ>>=λy=>match x,y with
 | .int i, .int j=>if p i j then c ρ>>=λz=>gI (λi j=> .bl (q i j)) y z else aa (.bl μ)
 |_,_=>af
def wy{p q:Int->Int->Bool}:∀σ H Q,tD X.K Xw (Bq p q δa δb δc) σ H Q->Cs (Ea λi j=> .bl (p i j)) (Ea λi j=> .bl (q i j)) (tD X.K Xw δa) (tD X.K Xw δb) (tD X.K Xw δc) σ H Q:=λσ H Q ⟨F,ρ,s,w⟩=>by
 refine⟨F,ρ,s,WP.mono (WP.bind w) λv H1 ⟨F1,d,e1,q1,w1⟩=>?_⟩;refine⟨F1,ρ,s.ext e1,WP.mono (WP.bind w1) λu H2 ⟨F2,d',e2,q2,w2⟩=>?_⟩;cases d with
 |int i=>
  cases d' with
  |int j=>
   refine⟨i,j,q1,q2,p i j,rfl,?_⟩;have w2:WP X.K Xw F2 H2 (if p i j then δc ρ>>=λz=>gI (λi j=> .bl (q i j)) (.int j) z else aa (.bl μ)) Q:=w2;cases hp:p i j with
   |false=>
    rw[hp] at w2;exact WP.now w2 e2.fh rfl
   |true=>
    rw[hp] at w2;refine⟨F2,ρ,(s.ext e1).ext e2,WP.mono (WP.bind w2) λu' H3 ⟨F3,VE,e3,q3,w3⟩=>?_⟩;exact vS (gd:=λi j=> .bl (q i j)) (λ_ _ _=>rfl) Xw F3 H3 u u' (.int j) VE Q e3.fh q2 q3 w3
  |_=>exact w2.elim
 |_=>exact w2.elim
def Ib(ho:OpR X (Zf op) (Ea λi j=> .bl (p i j)))(vz:OpR X (Zf Fg) (Ea λi j=> .bl (q i j)))(ha:PD X Xw a δa)(hb:PD X Xw b δb)(hc:PD X Xw c δc)
 (hm:lastMarks [op,Fg] [b,c]=μ:=by with_unfolding_all rfl):PD X Xw (.Compare a [op,Fg] [b,c] pos) (Bq p q δa δb δc):=PE.weak (Il ho vz ha hb hc hm) wy
def Iz(ho:OpR X (Zf op) (Ea λi j=> .bl (p i j)))(vz:OpR X (Zf Fg) (Ea λi j=> .bl (q i j)))(ha:PD X Xw a δa)(hb:PD X Xw b δb)(hc:PD X Xw c δc)
 (hm:lastMarks [op,Fg] [b,c]=μ:=by with_unfolding_all rfl):n0 X Xw (.Compare a [op,Fg] [b,c] pos) (cT (Bq p q δa δb δc)):=PT.weak (IA ho vz ha hb hc hm) λσ H Q ⟨F,ρ,s,w⟩=>by
 refine wy σ H _ ⟨F,ρ,s,WP.mono (WPB.bind w) λv H1 ⟨F1,d,e1,q1,w1⟩=>?_⟩;cases d with
 |bl k=>exact⟨k,q1,w1 _ _ (Ext.refl e1.fh)⟩
 |_=>exact w1.elim
def yR(K:Ym)(r:List V->Hp->VK->Prop)(g:List D->M D):Prop:=∀(Xw:Nat->Hp->Prop) (F H:Hp) (vs:List V) (ds:List D) (Q:VK),Same F H->DenL K F ds vs->WP K Xw F H (g ds) Q->r vs H Q
variable{x:Str}{p:Pos}{e:Expr}{es:List Expr}{δs:DA}{id T:String}{r:List V->Hp->VK->Prop}{g:List D->M D}
def Jf(h:yR X.K r g):∀σ H Q,tD X.K Xw (dA g δs) σ H Q->TZ r (Vx X.K Xw δs) σ H Q:=λσ H Q ⟨F,ρ,s,w⟩=>
 ⟨F,ρ,s,WPL.mono (WP.bindL w) λvs H1 ⟨F1,ds,e1,q1,w1⟩=>h Xw F1 H1 vs ds Q e1.fh q1 w1⟩
def ez(hc:CallR X (.builtin id) r)(hd:yR X.K r g)(hg:Gl X x)(hm:X.mg x=ω)(hv:YW x=θ (.builtin id))(ha:nZ X Xw (e::es) δs)(hn:x≠"__name__":=by decide)(xa:(x==("__debug__":Str))=μ:=by decide)
 (he:Yw (e::es) X.env=(μ,eval e X.env)::Yw es X.env:=by rfl)(uI:(aae pos (Yw es X.env)).any (·.1)=μ:=by rfl):PD X Xw (.Call (.Name x p) (e::es) [] pos) (dA g δs):=
 PE.weak (Ik hc hg hm hv ha hn xa he uI) (Jf hd)
def vY(hc:CallR X (.type T) r)(hd:yR X.K r g)(hg:Gl X x)(hm:X.mg x=ω)(hv:YW x=θ (.type T))(ha:nZ X Xw (e::es) δs)(hn:x≠"__name__":=by decide)(xa:(x==("__debug__":Str))=μ:=by decide)
 (he:Yw (e::es) X.env=(μ,eval e X.env)::Yw es X.env:=by rfl)(uI:(aae pos (Yw es X.env)).any (·.1)=μ:=by rfl):PD X Xw (.Call (.Name x p) (e::es) [] pos) (dA g δs):=
 PE.weak (Ft hc hg hm hv ha hn xa he uI) (Jf hd)
def bG:List D->M D
 |[.lst ds]=>aa (.int ds.length)
 |[.tup ds]=>aa (.int ds.length)
 |[.str x]=>aa (.int x.length)
 |[.scr ns]=>aa (.int ns.length)
 |_=>af
def E2:yR X.K (λxs H Q=>(∃p ys,xs=[.ref p]/\(SqL X.K H p ys\/SqT X.K H p ys)/\Q (.int ys.length) H)\/∃z,xs=[.str z]/\z.length<=Yv/\Q (.int z.length) H) bG:=λXw F H vs ds Q s h w=>by
 unfold bG at w;split at w
 ·obtain⟨v,rfl,h1⟩:=h.one;obtain⟨a,vs,rfl,h2,h3,_⟩:=h1;exact .inl ⟨a,vs,rfl, .inl (SqL.of (s _ _ h2)),by rw[<-h3.len];exact WP.now w s rfl⟩
 ·obtain⟨v,rfl,h1⟩:=h.one;obtain⟨a,vs,rfl,h2,h3,_⟩:=h1;exact .inl ⟨a,vs,rfl, .inr (SqT.of (s _ _ h2)),by rw[<-h3.len];exact WP.now w s rfl⟩
 ·obtain⟨v,rfl,h1⟩:=h.one;cases (show _=_ from h1.1);exact .inr ⟨_,rfl,by have:=h1.2;have:=dH;omega,WP.now w s rfl⟩
 ·obtain⟨v,rfl,h1⟩:=h.one;obtain⟨a,rfl,h2,_⟩:=h1;exact .inl ⟨a,_,rfl, .inl (Same.seq s h2),by rw[X3];exact WP.now w s rfl⟩
 ·exact w.elim
def cg(hg:Gl X "len")(hm:X.mg "len"=ω)(ha:nZ X Xw [e] δs)(he:Yw [e] X.env=[(μ,eval e X.env)]:=by rfl):PD X Xw (.Call (.Name "len" p) [e] [] pos) (dA bG δs):=
 ez (wQ.or wR) E2 hg hm PySem.boot_len ha (by decide) (by decide) he rfl
def F7:List D->M D
 |[.int i]=>aa (.int (if i<0 then -i else i))
 |_=>af
def BU:List D->M D
 |[.int i, .int j]=>aa (.int (if j>i then j else i))
 |_=>af
def E7:List D->M D
 |[.int i, .int j]=>aa (.int (if j<i then j else i))
 |_=>af
def Ia(hg:Gl X "abs")(hm:X.mg "abs"=ω)(ha:nZ X Xw [e] δs)(hb:YW "abs"=θ (.builtin "abs"))(he:Yw [e] X.env=[(μ,eval e X.env)]:=by rfl):PD X Xw (.Call (.Name "abs" p) [e] [] pos) (dA F7 δs):=
 ez Gg (λXw F H vs ds Q s h w=>by
  unfold F7 at w;split at w
  ·obtain⟨v,rfl,h1⟩:=h.one;cases (show _=_ from h1);exact⟨_,rfl,WP.now w s rfl⟩
  ·exact w.elim) hg hm hb ha (by decide) (by decide) he rfl
end
def WP.xw{K:Ym}(h:WP K Xw F H m Q)(k:∀n H,Xw n H->Xw' n H):WP K Xw' F H m Q:=by
 match m,h with
 |none,h=>exact h
 |some (.ok d),h=>exact h
 |some (.ex n),h=>exact λF' H' e=>k n H' (h F' H' e)
def cH{X:Cx}{st:Stmt}(h:iQ X.nox (λ_ _=>False) st τ):iQ X Xw st (λρ=>noex (τ ρ)):=λu8 aep f8 s σ H D I ⟨F,ρ,S,w⟩=>by
 have w:WPS X.K Xw u8 aep (noex (τ ρ)) D:=w;have w':tS X.K (λ_ _=>False) u8 aep τ D σ H:=by
  refine⟨F,ρ,S,?_⟩;rcases(τ ρ).cs with e | ⟨n,e⟩ | ⟨o,e⟩
  ·rw[e] at w;exact w.elim
  ·rw[e] at w;exact w.elim
  ·rw[e] at w⊢;cases o with
   |nx ρ'=>exact w
   |rt d=>exact w
 refine Zj (h u8 aep f8 s σ H D (I.wish _) w') (λf s' q=>SP.unwish q) λ_ _ z=>z.elim
def EX(cv:Nat->Value)(Xw:Nat->Hp->Prop):XK:=λc _ H=>∃n,c=cv n/\Xw n H
def OS(K:Ym)(cv:Nat->Value)(k:Nat)(f:List D->M D):Sp:=λvs H Q E=>∃F ds,Same F H/\DenL K F ds vs/\vs.length=k/\WP K (λn H'=>E (cv n) ω H') F H (f ds) Q
def b_(n:Nat)(τ:DS):List D->M D:=λds=>τ (ds.map (λd=>θ (Sl.fz d))++Y4 (n - ds.length) ω)>>=λo=>match o with
 | .nx _=>aa .non
 | .rt d=>aa d
section
variable{P:YM}{w:World}{K:Ym}{mg:Str->Option Value}{base:Heap}{CX:CG}{cv:Nat->Value}
def Po{x qual:Str}{st:Stmt}(Fn:Fun K x qual st f fd)(S:FnScope N ps (ah st))
 (rX:∀(cR:Value) (A:Y7) (outer:List Env) (s:Yc) (H:Hp) (E:XK),Room k (A.deeper (ZU qual (ah st) s.heap.objs.size f cR))->
  PSDs (d9 CX P w K mg base N qual (ah st) f cR A outer s H E) (λn H'=>E (cv n) ω H') (ba st) τ):FnOk P w K mg base CX (k+1) f fd ps (OS K cv ps.length (b_ N.length τ)):=by
 obtain⟨oc,od,kV,doc,pm,an,cR,ct,KQ,rfl,lk,Bb⟩:=Fn.ex;refine LP lk Bb S (λvs H Q E ⟨_,_,_,_,hl,_⟩=>hl) λA outer s H vs Q E hr Jz=>?_;obtain⟨F,ds,fh,hd,hl,hw⟩:=Jz;refine⟨_,rX cR A outer s H E hr F H,F,ds.map (λd=>θ (Sl.fz d))++Y4 (N.length - ds.length) ω,⟨Ext.refl fh,⟨fh,λi sl e=>?_⟩,?_,λi c a e=>?_,λi j c c' a e=>?_⟩,?_⟩
 ·have v6:=hd.len;by_cases hi:i<ds.length
  ·rw[YV (by simpa using hi),Yl] at e;cases q:ds[i]? with
   |none=>rw[q] at e;cases e
   |some d=>
    rw[q] at e;cases e;obtain⟨v,e1,e2⟩:=hd.get q;refine⟨v,?_,e2⟩;unfold L2.start;rw[YV (by simp;omega),Yl,e1];rfl
  ·rw[Y_ (by simpa using hi),Z0] at e;split at e<;>cases e
 ·have v6:=hd.len;unfold L2.start;simp[v6]
 ·exfalso
  by_cases hi:i<ds.length
  ·rw[YV (by simpa using hi),Yl] at e;cases q:ds[i]? with
   |none=>rw[q] at e;cases e
   |some d=>rw[q] at e;cases e
  ·rw[Y_ (by simpa using hi),Z0] at e;split at e<;>cases e
 ·exfalso
  by_cases hi:i<ds.length
  ·rw[YV (by simpa using hi),Yl] at e;cases q:ds[i]? with
   |none=>rw[q] at e;cases e
   |some d=>rw[q] at e;cases e
  ·rw[Y_ (by simpa using hi),Z0] at e;split at e<;>cases e
 ·have hw:WP K (λn H'=>E (cv n) ω H') F H (τ (ds.map (λd=>θ (Sl.fz d))++Y4 (N.length - ds.length) ω)>>=λo=>match o with | .nx _=>aa .non | .rt d=>aa d) Q:=hw;rcases(τ (ds.map (λd=>θ (Sl.fz d))++Y4 (N.length - ds.length) ω)).cs with e | ⟨n,e⟩ | ⟨o,e⟩
  ·rw[e] at hw;exact hw.elim
  ·rw[e] at hw⊢;exact hw
  ·rw[e] at hw⊢;cases o with
   |nx ρ'=>exact λσ' F' H' s'=>hw .non H' F' s'.ext rfl
   |rt d=>exact λv F' H' e' q=>hw v H' F' e' q
end
section
variable{X:Cx}{Xw:Nat->Hp->Prop}{CX:CG}{cv:Nat->Value}{k m:Nat}{f:Addr}{fd:aat}{ps:List Str}{g:List D->M D}{x:Str}{p pos:Pos}{e:Expr}{es:List Expr}{δs:DA}
def KR(F:FnOk X.prog X.w X.K X.mg X.base CX k f fd ps (OS X.K cv m g))(hr:Room k X.A)(hg:Gl X x)(hm:X.mg x=θ (.ref f))(hk:ZX X.K (.ref f)=ψ)(hb:Binds X.K fd ps [])(hx:Passes CX X (EX cv Xw))
 (ha:nZ X Xw (e::es) δs)(hl:(e::es).length=m)(xa:(x==("__debug__":Str))=μ:=by decide)(he:Yw (e::es) X.env=(μ,eval e X.env)::Yw es X.env:=by rfl)(uI:(aae pos (Yw es X.env)).any (·.1)=μ:=by rfl):
 PD X Xw (.Call (.Name x p) (e::es) [] pos) (λρ=>δs ρ>>=λds=>if ds.length=m then g ds else af):=PE.weak (K2 F hr hg hm hk hb .nil hx ha xa he uI) λσ H Q ⟨F,ρ,s,w⟩=>by
 refine⟨F,ρ,s,WPL.mono (WP.bindL w) λvs H1 ⟨F1,ds,e1,q1,w1⟩=>?_⟩;split at w1
 ·rename_i FX;refine⟨F1,ds,e1.fh,by simpa using q1,by rw[Zk,<-q1.len];exact FX,WP.xw w1 λn H h=>⟨n,rfl,h⟩⟩
 ·exact w1.elim
def DP{x:Str}(hg:Gl X x)(hm:X.mg x=θ u)(r:RelV v u)(hd:∀F,Den X.K F d v)(xa:(x==("__debug__":Str))=μ:=by decide):PD X Xw (.Name x pos) (dC d):=
 jb (K6 hg hm r xa) hd
end
def obj_some(x:ObjOk P w H h a o):∃ob,h.get? a=θ ob:=by
 cases o with
 |lst xs=>obtain⟨_,_,_,_,e⟩:=x;exact⟨_,e⟩
 |tup xs=>obtain⟨_,_,_,ob,e,_⟩:=x;exact⟨_,e⟩
 |dK kvs=>obtain⟨_,_,_,_,o,_,_,e,_⟩:=x;exact⟨_,e⟩
 |dT kvs=>obtain⟨_,_,_,_,o,_,_,e,_⟩:=x;exact⟨_,e⟩
 |set S n=>obtain⟨o,_,_,_,e,_⟩:=x;exact⟨_,e⟩
 |ins C dx fs=>obtain⟨_,_,_,e,_⟩:=x;exact⟨_,e⟩
 |own y=>obtain⟨_,e⟩:=x;exact⟨_,e⟩
 |xd fs=>obtain⟨_,⟨_,_,_,e,_⟩,_⟩:=x;exact⟨_,e⟩
 |rng lo hi=>obtain⟨_,_,_,e⟩:=x;exact⟨_,e⟩
 |frz ob u=>obtain⟨e,_⟩:=x;exact⟨_,e⟩
 |tbl ps=>exact⟨_,(show h.get? a=θ _ from x)⟩
 |met f y=>exact⟨_,(show h.get? a=θ _ from x)⟩
 |ext φ=>obtain⟨_,⟨_,e⟩,_⟩:=x;exact⟨_,e⟩
def lH(P:YM)(w:World)(cv:Nat->Value):CG:=λouter H s E e s'=>∃(ea:Addr) (n:Nat) (a0:Value) (B:Heap) (H':Hp),e= .ref ea/\s'.os=s.os/\ab_ s'.gens/\HOk P w H' s'.heap/\Un (qU outer) [] H H' s.heap s'.heap/\
 Heap.FlyingW B outer ea (cv n) a0 s'.heap/\(∀b o,s'.heap.get? b=θ o->(H' b≠ω\/(s.heap.get? b).isSome=ψ)->b∉qU outer->B.get? b=θ o)/\E (cv n) ω H'
section
variable{P:YM}{w:World}{fs:List Addr}{aep H:Hp}{h₀ h h':Heap}
def LC(u:Un fs [] aep H h₀ h)(ka:∀b o,h.get? b=θ o->b∉fs->(H b≠ω\/(h₀.get? b).isSome=ψ)->h'.get? b=θ o)(kb:∀b o,h.get? b=θ o->b∈fs->∃sl,h'.get? b=θ {o with slots:=sl}):Un fs [] aep H h₀ h' where
 keep:=λb o e n hb hx=>ka b o (u.keep b o e n hb hx) hb (.inr (by rw[e];rfl))
 slot:=λb o e n hb hx=>by
  obtain⟨sl,q⟩:=u.slot b o e n hb hx;obtain⟨Ot,q'⟩:=kb b _ q hb;exact⟨Ot,q'⟩
 free:=u.free
 there:=λb o e hx=>by
  obtain⟨o',q⟩:=u.there b o e hx;by_cases hb:b∈fs
  ·obtain⟨sl,q'⟩:=kb b _ q hb;exact⟨_,q'⟩
  ·exact⟨o',ka b o' q hb (.inr (by rw[e];rfl))⟩
 tups:=u.tups
 frzs:=u.frzs
 tbls:=u.tbls
def G1(x:HOk P w H h)(hf:∀b∈fs,H b=ω)(ka:∀b o,h.get? b=θ o->b∉fs->H b≠ω->h'.get? b=θ o):HOk P w H h':=λa o e=>by
 refine(x a o e).stay (λb u hb q=>ka b u q (λz=>?_) ?_) (λ_ q=>q) λ_ _ q=>q
 ·have hz:=hf b z;rcases hb with rfl | hb
  ·rw[hz] at e;cases e
  ·rw[hz] at hb;cases hb
 ·rcases hb with rfl | hb
  ·rw[e];exact λz=>nomatch z
  ·rw[hb];exact λz=>nomatch z
end
section
variable{P:YM}{w:World}{K:Ym}{mg:Str->Option Value}{base:Heap}{N:List Str}{qual:Str}{scope:Scope}{f:Addr}{cd:Value}{A:Y7}{outer:List Env}{aeq:Yc}{aep:Hp}{E:XK}{cv:Nat->Value}
def aG:Passes (lH P w cv) (d9 (lH P w cv) P w K mg base N qual scope f cd A outer aeq aep E) (EX cv λn H'=>E (cv n) ω H'):=by
 intro f8 σ H s e s' I ⟨ea,n,a0,B,H',he,G2,hg,hok,un,Uw,hB,m,hm,hE⟩;subst he;have MW:((d9 (lH P w cv) P w K mg base N qual scope f cd A outer aeq aep E)).env.locals=aeq.heap.objs.size:=rfl;have Kd:qU ((d9 (lH P w cv) P w K mg base N qual scope f cd A outer aeq aep E)).stack=aeq.heap.objs.size::qU outer:=rfl;show wpAny (model P w) (A.deeper (ZU qual scope aeq.heap.objs.size f cd)) (leaving (ZU qual scope aeq.heap.objs.size f cd) (.ref ea)) _ _ s';refine wpAny_leaves_onW I.ok.frames rfl Uw λh' MM ups=>?_;have LY:∀b∈qU ((d9 (lH P w cv) P w K mg base N qual scope f cd A outer aeq aep E)).stack,H' b=ω:=λb hb=>by
  obtain⟨o,ho⟩:∃o,s.heap.get? b=θ o:=by
   obtain⟨_,o,ho,_⟩:=I.stack.mem hb;exact⟨o,ho⟩
  exact un.free b o ho (I.stkFree b hb) (by simp)
 have L7:∀b o,s'.heap.get? b=θ o->b∉qU ((d9 (lH P w cv) P w K mg base N qual scope f cd A outer aeq aep E)).stack->(H' b≠ω\/(s.heap.get? b).isSome=ψ)->h'.get? b=θ o:=λb o e hb hc=>MM.1 b o (hB b o e hc hb);have unA:Un (qU outer) [] aep H' aeq.heap s'.heap:=by
  have u1:Un (qU outer) [] aep H aeq.heap s.heap:=I.base;refine⟨λb o e nn hb hx=>?_,λb o e nn hb hx=>?_,λb o e nn hx=>?_,λb o e hx=>?_,λb xs q=>un.tups b xs (u1.tups b xs q),λb o u q=>un.frzs b o u (u1.frzs b o u q),λb ps q=>?_⟩
  ·refine un.keep b o (u1.keep b o e nn hb hx) (u1.free b o e nn hx) (λz=>?_) (by simp);rw[Kd] at z;rcases Ye.mp z with z | z
   ·exact ael (Ys e) (by rw[z];exact Zb _)
   ·exact hb z
  ·obtain⟨sl,q⟩:=u1.slot b o e nn hb hx;obtain⟨Ot,q'⟩:=un.slot b _ q (u1.free b o e nn hx) (by rw[Kd];exact X4 _ hb) (by simp);exact⟨Ot,q'⟩
  ·obtain⟨o',q⟩:=u1.there b o e hx;exact un.free b o' q (u1.free b o e nn hx) (by simp)
  ·obtain⟨o',q⟩:=u1.there b o e hx;exact un.there b o' q (by simp)
  ·obtain⟨m1,q1⟩:=u1.tbls b ps q;obtain⟨m2,q2⟩:=un.tbls b _ q1;exact⟨m1++m2,by rw[q2,ab9]⟩
 have Vc:∀b,(aeq.heap.get? b).isSome=ψ->(s.heap.get? b).isSome=ψ:=λb hb=>by
  obtain⟨o,ho⟩:=aai.mp hb;obtain⟨o',q⟩:=(show Un (qU outer) [] aep H aeq.heap s.heap from I.base).there b o ho (by simp);rw[q];rfl
 have TB:∀b,(aeq.heap.get? b).isSome=ψ->b≠aeq.heap.objs.size:=λb hb z=>by
  obtain⟨o,ho⟩:=aai.mp hb;exact ael (Ys ho) (by rw[z];exact Zb _)
 have QE:∀b,b∉qU outer->(H' b≠ω\/(aeq.heap.get? b).isSome=ψ)->b∉qU ((d9 (lH P w cv) P w K mg base N qual scope f cd A outer aeq aep E)).stack:=λb hb hc z=>by
  rcases hc with hc | hc
  ·exact hc (LY b z)
  ·rw[Kd] at z;rcases Ye.mp z with z | z
   ·exact TB b hc z
   ·exact hb z
 refine⟨ea,n,a0,B,H',rfl,G2.trans I.os,hg,G1 hok LY (λb o e hb hc=>L7 b o e hb (.inl hc)),LC unA (λb o e hb hc=>L7 b o e (QE b hb hc) (hc.imp id (Vc b))) (λb o e hb=>?_),MM,λb o e hc hb=>?_,?_⟩
 ·obtain⟨_,o',vz,hd⟩:=Uw.2.2.1.mem (show b∈qU ((d9 (lH P w cv) P w K mg base N qual scope f cd A outer aeq aep E)).stack by rw[Kd];exact X4 _ hb);rw[e] at vz;cases vz;exact ups b o e hd
 ·have OM:=QE b hb hc;obtain⟨o',vz⟩:∃o',s'.heap.get? b=θ o':=by
   rcases hc with hc | hc
   ·cases q:H' b with
    |none=>exact ael q hc
    |some u=>
     exact obj_some (hok b u q)
   ·obtain⟨o1,h1⟩:=aai.mp hc;exact unA.there b o1 h1 (by simp)
  have:=hB b o' vz (hc.imp id (Vc b)) OM;rw[MM.1 b o' this] at e;cases e;exact this
 ·rw[hm];exact hE
end
def L8:D->Option String
 | .non=>θ "NoneType"
 | .bl _=>θ "bool"
 | .int _=>θ "int"
 | .str _=>θ "str"
 | .tup _=>θ "tuple"
 | .lst _=>θ "list"
 |_=>ω
def Nc(k T:String):Option Bool:=if T="str"\/T="int"\/T="bool"\/T="tuple"\/T="list" then θ (decide (k=T)||(decide (k="bool")&&decide (T="int"))) else ω
def jw:List D->M D
 |[d, .raw (.ty T)]=>match L8 d with
  |some k=>match Nc k T with
   |some b=>aa (.bl b)
   |none=>af
  |none=>af
 |_=>af
def Np{K:Ym}(hk:k="NoneType"\/k="bool"\/k="int"\/k="str"\/k="tuple"\/k="list")(h:Nc k T=θ b):acE K (.type k) (.type T)=θ b:=by
 unfold Nc at h;split at h
 ·rename_i hT;cases h;rcases hk with rfl | rfl | rfl | rfl | rfl | rfl<;>rcases hT with rfl | rfl | rfl | rfl | rfl<;>with_unfolding_all rfl
 ·cases h
section
variable{X:Cx}{Xw:Nat->Hp->Prop}{a b e e2:Expr}{δs:DA}{pos p:Pos}
def QV(K:Ym):List V->Hp->VK->Prop:=λxs H Q=>∃x T t b,xs=[x, .ty T]/\TyOf K H x t/\acE K t (.type T)=θ b/\Q (.bl b) H
def Gh:CallR X (.builtin "isinstance") (QV X.K):=by
 intro f8 s σ H xs us Q I r h;obtain⟨x,T,t,b,rfl,ty,e,q⟩:=h;obtain⟨u,w',rfl,r1,r2⟩:=vals2 r;cases (show w'=_ from r2);exact EV I r1 ty e λtk=>⟨.bl b,H,I.tok tk,rfl,q⟩
def Jl{K:Ym}(s:Same F H)(h:Den K F d v)(hk:L8 d=θ k):TyOf K H v (.type k)/\(k="NoneType"\/k="bool"\/k="int"\/k="str"\/k="tuple"\/k="list"):=by
 cases d with
 |non=>cases hk;cases (show _=_ from h);exact⟨.non, .inl rfl⟩
 |bl x=>cases hk;cases (show _=_ from h);exact⟨.bl x, .inr (.inl rfl)⟩
 |int x=>cases hk;cases (show _=_ from h);exact⟨.int x, .inr (.inr (.inl rfl))⟩
 |str x=>cases hk;cases (show _=_ from h.1);exact⟨.str x, .inr (.inr (.inr (.inl rfl)))⟩
 |tup x=>cases hk;obtain⟨a,vs,rfl,h2,_⟩:=h;exact⟨.tup (s _ _ h2), .inr (.inr (.inr (.inr (.inl rfl))))⟩
 |lst x=>cases hk;obtain⟨a,vs,rfl,h2,_⟩:=h;exact⟨.lst (s _ _ h2), .inr (.inr (.inr (.inr (.inr rfl))))⟩
 |_=>cases hk
def EU{K:Ym}:yR K (QV K) jw:=λXw F H vs ds Q s h w=>by
 unfold jw at w;split at w
 ·rename_i d T;obtain⟨v,v',rfl,h1,h2⟩:=h.two;cases (show _=_ from h2);split at w
  ·rename_i k hk;split at w
   ·rename_i b hb;obtain⟨ty,GW⟩:=Jl s h1 hk;exact⟨v,T, .type k,b,rfl,ty,Np GW hb,WP.now w s rfl⟩
   ·exact w.elim
  ·exact w.elim
 ·exact w.elim
def mq(hg:Gl X "isinstance")(hm:X.mg "isinstance"=ω)(hb:YW "isinstance"=θ (.builtin "isinstance"))(ha:nZ X Xw [e,e2] δs)(he:Yw [e,e2] X.env=(μ,eval e X.env)::Yw [e2] X.env:=by rfl)
 (uI:(aae pos (Yw [e2] X.env)).any (·.1)=μ:=by rfl):PD X Xw (.Call (.Name "isinstance" p) [e,e2] [] pos) (dA jw δs):=
 ez Gh EU hg hm hb ha (by decide) (by decide) he uI
def tF{x:Str}(hg:Gl X x)(hm:X.mg x=ω)(hv:YW x=θ (.type T))(hn:x≠"__name__":=by decide)(hd:(x==("__debug__":Str))=μ:=by decide):PD X Xw (.Name x pos) (dC (.raw (.ty T))):=
 jb (K0 hg hm hv (show RelV (.ty T) (.type T) from rfl) hn hd) λ_=>rfl
def bools:List D->Option (List Bool)
 |[]=>θ []
 | .bl b::r=>(bools r).map (b:: ·)
 |_=>ω
def allM:List D->M D
 |[.lst ds]=>match bools ds with
  |some bs=>aa (.bl (bs.all id))
  |none=>af
 |_=>af
theorem vi{K:Ym}:∀{ds:List D}{vs:List V}{bs:List Bool},bools ds=θ bs->DenL K F ds vs->vs=bs.map V.bl
 |[],_,_,e,h=>by cases e;exact h
 | .bl b::r,_,_,e,⟨v,r',h1,h2,h3⟩=>by
   unfold bools at e;cases q:bools r with
   |none=>rw[q] at e;cases e
   |some bs=>rw[q] at e;cases e;subst h1;rw[vi q h3,show v= .bl b from h2];rfl
 | .non::_,_,_,e,_=>by cases e
 | .int _::_,_,_,e,_=>by cases e
 | .str _::_,_,_,e,_=>by cases e
 | .raw _::_,_,_,e,_=>by cases e
 | .exc _::_,_,_,e,_=>by cases e
 | .scr _::_,_,_,e,_=>by cases e
 | .tup _::_,_,_,e,_=>by cases e
 | .lst _::_,_,_,e,_=>by cases e
theorem Ei:∀{bs:List Bool}{aS:List Value},Vals (bs.map V.bl) aS->aS=bs.map aa0
 |[],_,r=>by cases r;rfl
 |b::bs,_,r=>by
  cases r with
  |cons r1 r2=>cases (show _=_ from r1);rw[Ei r2];rfl
def TM:List V->Hp->VK->Prop:=λxs H Q=>∃(a:Addr) (bs:List Bool),xs=[.ref a]/\H a=θ (.lst (bs.map V.bl))/\Q (.bl (bs.all id)) H
def all_range{bs:List Bool}:(Yr bs.length).all (λi=>bs.getD i μ)=bs.all id:=by
 induction bs with
 |nil=>rfl
 |cons b bs ih=>
  rw[Yh,Z5,aas,aak,aas];congr 1
def Ew(hc:X.calm=ψ):CallR X (.builtin "all") TM:=by
 intro f8 s σ H xs us Q I r h;obtain⟨a,bs,rfl,hH,q⟩:=h;obtain⟨u,rfl,r1⟩:=vals1 r;cases (show u=_ from r1);obtain⟨aS,r2,pl,hz⟩:=I.list (SqL.of hH);obtain rfl:=Ei r2;have fE:a≠s.heap.objs.size:=YF (I.hok.lt hH);refine call_all_walk (wpAny_pyIter_list pl.isList ?_);refine⟨s.heap.objs.size,_,_,_,_,_,λi=>bs.getD i μ,rfl,Walks.list (show X.A.in1.handled=ω from I.ok.hd hc) s.heap.objs.size a fE (bs.map aa0).toArray,⟨⟨_,Yy _ rfl,rfl,rfl⟩,Heap.IsList.at pl.isList λo e=>X8 _ e⟩,?_,λh' tk k=>?_⟩
 ·intro i v s' Q' E' hv hq;have hv:(bs.map aa0).toArray[i]? =θ v:=hv;rw[List.getElem?_toArray,Yl] at hv;cases q':bs[i]? with
  |none=>rw[q'] at hv;cases hv
  |some b=>
   rw[q'] at hv;cases hv;have:bs.getD i μ=b:=by rw[Yp,q'];rfl
   have hq:Q' (bs.getD i μ) s':=hq;rw[this] at hq;exact Zx hq
 ·have e:(Yr (bs.map aa0).toArray.size).all (λi=>bs.getD i μ)=bs.all id:=by
   rw[Yj,X3];exact all_range
  rw[e];refine⟨.bl (bs.all id),H,I.kept λb o e'=>k b o (λz=>?_) (X8 _ e'),rfl,q⟩;have z:b=s.heap.objs.size:=by simpa using z
  exact ael (Ys e') (by rw[z];exact Zb _)
def xO(hc:X.calm=ψ)(hg:Gl X "all")(hm:X.mg "all"=ω)(hb:YW "all"=θ (.builtin "all"))(ha:nZ X Xw [e] δs)(he:Yw [e] X.env=[(μ,eval e X.env)]:=by rfl):PD X Xw (.Call (.Name "all" p) [e] [] pos) (dA allM δs):=
 ez (Ew hc) (λXw F H vs ds Q s h w=>by
  unfold allM at w;split at w
  ·rename_i ds;obtain⟨v,rfl,h1⟩:=h.one;obtain⟨a,ws,rfl,h2,h3,_⟩:=h1;split at w
   ·rename_i bs hb;exact⟨a,bs,rfl,by rw[<-vi hb h3];exact s _ _ h2,WP.now w s rfl⟩
   ·exact w.elim
  ·exact w.elim) hg hm hb ha (by decide) (by decide) he rfl
end
section
variable{X:Cx}{Xw:Nat->Hp->Prop}{a b e e2:Expr}{es:List Expr}{δ δa δb:DE}{pos p T0 bJ:Pos}
def Ly:∀u8 aep D σ H,tS X.K Xw u8 aep (pj i δ) D σ H->Ji (TY X.K "list" D9 (mG i) (Jg (tD X.K Xw δ) Oz)) D σ H:=λu8 aep D σ H ⟨F,ρ,s,w⟩=>by
 unfold pj at w;cases ho:Fj ρ i with
 |none=>rw[ho] at w;exact w.elim
 |some ds=>
  rw[ho] at w;have hi:=vT ho;obtain⟨v,hv,a,o,rfl,hH,hF,vs,rfl,hd,hl⟩:=s.st.den i _ hi;have w:WPS X.K Xw u8 aep (δ ρ>>=λd=>if ds.length<lim then aa (.nx (ρ.set i (θ (.ow (.lst (ds++[d])))))) else af) D:=w;refine⟨.ref a,hv, .inl ⟨rfl,vs,SqL.of hH⟩,F,ρ,s.st,?_⟩;rcases(δ ρ).cs with q | ⟨n,q⟩ | ⟨d,q⟩
  ·rw[q] at w;exact w.elim
  ·rw[q] at w⊢;exact λF' H' e'=>w F' H' (s.ext.trans e')
  ·rw[q] at w⊢;intro u H1 F1 e1 hq;have w:WPS X.K Xw u8 aep (if ds.length<lim then aa (.nx (ρ.set i (θ (.ow (.lst (ds++[d])))))) else af) D:=w;split at w
   ·rename_i il;have v6:=hd.len;refine⟨a,vs,u,rfl,rfl,e1.hh _ _ hH,by have:=dH;omega,?_⟩;exact w σ F1 _ ((s.ext' e1).chg hi hv ⟨_,rfl,DenL.append (DenL.mono e1.ff hd) (.cons hq .nil),by rw[Yg];exact il⟩)
   ·exact w.elim
def Lz:∀u8 aep D σ H,tS X.K Xw u8 aep (Fz i δ) D σ H->Ji (TY X.K "list" D_ (mG i) (Jg (tD X.K Xw δ) Oz)) D σ H:=λu8 aep D σ H ⟨F,ρ,s,w⟩=>by
 unfold Fz at w;cases ho:Fj ρ i with
 |none=>rw[ho] at w;exact w.elim
 |some ds=>
  rw[ho] at w;have hi:=vT ho;obtain⟨v,hv,a,o,rfl,hH,hF,vs,rfl,hd,hl⟩:=s.st.den i _ hi;have w:WPS X.K Xw u8 aep (δ ρ>>=λd=>lstM d>>=λes=>if ds.length+es.length<=lim then aa (.nx (ρ.set i (θ (.ow (.lst (ds++es)))))) else af) D:=w;refine⟨.ref a,hv, .inl ⟨rfl,vs,SqL.of hH⟩,F,ρ,s.st,?_⟩;rcases(δ ρ).cs with q | ⟨n,q⟩ | ⟨d,q⟩
  ·rw[q] at w;exact w.elim
  ·rw[q] at w⊢;exact λF' H' e'=>w F' H' (s.ext.trans e')
  ·rw[q] at w⊢;intro u H1 F1 e1 hq;cases d with
   |lst es=>
    obtain⟨b,ws,rfl,k2,k3,k4⟩:=hq;have w:WPS X.K Xw u8 aep (if ds.length+es.length<=lim then aa (.nx (ρ.set i (θ (.ow (.lst (ds++es)))))) else af) D:=w;split at w
    ·rename_i il;have v6:=hd.len;have UZ:=k3.len;refine⟨a,b,vs,ws,rfl,rfl,e1.hh _ _ hH,e1.fh _ _ k2,by have:=dH;omega,?_⟩;exact w σ F1 _ ((s.ext' e1).chg hi hv ⟨_,rfl,DenL.append (DenL.mono e1.ff hd) k3,by rw[Yg];exact il⟩)
    ·exact w.elim
   |_=>exact w.elim
def jC(hv:PE X (.Name x p) (mG i))(he:PD X Xw e δ)(hs:aaY (.Call (.Attribute (.Name x p) "append" T0) [e] [] bJ) ω pos.line X.env=pure μ:=by rfl)
 (j4:aah (.Name x p) "append" X.env (eval (.Name x p) X.env)=eval (.Name x p) X.env:=by rfl)
 (r0:((aae bJ (Yw [e] X.env)).all (λx=>!x.1)&&(aca bJ (aaH [] X.env)).all (λx=>x.1.isSome)&&decide ([e].length+([]:List aaC).length+(if ([]:List aaC).isEmpty then 0 else 1)<30))=ψ:=by rfl)
 (j5:(T0.endLine==bJ.line)=ψ:=by rfl)(G4:Yw [e] X.env=[(μ,eval e X.env)]:=by rfl):iQ X Xw (.Expr (.Call (.Attribute (.Name x p) "append" T0) [e] [] bJ) pos) (pj i δ):=λu8 aep=>
 PS.weak (ra (Ij acQ PySem.F.slot_list_append PySem.F.type_list_append vM hv (xK he xM G4) j4 r0 j5 G4 rfl) hs) λD σ H w=>Ly u8 aep D σ H w
def D1(hv:PE X (.Name x p) (mG i))(he:PD X Xw e δ)(hs:aaY (.Call (.Attribute (.Name x p) "extend" T0) [e] [] bJ) ω pos.line X.env=pure μ:=by rfl)
 (j4:aah (.Name x p) "extend" X.env (eval (.Name x p) X.env)=eval (.Name x p) X.env:=by rfl)
 (r0:((aae bJ (Yw [e] X.env)).all (λx=>!x.1)&&(aca bJ (aaH [] X.env)).all (λx=>x.1.isSome)&&decide ([e].length+([]:List aaC).length+(if ([]:List aaC).isEmpty then 0 else 1)<30))=ψ:=by rfl)
 (j5:(T0.endLine==bJ.line)=ψ:=by rfl)(G4:Yw [e] X.env=[(μ,eval e X.env)]:=by rfl):iQ X Xw (.Expr (.Call (.Attribute (.Name x p) "extend" T0) [e] [] bJ) pos) (Fz i δ):=λu8 aep=>
 PS.weak (ra (Ij acQ PySem.F.slot_list_extend PySem.F.type_list_extend E9 hv (xK he xM G4) j4 r0 j5 G4 rfl) hs) λD σ H w=>Lz u8 aep D σ H w
def HU:OpR X (aaQ .Add) (λx y H Q=>∃a b ys,x= .ref a/\y= .ref b/\SqT X.K H a []/\SqT X.K H b ys/\Q (.ref b) H):=by
 intro f8 s σ H x y v u Q I rx ry h;obtain⟨a,b,ys,rfl,rfl,ha,hb,q⟩:=h;cases rx;cases ry;obtain⟨aS,r1,p1,_⟩:=I.tuple ha;obtain⟨i1,r2,p2,_⟩:=I.tuple hb;cases r1;obtain⟨⟨cls,dd,data,sl⟩,ho,hc,n,hd⟩:=id p1;obtain⟨⟨Sb,JP,data2,RT⟩,M3,J8,n2,hd2⟩:=id p2;simp only at hc hd J8 hd2;subst hc hd J8 hd2;exact concat_meets ⟨_,ho,rfl⟩ ⟨_,M3,rfl⟩ ac7 adW aa6 aa2 (aaR _ _)
  (tuple_addW0 a b _ _ n n2 dd JP sl RT (by simp)) ⟨ho,M3,⟨.ref b,H,I,rfl,q⟩⟩
def C8:D->D->M D
 | .tup x, .tup y=>if x.length+y.length<=lim then aa (.tup (x++y)) else af
 |_,_=>af
def KU(ha:PD X Xw a δa)(hb:PD X Xw b δb):PD X Xw (.BinOp a .Add b pos) (d2 C8 δa δb):=tB (HU.or KH) (λXw F H x y dx dy Q s hx hy w=>by
 unfold C8 at w;split at w
 ·rename_i i j;obtain⟨a,vs,h1,h2,h3,h4⟩:=hx;obtain⟨a',ei,k1,k2,k3,k4⟩:=hy;split at w
  ·rename_i hl;have e1:=h3.len;have e2:=k3.len;have:=dH;by_cases hv:vs=[]
   ·subst hv;have:i=[]:=by cases i with | nil=>rfl | cons _ _=>simp at e1
    subst this;exact .inl ⟨a,a',ei,h1,k1,SqT.of (s _ _ h2),SqT.of (s _ _ k2),WP.now w s ⟨a',ei,k1▸rfl,k2,k3,k4⟩⟩
   ·refine .inr ⟨a,a',vs,ei,h1,k1,SqT.of (s _ _ h2),SqT.of (s _ _ k2),hv,by omega,λz=>?_,λz p hp=>?_⟩
    ·subst z;have:j=[]:=by cases j with | nil=>rfl | cons _ _=>simp at e2
     subst this;rw[Zk] at w;exact WP.now w s ⟨a,vs,rfl,h2,h3,h4⟩
    ·exact WP.fin w (Ext.lay s hp) ⟨p,_,rfl,aD,DenL.mono (Ext.lay s hp).ff (h3.append k3),by rw[Yg];exact hl⟩
  ·exact w.elim
 ·exact w.elim) ha hb
end
section
variable{X:Cx}{Xw:Nat->Hp->Prop}{a b e e2 o:Expr}{es:List Expr}{δa δb δo:DE}{δs:DA}{pos p T0 bJ:Pos}
def dM(kd:D->Bool)(g:D->List D->M D)(o:DE)(s:DA):DE:=λρ=>o ρ>>=λd=>if kd d then s ρ>>=λds=>g d ds else af
def Md{id:String}(pa:PlainAttrs T)(slot:Slot T name id)(Ta:typeOf (.builtin id)=pure (.type "method_descriptor"))(hm:Rp X id r)
 (hk:∀(F H:Hp) (x:V) (d:D),kd d=ψ->Same F H->Den X.K F d x->RX X.K T x H)
 (hd:∀(Xw:Nat->Hp->Prop) (F H:Hp) (x:V) (vs:List V) (d:D) (ds:List D) (Q:VK),Same F H->Den X.K F d x->DenL X.K F ds vs->WP X.K Xw F H (g d ds) Q->r x vs H Q)
 (ho:PD X Xw o δo)(ha:nZ X Xw (e::es) δs)
 (j4:aah o name X.env (eval o X.env)=eval o X.env:=by rfl)
 (r0:((aae bJ (Yw (e::es) X.env)).all (λx=>!x.1)&&(aca bJ (aaH [] X.env)).all (λx=>x.1.isSome)
  &&decide ((e::es).length+([]:List aaC).length+(if ([]:List aaC).isEmpty then 0 else 1)<30))=ψ:=by rfl)
 (j5:(T0.endLine==bJ.line)=ψ:=by rfl) (hs:Yw (e::es) X.env=(μ,eval e X.env)::Yw es X.env:=by rfl) (BI:(aae bJ (Yw es X.env)).any (·.1)=μ:=by rfl):
 PD X Xw (.Call (.Attribute o name T0) (e::es) [] bJ) (dM kd g δo δs):=PE.weak (Ij pa slot Ta hm ho ha j4 r0 j5 hs BI) λσ H Q ⟨F,ρ,s,w⟩=>by
 refine⟨F,ρ,s,WP.mono (WP.bind w) λv H1 ⟨F1,d,e1,q1,w1⟩=>?_⟩;split at w1
 ·rename_i Jv;refine⟨hk F1 H1 v d Jv e1.fh q1,F1,ρ,s.ext e1,WPL.mono (WP.bindL w1) λvs H2 ⟨F2,ds,e2,q2,w2⟩=>?_⟩;exact hd Xw F2 H2 v vs d ds Q e2.fh (Den.mono e2.ff q1) q2 w2
 ·exact w1.elim
def yP:D->Bool
 | .str _=>ψ
 |_=>μ
def G_{K:Ym}(F H:Hp)(x:V)(d:D)(h:yP d=ψ)(s:Same F H)(q:Den K F d x):RX K "str" x H:=by
 cases d with
 |str z=>cases (show _=_ from q.1);exact rfl
 |_=>cases h
def mH:List D->Option (List Str)
 |[]=>θ []
 | .str x::r=>(mH r).map (x:: ·)
 |_=>ω
theorem ue{K:Ym}:∀{ds:List D}{vs:List V}{xs:List Str},mH ds=θ xs->DenL K F ds vs->vs=xs.map V.str
 |[],_,_,e,h=>by cases e;exact h
 | .str b::r,_,_,e,⟨v,r',h1,h2,h3⟩=>by
   unfold mH at e;cases q:mH r with
   |none=>rw[q] at e;cases e
   |some bs=>rw[q] at e;cases e;subst h1;rw[ue q h3,show v= .str b from h2.1];rfl
 | .non::_,_,_,e,_=>by cases e
 | .int _::_,_,_,e,_=>by cases e
 | .bl _::_,_,_,e,_=>by cases e
 | .raw _::_,_,_,e,_=>by cases e
 | .exc _::_,_,_,e,_=>by cases e
 | .scr _::_,_,_,e,_=>by cases e
 | .tup _::_,_,_,e,_=>by cases e
 | .lst _::_,_,_,e,_=>by cases e
theorem ug:∀{xs:List Str}{aS:List Value},Vals (xs.map V.str) aS->StrsAre aS xs
 |[],_,r=>by cases r;exact .nil
 |b::bs,_,r=>by
  cases r with
  |cons r1 r2=>obtain⟨t,rfl⟩:=r1;exact .cons b t (ug r2)
def d8:List Str->Str
 |[]=>⟨#[]⟩
 |x::r=>x++d8 r
def joinM:D->List D->M D
 | .str sep,[.lst ds]=>match mH ds with
   |some xs=>if sep.length=0/\(xs.map (·.length)).sum<=lim then aa (.str (d8 xs)) else af
   |none=>af
 | .str sep,[.tup ds]=>match mH ds with
   |some xs=>if sep.length=0/\(xs.map (·.length)).sum<=lim then aa (.str (d8 xs)) else af
   |none=>af
 |_,_=>af
theorem rA:∀xs:List Str,(d8 xs).length=(xs.map (·.length)).sum
 |[]=>rfl
 |x::r=>by
  show (x++d8 r).length=_;rw[kR,rA r,X9,abd]
def Lw{x:Str}(h:x.length=0):x=⟨#[]⟩:=by
 obtain⟨⟨l⟩⟩:=x;have:l.length=0:=h;cases l with
 |nil=>rfl
 |cons _ _=>simp at this
def qm(x:Str):x++(⟨#[]⟩:Str)=x:=by
 obtain⟨c⟩:=x;show (⟨c++ #[]⟩:Str)=⟨c⟩
 simp
def pN(sep:Str)(h:sep.length=0):∀xs:List Str,Txt.join sep xs=d8 xs:=by
 have e:=Lw h;subst e;intro xs;show Builtin.Str.glued _ xs=_;rw[StrLaws.glued_eq_join];induction xs with
 |nil=>rfl
 |cons x r ih=>
  cases r with
  |nil=>show x=x++(⟨#[]⟩:Str);rw[qm]
  |cons y r=>show x++(⟨#[]⟩:Str)++Str.join _ (y::r)=x++d8 (y::r);rw[qm,ih]
def rJoin(K:Ym):V->List V->Hp->VK->Prop:=λx vs H Q=>∃(sep:Str) (a:Addr) (xs:List Str),x= .str sep/\vs=[.ref a]/\(H a=θ (.lst (xs.map V.str))\/H a=θ (.tup (xs.map V.str)))/\sep.length=0/\(xs.map (·.length)).sum<=lim/\Q (.str (d8 xs)) H
def Ku:Rp X "str.join" (rJoin X.K):=by
 intro f8 s σ H x vs v us Q I rx rv h;obtain⟨sep,a,xs,rfl,rfl,hH,hs,hl,q⟩:=h;obtain⟨t,rfl⟩:=rx;obtain⟨u,rfl,r1⟩:=rv.one;cases (show u=_ from r1);have hok:(xs.map (·.length)).sum+xs.length*sep.length<=16777216:=by
  rw[hs,Nat.mul_zero];unfold lim at hl;omega
 rcases hH with hH | hH
 ·obtain⟨aS,r2,pl,hz⟩:=I.list (SqL.of (K:=X.K) hH);refine join_list pl.isList (by simpa using ug r2) hok λt' k=>⟨.str (d8 xs),H,I.tok k,⟨t',by rw[pN sep hs]⟩,q⟩
 ·obtain⟨aS,r2,pl,hz⟩:=I.tuple (SqT.of hH);refine join_tuple pl (by simpa using ug r2) hok λt' k=>⟨.str (d8 xs),H,I.tok k,⟨t',by rw[pN sep hs]⟩,q⟩
def xS(ho:PD X Xw o δo)(ha:nZ X Xw [e] δs)(j4:aah o "join" X.env (eval o X.env)=eval o X.env:=by rfl)
 (r0:((aae bJ (Yw [e] X.env)).all (λx=>!x.1)&&(aca bJ (aaH [] X.env)).all (λx=>x.1.isSome)&&decide ([e].length+([]:List aaC).length+(if ([]:List aaC).isEmpty then 0 else 1)<30))=ψ:=by rfl)
 (j5:(T0.endLine==bJ.line)=ψ:=by rfl)(G4:Yw [e] X.env=[(μ,eval e X.env)]:=by rfl):PD X Xw (.Call (.Attribute o "join" T0) [e] [] bJ) (dM yP joinM δo δs):=
 Md ac2 PySem.F.slot_str_join PySem.F.type_str_join Ku G_ (λXw F H x vs d ds Q s hx hv w=>by
  unfold joinM at w;split at w
  ·rename_i sep ds;obtain⟨v,rfl,h1⟩:=hv.one;obtain⟨a,ws,rfl,h2,h3,_⟩:=h1;split at w
   ·rename_i xs Qd;split at w
    ·rename_i hc;exact⟨sep,a,xs,hx.1,rfl, .inl (by rw[<-ue Qd h3];exact s _ _ h2),hc.1,hc.2,WP.now w s ⟨rfl,by rw[rA];exact hc.2⟩⟩
    ·exact w.elim
   ·exact w.elim
  ·rename_i sep ds;obtain⟨v,rfl,h1⟩:=hv.one;obtain⟨a,ws,rfl,h2,h3,_⟩:=h1;split at w
   ·rename_i xs Qd;split at w
    ·rename_i hc;exact⟨sep,a,xs,hx.1,rfl, .inr (by rw[<-ue Qd h3];exact s _ _ h2),hc.1,hc.2,WP.now w s ⟨rfl,by rw[rA];exact hc.2⟩⟩
    ·exact w.elim
   ·exact w.elim
  ·exact w.elim) ho ha j4 r0 j5 G4 rfl
def wA:List D->M D
 |[.lst ds]=>aa (.tup ds)
 |[.tup ds]=>aa (.tup ds)
 |_=>af
def tE(hg:Gl X "tuple")(hm:X.mg "tuple"=ω)(hb:YW "tuple"=θ (.type "tuple"))(ha:nZ X Xw [e] δs)(he:Yw [e] X.env=[(μ,eval e X.env)]:=by rfl):PD X Xw (.Call (.Name "tuple" p) [e] [] pos) (dA wA δs):=
 vY uB (λXw F H vs ds Q s h w=>by
  unfold wA at w;split at w
  ·rename_i ds;obtain⟨v,rfl,h1⟩:=h.one;obtain⟨a,ws,rfl,h2,h3,h4⟩:=h1;exact⟨a,ws,rfl, .inl ⟨SqL.of (s _ _ h2),λl hl=>WP.fin w (Ext.lay s hl) ⟨l,ws,rfl,aD,DenL.mono (Ext.lay s hl).ff h3,h4⟩⟩⟩
  ·rename_i ds;obtain⟨v,rfl,h1⟩:=h.one;obtain⟨a,ws,rfl,h2,h3,h4⟩:=h1;exact⟨a,ws,rfl, .inr ⟨SqT.of (s _ _ h2),WP.now w s ⟨a,ws,rfl,h2,h3,h4⟩⟩⟩
  ·exact w.elim) hg hm hb ha (by decide) (by decide) he rfl
def Cf(hc:X.calm=ψ)(hg:Gl X "max")(hm:X.mg "max"=ω)(hb:YW "max"=θ (.builtin "max"))(ha:nZ X Xw [e,e2] δs)(he:Yw [e,e2] X.env=(μ,eval e X.env)::Yw [e2] X.env:=by rfl)
 (uI:(aae pos (Yw [e2] X.env)).any (·.1)=μ:=by rfl):PD X Xw (.Call (.Name "max" p) [e,e2] [] pos) (dA BU δs):=
 ez (Ex hc) (λXw F H vs ds Q s h w=>by
  unfold BU at w;split at w
  ·obtain⟨v,v',rfl,h1,h2⟩:=h.two;cases (show _=_ from h1);cases (show _=_ from h2);exact⟨_,_,rfl,WP.now w s rfl⟩
  ·exact w.elim) hg hm hb ha (by decide) (by decide) he uI
def Ie(hc:X.calm=ψ)(hg:Gl X "min")(hm:X.mg "min"=ω)(hb:YW "min"=θ (.builtin "min"))(ha:nZ X Xw [e,e2] δs)(he:Yw [e,e2] X.env=(μ,eval e X.env)::Yw [e2] X.env:=by rfl)
 (uI:(aae pos (Yw [e2] X.env)).any (·.1)=μ:=by rfl):PD X Xw (.Call (.Name "min" p) [e,e2] [] pos) (dA E7 δs):=
 ez (Ey hc) (λXw F H vs ds Q s h w=>by
  unfold E7 at w;split at w
  ·obtain⟨v,v',rfl,h1,h2⟩:=h.two;cases (show _=_ from h1);cases (show _=_ from h2);exact⟨_,_,rfl,WP.now w s rfl⟩
  ·exact w.elim) hg hm hb ha (by decide) (by decide) he uI
def nums:List D->Option (List Int)
 |[]=>θ []
 | .int x::r=>(nums r).map (x:: ·)
 |_=>ω
theorem mW{K:Ym}:∀{ds:List D}{vs:List V}{xs:List Int},nums ds=θ xs->DenL K F ds vs->vs=xs.map V.int
 |[],_,_,e,h=>by cases e;exact h
 | .int b::r,_,_,e,⟨v,r',h1,h2,h3⟩=>by
   unfold nums at e;cases q:nums r with
   |none=>rw[q] at e;cases e
   |some bs=>rw[q] at e;cases e;subst h1;rw[mW q h3,show v= .int b from h2];rfl
 | .non::_,_,_,e,_=>by cases e
 | .str _::_,_,_,e,_=>by cases e
 | .bl _::_,_,_,e,_=>by cases e
 | .raw _::_,_,_,e,_=>by cases e
 | .exc _::_,_,_,e,_=>by cases e
 | .scr _::_,_,_,e,_=>by cases e
 | .tup _::_,_,_,e,_=>by cases e
 | .lst _::_,_,_,e,_=>by cases e
def J4(neg:Bool):D->D->M D
 | .int i, .tup ds=>match nums ds with | some ns=>aa (.bl (if neg then !ns.contains i else ns.contains i)) | none=>af
 |_,_=>af
def G7(i:Int)(ns:List Int):RN (.int i) (ns.map V.int)=ns.contains i:=by
 unfold RN;rw[List.any_map];induction ns with
 |nil=>rfl
 |cons n ns ih=>
  rw[aar,List.contains_cons,ih];congr 1;show Js (.int n) (.int i)=(i==n)
  unfold Js;exact Bool.beq_comm
def M_{neg:Bool}{K:Ym}:A_ K (Vt K neg) (J4 neg):=λXw F H x y dx dy Q s hx hy w=>by
 unfold J4 at w;split at w
 ·rename_i i ds;obtain⟨a,vs,h1,h2,h3,h4⟩:=hy;split at w
  ·rename_i ns hn;have hv:=mW hn h3;subst hv;cases (show _=_ from hx);refine⟨a,ns.map V.int,h1, .inr (SqT.of (s _ _ h2)),rfl,?_,?_⟩
   ·rw[aak];exact Yu.mpr λ_ _=>rfl
   ·rw[G7];exact WP.now w s rfl
  ·exact w.elim
 ·exact w.elim
def Fw(ha:PD X Xw a δa)(hb:PD X Xw b δb)(hm:Y3 .NotIn b=μ:=by rfl):n0 X Xw (.Compare a [.NotIn] [b] pos) (cT (d2 (J4 ψ) δa δb)):=f9 xH M_ ha hb hm
def uF(neg:Bool):D->D->M D
 | .str x, .str y=>aa (.bl (if neg then !(!(Ze y x 0 y.length 1).isEmpty) else !(Ze y x 0 y.length 1).isEmpty))
 |_,_=>af
def NQ(ha:PD X Xw a δa)(hb:PD X Xw b δb)(hm:Y3 .In b=μ:=by rfl):PD X Xw (.Compare a [.In] [b] pos) (d2 (uF μ) δa δb):=xQ vQ (λXw F H x y dx dy Q s hx hy w=>by
 unfold uF at w;split at w
 ·exact⟨_,_,hx.1,hy.1,WP.now w s rfl⟩
 ·exact w.elim) ha hb hm
def Oa(ha:PD X Xw a δa)(hb:PD X Xw b δb)(hm:Y3 .In b=μ:=by rfl):n0 X Xw (.Compare a [.In] [b] pos) (cT (d2 (uF μ) δa δb)):=f9 vQ (λXw F H x y dx dy Q s hx hy w=>by
 unfold uF at w;split at w
 ·exact⟨_,_,hx.1,hy.1,WP.now w s rfl⟩
 ·exact w.elim) ha hb hm
end
end L3
namespace L3
open PySem PySem.Spec L2 SeqAt HT
open PyProof.Rows hiding St
section
variable{prog:YM}{w:World}{A:Y7}{E:Value->Yc->Prop}{s:Yc}
def lJ{t sl:Addr}{items:Array Value}{vl vu:Value}{lo hi:Option Int}{Q:Value->Yc->Prop}(ht:IsTup s.heap t items)(hs:s.heap.IsSliceOf sl vl vu .none)(pl:ac4 vl lo)(pu:ac4 vu hi)
 (hw:sIx items.size 0 lo=0/\sIx items.size items.size hi=items.size)(h:Q (.ref t) s):wpAny (model prog w) A (ab1 (.ref t) (.ref sl)) Q E s:=by
 obtain⟨os,G2,RC,LX⟩:=id hs;have OL:s.TypeIs (.ref sl) "slice":=⟨os,G2,RC⟩
 unfold ab1
 try with_reducible refine ZF ?_
 first | refine X6 (Yb ?_) | skip
 refine X6 (wpAny_sequenceKey ht.typeIs (by decide) ?_);refine X6 (aaA (name:=ZW "__getitem__") ht.typeIs ZI
  (Zs ZI ht.typeIs entry_tuple_getitem ?_ (args_tuple_getitem _ _)))
 show wpAny _ _ (abV (.ref t)>>=_) _ _ s;refine X6 (tupleItemsOf_ ht ?_);refine X6 (abX OL ?_);rw[aef (by decide)];refine X6 (sliceApplied_gen hs pl pu ?_);have xc:((((sIx items.size 0 lo:Nat):Int)==0&&(1:Int)==1&&(sIx items.size items.size hi - sIx items.size 0 lo)==items.size)=ψ):=by
  rw[hw.1,hw.2];simp
 show wpAny _ _ (if (((sIx items.size 0 lo:Nat):Int)==0&&(1:Int)==1&&(sIx items.size items.size hi - sIx items.size 0 lo)==items.size)=ψ then _ else _) _ _ s;rw[aef xc];refine X6 ?_;unfold Builtin.Tuple.tupleIsExact;refine X6 (abX ht.typeIs (Yb ?_));rw[aef (by decide)];exact X6 (wpAny_rule (Yb ⟨_,rfl,Yb h⟩))
end
section
variable{X:Cx}{Xw:Nat->Hp->Prop}{a b e:Expr}{lo hi:Option Expr}{δ:DE}{pos p p2:Pos}
def Lq:SlR X (λx lo hi H Q=>∃a xs,x= .ref a/\SqT X.K H a xs/\(sIx xs.length 0 lo=0/\sIx xs.length xs.length hi=xs.length)/\Q (.ref a) H):=by
 intro f8 s σ H x v vl vu lo hi sl Q I rx hs pl pu h;obtain⟨a,xs,rfl,hx,hw,q⟩:=h;cases rx;obtain⟨aS,r,ht,hz⟩:=I.tuple hx;have v6:aS.toArray.size=xs.length:=by rw[Yj];exact r.length.symm
 exact⟨"tuple",_,PyProof.Rows.slot_tuple_getitem.lookup,ht.typeIs,lJ ht hs pl pu (by rw[v6];exact hw) ⟨.ref a,H,I,rfl,q⟩⟩
def Ou:SlR X (λx lo hi H Q=>∃z:Str,x= .str z/\z.length<=lim/\Q (.str (aci z lo hi)) H):=by
 intro f8 s σ H x v vl vu lo hi sl Q I rx hs pl pu h;obtain⟨z,rfl,hl,q⟩:=h;obtain⟨t,rfl⟩:=rx;have hz:z.length<=Yv:=by have:=dH;omega
 cases pl with
 |none=>
  cases pu with
  |none=>exact⟨"str",_,PySem.F.slot_str_getitem.lookup,abo _ _ _,aaz (l:=ω) (u:=ω) (st:=ω) hs rfl (abZ ⟨Yz (abE z _ _) hz,λt' k=>⟨.str _,H,I.tok k,⟨t',rfl⟩,q⟩⟩)⟩
  |int j uj=>exact⟨"str",_,PySem.F.slot_str_getitem.lookup,abo _ _ _,aaz (l:=ω) (u:=θ (j,uj)) (st:=ω) hs rfl (abZ ⟨Yz (abE z _ _) hz,λt' k=>⟨.str _,H,I.tok k,⟨t',rfl⟩,q⟩⟩)⟩
 |int i ui=>
  cases pu with
  |none=>exact⟨"str",_,PySem.F.slot_str_getitem.lookup,abo _ _ _,aaz (l:=θ (i,ui)) (u:=ω) (st:=ω) hs rfl (abZ ⟨Yz (abE z _ _) hz,λt' k=>⟨.str _,H,I.tok k,⟨t',rfl⟩,q⟩⟩)⟩
  |int j uj=>exact⟨"str",_,PySem.F.slot_str_getitem.lookup,abo _ _ _,aaz (l:=θ (i,ui)) (u:=θ (j,uj)) (st:=ω) hs rfl (abZ ⟨Yz (abE z _ _) hz,λt' k=>⟨.str _,H,I.tok k,⟨t',rfl⟩,q⟩⟩)⟩
abbrev DO:=bQ->M (Option Int)
def WPO(Xw:Nat->Hp->Prop)(F H:Hp)(m:M (Option Int))(Q:Option Int->Hp->Prop):Prop:=
 match m with
 |none=>False
 |some (.ok b)=>∀H' F',Ext F H F' H'->Q b H'
 |some (.ex n)=>∀F' H',Ext F H F' H'->Xw n H'
def XE(K:Ym)(Xw:Nat->Hp->Prop)(δ:DO):TO:=λσ H Q=>∃F ρ,StE K F H σ ρ/\WPO Xw F H (δ ρ) Q
def Rq(X:Cx)(Xw:Nat->Hp->Prop)(e:Option Expr)(δ:DO):Prop:=PO X e (XE X.K Xw δ)
def oN:DO:=λ_=>aa ω
def oS(δ:DE):DO:=λρ=>δ ρ>>=λd=>match d with | .int i=>aa (θ i) | _=>af
def Ai:Rq X Xw ω oN:=λf8 s σ H Q I ⟨F,ρ,S,w⟩=>K8 f8 s σ H Q I (w H F (Ext.refl S.fh))
def Aj(h:PD X Xw e δ):Rq X Xw (θ e) (oS δ):=λf8 s σ H Q I ⟨F,ρ,S,w⟩=>K9 h f8 s σ H Q I ⟨F,ρ,S,by
 have w:WPO Xw F H (δ ρ>>=λd=>match d with | .int i=>aa (θ i) | _=>af) Q:=w;rcases(δ ρ).cs with q | ⟨n,q⟩ | ⟨d,q⟩
 ·rw[q] at w;exact w.elim
 ·rw[q] at w⊢;exact w
 ·rw[q] at w⊢;intro v H' F' e' hd;cases d with
  |int i=>exact⟨i,hd,w H' F' e'⟩
  |_=>exact w.elim⟩
def WP.bindO{K:Ym}{Xw:Nat->Hp->Prop}{F H:Hp}{Q:VK}{m:M (Option Int)}{k:Option Int->M D}(h:WP K Xw F H (m>>=k) Q):WPO Xw F H m λb H1=>∃F1,Ext F H F1 H1/\WP K Xw F1 H1 (k b) Q:=by
 match m,h with
 |none,h=>exact h
 |some (.ok d),h=>exact λH2 F2 e2=>⟨F2,e2,WP.ext e2 (show WP K Xw F H (k d) Q from h)⟩
 |some (.ex n),h=>exact h
def WPO.mono{Xw:Nat->Hp->Prop}{F H:Hp}{m:M (Option Int)}{Q Q':Option Int->Hp->Prop}(h:WPO Xw F H m Q)(k:∀v H',Q v H'->Q' v H'):WPO Xw F H m Q':=by
 match m,h with
 |none,h=>exact h
 |some (.ok d),h=>exact λH2 F2 e2=>k _ _ (h H2 F2 e2)
 |some (.ex n),h=>exact h
def cutD(ds:List D)(lo hi:Option Int):List D:=(ds.drop (sIx ds.length 0 lo)).take (sIx ds.length ds.length hi - sIx ds.length 0 lo)
def Vu:D->Option Int->Option Int->M D
 | .tup ds,lo,hi=>aa (.tup (cutD ds lo hi))
 | .lst ds,lo,hi=>aa (.lst (cutD ds lo hi))
 | .str x,lo,hi=>aa (.str (aci x lo hi))
 |_,_,_=>af
def JM(a:DE)(lo hi:DO):DE:=λρ=>a ρ>>=λd=>lo ρ>>=λl=>hi ρ>>=λh=>Vu d l h
def y9(ds:List D)(lo hi:Option Int):(cutD ds lo hi).length<=ds.length:=by
 unfold cutD;rw[ZL,acz];omega
def DenL.cut{K:Ym}{F:Hp}{ds:List D}{vs:List V}(h:DenL K F ds vs)(lo hi:Option Int):DenL K F (cutD ds lo hi) (y_ vs lo hi):=by
 unfold cutD y_;rw[h.len];exact(h.drop _).take _
def Mf{δo:DE}{κl κh:DO}(he:PD X Xw e δo)(hl:Rq X Xw lo κl)(hh:Rq X Xw hi κh):PD X Xw (.Subscript e (.Slice lo hi ω p2) pos) (JM δo κl κh):=
 PE.weak (Iq (Lq.or (Ov.or (Lp.or Ou))) he hl hh) λσ H Q ⟨F,ρ,s,w⟩=>by
  refine⟨F,ρ,s,WP.mono (WP.bind w) λv H1 ⟨F1,d,e1,q1,w1⟩=>?_⟩;refine⟨F1,ρ,s.ext e1,WPO.mono (WP.bindO w1) λl H2 ⟨F2,e2,w2⟩=>?_⟩;refine⟨F2,ρ,(s.ext e1).ext e2,WPO.mono (WP.bindO w2) λh H3 ⟨F3,e3,w3⟩=>?_⟩;have q3:=Den.mono (e2.ff.trans e3.ff) q1;have fh:=e3.fh;cases d with
  |tup ds=>
   obtain⟨a,vs,rfl,h2,h3,h4⟩:=q3;by_cases hw:sIx vs.length 0 l=0/\sIx vs.length vs.length h=vs.length
   ·refine .inl ⟨a,vs,rfl,SqT.of (fh _ _ h2),hw,?_⟩;have hc:cutD ds l h=ds:=by
     unfold cutD;rw[h3.len,hw.1,hw.2,adG,ac3,<-h3.len,List.take_length]
    have w3:WP X.K Xw F3 H3 (aa (.tup (cutD ds l h))) Q:=w3;rw[hc] at w3;exact WP.now w3 fh ⟨a,vs,rfl,h2,h3,h4⟩
   ·exact .inr (.inl ⟨a,vs,rfl,SqT.of (fh _ _ h2),hw,λp hp=>WP.fin w3 (Ext.lay fh hp) ⟨p,_,rfl,aD,DenL.mono (Ext.lay fh hp).ff (h3.cut l h),Yz (y9 _ _ _) h4⟩⟩)
  |lst ds=>
   obtain⟨a,vs,rfl,h2,h3,h4⟩:=q3;exact .inr (.inr (.inl ⟨a,vs,rfl,SqL.of (fh _ _ h2),λp hp=>WP.fin w3 (Ext.lay fh hp) ⟨p,_,rfl,aD,DenL.mono (Ext.lay fh hp).ff (h3.cut l h),Yz (y9 _ _ _) h4⟩⟩))
  |str x=>exact .inr (.inr (.inr ⟨x,q3.1,q3.2,WP.now w3 fh ⟨rfl,Yz (abE x _ _) q3.2⟩⟩))
  |_=>exact w3.elim
end
def Rn(x:Str):It:=⟨λi _=>i<x.cps.size,λi H v H'=>H'=H/\∃c,x.cps[i]? =θ c/\v= .str ⟨#[c]⟩,λi _=>x.cps.size<=i⟩
def FN{P:YM}{K:Ym}(it:Addr)(x:Str)(t:Tok):Turn P w K tg (Rn x) [it] it (λi h=>i<=x.cps.size/\h.IsStrIter it "str_ascii_iterator" x t i) where
 mem:=by simp
 obj:=λi h st b hb=>by
  have e:b=it:=by simpa using hb
  subst e;obtain⟨_,o,e,c,d⟩:=st;exact⟨o,e,λv z=>by rw[d] at z;cases z⟩
 keep:=λi h h' st k=>⟨st.1,let ⟨o,e,r⟩:=st.2;⟨o,k it (by simp) o e,r⟩⟩
 item:=by
  intro X hP hw hK hc i f8 s σ H E I hf st hg;subst hP hw hK;obtain⟨f0,f1,f2,f3,f4,f5⟩:=hf it (by simp);have hi:i<x.cps.size:=hg;refine(Walks.strAscii (I.ok.hd hc) it x t).item i s _ _ hi st.2 λv h' tk hv qk kk=>?_;obtain⟨c,u,SG,rfl⟩:=hv;have I1:Inv X f8 σ H {s with heap:=h',toks:=tk}:=I.turned (λb o hb e=>kk b o (by simpa using hb) e) f0 f1 f3 f4 f5;obtain⟨o,e,cc,dd⟩:=id qk;exact⟨_,rfl,vw e cc dd (by decide) ⟨.str ⟨#[c]⟩,H,I1,⟨u,rfl⟩,⟨rfl,c,SG,rfl⟩,⟨hi,qk⟩,λb hb=>(hf b hb).1⟩⟩
 done:=by
  intro X hP hw hK hc i f8 s σ H E I hf st hg;subst hP hw hK;obtain⟨f0,f1,f2,f3,f4,f5⟩:=hf it (by simp);have hi:i=x.cps.size:=abM st.1 hg;subst hi;exact(Walks.strAscii (I.ok.hd hc) it x t).done s _ _ st.2 λh' tk kk=>⟨rfl,I.turned (λb o hb e=>kk b o (by simpa using hb) e) f0 f1 f3 f4 f5⟩
 self:=λ_ _ _ _ _ st h=>wpAny_pyIter_striter_ascii st.2 h
def FO{P:YM}{K:Ym}(it:Addr)(x:Str)(t:Tok):Turn P w K tg (Rn x) [it] it (λi h=>i<=x.cps.size/\h.IsStrIter it "str_iterator" x t i) where
 mem:=by simp
 obj:=λi h st b hb=>by
  have e:b=it:=by simpa using hb
  subst e;obtain⟨_,o,e,c,d⟩:=st;exact⟨o,e,λv z=>by rw[d] at z;cases z⟩
 keep:=λi h h' st k=>⟨st.1,let ⟨o,e,r⟩:=st.2;⟨o,k it (by simp) o e,r⟩⟩
 item:=by
  intro X hP hw hK hc i f8 s σ H E I hf st hg;subst hP hw hK;obtain⟨f0,f1,f2,f3,f4,f5⟩:=hf it (by simp);have hi:i<x.cps.size:=hg;refine(Walks.strWide (I.ok.hd hc) it x t).item i s _ _ hi st.2 λv h' tk hv qk kk=>?_;obtain⟨c,u,SG,rfl⟩:=hv;have I1:Inv X f8 σ H {s with heap:=h',toks:=tk}:=I.turned (λb o hb e=>kk b o (by simpa using hb) e) f0 f1 f3 f4 f5;obtain⟨o,e,cc,dd⟩:=id qk;exact⟨_,rfl,vw e cc dd (by decide) ⟨.str ⟨#[c]⟩,H,I1,⟨u,rfl⟩,⟨rfl,c,SG,rfl⟩,⟨hi,qk⟩,λb hb=>(hf b hb).1⟩⟩
 done:=by
  intro X hP hw hK hc i f8 s σ H E I hf st hg;subst hP hw hK;obtain⟨f0,f1,f2,f3,f4,f5⟩:=hf it (by simp);have hi:i=x.cps.size:=abM st.1 hg;subst hi;exact(Walks.strWide (I.ok.hd hc) it x t).done s _ _ st.2 λh' tk kk=>⟨rfl,I.turned (λb o hb e=>kk b o (by simpa using hb) e) f0 f1 f3 f4 f5⟩
 self:=λ_ _ _ _ _ st h=>wpAny_pyIter_striter_wide st.2 h
section
variable{X:Cx}{Xw:Nat->Hp->Prop}{tg a b e l o:Expr}{δ:DE}
def Tn(tl:TE):TI:=λσ H R=>tl σ H λx H1=>∃z,x= .str z/\R (Rn z) H1
def N7{tl:TE}(hl:PE X l tl):PI X tg l (Tn tl):=by
 intro f8 s σ H R I h;refine cJ (hl f8 s σ H _ I h) λv s1 ⟨x,H1,I1,r1,q1⟩=>?_;obtain⟨z,e,q⟩:=q1;subst e;obtain⟨t,rfl⟩:=r1;have fp:∀b∈[s1.heap.objs.size],uy X f8 H1 b:=λb hb=>by
  have e:b=s1.heap.objs.size:=by simpa using hb
  subst e;exact I1.fpOk (X_ _) (I1.hok.fresh (X_ _))
 cases ha:z.cps.all (· <128)
 ·exact wpAny_pyIter_wide ha ⟨s1.heap.objs.size,[s1.heap.objs.size],_,_,H1,rfl,I1.kept (t':=s1.toks) λb o e=>X8 _ e,FO _ z t,⟨YH _,_,Yy _ rfl,rfl,rfl⟩,fp,q⟩
 ·exact wpAny_pyIter_ascii ha ⟨s1.heap.objs.size,[s1.heap.objs.size],_,_,H1,rfl,I1.kept λb o e=>X8 _ e,FN _ z t,⟨YH _,_,Yy _ rfl,rfl,rfl⟩,fp,q⟩
def signs(x:Str):List D:=x.cps.toList.map λc=>D.str ⟨#[c]⟩
def I8:D->M (List D)
 | .str x=>aa (signs x)
 |_=>af
def Kj{K:Ym}{F:Hp}(x:Str):ItD K F (Rn x) (signs x):=λF' H' i s1 s2=>by
 refine⟨λd e=>?_,λhl=>show x.cps.size<=i by simpa[signs] using hl⟩;unfold signs at e;rw[Yl] at e;cases q:x.cps.toList[i]? with
 |none=>rw[q] at e;cases e
 |some c=>
  rw[q] at e;cases e;have hi:i<x.cps.size:=by
   have:=(Yk.mp q).1;simpa using this
  refine⟨hi,λv H'' y=>?_⟩;obtain⟨e2,c',BE,rfl⟩:=y;subst e2;have:c'=c:=by
   have q':x.cps[i]? =θ c:=by simpa using q
   rw[q'] at BE;exact(YS BE).symm
  subst this;exact⟨F',Ext.refl s2,rfl,by show 1<=lim;decide⟩
def xV(h:PD X Xw l δ):Ba X Xw tg l (λρ=>δ ρ>>=I8):=PI.weak (N7 h) λσ H R ⟨F,ρ,s,w⟩=>by
 refine⟨F,ρ,s,WP.mono (WPI.bind w) λv H1 ⟨F1,d,e1,q1,w1⟩=>?_⟩;cases d with
 |str z=>exact⟨z,q1.1,w1 _ _ _ (Ext.refl e1.fh) (Kj z)⟩
 |_=>exact w1.elim
end
end L3
namespace L3
open PySem PySem.Spec L2 SeqAt HT
open PyProof.Rows hiding St
open PySem.W (Frag Looks InstAt findIn mroIn)
open PySem.Builtin PySem.Builtin.ObjectAttr PySem.Builtin.Getset_descriptor
end L3
namespace L3
open PySem PySem.Spec L2 SeqAt HT
open PyProof.Rows hiding St
structure RoomH (k:Nat) (A:Y7):Prop where
 dp:A.depth+3*k+5<adz
 un:A.units+16*k+200<cLine
theorem RoomH.deeper(r:RoomH (k+1) A)(env:Env):RoomH k (A.deeper env):=
 ⟨by have:=r.dp;show A.depth+1+3*k+5<_;omega,by have:=r.un;show A.units+3+16*k+200<_;omega⟩
theorem RoomH.units(r:RoomH k A):A.units+64<cLine:=by have:=r.un;omega
def CS(N:List Str)(osc scope:Scope)(tn:List Str):Bool:=
 decide (scope.kind= .function)&&scope.names.all (λy=>decide (y.2≠ .cell))&&scope.names.all (λy=>decide (y.2= .local->scope.names.lookup y.1=θ .local))&&
 scope.names.all (λy=>decide (y.2= .free->(osc.names.lookup y.1=θ .cell\/osc.names.lookup y.1=θ .free)))&&
 ((dj tn N).zip N).all (λp=>decide (scope.names.lookup p.1=ω\/(p.1=p.2/\scope.names.lookup p.1=θ .free)))
def bO(hN:X.N=N)(ho:X.env.scope=osc)(h:CS N osc scope tn=ψ):CompSc X scope tn:=by
 unfold CS at h;simp only[Yq,Yu,aej] at h;obtain⟨⟨⟨⟨h1,h2⟩,h3⟩,h4⟩,h5⟩:=h;refine⟨h1,h2,h3,λy hy hf=>?_,?_⟩
 ·have:=h4 y hy hf;rw[<-ho] at this;exact this
 ·rw[hN];exact h5
def cU(hN:X.N.Nodup)(h0:X.N[0]? =θ x)(MW:X.env.scope.names.lookup x=θ .local):F4 X (.Name x px) 0 σ:=λf8 s σ' F H d ts v u I fh hd rv q e=>by
 have e:aa [d]=aa ts:=e;have e:=fi e;subst e;refine acO (AN I hN h0 (.inl MW) rv (λs' I'=>⟨[v],?_, .cons q .nil⟩) (.inr MW));have hl:0<σ'.length:=by rw[I.len];exact(Yk.mp h0).1
 have:σ'.set 0 (θ v)=[v].map θ++σ:=by
  cases σ' with
  |nil=>simp at hl
  |cons a r=>
   have hd:r=σ:=by simpa using hd
   subst hd;rfl
 rw[<-this];exact I'
def cI:Passes (lH P w cv) X (EX cv λ_ _=>False):=λ_ _ _ _ _ _ _ ⟨_,_,_,_,_,_,_,_,_,_,_,_,_,_,z⟩=>z.elim
def bo(K:Ym)(mg:Str->Option Value)(x:Str)(st:Stmt)(f:Addr):Prop:=mg x=θ (.ref f)/\∃fd,Fun K x x st f fd
abbrev VB(x q:Str)(st:Stmt)(ps:List Str):Prop:=∀(kV doc pm:Value) (an:Option Addr) (cR ct:Value) (us:List Value),us.length=ps.length->bindArgs (ZH x q (fZ st) (ba st) (ah st) .none kV doc pm an cR ct) ⟨us,[]⟩=pure (ps.zip us)
def ak(P:YM)(w:World)(K:Ym)(mg:Str->Option Value)(base:Heap)(cv:Nat->Value)(k:Nat)(x:Str)(m:Nat)(g:List D->M D):Prop:=
 ∃f fd ps,mg x=θ (.ref f)/\ZX K (.ref f)=ψ/\Binds K fd ps []/\FnOk P w K mg base (lH P w cv) k f fd ps (OS K cv m g)
section
variable{X:Cx}{Xw:Nat->Hp->Prop}{cv:Nat->Value}{k m:Nat}{g:List D->M D}{x:Str}{p pos:Pos}{e:Expr}{es:List Expr}{δs:DA}
def aq(m:Nat)(g:List D->M D)(δs:DA):DE:=λρ=>δs ρ>>=λds=>if ds.length=m then g ds else af
def aM(F:ak X.prog X.w X.K X.mg X.base cv k x m g)(hr:Room k X.A)(hg:Gl X x)(hx:Passes (lH X.prog X.w cv) X (EX cv Xw))
 (ha:nZ X Xw (e::es) δs)(hl:(e::es).length=m)(xa:(x==("__debug__":Str))=μ:=by decide)(he:Yw (e::es) X.env=(μ,eval e X.env)::Yw es X.env:=by rfl)(uI:(aae pos (Yw es X.env)).any (·.1)=μ:=by rfl):
 PD X Xw (.Call (.Name x p) (e::es) [] pos) (aq m g δs):=by
 obtain⟨f,fd,ps,h1,h2,h3,h4⟩:=F;exact KR h4 hr hg h1 h2 h3 hx ha hl xa he uI
end
def az{K:Ym}{st:Stmt}(T:bo K mg x st f)(S:FnScope N ps (ah st))
 (VZ:VB x x st ps)
 (rX:∀(cR:Value) (A:Y7) (outer:List Env) (s:Yc) (H:Hp) (E:XK),Room k (A.deeper (ZU x (ah st) s.heap.objs.size f cR))->
  PSDs (d9 (lH P w cv) P w K mg base N x (ah st) f cR A outer s H E) (λn H'=>E (cv n) ω H') (ba st) τ):ak P w K mg base cv (k+1) x ps.length (b_ N.length τ):=by
 obtain⟨h1,fd,Fn⟩:=T;exact⟨f,fd,ps,h1,Fn.kp,Fn.binds VZ,Po Fn S rX⟩
section
variable{X:Cx}{Xw:Nat->Hp->Prop}{pos:Pos}
def xU{x z:Str}(hg:Gl X x)(h:∃t,X.mg x=θ (.str z t))(hz:z.length<=lim)(xa:(x==("__debug__":Str))=μ:=by decide):PD X Xw (.Name x pos) (dC (.str z)):=by
 obtain⟨t,h⟩:=h;exact DP (v:= .str z) hg h ⟨t,rfl⟩ (λ_=>⟨rfl,hz⟩) xa
def DQ{x:Str}{i:Int}(hg:Gl X x)(h:∃t,X.mg x=θ (.int i t))(xa:(x==("__debug__":Str))=μ:=by decide):PD X Xw (.Name x pos) (dC (.int i)):=by
 obtain⟨t,h⟩:=h;exact DP (v:= .int i) hg h ⟨t,rfl⟩ (λ_=>rfl) xa
end
def Le(sc osc:Scope):Scope:={sc with names:=sc.names.map λ(n,k)=>if (k== .free&&osc.kind== .function&&osc.names.lookup n==θ .cell) then(n, .cell) else(n,k)}
structure Box (p:Prop):Prop where
 out:p
section
variable{X:Cx}{Xw:Nat->Hp->Prop}
def d7{st:Stmt}{W1:List Stmt}{τ τ':DS}(h1:Box (iQ X Xw st τ))(h2:Box (PSDs X Xw W1 τ')):Box (PSDs X Xw (st::W1) (aA τ τ')):=⟨ai h1.out h2.out⟩
def MC{st:Stmt}{τ:DS}(h1:Box (iQ X Xw st τ)):Box (PSDs X Xw [st] τ):=⟨ar h1.out⟩
end
def Rm{l:ad0}{n k:Nat}{q:YM}{loose:List Str}{XP:(Str->Option Value)->Heap->Prop}{YP:World->Heap->Prop}{d:DefRec}{K:Params->Ym}{x:Str}{g:List D->M D}
 (hn:l.most=θ n)(RH:n<=lim)(PM:d.params.defaults=[])(hr:Room k acP)
 (hY:∀(w:World) (h:Heap),YP w h->(K w.params).In h)(hg:∀ns:List Int,ns.length<=n->g [.scr ns]=aa (.bl ψ))
 (F:∀(w:World) (mg:Str->Option Value) (fa:Addr) (h:Heap),(K w.params).In h->h.Ns YG mg->mg d.name=θ (.ref fa)->
  ∃(cv:Nat->Value) (fd:aat),(∀(s:Yc) (u:Value),ad6 s fd ⟨[u],[]⟩ [(x,u)])/\
   ∀base:Heap,(K w.params).In base->base.Ns YG mg->FnOk l.prog w (K w.params) mg base (lH l.prog w cv) k fa fd [x] (OS (K w.params) cv 1 g)):
 PySem.W.WalkO q loose XP YP l.row.toRowW d [] (λf vs=>adZ f vs):=by
 refine Att.attach_call hn PM λw aeq P3 mg mb fa o pm cd doc a vs ns G Y ho hd Bb MX G0 hints v6 Wh=>?_;have KX:=hY w _ Y;obtain⟨cv,fd,hb,hF⟩:=F w mg fa _ KX G.T.g MX;refine zI KX G.T.g G.T.b G.T.builtins G.T.nolimit Wh G0 hints (Yz v6 (Yz RH (Zm dH))) hr hF hb (λH hO hS=>?_) λH e s' z=>?_
 ·refine⟨H,[.scr ns],λ_ _ e=>e,⟨_,_,rfl,⟨a,rfl,hS,Yz v6 RH⟩,rfl⟩,rfl,?_⟩;rw[hg ns v6];exact λv H' F' e q=>q
 ·obtain⟨_,_,_,_,_,_,_,_,_,_,_,_,_,_,y⟩:=z
section
variable{X:Cx}{Xw:Nat->Hp->Prop}{e:Expr}
variable{o:Expr}{δo:DE}{δl:DA}{T0 bJ:Pos}
def Gp(x y:Str):Nat:=(Ze x y 0 x.length (x.length+1)).length
def y7:D->List D->M D
 | .str x,[.str y]=>aa (.int (Gp x y))
 |_,_=>af
def Kt:Rp X "str.count" (λx vs H Q=>∃y z:Str,x= .str y/\vs=[.str z]/\Q (.int (Gp y z)) H):=by
 intro f8 s σ H x vs v us Q I rx rv h;obtain⟨y,z,rfl,rfl,q⟩:=h;obtain⟨t,rfl⟩:=rx;obtain⟨u,rfl,r1⟩:=rv.one;obtain⟨t2,rfl⟩:=r1;exact call_gives F.slot_str_count (abo _ _ _) F.entry_str_count (F.args_str_count_2 _ _) (gives_str_count y z t t2) ⟨.int (Gp y z),H,I.tok _,⟨_,rfl⟩,q⟩
def KW(ho:PD X Xw o δo)(ha:nZ X Xw [e] δl)(j4:aah o "count" X.env (eval o X.env)=eval o X.env:=by rfl)
 (r0:((aae bJ (Yw [e] X.env)).all (λx=>!x.1)&&(aca bJ (aaH [] X.env)).all (λx=>x.1.isSome)&&decide ([e].length+([]:List aaC).length+(if ([]:List aaC).isEmpty then 0 else 1)<30))=ψ:=by rfl)
 (j5:(T0.endLine==bJ.line)=ψ:=by rfl)(G4:Yw [e] X.env=[(μ,eval e X.env)]:=by rfl):PD X Xw (.Call (.Attribute o "count" T0) [e] [] bJ) (dM yP y7 δo δl):=
 Md ac2 PySem.F.slot_str_count PySem.F.type_str_count Kt G_ (λXw F H x vs d ds Q s hx hv w=>by
  unfold y7 at w;split at w
  ·rename_i y z;obtain⟨v,rfl,h1⟩:=hv.one;exact⟨y,z,hx.1,by rw[h1.1],WP.now w s rfl⟩
  ·exact w.elim) ho ha j4 r0 j5 G4 rfl
end
def IsTupRev(h:Heap)(it t:Addr)(i:Int):Prop:=∃o,h.get? it=θ o/\o.cls= .type "reversed"/\o.data= .fields #[.ref t,acW i]
def IsTupRev.at{h h':Heap}{it t:Addr}{i:Int}(x:IsTupRev h it t i)(e:∀o,h.get? it=θ o->h'.get? it=θ o):IsTupRev h' it t i:=let ⟨o,ho,r⟩:=x;⟨o,e _ ho,r⟩
section
variable{e:Expr}
end
def me:D->Option Key
 | .int i=>θ (.inl i)
 | .str x=>θ (.inr x)
 |_=>ω
def oF:List D->Option (List Key)
 |[]=>θ []
 |d::ds=>match me d,oF ds with
  |some k,θ ks=>θ (k::ks)
  |_,_=>ω
def eJ:D->Option (List Key)
 | .tup ds=>oF ds
 |_=>ω
def i2{K:Ym}{F:Hp}(e:me d=θ k)(h:Den K F d v):v=kV k:=by
 cases d<;>first | cases e | skip
 ·exact h
 ·exact h.1
theorem j7{K:Ym}{F:Hp}:∀{ds:List D}{vs:List V}{ks:List Key},oF ds=θ ks->DenL K F ds vs->vs=ks.map kV
 |[],_,_,e,h=>by cases e;exact h
 |d::ds,_,_,e,⟨v,r,h1,h2,h3⟩=>by
  unfold oF at e;split at e
  ·rename_i k ks e1 e2;cases e;subst h1;rw[X9,i2 e1 h2,j7 e2 h3]
  ·cases e
section
variable{κ:Type}[DecidableEq κ]
def eh:List κ->List D->κ->Option D
 |k'::ks,d::ds,k=>if k'=k then θ d else eh ks ds k
 |_,_,_=>ω
def jD:List κ->List D->κ->D->List D
 |k'::ks,d'::ds,k,d=>(if k'=k then d else d')::jD ks ds k d
 |_,_,_,_=>[]
theorem nQ{K:Ym}{F:Hp}:∀{ks:List κ}{ds:List D}{vs:List V}(k:κ),DenL K F ds vs->ks.length=ds.length->
 (match eh ks ds k with | some d=>∃v,gu (ks.zip vs) k=θ v/\Den K F d v | none=>gu (ks.zip vs) k=ω)
 |[],[],_,_,_,_=>rfl
 |k'::ks,d::ds,_,k,⟨v,r,h1,h2,h3⟩,hl=>by
  subst h1;unfold eh;rw[ZO];by_cases e:k'=k
  ·rw[aef e,kX e];exact⟨v,rfl,h2⟩
  ·rw[aeh e,kW e];exact nQ k h3 (by simpa using hl)
 |[],_::_,_,_,_,hl=>by simp at hl
 |_::_,[],_,_,_,hl=>by simp at hl
def kS{K:Ym}{F:Hp}(k:κ)(h:DenL K F ds vs)(hl:ks.length=ds.length):(gu (ks.zip vs) k).isSome=(eh ks ds k).isSome:=by
 have:=nQ k h hl;split at this
 ·rename_i d e;obtain⟨v,e1,_⟩:=this;rw[e1,e];rfl
 ·rename_i e;rw[this,e];rfl
theorem Aw{K:Ym}{F:Hp}(hd:Den K F d v):∀{ks:List κ}{ds:List D}{vs:List V}(k:κ),DenL K F ds vs->ks.length=ds.length->
 ∃ws,(ks.zip vs).map (λkv=>if kv.1=k then(kv.1,v) else kv)=ks.zip ws/\DenL K F (jD ks ds k d) ws
 |[],[],_,_,h,_=>⟨[],rfl,rfl⟩
 |k'::ks,d'::ds,_,k,⟨v',r,h1,h2,h3⟩,hl=>by
  subst h1;obtain⟨ws,e1,e2⟩:=Aw hd k h3 (by simpa using hl);by_cases e:k'=k
  ·refine⟨v::ws,?_,?_⟩
   ·rw[ZO,X9,e1,aef e];rfl
   ·unfold jD;rw[aef e];exact .cons hd e2
  ·refine⟨v'::ws,?_,?_⟩
   ·rw[ZO,X9,e1,aeh e];rfl
   ·unfold jD;rw[aeh e];exact .cons h2 e2
 |[],_::_,_,_,_,hl=>by simp at hl
 |_::_,[],_,_,_,hl=>by simp at hl
theorem kE:∀(ks:List κ) (ds:List D) (k:κ) (d:D),ks.length=ds.length->(jD ks ds k d).length=ds.length
 |[],[],_,_,_=>rfl
 |_::ks,_::ds,k,d,h=>by unfold jD;rw[Yh,Yh,kE ks ds k d (by simpa using h)]
 |[],_::_,_,_,h=>by simp at h
 |_::_,[],_,_,h=>by simp at h
def cC(ks:List κ)(ds:List D)(k:κ):List κ:=if (eh ks ds k).isSome then ks else ks++[k]
def bZ(ks:List κ)(ds:List D)(k:κ)(d:D):List D:=if (eh ks ds k).isSome then jD ks ds k d else ds++[d]
def xY{K:Ym}(hd:Den K F d v)(k:κ)(h:DenL K F ds vs)(hl:ks.length=ds.length):
 ∃ws,putK (ks.zip vs) k v=(cC ks ds k).zip ws/\DenL K F (bZ ks ds k d) ws/\(cC ks ds k).length=(bZ ks ds k d).length:=by
 have hs:=kS k h hl;unfold putK cC bZ;have ha:((ks.zip vs).any λkv=>decide (kv.1=k))=(gu (ks.zip vs) k).isSome:=kU ..;rw[ha,hs];cases e:(eh ks ds k).isSome with
 |true=>
  rw[aef rfl,aef rfl,aef rfl];obtain⟨ws,e1,e2⟩:=Aw hd k h hl;exact⟨ws,e1,e2,by rw[kE ks ds k d hl];exact hl⟩
 |false=>
  rw[aeh YI,aeh YI,aeh YI];refine⟨vs++[v],?_,h.append (.cons hd .nil),by simp[hl]⟩;rw[abu (by rw[hl];exact h.len)];rfl
end
def Ek{κ:Type}{K:Ym}{ks:List κ}(h:DenL K F ds vs)(hl:ks.length=ds.length):(ks.zip vs).length=ds.length:=by
 rw[abw,hl,<-h.len];omega
def t9(ρ:bQ)(i:Nat):Option D:=match ρ[i]? with
 |some (θ (.fz d))=>θ d
 |some (θ (.ow c))=>θ c.d
 |_=>ω
def I_{K:Ym}(s:StE K F H σ ρ)(e:t9 ρ i=θ (.dct ks ds)):
 ∃a vs,σ[i]? =θ (θ (.ref a))/\Rd H a (.dT (ks.zip vs))/\DenL K F ds vs/\ks.length=ds.length/\ds.length<=lim:=by
 unfold t9 at e;split at e
 ·rename_i d e1;cases e;obtain⟨v,h1,a,ob,vs,rfl,h2,h3,h4,h5⟩:=s.den i _ e1;exact⟨a,vs,h1, .inr ⟨ob,s.fh _ _ h2⟩,h3,h4,h5⟩
 ·rename_i c e1;cases c<;>cases e
  obtain⟨v,h1,a,o,rfl,h2,_,vs,rfl,h3,h4,h5⟩:=s.den i _ e1;exact⟨a,vs,h1, .inl h2,h3,h4,h5⟩
 ·cases e
def I9{K:Ym}(s:StE K F H σ ρ)(e:t9 ρ i=θ (.dci ks ds)):
 ∃a vs,σ[i]? =θ (θ (.ref a))/\Rd H a (.dK (ks.zip vs))/\DenL K F ds vs/\ks.length=ds.length/\ds.length<=lim:=by
 unfold t9 at e;split at e
 ·rename_i d e1;cases e;obtain⟨v,h1,a,ob,vs,rfl,h2,h3,h4,h5⟩:=s.den i _ e1;exact⟨a,vs,h1, .inr ⟨ob,s.fh _ _ h2⟩,h3,h4,h5⟩
 ·rename_i c e1;cases c<;>cases e
  obtain⟨v,h1,a,o,rfl,h2,_,vs,rfl,h3,h4,h5⟩:=s.den i _ e1;exact⟨a,vs,h1, .inl h2,h3,h4,h5⟩
 ·cases e
def FU:D->D->Option (Option D)
 | .dct ks ds,k=>(eJ k).map (eh ks ds)
 | .dci ks ds,k=>(me k).map (eh ks ds)
 |_,_=>ω
def CM{K:Ym}(s:StE K F H σ ρ)(hi:t9 ρ i=θ d)(hk:Den K F k y)(e:FU d k=θ o):
 ∃a ov,σ[i]? =θ (θ (.ref a))/\ux H a y ov/\ov.isSome=o.isSome/\∀d',o=θ d'->∃v,ov=θ v/\Den K F d' v:=by
 unfold FU at e;split at e
 ·rename_i ks ds;cases q:eJ k with
  |none=>rw[q] at e;cases e
  |some kk=>
   rw[q] at e;cases e;obtain⟨a,vs,h1,h2,h3,h4,h5⟩:=I_ s hi;unfold eJ at q;split at q
   ·rename_i es;obtain⟨b,ws,rfl,k2,k3,_⟩:=hk;have e1:=j7 q k3;subst e1;refine⟨a,_,h1, .inr ⟨_,kk,b,h2,rfl,s.fh _ _ k2,rfl⟩,kS kk h3 h4,λd' Bc=>?_⟩;have:=nQ kk h3 h4;rw[Bc] at this;exact this
   ·cases q
 ·rename_i ks ds;cases q:me k with
  |none=>rw[q] at e;cases e
  |some kk=>
   rw[q] at e;cases e;obtain⟨a,vs,h1,h2,h3,h4,h5⟩:=I9 s hi;have e1:=i2 q hk;subst e1;refine⟨a,_,h1, .inl ⟨_,kk,h2,rfl,rfl⟩,kS kk h3 h4,λd' Bc=>?_⟩;have:=nQ kk h3 h4;rw[Bc] at this;exact this
 ·cases e
section
variable{X:Cx}{Xw:Nat->Hp->Prop}{a b:Expr}{δa δb:DE}{pos:Pos}
def QK(ha:PD X Xw a δa)(hb:PD X Xw b δb):PD X Xw (.Compare a [.Gt] [b] pos) (d2 MO δa δb):=xQ Mb (vS λ_ _ _=>rfl) ha hb
end
section
variable{X:Cx}{Xw:Nat->Hp->Prop}{a e:Expr}{δ δk δv:DE}{pos p pos' Am:Pos}{x:Str}{i:Nat}
def O_(neg:Bool)(i:Nat)(δ:DE):DE:=λρ=>δ ρ>>=λk=>match t9 ρ i with
 |some d=>match FU d k with
  |some o=>aa (.bl (if neg then !o.isSome else o.isSome))
  |none=>af
 |none=>af
def Na{neg:Bool}{σ:St}(h:tD X.K Xw (O_ neg i δ) σ H Q):(λσ H Q=>tD X.K Xw δ σ H λy H1=>mG i σ H1 λx H2=>∃a o,x= .ref a/\ux H2 a y o/\Q (.bl (if neg then !o.isSome else o.isSome)) H2) σ H Q:=by
 obtain⟨F,ρ,s,w⟩:=h;refine⟨F,ρ,s,WP.mono (WP.bind w) λy H1 ⟨F1,k,e1,q1,w1⟩=>?_⟩;have s1:=s.ext e1;cases hi:t9 ρ i with
 |none=>rw[hi] at w1;exact w1.elim
 |some d=>
  rw[hi] at w1;have w1:WP X.K Xw F1 H1 (match FU d k with | some o=>aa (.bl (if neg then !o.isSome else o.isSome)) | none=>af) Q:=w1;cases he:FU d k with
  |none=>rw[he] at w1;exact w1.elim
  |some o=>
   rw[he] at w1;obtain⟨a,ov,h1,h2,h3,_⟩:=CM s1 hi q1 he;refine⟨.ref a,h1,a,ov,rfl,h2,?_⟩;rw[h3];exact WP.now w1 e1.fh rfl
def TK(hu:X.A.units+64<cLine)(ha:PD X Xw a δ)(hv:PE X (.Name x p) (mG i))(hm:Y3 .In (.Name x p)=μ:=by rfl):PD X Xw (.Compare a [.In] [.Name x p] pos) (O_ μ i δ):=
 PE.weak (NW (NO (by omega) ha hv) hm) λσ H Q h=>Na (neg:=μ) h
def tW(i:Nat):DS:=λρ=>aa (.nx (ρ.set i (θ (.ow (.dct [] [])))))
def IU(i:Nat):DS:=λρ=>aa (.nx (ρ.set i (θ (.ow (.dci [] [])))))
def jc(hN:X.N.Nodup)(hi:X.N[i]? =θ x)(hx:Loc X.env.scope x)(hf:X.fn x=ψ\/X.env.scope.names.lookup x=θ .local:=by first | exact .inl rfl | exact .inr rfl):
 iQ X Xw (.Assign [.Name x pos'] (.Dict [] [] Am) pos) (tW i):=λu8 aep=>PS.weak (o8 Im (aY hN hi hx hf) rfl) λD σ H ⟨F,ρ,s,w⟩=>λq hq=>
 w _ F _ (s.setNew (c₀:= .dct [] []) hq ⟨[],rfl,rfl,rfl,YH _⟩)
def An(hN:X.N.Nodup)(hi:X.N[i]? =θ x)(hx:Loc X.env.scope x)(hf:X.fn x=ψ\/X.env.scope.names.lookup x=θ .local:=by first | exact .inl rfl | exact .inr rfl):
 iQ X Xw (.Assign [.Name x pos'] (.Dict [] [] Am) pos) (IU i):=λu8 aep=>PS.weak (o8 Al (aY hN hi hx hf) rfl) λD σ H ⟨F,ρ,s,w⟩=>λq hq=>
 w _ F _ (s.setNew (c₀:= .dci [] []) hq ⟨[],rfl,rfl,rfl,YH _⟩)
def gD:C->D->D->Option C
 | .dct ks ds,k,d=>match eJ k with
   |some kk=>if ds.length<lim then θ (.dct (cC ks ds kk) (bZ ks ds kk d)) else ω
   |none=>ω
 | .dci ks ds,k,d=>match me k with
   |some kk=>if ds.length<lim then θ (.dci (cC ks ds kk) (bZ ks ds kk d)) else ω
   |none=>ω
 |_,_,_=>ω
def qM(ρ:bQ)(i:Nat):Option C:=match ρ[i]? with
 |some (θ (.ow c))=>θ c
 |_=>ω
def oX{ρ:bQ}{i:Nat}(h:qM ρ i=θ c):ρ[i]? =θ (θ (.ow c)):=by
 unfold qM at h;split at h
 ·rename_i c' e;cases h;exact e
 ·cases h
def dO(i:Nat)(δk δv:DE):DS:=λρ=>match qM ρ i with
 |some c=>δv ρ>>=λv=>δk ρ>>=λk=>match gD c k v with
  |some c'=>aa (.nx (ρ.set i (θ (.ow c'))))
  |none=>af
 |none=>af
def v3{κ:Type}[DecidableEq κ]{ks:List κ}{k:κ}(hl:ks.length=ds.length)(h:ds.length<lim):(bZ ks ds k d).length<=lim:=by
 unfold bZ;split
 ·rw[kE ks ds k d hl];omega
 ·rw[Yg];exact h
def IF{K:Ym}{F H:Hp}(hs:Same F H)(hb:H b=θ o)(hc:DenC K F c o)(hk:Den K F k y)(hd:Den K F d v)(e:gD c k d=θ c'):∃o',DPut H b y v (upd H b o')/\DenC K F c' o':=by
 have GX:=dH;unfold gD at e;split at e
 ·rename_i ks ds k d;obtain⟨vs,rfl,h3,h4,h5⟩:=hc;split at e
  ·rename_i kk q;split at e
   ·rename_i il;cases e;unfold eJ at q;split at q
    ·rename_i es;obtain⟨b2,ws,rfl,k2,k3,_⟩:=hk;have e1:=j7 q k3;subst e1;obtain⟨us,e2,e3,e4⟩:=xY hd kk h3 h4;refine⟨_,DPut.t hb (hs _ _ k2) (by rw[Ek h3 h4];omega),us,?_,e3,e4,v3 h4 il⟩;rw[e2]
    ·cases q
   ·cases e
  ·cases e
 ·rename_i ks ds k d;obtain⟨vs,rfl,h3,h4,h5⟩:=hc;split at e
  ·rename_i kk q;split at e
   ·rename_i il;cases e;have e1:=i2 q hk;subst e1;obtain⟨us,e2,e3,e4⟩:=xY hd kk h3 h4;refine⟨_,DPut.k hb (by rw[Ek h3 h4];omega),us,?_,e3,e4,v3 h4 il⟩;rw[e2]
   ·cases e
  ·cases e
 ·cases e
def fg(hu:X.A.units+64<cLine)(hv:PE X (.Name x p) (mG i))(hk:PD X Xw a δk)(he:PD X Xw e δv)(hs:aaY e (θ (.Subscript (.Name x p) a pos')) pos.line X.env=pure μ:=by rfl):
 iQ X Xw (.Assign [.Subscript (.Name x p) a pos'] e pos) (dO i δk δv):=λu8 aep=>PS.weak (DZ (by omega) hv hk he hs) λD σ H ⟨F,ρ,s,w⟩=>by
 unfold dO at w;cases ho:qM ρ i with
 |none=>rw[ho] at w;exact w.elim
 |some c=>
  rw[ho] at w;have hi:=oX ho;have w:WPS X.K Xw u8 aep (δv ρ>>=λv=>δk ρ>>=λk=>match gD c k v with | some c'=>aa (.nx (ρ.set i (θ (.ow c')))) | none=>af) D:=w;refine⟨F,ρ,s.st,?_⟩;rcases(δv ρ).cs with q | ⟨n,q⟩ | ⟨dv,q⟩
  ·rw[q] at w;exact w.elim
  ·rw[q] at w⊢;exact λF' H' e'=>w F' H' (s.ext.trans e')
  ·rw[q] at w⊢;intro v H1 F1 e1 hq;have s1:=s.ext' e1;obtain⟨u,h1,b,o,rfl,h2,h3,h4⟩:=s1.st.den i _ hi;have w:WPS X.K Xw u8 aep (δk ρ>>=λk=>match gD c k dv with | some c'=>aa (.nx (ρ.set i (θ (.ow c')))) | none=>af) D:=w;refine⟨.ref b,h1,F1,ρ,s1.st,?_⟩;rcases(δk ρ).cs with q2 | ⟨n,q2⟩ | ⟨dk,q2⟩
   ·rw[q2] at w;exact w.elim
   ·rw[q2] at w⊢;exact λF' H' e'=>w F' H' (s1.ext.trans e')
   ·rw[q2] at w⊢;intro y H2 F2 e2 hy;have w:WPS X.K Xw u8 aep (match gD c dk dv with | some c'=>aa (.nx (ρ.set i (θ (.ow c')))) | none=>af) D:=w;cases hp:gD c dk dv with
    |none=>rw[hp] at w;exact w.elim
    |some c'=>
     rw[hp] at w;have s2:=s1.ext' e2;obtain⟨u2,k1,b2,o2,PF,k2,k3,k4⟩:=s2.st.den i _ hi;rw[h1] at k1;cases k1;cases PF;obtain⟨o',g,hc⟩:=IF s2.st.fh k2 k4 hy (Den.mono e2.ff hq) hp;exact⟨b,_,rfl,g,w σ F2 _ (s2.chg hi h1 hc)⟩
end
def fC(c:DT)(body:DS):Nat->DS
 |0,_=>af
 |n+1,ρ=>c ρ>>=λb=>if b then body ρ>>=λo=>match o with | .nx ρ'=>fC c body n ρ' | .rt d=>aa (.rt d) else aa (.nx ρ)
def yd(c:DT)(body:DS):DS:=λρ=>fC c body lim ρ
section
variable{X:Cx}{Xw:Nat->Hp->Prop}{τ:DS}{tc:DT}{pos:Pos}
def o9(hp:adq (model X.prog X.w) X.A X.env X.xe)(hc:n0 X Xw c tc)(hb:PSDs X Xw body τ):iQ X Xw (.While c body [] pos) (yd tc τ):=λu8 aep=>PS.weak (Iw hp hc hb.ex) λD σ H ⟨F,ρ,s,w⟩=>by
 refine⟨λm σ H=>∃F ρ,StOk X.K u8 aep F H σ ρ/\WPS X.K Xw u8 aep (fC tc τ m ρ) D,⟨lim,F,ρ,s,w⟩,?_⟩;rintro m σ H ⟨F,ρ,s,w⟩;cases m with
 |zero=>exact w.elim
 |succ m=>
  refine⟨F,ρ,s.st,?_⟩;unfold fC at w
  match tc ρ,w with
  |none,w=>exact w
  |some (.ex n),w=>exact λF' H' e'=>w F' H' (s.ext.trans e')
  |some (.ok μ),w=>exact λH' F' e'=>w σ F' H' (s.ext' e')
  |some (.ok ψ),w=>
   intro H' F' e';have w:WPS X.K Xw u8 aep (τ ρ>>=λo=>match o with | .nx ρ'=>fC tc τ m ρ' | .rt d=>aa (.rt d)) D:=w;refine⟨λσ' H'=>∃F' ρ',StOk X.K u8 aep F' H' σ' ρ'/\WPS X.K Xw u8 aep (fC tc τ m ρ') D,λσ' H' h=>⟨m,acF m,h⟩,u8,aep,F',ρ,s.ext' e',?_⟩
   match τ ρ,w with
   |none,w=>exact w
   |some (.ok (.nx ρ')),w=>exact λσ' F' H' s'=>⟨F',ρ',s',w⟩
   |some (.ok (.rt d)),w=>exact w
   |some (.ex n),w=>exact w
end
def mX:List D->Option (List (List Key))
 |[]=>θ []
 |d::ds=>match eJ d,mX ds with
  |some k,θ ks=>θ (k::ks)
  |_,_=>ω
def MI:∀{x y:D}{k k':Key}{n:Nat},me x=θ k->me y=θ k'->ma n x y=θ (decide (k=k'))
 | .int i, .int j,_,_,n,e1,e2=>by
   cases e1;cases e2;have:ma n (.int i) (.int j)=θ (i==j):=by cases n<;>rfl
   rw[this];congr 1;by_cases h:i=j
   ·subst h;simp
   ·simp[h]
 | .str x, .str y,_,_,n,e1,e2=>by
   cases e1;cases e2;have:ma n (.str x) (.str y)=θ (x==y):=by cases n<;>rfl
   rw[this];congr 1;by_cases h:x=y
   ·subst h;simp
   ·simp[h]
 | .int i, .str y,_,_,n,e1,e2=>by
   cases e1;cases e2;have:ma n (.int i) (.str y)=θ μ:=by cases n<;>rfl
   rw[this];simp
 | .str x, .int j,_,_,n,e1,e2=>by
   cases e1;cases e2;have:ma n (.str x) (.int j)=θ μ:=by cases n<;>rfl
   rw[this];simp
 | .non,_,_,_,_,e1,_=>by cases e1
 | .bl _,_,_,_,_,e1,_=>by cases e1
 | .raw _,_,_,_,_,e1,_=>by cases e1
 | .exc _,_,_,_,_,e1,_=>by cases e1
 | .scr _,_,_,_,_,e1,_=>by cases e1
 | .tup _,_,_,_,_,e1,_=>by cases e1
 | .lst _,_,_,_,_,e1,_=>by cases e1
 | .dct _ _,_,_,_,_,e1,_=>by cases e1
 | .dci _ _,_,_,_,_,e1,_=>by cases e1
 |_, .non,_,_,_,_,e2=>by cases e2
 |_, .bl _,_,_,_,_,e2=>by cases e2
 |_, .raw _,_,_,_,_,e2=>by cases e2
 |_, .exc _,_,_,_,_,e2=>by cases e2
 |_, .scr _,_,_,_,_,e2=>by cases e2
 |_, .tup _,_,_,_,_,e2=>by cases e2
 |_, .lst _,_,_,_,_,e2=>by cases e2
 |_, .dct _ _,_,_,_,_,e2=>by cases e2
 |_, .dci _ _,_,_,_,_,e2=>by cases e2
theorem C0:∀{xs ys:List D}{k k':List Key},oF xs=θ k->oF ys=θ k'->rO (ma n) xs ys=θ (decide (k=k'))
 |[],[],_,_,e1,e2=>by cases e1;cases e2;rfl
 |x::xs,[],_,_,e1,e2=>by
  cases e2;unfold oF at e1;split at e1
  ·cases e1;simp[rO]
  ·cases e1
 |[],y::ys,_,_,e1,e2=>by
  cases e1;unfold oF at e2;split at e2
  ·cases e2;simp[rO]
  ·cases e2
 |x::xs,y::ys,_,_,e1,e2=>by
  unfold oF at e1 e2;split at e1
  ·rename_i k ks q1 q2;cases e1;split at e2
   ·rename_i k' ks' q3 q4;cases e2;unfold rO;rw[MI q1 q3,C0 q2 q4];simp
   ·cases e2
  ·cases e1
def J0(e1:eJ x=θ k)(e2:eJ y=θ k'):ma (n+1) x y=θ (decide (k=k')):=by
 cases x with
 |tup xs=>
  cases y with
  |tup ys=>exact C0 e1 e2
  |_=>cases e2
 |_=>cases e1
def Hi{K:Ym}(e:eJ d=θ k)(h:Den K F d v):∃a,v= .ref a/\F a=θ (.tup (k.map kV)):=by
 cases d with
 |tup ds=>
  obtain⟨a,vs,rfl,h2,h3,_⟩:=h;have:=j7 e h3;subst this;exact⟨a,rfl,h2⟩
 |_=>cases e
def oM(k:List Key)(ks:List (List Key)):Bool:=ks.any λk'=>decide (k'=k)
open Classical in
noncomputable def isKey(H:Hp)(k:List Key)(u:Value):Bool:=decide (∃a,u= .ref a/\H a=θ (.tup (k.map kV)))
def ET{K:Ym}(hs:Same F H)(e:eJ d=θ k')(h:Den K F d v)(r:RelV v u):isKey H k u=decide (k'=k):=by
 obtain⟨a,rfl,h2⟩:=Hi e h;cases (show u=_ from r);unfold isKey;by_cases hk:k'=k
 ·subst hk;rw[aeg rfl];exact @aeg _ (acI _) ⟨a,rfl,hs _ _ h2⟩
 ·rw[aek hk];refine @aek _ (acI _) λ⟨b,e1,e2⟩=>hk ?_;cases e1;rw[hs _ _ h2] at e2;injection e2 with e2
  injection e2 with e2
  exact Dk e2
theorem i4(I:Inv X f8 σ H s)(hs:Same F H)(hu:A.units+6<cLine)(ex:eJ x=θ k)(hx:Den X.K F x v)(rx:RelV v u):
 ∀{ys:List D}{vs:List V}{aS:List Value}{ks:List (List Key)},mX ys=θ ks->DenL X.K F ys vs->Vals vs aS->aS.any (isKey H k)=oM k ks/\∀t∈aS,EqAt A s t u (isKey H k t)
 |[],_,_,_,e,h,r=>by
  cases e;cases (show _=_ from h);cases r;exact⟨rfl,λt ht=>by cases ht⟩
 |y::ys,_,_,_,e,⟨w,ws,h1,h2,h3⟩,r=>by
  subst h1;unfold mX at e;split at e
  ·rename_i k' ks e1 e2;cases e;cases r with
   |cons r1 r2=>
    obtain⟨Kf,Ql⟩:=i4 I hs hu ex hx rx e2 h3 r2;have hk:=ET (k:=k) hs e1 h2 r1;refine⟨?_,λt ht=>?_⟩
    ·rw[aar,Kf,hk];rfl
    ·rcases Ye.mp ht with rfl | ht
     ·rw[hk];exact(wZ I hs 6 A y x w v t u _ hu h2 hx r1 rx (J0 e1 ex)).eq
     ·exact Ql t ht
  ·cases e
def qE(neg:Bool):D->D->M D
 |x, .lst ys=>match eJ x,mX ys with
  |some k,θ ks=>aa (.bl (if neg then !oM k ks else oM k ks))
  |_,_=>af
 |x, .tup ys=>match eJ x,mX ys with
  |some k,θ ks=>aa (.bl (if neg then !oM k ks else oM k ks))
  |_,_=>af
 |_,_=>af
def Oi(K:Ym)(neg:Bool):R2:=λx y H Q=>∃F dx ys vs p k ks,Same F H/\Den K F dx x/\eJ dx=θ k/\mX ys=θ ks/\DenL K F ys vs/\y= .ref p/\(SqL K H p vs\/SqT K H p vs)/\Q (.bl (if neg then !oM k ks else oM k ks)) H
section
variable{X:Cx}{Xw:Nat->Hp->Prop}{a b:Expr}{δa δb:DE}{pos:Pos}
def NI(hu:X.A.units+64<cLine):OpR X (Zf .In) (Oi X.K μ):=by
 intro f8 s σ H x y v u Q I rx ry h;obtain⟨F,dx,ys,vs,p,k,ks,hs,hx,ex,ek,hd,rfl,hq,q⟩:=h;cases (show u=_ from ry);have JA:X.A.in1.units+6<cLine:=by show X.A.units+1+6<cLine;omega
 rcases hq with hq | hq
 ·obtain⟨aS,r,pl,hz⟩:=I.list hq;obtain⟨e1,e2⟩:=i4 I hs JA ex hx rx ek hd r;refine SeqAt.in_listAt (isKey H k) pl.isList (λw hw=>e2 w (by simpa using hw)) ⟨.bl _,H,I,rfl,?_⟩;rw[show aS.toArray.any (isKey H k)=aS.any (isKey H k) by simp,e1];exact q
 ·obtain⟨aS,r,pl,hz⟩:=I.tuple hq;obtain⟨e1,e2⟩:=i4 I hs JA ex hx rx ek hd r;refine SeqAt.in_tupleAt (isKey H k) pl (λw hw=>e2 w (by simpa using hw)) ⟨.bl _,H,I,rfl,?_⟩;rw[show aS.toArray.any (isKey H k)=aS.any (isKey H k) by simp,e1];exact q
def Fi(hu:X.A.units+64<cLine):OpR X (Zf .NotIn) (Oi X.K ψ):=by
 intro f8 s σ H x y v u Q I rx ry h;obtain⟨F,dx,ys,vs,p,k,ks,hs,hx,ex,ek,hd,rfl,hq,q⟩:=h;cases (show u=_ from ry);have JA:X.A.in1.units+6<cLine:=by show X.A.units+1+6<cLine;omega
 rcases hq with hq | hq
 ·obtain⟨aS,r,pl,hz⟩:=I.list hq;obtain⟨e1,e2⟩:=i4 I hs JA ex hx rx ek hd r;refine adO (isKey H k) pl.isList (λw hw=>e2 w (by simpa using hw)) ⟨.bl _,H,I,rfl,?_⟩;rw[show aS.toArray.any (isKey H k)=aS.any (isKey H k) by simp,e1];exact q
 ·obtain⟨aS,r,pl,hz⟩:=I.tuple hq;obtain⟨e1,e2⟩:=i4 I hs JA ex hx rx ek hd r;refine adC (isKey H k) pl (λw hw=>e2 w (by simpa using hw)) ⟨.bl _,H,I,rfl,?_⟩;rw[show aS.toArray.any (isKey H k)=aS.any (isKey H k) by simp,e1];exact q
def G6{K:Ym}:A_ K (Oi K neg) (qE neg):=λXw F H x y dx dy Q s hx hy w=>by
 unfold qE at w;split at w
 ·rename_i ys;split at w
  ·rename_i k ks e1 e2;obtain⟨p,vs,h1,h2,h3,_⟩:=hy;exact⟨F,dx,ys,vs,p,k,ks,s,hx,e1,e2,h3,h1, .inl (SqL.of (s _ _ h2)),WP.now w s rfl⟩
  ·exact w.elim
 ·rename_i ys;split at w
  ·rename_i k ks e1 e2;obtain⟨p,vs,h1,h2,h3,_⟩:=hy;exact⟨F,dx,ys,vs,p,k,ks,s,hx,e1,e2,h3,h1, .inr (SqT.of (s _ _ h2)),WP.now w s rfl⟩
  ·exact w.elim
 ·exact w.elim
def IC(hu:X.A.units+64<cLine)(ha:PD X Xw a δa)(hb:PD X Xw b δb)(hm:Y3 .In b=μ:=by rfl):n0 X Xw (.Compare a [.In] [b] pos) (cT (d2 (qE μ) δa δb)):=f9 (NI hu) G6 ha hb hm
def Fx(hu:X.A.units+64<cLine)(ha:PD X Xw a δa)(hb:PD X Xw b δb)(hm:Y3 .NotIn b=μ:=by rfl):n0 X Xw (.Compare a [.NotIn] [b] pos) (cT (d2 (qE ψ) δa δb)):=f9 (Fi hu) G6 ha hb hm
end
end L3
namespace L3
open PySem PySem.W PyProof.Rows
def d3(b:Nat->Nat->Bool):KasT α->α
 | .ret a=>a
 | .ask i j k=>d3 b (k (b i j))
theorem gN(b:Nat->Nat->Bool)(f:α->KasT β):∀t:KasT α,d3 b (t.bind f)=d3 b (f (d3 b t))
 | .ret _=>rfl
 | .ask i j k=>gN b f (k (b i j))
structure Lt (n:Nat) (b:Nat->Nat->Bool):Prop where
 tr:∀i j k,b i j=ψ->b j k=ψ->b i k=ψ
 XO:∀i j,b i j=ψ->b j i=μ
 tot:∀i j,i<n->j<n->i≠j->b i j=ψ\/b j i=ψ
abbrev at'(p:Array Nat)(i:Nat):Nat:=p.getD i 0
def Ri(b:Nat->Nat->Bool)(p:Array Nat)(k:Nat):Prop:=∀i j,i<j->j<k->b (at' p i) (at' p j)=ψ
def Fa(b:Nat->Nat->Bool)(p:Array Nat)(k:Nat):Prop:=∀i j,i<j->j<k->b (at' p j) (at' p i)=ψ
structure PN (n:Nat) (p:Array Nat):Prop where
 sz:p.size=n
 lt:∀i,i<n->at' p i<n
 inj:∀i j,i<n->j<n->at' p i=at' p j->i=j
section
variable{n:Nat}{b:Nat->Nat->Bool}(L:Lt n b)
include L
theorem Ri.more(h:Ri b p k)(h1:1<=k)(e:b (at' p (k - 1)) (at' p k)=ψ):Ri b p (k+1):=λi j vy hj=>by
 by_cases hk:j<k
 ·exact h i j vy hk
 ·have:j=k:=by omega
  subst this;by_cases hi:i=j - 1
  ·subst hi;exact e
  ·exact L.tr _ _ _ (h i (j - 1) (by omega) (by omega)) e
theorem Fa.more(h:Fa b p k)(h1:1<=k)(e:b (at' p k) (at' p (k - 1))=ψ):Fa b p (k+1):=λi j vy hj=>by
 by_cases hk:j<k
 ·exact h i j vy hk
 ·have:j=k:=by omega
  subst this;by_cases hi:i=j - 1
  ·subst hi;exact e
  ·exact L.tr _ _ _ e (h i (j - 1) (by omega) (by omega))
theorem wJ(P:PN n p):∀(f k:Nat),1<=k->k+f<=n->Ri b p k->k<=d3 b (kas_asc p f k)/\d3 b (kas_asc p f k)<=k+f/\Ri b p (d3 b (kas_asc p f k))/\(d3 b (kas_asc p f k)<k+f->b (at' p (d3 b (kas_asc p f k))) (at' p (d3 b (kas_asc p f k) - 1))=ψ)
 |0,k,h1,hn,h=>⟨X_ _,X_ _,h,λz=>ael z (Zb _)⟩
 |f+1,k,h1,hn,h=>by
  have e:d3 b (kas_asc p (f+1) k)=d3 b (if b (at' p k) (at' p (k - 1))=ψ then KasT.ret k else kas_asc p f (k+1)):=rfl;rw[e];by_cases hb:b (at' p k) (at' p (k - 1))=ψ
  ·rw[aef hb];exact⟨X_ _,by show k<=_;omega,h,λ_=>hb⟩
  ·rw[aeh hb];have hr:b (at' p (k - 1)) (at' p k)=ψ:=by
    rcases L.tot (at' p (k - 1)) (at' p k) (P.lt _ (by omega)) (P.lt _ (by omega)) (λz=>by have:=P.inj _ _ (by omega) (by omega) z;omega) with q | q
    ·exact q
    ·exact ael q hb
   obtain⟨a1,a2,a3,a4⟩:=wJ P f (k+1) (by omega) (by omega) (Ri.more L h h1 hr);exact⟨by omega,by omega,a3,λz=>a4 (by omega)⟩
theorem zd(P:PN n p):∀(f k:Nat),1<=k->k+f<=n->Fa b p k->∃m,d3 b (kas_desc f p k 0)=(p,m,0)/\k<=m/\m<=k+f/\Fa b p m
 |0,k,h1,hn,h=>⟨k,rfl,X_ _,X_ _,h⟩
 |f+1,k,h1,hn,h=>by
  have e:d3 b (kas_desc (f+1) p k 0)=d3 b (if b (at' p k) (at' p (k - 1))=ψ then(if 0>0 then kas_desc f (kas_rev p (k - (0+1)) k) (k+1) 0 else kas_desc f p (k+1) 0)
   else .ask (p.getD (k - 1) 0) (p.getD k 0) λd=>if d=ψ then .ret (p,k,0) else kas_desc f p (k+1) (0+1)):=rfl
  rw[e];by_cases hb:b (at' p k) (at' p (k - 1))=ψ
  ·rw[aef hb,aeh (by omega)];obtain⟨m,e1,e2,e3,e4⟩:=zd P f (k+1) (by omega) (by omega) (Fa.more L h h1 hb);exact⟨m,e1,by omega,by omega,e4⟩
  ·rw[aeh hb];have hr:b (at' p (k - 1)) (at' p k)=ψ:=by
    rcases L.tot (at' p (k - 1)) (at' p k) (P.lt _ (by omega)) (P.lt _ (by omega)) (λz=>by have:=P.inj _ _ (by omega) (by omega) z;omega) with q | q
    ·exact q
    ·exact ael q hb
   refine⟨k,?_,X_ _,by omega,h⟩;show d3 b (if b (at' p (k - 1)) (at' p k)=ψ then KasT.ret (p,k,0) else kas_desc f p (k+1) (0+1))=_;rw[aef hr];rfl
end
def d_(p:Array Nat)(k:Nat):at' p k=(p[k]?).getD 0:=by
 unfold at';rw[Array.getD_eq_getD_getElem?]
def IQ(hm:m<=p.size)(k:Nat):at' (kas_rev p 0 m) k=if k<m then at' p (m - 1 - k) else at' p k:=by
 have e:=getElem?_mirror_all (i:=0) hm k;rw[d_];show (((mirror p 0 m ((m - 0) / 2))[k]?).getD 0)=_;rw[e];by_cases h:k<m
 ·rw[aef ⟨YH _,h⟩,aef h,d_,aaT]
 ·rw[aeh (λz=>h z.2),aeh h,d_]
def Gd(hk:k<p.size)(hl:l<=k)(j:Nat):at' (bubble p k (k - l)) j=if j=l then at' p k else if l<j/\j<=k then at' p (j - 1) else at' p j:=by
 have e:=getElem?_bubble hk (k - l) (by omega) j;have e2:k - (k - l)=l:=by omega
 rw[e2] at e;rw[d_ (bubble p k (k - l)),e,d_ p k,d_ p (j - 1),d_ p j];by_cases c1:j=l
 ·rw[aef c1,aef c1]
 ·rw[aeh c1,aeh c1];by_cases c2:l<j/\j<=k
  ·rw[aef c2,aef c2]
  ·rw[aeh c2,aeh c2]
section
variable{n:Nat}{b:Nat->Nat->Bool}
def PN.rev(P:PN n p)(hm:m<=n):PN n (kas_rev p 0 m):=by
 have ha:=IQ (by rw[P.sz];exact hm);refine⟨(mirror_size ..).trans P.sz,λi hi=>?_,λi j hi hj e=>?_⟩
 ·rw[ha];split
  ·exact P.lt _ (by omega)
  ·exact P.lt _ hi
 ·rw[ha,ha] at e;split at e<;>split at e
  ·have:=P.inj _ _ (by omega) (by omega) e;omega
  ·have:=P.inj _ _ (by omega) hj e;omega
  ·have:=P.inj _ _ hi (by omega) e;omega
  ·exact P.inj _ _ hi hj e
def PN.bub(P:PN n p)(hk:k<n)(hl:l<=k):PN n (bubble p k (k - l)):=by
 have ha:=Gd (by rw[P.sz];exact hk) hl;refine⟨(bubble_size ..).trans P.sz,λi hi=>?_,λi j hi hj e=>?_⟩
 ·rw[ha];split
  ·exact P.lt _ hk
  ·split
   ·exact P.lt _ (by omega)
   ·exact P.lt _ hi
 ·rw[ha,ha] at e;split at e
  ·split at e
   ·omega
   ·split at e
    ·have:=P.inj _ _ hk (by omega) e;omega
    ·have:=P.inj _ _ hk hj e;omega
  ·split at e
   ·split at e
    ·have:=P.inj _ _ (by omega) hk e;omega
    ·split at e
     ·have:=P.inj _ _ (by omega) (by omega) e;omega
     ·have:=P.inj _ _ (by omega) hj e;omega
   ·split at e
    ·have:=P.inj _ _ hi hk e;omega
    ·split at e
     ·have:=P.inj _ _ hi (by omega) e;omega
     ·exact P.inj _ _ hi hj e
def Fa.rev(P:PN n p)(hm:m<=n)(h:Fa b p m):Ri b (kas_rev p 0 m) m:=λi j vy hj=>by
 have ha:=IQ (by rw[P.sz];exact hm);rw[ha,ha,aef (by omega),aef hj];exact h _ _ (by omega) (by omega)
variable(L:Lt n b)
include L
theorem Jk(P:PN n p)(h1:1<=m)(hm:m<=n)(h:Fa b p m):∃k q,d3 b (kas_tail3 m n p)=(k,q)/\PN n q/\1<=k/\k<=n/\Ri b q k:=by
 unfold kas_tail3;rw[gN];obtain⟨a1,a2,a3,_⟩:=wJ L (P.rev hm) (n - m) m h1 (by omega) (Fa.rev P hm h);exact⟨_,_,rfl,P.rev hm,by omega,by omega,a3⟩
theorem ED(P:PN n p)(h2:2<=n):∃k q,d3 b (kas_count n p)=(k,q)/\PN n q/\1<=k/\k<=n/\Ri b q k:=by
 unfold kas_count;rw[gN];obtain⟨a1,a2,a3,a4⟩:=wJ L P (n - 1) 1 (X_ _) (by omega) (λi j vy hj=>by omega);generalize d3 b (kas_asc p (n - 1) 1)=m at a1 a2 a3 a4;by_cases he:m=n
 ·subst he;rw[aef (by simp)];exact⟨m,p,rfl,P,by omega,X_ _,a3⟩
 ·rw[aeh (by simpa using he)];by_cases hg:m>1
  ·rw[aef hg];have hb:b (p.getD 0 0) (p.getD (m - 1) 0)=ψ:=a3 0 (m - 1) (by omega) (by omega);show∃k q,d3 b (if b (p.getD 0 0) (p.getD (m - 1) 0)=ψ then KasT.ret (m,p) else kas_descPart m n (kas_rev p 0 m))=(k,q)/\_;rw[aef hb];exact⟨m,p,rfl,P,by omega,by omega,a3⟩
  ·rw[aeh hg];have hm:m=1:=by omega
   subst hm;have hb:=a4 (by omega);unfold kas_descPart;rw[gN];obtain⟨m,e1,e2,e3,e4⟩:=zd L P (n - (1+1)) (1+1) (by omega) (by omega) (λi j vy hj=>by
    have hi:i=0:=by omega
    have hj:j=1:=by omega
    subst hi hj;exact hb)
   rw[e1]
   dsimp only
   rw[aeh (by omega)];exact Jk L P (by omega) (by omega) e4
theorem o7(P:PN n p)(hk:k<n)(h:Ri b p k):∀(f l r:Nat),l<=r->r<=k->r - l<=f->(∀i,i<l->b (at' p i) (at' p k)=ψ)->(∀i,r<=i->i<k->b (at' p k) (at' p i)=ψ)->
 d3 b (kas_place p k f l r)<=k/\(∀i,i<d3 b (kas_place p k f l r)->b (at' p i) (at' p k)=ψ)/\∀i,d3 b (kas_place p k f l r)<=i->i<k->b (at' p k) (at' p i)=ψ
 |0,l,r,h1,h2,h3,h4,h5=>by
  have:r=l:=by omega
  subst this;exact⟨h2,h4,h5⟩
 |f+1,l,r,h1,h2,h3,h4,h5=>by
  unfold kas_place;by_cases U0:l>=r
  ·rw[aef U0];have:r=l:=by omega
   subst this;exact⟨h2,h4,h5⟩
  ·rw[aeh U0];have hm:(l+r) / 2<r:=by omega
   have GY:l<=(l+r) / 2:=by omega
   show d3 b (if b (at' p k) (at' p ((l+r) / 2))=ψ then kas_place p k f l ((l+r) / 2) else kas_place p k f ((l+r) / 2+1) r)<=k/\(∀i,i<d3 b (if b (at' p k) (at' p ((l+r) / 2))=ψ then kas_place p k f l ((l+r) / 2) else kas_place p k f ((l+r) / 2+1) r)->_)/\∀i,d3 b (if b (at' p k) (at' p ((l+r) / 2))=ψ then kas_place p k f l ((l+r) / 2) else kas_place p k f ((l+r) / 2+1) r)<=i->_;by_cases hb:b (at' p k) (at' p ((l+r) / 2))=ψ
   ·rw[aef hb];refine o7 P hk h f l ((l+r) / 2) GY (by omega) (by omega) h4 λi hi Wk=>?_;by_cases e:i=(l+r) / 2
    ·rw[e];exact hb
    ·exact L.tr _ _ _ hb (h _ _ (by omega) Wk)
   ·rw[aeh hb];have hr:b (at' p ((l+r) / 2)) (at' p k)=ψ:=by
     rcases L.tot (at' p ((l+r) / 2)) (at' p k) (P.lt _ (by omega)) (P.lt _ hk) (λz=>by have:=P.inj _ _ (by omega) hk z;omega) with q | q
     ·exact q
     ·exact ael q hb
    refine o7 P hk h f ((l+r) / 2+1) r (by omega) h2 (by omega) (λi hi=>?_) h5;by_cases e:i=(l+r) / 2
    ·rw[e];exact hr
    ·exact L.tr _ _ _ (h i ((l+r) / 2) (by omega) (by omega)) hr
theorem CO:∀(f:Nat) {p:Array Nat}{k:Nat},PN n p->k+f<=n->Ri b p k->PN n (d3 b (kas_bin f p k))/\Ri b (d3 b (kas_bin f p k)) (k+f)
 |0,p,k,P,_,h=>⟨P,h⟩
 |f+1,p,k,P,hn,h=>by
  have hk:k<n:=by omega
  unfold kas_bin;rw[gN];obtain⟨a1,a2,a3⟩:=o7 L P hk h k 0 k (YH _) (X_ _) (by omega) (λi hi=>by omega) (λi h1 h2=>by omega);generalize d3 b (kas_place p k k 0 k)=l at a1 a2 a3;have ha:=Gd (by rw[P.sz];exact hk) a1;have hR:Ri b (bubble p k (k - l)) (k+1):=λi j vy hj=>by
   rw[ha,ha];by_cases c1:i=l
   ·rw[aef c1,aeh (by omega),aef ⟨by omega,by omega⟩];exact a3 _ (by omega) (by omega)
   ·rw[aeh c1];by_cases c2:j=l
    ·rw[aef c2,aeh (by omega)];exact a2 _ (by omega)
    ·rw[aeh c2];by_cases c3:l<i/\i<=k
     ·rw[aef c3,aef ⟨by omega,by omega⟩];exact h _ _ (by omega) (by omega)
     ·rw[aeh c3];by_cases c4:l<j/\j<=k
      ·rw[aef c4];exact h _ _ (by omega) (by omega)
      ·rw[aeh c4];exact h _ _ vy (by omega)
  have:=CO f (P.bub hk a1) (by omega) hR;rw[show k+(f+1)=k+1+f by omega];exact this
theorem AJ(h2:2<=n):PN n (d3 b (kas_sort n))/\Ri b (d3 b (kas_sort n)) n:=by
 have P0:PN n (YX (Yr n)):=by
  have e:∀i,i<n->at' (YX (Yr n)) i=i:=λi hi=>by rw[d_];simp[hi]
  exact⟨by simp,λi hi=>by rw[e i hi];exact hi,λi j hi hj z=>by rw[e i hi,e j hj] at z;exact z⟩
 unfold kas_sort;rw[gN];obtain⟨k,q,e,P,k1,kn,hR⟩:=ED L P0 h2;rw[e]
 dsimp only
 by_cases il:k<n
 ·rw[aef il];have:=CO L (n - max k 1) (k:=max k 1) P (by omega) (by rw[show max k 1=k by omega];exact hR);rw[show max k 1+(n - max k 1)=n by omega] at this;exact this
 ·rw[aeh il];have:k=n:=by omega
  subst this;exact⟨P,hR⟩
end
def Asks{α:Type}(n:Nat)(P:α->Prop):KasT α->Prop
 | .ret a=>P a
 | .ask i j k=>i<n/\j<n/\∀c,Asks n P (k c)
theorem Asks.bind{α β:Type}{n:Nat}{P:α->Prop}{Q:β->Prop}{f:α->KasT β}:∀{t:KasT α},Asks n P t->(∀a,P a->Asks n Q (f a))->Asks n Q (t.bind f)
 | .ret a,h,hf=>hf a h
 | .ask i j k,h,hf=>⟨h.1,h.2.1,λc=>Asks.bind (h.2.2 c) hf⟩
theorem wp_run{α:Type}{n:Nat}{P:α->Prop}{b:Nat->Nat->Bool}{cmp:Nat->Nat->(Bool->Yc->Prop)->Yc->Prop}{Q:α->Yc->Prop}{s:Yc}(hc:∀i j C,i<n->j<n->C (b i j) s->cmp i j C s):∀{t:KasT α},Asks n P t->Q (d3 b t) s->t.kasWp cmp Q s
 | .ret a,_,h=>h
 | .ask i j k,ha,h=>hc i j _ ha.1 ha.2.1 (wp_run hc (ha.2.2 _) h)
def Below(n:Nat)(p:Array Nat):Prop:=∀x∈p,x<n
section
variable{n:Nat}(hn:0<n)
include hn
theorem Below.at{p:Array Nat}(h:Below n p)(i:Nat):at' p i<n:=by
 rw[d_];cases e:p[i]? with
 |none=>exact hn
 |some x=>exact h x (Array.mem_of_getElem? e)
theorem Below.rev{p:Array Nat}(h:Below n p)(i j:Nat):Below n (kas_rev p i j):=λx hx=>h x ((mirror_perm p i j ((j - i) / 2)).mem_iff.mp hx)
theorem Below.bub{p:Array Nat}(h:Below n p)(k d:Nat):Below n (bubble p k d):=λx hx=>h x ((bubble_perm p k d).mem_iff.mp hx)
theorem rm{p:Array Nat}(h:Below n p):∀f k,Asks n (λ_=>True) (kas_asc p f k)
 |0,k=>trivial
 |f+1,k=>⟨Below.at hn h _,Below.at hn h _,λc=>by
  show Asks n _ (if c=ψ then KasT.ret k else kas_asc p f (k+1));cases c
  ·exact rm h f (k+1)
  ·exact trivial⟩
theorem k0:∀f {p:Array Nat} k q,Below n p->Asks n (λr=>Below n r.1) (kas_desc f p k q)
 |0,p,k,q,h=>h
 |f+1,p,k,q,h=>⟨Below.at hn h _,Below.at hn h _,λc=>by
  cases c
  ·refine⟨Below.at hn h _,Below.at hn h _,λd=>?_⟩;cases d
   ·exact k0 f _ _ h
   ·exact h
  ·show Asks n _ (if q>0 then kas_desc f (kas_rev p (k - (q+1)) k) (k+1) 0 else kas_desc f p (k+1) 0);split
   ·exact k0 f _ _ (Below.rev hn h _ _)
   ·exact k0 f _ _ h⟩
theorem vc{p:Array Nat}(h:Below n p)(m r:Nat):Asks n (λx=>Below n x.2) (kas_tail3 m r p):=Asks.bind (rm hn (Below.rev hn h 0 m) _ _) λ_ _=>Below.rev hn h 0 m
theorem rn{p:Array Nat}(h:Below n p)(m r:Nat):Asks n (λx=>Below n x.2) (kas_descPart m r p):=Asks.bind (k0 hn _ _ _ h) λx hx=>by
 split
 ·exact vc hn (Below.rev hn hx _ _) _ _
 ·exact vc hn hx _ _
theorem Bf{p:Array Nat}(h:Below n p)(r:Nat):Asks n (λx=>Below n x.2) (kas_count r p):=Asks.bind (rm hn h _ _) λm _=>by
 split
 ·exact h
 ·split
  ·refine⟨Below.at hn h _,Below.at hn h _,λc=>?_⟩;cases c
   ·exact rn hn (Below.rev hn h _ _) _ _
   ·exact h
  ·exact rn hn h _ _
theorem l6{p:Array Nat}(h:Below n p)(k:Nat):∀f l r,Asks n (λ_=>True) (kas_place p k f l r)
 |0,l,r=>trivial
 |f+1,l,r=>by
  unfold kas_place;split
  ·exact trivial
  ·refine⟨Below.at hn h _,Below.at hn h _,λc=>?_⟩;cases c
   ·exact l6 h k f _ _
   ·exact l6 h k f _ _
theorem yV:∀f {p:Array Nat} k,Below n p->Asks n (λ_=>True) (kas_bin f p k)
 |0,p,k,h=>trivial
 |f+1,p,k,h=>Asks.bind (l6 hn h k _ _ _) λl _=>yV f _ (Below.bub hn h _ _)
theorem vb:Asks n (λ_=>True) (kas_sort n):=by
 have h0:Below n (YX (Yr n)):=λx hx=>by simpa using hx
 refine Asks.bind (Bf hn h0 n) λx hx=>?_;split
 ·exact yV hn _ _ hx
 ·exact trivial
end
def fG:List Int->List Int->Bool
 |[],[]=>μ
 |[],_::_=>ψ
 |_::_,[]=>μ
 |x::xs,y::ys=>if x=y then fG xs ys else decide (x<y)
theorem xk:∀a b c:List Int,fG a b=ψ->fG b c=ψ->fG a c=ψ
 |[],[],_,h,_=>by cases h
 |[],_::_,[],_,h=>by cases h
 |[],_::_,_::_,_,_=>rfl
 |_::_,[],_,h,_=>by cases h
 |_::_,_::_,[],_,h=>by cases h
 |x::a,y::b,z::c,h1,h2=>by
  unfold fG at h1 h2⊢;by_cases e1:x=y
  ·subst e1;rw[aef rfl] at h1;by_cases e2:x=z
   ·subst e2;rw[aef rfl] at h2⊢;exact xk a b c h1 h2
   ·rw[aeh e2] at h2⊢;exact h2
  ·rw[aeh e1] at h1;have h1:=aei h1;by_cases e2:y=z
   ·subst e2;rw[aeh e1];exact aeg h1
   ·rw[aeh e2] at h2;have h2:=aei h2;rw[aeh (by omega)];exact aeg (by omega)
theorem mY:∀a b:List Int,fG a b=ψ->fG b a=μ
 |[],[],h=>by cases h
 |[],_::_,_=>rfl
 |_::_,[],h=>by cases h
 |x::a,y::b,h=>by
  unfold fG at h⊢;by_cases e:x=y
  ·subst e;rw[aef rfl] at h⊢;exact mY a b h
  ·rw[aeh e] at h;have h:=aei h;rw[aeh (λz=>e z.symm)];exact aek (by omega)
theorem sv:∀a b:List Int,a≠b->fG a b=ψ\/fG b a=ψ
 |[],[],h=>ael rfl h
 |[],_::_,_=> .inl rfl
 |_::_,[],_=> .inr rfl
 |x::a,y::b,h=>by
  unfold fG;by_cases e:x=y
  ·subst e;rw[aef rfl,aef rfl];exact sv a b λz=>h (by rw[z])
  ·rw[aeh e,aeh (λz=>e z.symm)];by_cases q:x<y
   ·exact .inl (aeg q)
   ·exact .inr (aeg (by omega))
section
variable{prog:YM}{w:World}{A:Y7}{E:Value->Yc->Prop}{s:Yc}
theorem zM{Q:Bool->Yc->Prop}:∀{us vs:List Value}{xs ys:List Int}(i:Nat) {fin:Bool},aaK us xs->aaK vs ys->fin=decide (xs.length<ys.length)->Q (fG xs ys) s->KatLex prog w A ψ fin Q (us.zip vs) i s
 |_,_,_,_,i,_, .nil, .nil,e,h=>by subst e;exact kat_nil h
 |_,_,_,_,i,_, .nil, .cons y t r,e,h=>by subst e;exact kat_nil h
 |_,_,_,_,i,_, .cons x t r, .nil,e,h=>by subst e;exact kat_nil h
 |_,_,_,_,i,_, .cons (vs:=us) (ns:=xs) x t r, .cons (vs:=vs) (ns:=ys) y u r',e,h=>by
  refine kat_cons (wpAny_eqBool_int ?_);by_cases q:x=y
  ·subst q;rw[show (x==x)=ψ by simp];refine kat_yes (zM (i+1) r r' (by rw[e];simp) ?_);unfold fG at h;rw[aef rfl] at h;exact h
  ·rw[show (x==y)=μ by simpa using q];unfold fG at h;rw[aeh q] at h;refine kat_no ?_;by_cases hi:(i==0)=ψ
   ·rw[hi];exact oneLt_int h
   ·rw[show (i==0)=μ by simpa using hi];exact kat_one _ _ (PyProof.Rows.lt_int h)
def TupsAt(h:Heap):List Value->List (List Int)->Prop
 |[],[]=>True
 |v::vs,k::ks=>(∃a o us m,v= .ref a/\h.get? a=θ o/\o.cls= .type "tuple"/\o.data= .seq (YX us) m/\aaK us k/\k≠[])/\TupsAt h vs ks
 |_,_=>False
theorem TupsAt.len{h:Heap}:∀{vs:List Value}{ks:List (List Int)},TupsAt h vs ks->vs.length=ks.length
 |[],[],_=>rfl
 |v::vs,k::ks,t=>by rw[Yh,Yh,TupsAt.len t.2]
 |[],_::_,t=>t.elim
 |_::_,[],t=>t.elim
theorem TupsAt.get{h:Heap}:∀{vs:List Value}{ks:List (List Int)}{i:Nat},TupsAt h vs ks->i<vs.length->∃a o us m,vs.getD i Y8= .ref a/\h.get? a=θ o/\o.cls= .type "tuple"/\o.data= .seq (YX us) m/\aaK us (ks.getD i [])/\ks.getD i []≠[]
 |v::vs,k::ks,0,t,_=>t.1
 |v::vs,k::ks,i+1,t,hi=>TupsAt.get (i:=i) t.2 (by simpa using hi)
 |[],_,_,_,hi=>by simp at hi
 |_::_,[],_,t,_=>t.elim
theorem TupsAt.keep{h h':Heap}{a:Addr}(k:∀b o,b≠a->h.get? b=θ o->h'.get? b=θ o)(ha:∀o,h.get? a=θ o->o.cls≠ .type "tuple"):∀{vs:List Value}{ks:List (List Int)},TupsAt h vs ks->TupsAt h' vs ks
 |[],[],_=>trivial
 |v::vs,x::ks,⟨⟨b,o,us,m,e1,e2,e3,e4⟩,t⟩=>⟨⟨b,o,us,m,e1,k b o (λz=>ha o (by rw[<-z];exact e2) e3) e2,e3,e4⟩,TupsAt.keep k ha t⟩
 |[],_::_,t=>t.elim
 |_::_,[],t=>t.elim
theorem se:∀{us:List Value}{xs:List Int},aaK us xs->us.length=xs.length
 |_,_, .nil=>rfl
 |_,_, .cons x t r=>by rw[Yh,Yh,se r]
theorem TupsAt.firsts{M:Model}{h:Heap}:∀{vs:List Value}{ks:List (List Int)},TupsAt h vs ks->∃fs,KatTups h vs fs/\fs.length=vs.length/\∀v∈fs,Looks M h (typeOf v) (.type "int")
 |[],[],_=>⟨[],KatTups.nil,rfl,λ_ z=>by cases z⟩
 |v::vs,k::ks,⟨⟨a,o,us,m,e1,e2,e3,e4,e5,e6⟩,t⟩=>by
  obtain⟨fs,q1,q2,q3⟩:=TupsAt.firsts (M:=M) t;subst e1;cases e5 with
  |nil=>exact ael rfl e6
  |cons x t r=>
   refine⟨.int x t::fs,KatTups.cons e2 e3 e4 (by simp) q1,by simp[q2],λv hv=>?_⟩;rcases Ye.mp hv with rfl | hv
   ·exact show Looks M h (pure (ach "int")) (ach "int") from .now
   ·exact q3 v hv
 |[],_::_,t=>t.elim
 |_::_,[],t=>t.elim
def asked{vs:List Value}{ks:List (List Int)}(t:TupsAt s.heap vs ks)(i j:Nat)(C:Bool->Yc->Prop)(hi:i<vs.length)(hj:j<vs.length)(h:C (fG (ks.getD i []) (ks.getD j [])) s):kas_ask prog w A (tuples' ψ) vs i j C s:=by
 obtain⟨a,o,us,m,e1,e2,_,e4,e5,_⟩:=t.get hi;obtain⟨a',o',XM,m',zk,GF,_,Sf,Ph,_⟩:=t.get hj;unfold kas_ask;rw[e1,zk];refine kat_lt e2 e4 GF Sf (zM 0 e5 Ph ?_ h);rw[Yj,Yj,se e5,se Ph]
def zV{α:Type}{l:List α}(h:l.Nodup){i j:Nat}(hi:i<l.length)(hj:j<l.length)(e:l[i]=l[j]):i=j:=by
 rcases Nat.lt_trichotomy i j with q | q | q
 ·exact ael e (Zu.mp h i j hi hj q)
 ·exact q
 ·exact ael e.symm (Zu.mp h j i hj hi q)
def wq{a:Addr}{c:Nat}{vs:List Value}{ks:List (List Int)}{P:PySem.Fin->Yc->Prop}(ho:s.heap.get? a=θ (Y5 "list" vs.toArray c))(ht:TupsAt s.heap vs ks)(hd:ks.Nodup)(la:vs.length<64)
 (h:∀(p:Array Nat) (h':Heap) (c':Nat),PN vs.length p->Ri (λi j=>fG (ks.getD i []) (ks.getD j [])) p vs.length->h'.get? a=θ (Y5 "list" (YX (p.toList.map λi=>vs.getD i Y8)) c')->
  (∀b o,b≠a->s.heap.get? b=θ o->h'.get? b=θ o)->P (.done (.ret .none)) {s with heap:=h'}):wpAny (model prog w) A (ab8.«list.sort» ⟨[.ref a],[]⟩) P E s:=by
 have pM:Yv=16777216:=ZJ;have s1:=YR s.heap a (Y2 λ_=>(#[]:Array Value));obtain⟨e1,P6⟩:∃e1,(s.heap.update a (Y2 λ_=>(#[]:Array Value))).get? a=θ (Y5 "list" #[] e1):=⟨_,ab2 ho λ_=> #[]⟩
 have k1:∀b o,b≠a->s.heap.get? b=θ o->(((s.heap.update a (Y2 λ_=>(#[]:Array Value))).push (Y5 "tuple" vs.toArray 0)).push (Y5 "list" #[] 0)).get? b=θ o:=λb o hb e=>
  X8 _ (X8 _ ((s1.2 b hb).trans e))
 have M4:=X8 (Y5 "list" #[] 0) (X8 (Y5 "tuple" vs.toArray 0) P6);have t3:=ht.keep k1 (λo e z=>by rw[ho] at e;cases e;exact ael (adA z) (by decide));have fin:∀(st:SortSt) (p:Array Nat),PN vs.length p->Ri (λi j=>fG (ks.getD i []) (ks.getD j [])) p vs.length->(arrOf st).map (·.2)=YX (p.toList.map λi=>vs.getD i Y8)->adb st=ω->
  wpAny (model prog w) A (do
   let touched:=(<-seqEpoch a) !=e1
   acq (.ref a) λ_=>(arrOf st).map (·.2)
   if let θ e:=adb st then rule "list.sort.comparison-raised";throw e
   if touched then rule "list.sort.modified";raiseError "ValueError" "list modified during sort"
   ret .none) P E {s with heap:=((s.heap.update a (Y2 λ_=>(#[]:Array Value))).push (Y5 "tuple" vs.toArray 0)).push (Y5 "list" #[] 0)}:=λst p hp hr he hf=>by
  have hz:(YX (p.toList.map λi=>vs.getD i Y8)).size=vs.length:=by rw[Yj,X3,Yd,hp.sz]
  rw[he,hf];refine X6 (adl M4 rfl (X6 (acB M4 rfl ?_ (YH _) (by rw[hz,pM];omega))));simp only[bne_self_eq_false,Y0,if_false];have s2:=YR (((s.heap.update a (Y2 λ_=>(#[]:Array Value))).push (Y5 "tuple" vs.toArray 0)).push (Y5 "list" #[] 0)) a (Y2 λ_=>YX (p.toList.map λi=>vs.getD i Y8));exact Yb (h p _ _ hp hr (ab2 M4 λ_=>YX (p.toList.map λi=>vs.getD i Y8)) λb o hb e=>(s2.2 b hb).trans (k1 b o hb e))
 rw[list_sort_plain];refine X6 (listItems_at ho rfl (X6 (acB ho rfl (X6 (adl P6 rfl ?_)) (by rw[Yj,pM];omega) (YH _))));refine X6 (wpAny_newTuple (X6 (aaP (ZF ?_) (YH _))) (by show vs.length<=_;rw[pM];omega));show wpAny (model prog w) A _ P E {s with heap:=((s.heap.update a (Y2 λ_=>(#[]:Array Value))).push (Y5 "tuple" vs.toArray 0)).push (Y5 "list" #[] 0)}
 dsimp only
 by_cases hs:vs.toArray.size<2
 ·rw[aef hs,aef hs];have Bd:vs.length<2:=by simpa using hs
  refine X6 (Yb (X6 (Yb ?_)));refine fin (SortSt.mk' general' (vs.toArray.zip vs.toArray) #[] 7 ω) (YX (Yr vs.length)) ⟨by simp,λi hi=>?_,λi j hi hj _=>by omega⟩ (λi j vy hj=>by omega) ?_ rfl
  ·rw[d_];simp[hi]
  ·show (vs.toArray.zip vs.toArray).map (·.2)=_;apply acy.mp;refine abg (by simp) λi a1 a2=>?_;simp at a1;simp[a1]
 ·rw[aeh hs,aeh hs];have Bd:2<=vs.length:=by
   have:¬vs.length<2:=by simpa using hs
   omega
  obtain⟨fs,q1,q2,q3⟩:=t3.firsts (M:=model prog w);refine X6 (kat_kind q1 (by omega) q3 rfl ?_);have hb:Lt vs.length (λi j=>fG (ks.getD i []) (ks.getD j [])):=⟨λi j k=>xk _ _ _,λi j=>mY _ _,λi j hi hj vy=>sv _ _ λz=>vy (by
   rw[ht.len] at hi hj;rw[Yp,Yp,X7 hi,X7 hj] at z;exact zV hd hi hj (by simpa using z))⟩
  obtain⟨r1,r2⟩:=AJ hb Bd;have run:=kat_run (prog:=prog) (w:=w) (A:=A) (E:=E) (ks:=vs) (vs:=vs) (κ:=tuples' ψ) (Q:=λst s'=>s'={s with heap:=((s.heap.update a (Y2 λ_=>(#[]:Array Value))).push (Y5 "tuple" vs.toArray 0)).push (Y5 "list" #[] 0)}/\∃p,PN vs.length p/\Ri (λi j=>fG (ks.getD i []) (ks.getD j [])) p vs.length/\(arrOf st).map (·.2)=YX (p.toList.map λi=>vs.getD i Y8)/\adb st=ω)
   (G:=λp s'=>s'={s with heap:=((s.heap.update a (Y2 λ_=>(#[]:Array Value))).push (Y5 "tuple" vs.toArray 0)).push (Y5 "list" #[] 0)}/\PN vs.length p/\Ri (λi j=>fG (ks.getD i []) (ks.getD j [])) p vs.length) rfl Bd la
   (λp qk s' a1 a2 a3 a4=>⟨a4.1,p,a4.2.1,a4.2.2,kat_snds rfl a2,a3⟩)
   (wp_run (s:={s with heap:=((s.heap.update a (Y2 λ_=>(#[]:Array Value))).push (Y5 "tuple" vs.toArray 0)).push (Y5 "list" #[] 0)}) (λi j C hi hj hC=>asked t3 i j C hi hj hC) (vb (by omega)) ⟨rfl,r1,r2⟩)
  refine X6 (Zj run ?_ λ_ _ e=>e);rintro⟨⟨⟩,qk⟩ s' ⟨rfl,p,a1,a2,a3,a4⟩;exact fin qk p a1 a2 a3 a4
end
section
variable{prog:YM}{w:World}{A:Y7}{E:Value->Yc->Prop}{s:Yc}
def vF(lo:(d==Zy)=μ)(ho:s.heap.get? d=θ od)(hx:od.ExactDict)(hd:od.data= .dict es ep)
 (hQ:Q (.ref s.heap.objs.size) {s with heap:=s.heap.push {cls:= .type "dict_keyiterator",data:= .fields #[.ref d, .int 0 0, .int es.size 0, .int ep 0]} }):wpAny (model prog w) A (pyIter (.ref d)) Q E s:=by
 have hT:s.TypeIs (.ref d) "dict":=⟨od,ho,hx.1⟩
 refine wpAny_pyIter_slot hT F.slot_dict_iter (Zs F.slot_dict_iter hT F.entry_dict_iter ?_ (F.args_dict_iter_1 _));unfold ab8.«dict.__iter__» Builtin.Dict.dictSlotNone;refine X6 (X6 (wpAny_notOrdered_dict hT ?_));show wpAny _ _ (pure (YY d)) _ _ s;refine Yb ?_;show wpAny _ _ (aaW d>>=_) _ _ s;unfold aaW;rw[aeh (by rw[lo];exact YI)];refine X6 (Yb (X6 (ZG ho hd (X6 (aaX ho hd ?_)))));refine X6 (Zo (Yb ⟨_,rfl,"dict_keyiterator",_,⟨_,Yy _ rfl,rfl⟩,F.slot_dict_keyiterator_next.lookup,?_⟩));simpa[acW] using hQ
def zU(hit:s.heap.IsKeyIter it d i es.size ep)(EO:s.heap.get? d=θ od)(qG:od.data= .dict es ep)(hx:es[i]? =θ e)
 (hQ:∀h',h'.IsKeyIter it d (i+1) es.size ep->aal it s.heap h'->Q (θ e.key) {s with heap:=h'}):wpAny (model prog w) A (adM (.ref it)) Q E s:=by
 obtain⟨o,ho,hc,hd⟩:=id hit;have il:i<es.size:=(Array.getElem?_eq_some_iff.mp hx).1;have BH:abk "dict_keyiterator"=μ:=by decide
 unfold adM;refine X6 (wpAny_attempt (aaA hit.typeIs aaa
  (Zs aaa hit.typeIs acV ?_ (acM _))))
 refine X6 (Yb (X6 (X6 ?_)))
 first | refine X6 (Z9 hit.typeIs (Yb ?_)) | refine X6 (aau hit.typeIs (Yb ?_))
 refine X6 (wpAny_fieldsOf ho hd ?_);simp only[BH,Y0,if_false];show wpAny _ _ (if (YY d==Y8)=ψ then _ else _) _ _ s;rw[aeh (show¬((YY d==Y8)=ψ) from YI)];refine X6 (Yb (X6 (ZG EO qG ?_)));rw[aeh (by simp)];refine X6 (Yb (X6 (aaX EO qG ?_)));rw[aeh (by simp)];refine Yb ?_;simp only[show¬((i:Int)<0) from by omega,if_false,aa8,hx];refine X6 ?_
 first | refine X6 (Z9 hit.typeIs (Yb ?_)) | refine X6 (aau hit.typeIs (Yb ?_))
 refine X6 (wpAny_isOneOf_keyiter hit.typeIs ?_);show wpAny _ _ (setField (.ref it) 1 (acW ((i:Int)+1))>>=_) _ _ s;refine X6 (wpAny_setField ho hd (by simp) ?_);have J9:(s.heap.update it (Obj.mapFields (·.setIfInBounds 1 (acW ((i:Int)+1))))).IsKeyIter it d (i+1) es.size ep:=
  ⟨_,aaE _ ho (Obj.isFreed_of_fields (ad_ hd _)),(Obj.cls_mapFields ..).trans hc,by rw[ad_ hd];simp[acW]⟩
 refine X6 (ZF (X6 (wpAny_isOneOf_keyiter J9.typeIs ?_)));show wpAny _ _ (pure e.key) _ _ _;exact Yb (Yb ⟨_,rfl,Yb (hQ _ J9 (YR ..))⟩)
def vn(hh:A.handled=ω)(hit:s.heap.IsKeyIter it d i es.size ep)(hi:es.size<=i)(EO:s.heap.get? d=θ od)(qG:od.data= .dict es ep)
 (hQ:∀h',Heap.ExtBut it s.heap h'->Q ω {s with heap:=h'}):wpAny (model prog w) A (adM (.ref it)) Q E s:=by
 obtain⟨o,ho,hc,hd⟩:=id hit;have BH:abk "dict_keyiterator"=μ:=by decide
 unfold adM;refine X6 (wpAny_attempt (aaA hit.typeIs aaa
  (Zs aaa hit.typeIs acV ?_ (acM _))))
 refine X6 (Yb (X6 (X6 ?_)))
 first | refine X6 (Z9 hit.typeIs (Yb ?_)) | refine X6 (aau hit.typeIs (Yb ?_))
 refine X6 (wpAny_fieldsOf ho hd ?_);simp only[BH,Y0,if_false];show wpAny _ _ (if (YY d==Y8)=ψ then _ else _) _ _ s;rw[aeh (show¬((YY d==Y8)=ψ) from YI)];refine X6 (Yb (X6 (ZG EO qG ?_)));rw[aeh (by simp)];refine X6 (Yb (X6 (aaX EO qG ?_)));rw[aeh (by simp)];refine Yb ?_;simp only[show¬((i:Int)<0) from by omega,if_false,aa8,Array.getElem?_eq_none hi];refine X6 ?_
 first | refine X6 (Z9 hit.typeIs (Yb ?_)) | refine X6 (aau hit.typeIs (Yb ?_))
 show wpAny _ _ (setField (.ref it) 0 .none>>=_) _ _ s;refine X6 (wpAny_setField ho hd (by simp) ?_);show wpAny _ _ (newExc (.type "StopIteration") []>>=_) _ _ _;refine X6 ?_;simp only[newExc,newTuple];refine X6 (Zo ?_ (by size_fits));refine X6 (wpAny_of_eq (by first | rfl | (simp only[firstArgMember];rfl)) ?_);refine Zo ?_ (by size_fits);simp only[raiseNew];refine X6 (wpAny_handled ?_);rw[show A.in1.handled=ω from hh];refine X6 (Yb (wpAny_throw ?_));refine X6 (wpAny_isInstance ⟨_,Yy _ rfl,rfl⟩ isSubtype_stop ?_);exact Yb (hQ _ (((YR ..).extBut.push _).push _))
def GH(hh:A.handled=ω)(hit:s.heap.IsKeyIter it d es.size es.size ep)(EO:s.heap.get? d=θ od)(qG:od.data= .dict es ep)
 (hQ:∀h',Heap.ExtBut it s.heap h'->Q ω {s with heap:=h'}):wpAny (model prog w) A (adM (.ref it)) Q E s:=vn hh hit (X_ _) EO qG hQ
def LH(es:Array abt):Nat->Value->Prop:=λi v=>∃e,es[i]? =θ e/\v=e.key
def Cy(hh:A.handled=ω)(I d:Addr)(fE:d≠I)(qG:od.data= .dict es ep):
 Walks prog w A I [I,d] [I] es.size (LH es) (λi h=>h.IsKeyIter I d i es.size ep/\h.get? d=θ od) where
 sub:=λb hb=>by simp at hb;simp[hb]
 frame:=λ_ _ _ st hk=>⟨st.1.at λo e=>hk I (by simp) o e,hk d (by simp) _ st.2⟩
 item:=λi s Q E hi st hQ=>by
  have hx:es[i]? =θ es[i]:=Zt hi;exact zU st.1 st.2 qG hx λh' J9 Kb=>hQ _ h' s.toks ⟨_,hx,rfl⟩ ⟨J9,(Kb.2 d fE).trans st.2⟩ λb o hb e=>Kb.extBut b o (λh=>hb (by simp[h])) e
 done:=λs Q E st hQ=>GH hh st.1 st.2 qG λh' V7=>hQ h' s.toks λb o hb e=>V7 b o (λh=>hb (by simp[h])) e
 self:=λ_ _ _ _ st hQ=>wpAny_pyIter_keyiter st.1 hQ
def t_(lo:(d==Zy)=μ)(hx:od.ExactDict)(qG:od.data= .dict es ep):KdlSrc prog w "dict" d d es.size (LH es) (λh=>h.get? d=θ od) where
 type:=λ_ hm=>⟨od,hm,hx.1⟩
 there:=λ_ hm=>⟨Ys hm,Ys hm⟩
 keep:=λ_ _ hm hk=>hk d (.inl rfl) od hm
 notList:=by decide
 notTuple:=by decide
 hint:=λ_ _ s _ hm hq=>kdl_hint_dict ⟨od,hm,hx.1⟩ hq
 iter:=λ_ _ hh hm=>⟨_,_,(λ_ _ hq=>vF lo hm hx qG hq),Cy hh _ d (YF (Ys hm)) qG,⟨⟨_,Yy _ rfl,rfl,rfl⟩,X8 _ hm⟩⟩
end
end L3
namespace L3
open PySem
def insI(k:List Int):List (List Int)->List (List Int)
 |[]=>[k]
 |x::r=>if fG k x then k::x::r else x::insI k r
def sortI:List (List Int)->List (List Int)
 |[]=>[]
 |k::r=>insI k (sortI r)
def Be(l:List (List Int)):Prop:=l.Pairwise λa b=>fG a b=ψ
theorem r_:∀{l:List (List Int)},x∈insI k l↔x=k\/x∈l
 |[]=>by simp[insI]
 |y::r=>by
  unfold insI;split
  ·simp
  ·rw[Ye,r_,Ye];constructor
   ·rintro(h | h | h)<;>simp[h]
   ·rintro(h | h | h)<;>simp[h]
theorem vA:∀{l:List (List Int)},Be l->k∉l->Be (insI k l)
 |[],_,_=>aao _ _
 |x::r,h,hk=>by
  have h:=YK.mp h;unfold insI;split
  ·rename_i q;refine YK.mpr ⟨λy hy=>?_,YK.mpr h⟩;rcases Ye.mp hy with rfl | hy
   ·exact q
   ·exact xk _ _ _ q (h.1 y hy)
  ·rename_i q;have hx:fG x k=ψ:=by
    rcases sv k x (λz=>hk (by rw[z];exact X5 ..)) with z | z
    ·exact ael z q
    ·exact z
   refine YK.mpr ⟨λy hy=>?_,vA h.2 λz=>hk (X4 _ z)⟩;rcases r_.mp hy with rfl | hy
   ·exact hx
   ·exact h.1 y hy
theorem gO:∀{l:List (List Int)},x∈sortI l↔x∈l
 |[]=>abi
 |k::r=>by unfold sortI;rw[r_,gO,Ye]
theorem mE:∀{l:List (List Int)},l.Nodup->Be (sortI l)
 |[],_=>abq
 |k::r,h=>by
  have h:=YZ.mp h;exact vA (mE h.2) λz=>h.1 (gO.mp z)
theorem h7:∀{a b:List (List Int)},Be a->Be b->(∀x,x∈a↔x∈b)->a=b
 |[],[],_,_,_=>rfl
 |[],y::b,_,_,h=>by have:=(h y).mpr (X5 ..);cases this
 |x::a,[],_,_,h=>by have:=(h x).mp (X5 ..);cases this
 |x::a,y::b,ha,hb,h=>by
  have ha:=YK.mp ha;have hb:=YK.mp hb;have e:x=y:=by
   rcases Ye.mp ((h x).mp (X5 ..)) with q | q
   ·exact q
   ·rcases Ye.mp ((h y).mpr (X5 ..)) with p | p
    ·exact p.symm
    ·have z1:=hb.1 x q;have z2:=ha.1 y p;rw[mY _ _ z1] at z2;cases z2
  subst e;have Vd:∀k,fG k k≠ψ:=λk z=>by have:=mY _ _ z;rw[z] at this;cases this
  rw[h7 ha.2 hb.2 λz=>?_];constructor
  ·intro hz;rcases Ye.mp ((h z).mp (X4 _ hz)) with q | q
   ·subst q;exact ael (ha.1 z hz) (Vd z)
   ·exact q
  ·intro hz;rcases Ye.mp ((h z).mpr (X4 _ hz)) with q | q
   ·subst q;exact ael (hb.1 z hz) (Vd z)
   ·exact q
theorem xX:∀(n:Nat) (l:List Nat),l.Nodup->(∀x∈l,x<n)->l.length=n->∀k,k<n->k∈l
 |0,_,_,_,_,k,hk=>by omega
 |n+1,l,hd,hl,hn,k,hk=>by
  by_cases h:n∈l
  ·by_cases e:k=n
   ·subst e;exact h
   ·refine List.mem_of_mem_erase (xX n (l.erase n) (hd.erase n) (λx hx=>?_) (by rw[ada h,hn];rfl) k (by omega));have hx:=hd.mem_erase_iff.mp hx;have:=hl x hx.2;have:=hx.1;omega
  ·cases l with
   |nil=>simp at hn
   |cons x r=>
    have hd:=YZ.mp hd;have lt:∀y∈x::r,y<n:=λy hy=>by
     have:=hl y hy;have:y≠n:=λz=>h (by rw[<-z];exact hy);omega
    exact ael (xX n r hd.2 (λy hy=>lt y (X4 _ hy)) (by simpa using hn) x (lt x (X5 ..))) hd.1
def wt(hd:ks.Nodup)(P:PN ks.length p)(R:Ri (λi j=>fG (ks.getD i []) (ks.getD j [])) p ks.length):(p.toList.map λi=>ks.getD i [])=sortI ks:=by
 have hsz:p.toList.length=ks.length:=by rw[Yd];exact P.sz
 have BD:∀i (h:i<p.toList.length),p.toList[i]=at' p i:=λi h=>by
  have h':i<p.size:=by rw[Yd] at h;exact h
  rw[d_,Zt h'];simp
 refine h7 ?_ (mE hd) λx=>?_
 ·refine Zu.mpr λi j hi hj vy=>?_;rw[X3] at hi hj;rw[abf,abf,BD i hi,BD j hj];exact R i j vy (by omega)
 ·rw[gO];constructor
  ·intro hx;obtain⟨i,hi,rfl⟩:=Yo.mp hx;obtain⟨j,hj,rfl⟩:=Zp.mp hi;have:=P.lt j (by omega);rw[BD j hj,Yp,X7 this];exact ZM this
  ·intro hx;obtain⟨k,hk,rfl⟩:=Zp.mp hx;have P9:k∈p.toList:=by
    have hn:p.toList.Nodup:=Zu.mpr λi j hi hj vy z=>by
     rw[BD i hi,BD j hj] at z;have:=P.inj i j (by omega) (by omega) z;omega
    exact xX ks.length p.toList hn (λx hx=>by
     obtain⟨j,hj,rfl⟩:=Zp.mp hx;rw[BD j hj];exact P.lt j (by omega)) hsz k hk
   refine Yo.mpr ⟨k,P9,?_⟩;rw[Yp,X7 hk];rfl
end L3
namespace L3
open PySem PySem.Spec L2 SeqAt HT
open PyProof.Rows hiding St
def tupI(k:List Int):D:= .tup (k.map D.int)
def L6:D->Option (List Int)
 | .tup ds=>nums ds
 |_=>ω
def jv:List D->Option (List (List Int))
 |[]=>θ []
 |d::ds=>match L6 d,jv ds with
  |some k,θ ks=>θ (k::ks)
  |_,_=>ω
def gx(ks:List (List Int)):Bool:=decide ks.Nodup&&decide (ks.length<64)&&ks.all λk=>!k.isEmpty
def Ls:List D->M D
 |[.lst ds]=>match jv ds with
  |some ks=>if gx ks then aa (.lst ((sortI ks).map tupI)) else af
  |none=>af
 |_=>af
def d6(H:Hp):List V->List (List Int)->Prop:=abQ λv k=>∃a,v= .ref a/\H a=θ (.tup (k.map V.int))
theorem vB{K:Ym}(hs:Same F H):∀{ds:List D}{vs:List V}{ks:List (List Int)},jv ds=θ ks->DenL K F ds vs->d6 H vs ks/\d6 F vs ks
 |[],_,_,e,h=>by cases e;cases (show _=_ from h);exact⟨.nil, .nil⟩
 |d::ds,_,_,e,⟨v,r,h1,h2,h3⟩=>by
  subst h1;unfold jv at e;split at e
  ·rename_i k ks e1 e2;cases e;obtain⟨Kf,Ql⟩:=vB hs e2 h3;cases d with
   |tup es=>
    obtain⟨a,ws,rfl,k2,k3,_⟩:=h2;have:=mW e1 k3;subst this;exact⟨.cons ⟨a,rfl,hs _ _ k2⟩ Kf, .cons ⟨a,rfl,k2⟩ Ql⟩
   |_=>cases e1
  ·cases e
theorem nM{K:Ym}:∀{ws:List V}{ks:List (List Int)},d6 F ws ks->(∀k∈ks,k.length<=lim)->DenL K F (ks.map tupI) ws
 |_,_, .nil,_=>rfl
 |_,_, .cons (b:=k) h t,hl=>by
  obtain⟨a,rfl,h⟩:=h;exact .cons ⟨a,_,rfl,h,DenL.ints k,by rw[X3];exact hl k (X5 ..)⟩ (nM t λk hk=>hl k (X4 _ hk))
theorem pd(I:Inv X f8 σ H s):∀{vs:List V}{aS:List Value}{ks:List (List Int)},d6 H vs ks->Vals vs aS->(∀k∈ks,k≠[])->TupsAt s.heap aS ks
 |_,_,_, .nil,r,_=>by cases r;exact trivial
 |_,_,_, .cons (b:=k) h t,r,hn=>by
  obtain⟨a,rfl,h⟩:=h;cases r with
  |cons r1 r2=>
   cases (show _=_ from r1);obtain⟨us,ru,pt,_⟩:=I.tuple (SqT.of h);obtain⟨o,q1,q2,m,q3⟩:=pt;exact⟨⟨a,o,us,m,rfl,q1,q2,q3,intsAre_of ru,hn k (X5 ..)⟩,pd I t r2 λk hk=>hn k (X4 _ hk)⟩
theorem Av:∀{vs:List V}{ks:List (List Int)}{i:Nat},d6 H vs ks->i<vs.length->∃a,vs.getD i .non= .ref a/\H a=θ (.tup ((ks.getD i []).map V.int))
 |_,_,i, .nil,hi=>by simp at hi
 |_,_,0, .cons h t,_=>h
 |_,_,i+1, .cons h t,hi=>Av (i:=i) t (by simpa using hi)
theorem kD:∀{vs:List V}{ks:List (List Int)},d6 H vs ks->vs.length=ks.length
 |_,_, .nil=>rfl
 |_,_, .cons h t=>by rw[Yh,Yh,kD t]
theorem pb(h:d6 H vs ks):∀{is:List Nat},(∀i∈is,i<vs.length)->d6 H (is.map λi=>vs.getD i .non) (is.map λi=>ks.getD i [])
 |[],_=> .nil
 |i::is,hi=> .cons (Av h (hi i (X5 ..))) (pb h λj hj=>hi j (X4 _ hj))
theorem wC:∀{vs:List V}{us:List Value}(i:Nat),Vals vs us->i<vs.length->RelV (vs.getD i .non) (us.getD i Y8)
 |_,_,i, .nil,hi=>by simp at hi
 |_,_,0, .cons h t,_=>h
 |_,_,i+1, .cons h t,hi=>wC i t (by simpa using hi)
theorem lG(h:Vals vs us):∀{is:List Nat},(∀i∈is,i<vs.length)->Vals (is.map λi=>vs.getD i .non) (is.map λi=>us.getD i Y8)
 |[],_=> .nil
 |i::is,hi=> .cons (wC i h (hi i (X5 ..))) (lG h λj hj=>hi j (X4 _ hj))
def TU(K:Ym):List V->Hp->VK->Prop:=λxs H Q=>∃p vs ks,xs=[.ref p]/\SqL K H p vs/\d6 H vs ks/\gx ks=ψ/\∀(q:Addr) (is:List Nat),H q=ω->(∀i∈is,i<vs.length)->is.length=vs.length->(is.map λi=>ks.getD i [])=sortI ks->Q (.ref q) (upd H q (.lst (is.map λi=>vs.getD i .non)))
section
variable{X:Cx}{Xw:Nat->Hp->Prop}{e:Expr}{δs:DA}{pos p:Pos}
noncomputable def Gi:CallR X (.builtin "sorted") (TU X.K):=by
 intro f8 s σ H xs us Q I r h;obtain⟨a,vs,ks,rfl,hq,hr,hk,q⟩:=h;obtain⟨u,rfl,r1⟩:=r.one;cases (show u=_ from r1);obtain⟨aS,rv,pl,hz⟩:=I.list hq;unfold gx at hk;rw[Yq,Yq] at hk;have hd:ks.Nodup:=aei hk.1.1;have la:ks.length<64:=aei hk.1.2;have fE:∀k∈ks,k≠[]:=λk GW z=>by have:=Yu.mp hk.2 k GW;rw[z] at this;cases this
 have FX:=kD hr;have Bd:=rv.length;have pM:Yv=16777216:=ZJ;have ht:=pd I hr rv fE;refine aaf adm acX acY (ac0 _) ?_;unfold ab8.«sorted»;refine X6 (Yb (X6 (collect_list pl.isList (X6 (aaP ?_ (by rw[pM];omega))) (by rw[pM];omega))));have hsz:((s.heap.push (Y5 "list" #[] 0)).update s.heap.objs.size (Y2 (· ++aS.toArray))).objs.size=s.heap.objs.size+1:=by rw[Heap.size_update,size_push']
 have keep:∀b o,s.heap.get? b=θ o->(((s.heap.push (Y5 "list" #[] 0)).update s.heap.objs.size (Y2 (· ++aS.toArray))).push (Y5 "list" aS.toArray 0)).get? b=θ o:=λb o e=>by
  have il:=Ys e;exact X8 _ ((Heap.get?_update_ne _ _ _ _ (YF il)).trans (X8 _ e))
 have BG:(((s.heap.push (Y5 "list" #[] 0)).update s.heap.objs.size (Y2 (· ++aS.toArray))).push (Y5 "list" aS.toArray 0)).get? (s.heap.objs.size+1)=θ (Y5 "list" aS.toArray 0):=by
  rw[<-hsz];exact Yy _ rfl
 show wpAny _ _ _ _ _ {s with heap:=((s.heap.push (Y5 "list" #[] 0)).update s.heap.objs.size (Y2 (· ++aS.toArray))).push (Y5 "list" aS.toArray 0)};rw[hsz];refine X6 (ZF (Zs ack ⟨_,BG,rfl⟩ ab3 (wq BG
  (ht.keep (λb o _ e=>keep b o e) (λo e=>ael (Ys e) (Zb _))) hd (by omega) λP h' c' hP hR BF zx=>?_) (acm _)))
 have Jt:∀i∈P.toList,i<vs.length:=λi hi=>by
  obtain⟨j,hj,rfl⟩:=Zp.mp hi;have h':j<P.size:=by rw[Yd] at hj;exact hj
  have:=hP.lt j (by rw[hP.sz] at h';exact h');rw[d_,Zt h'] at this;have e:P.toList[j]=P[j]:=by simp
  rw[e];have:P[j]<aS.length:=this;omega
 have Py:PN ks.length P:=by rw[<-FX,Bd];exact hP
 have Pz:Ri (λi j=>fG (ks.getD i []) (ks.getD j [])) P ks.length:=by rw[<-FX,Bd];exact hR
 have Jy:=wt hd Py Pz;have MT:H (s.heap.objs.size+1)=ω:=I.hok.fresh (acS _);refine⟨_,rfl,Yb ⟨_,rfl,⟨.ref (s.heap.objs.size+1),_,I.laid (λb ob e=>zx b ob (YF (Nat.lt_succ_of_lt (Ys e))) (keep b ob e)) (acS _) ?_,rfl,q _ P.toList MT Jt (by rw[Yd,hP.sz];omega) Jy⟩⟩⟩;exact⟨by rw[X3,Yd,hP.sz,pM];omega,_,c',lG rv Jt,BF⟩
theorem vC{K:Ym}:∀{ds:List D}{vs:List V}{ks:List (List Int)},jv ds=θ ks->DenL K F ds vs->∀k∈ks,k.length<=lim
 |[],_,_,e,_=>by cases e;exact λk hk=>by cases hk
 |d::ds,_,_,e,⟨v,r,h1,h2,h3⟩=>by
  unfold jv at e;split at e
  ·rename_i k ks e1 e2;cases e;intro k' GW;rcases Ye.mp GW with rfl | GW
   ·cases d with
    |tup es=>
     obtain⟨a,ws,rfl,k2,k3,k4⟩:=h2;have:=mW e1 k3;have hl:=k3.len;rw[this,X3] at hl;omega
    |_=>cases e1
   ·exact vC e2 h3 k' GW
  ·cases e
theorem pA:∀l:List (List Int),(sortI l).length=l.length
 |[]=>rfl
 |k::r=>by
  have ins:∀(k:List Int) (l:List (List Int)),(insI k l).length=l.length+1:=by
   intro k l;induction l with
   |nil=>rfl
   |cons x l ih=>
    unfold insI;split
    ·rfl
    ·rw[Yh,ih,Yh]
  unfold sortI;rw[ins,pA r,Yh]
def NU(hg:Gl X "sorted")(hm:X.mg "sorted"=ω)(hb:YW "sorted"=θ (.builtin "sorted"))(ha:nZ X Xw [e] δs)(he:Yw [e] X.env=[(μ,eval e X.env)]:=by rfl):PD X Xw (.Call (.Name "sorted" p) [e] [] pos) (dA Ls δs):=
 ez Gi (λXw F H vs ds Q s h w=>by
  unfold Ls at w;split at w
  ·rename_i ds;obtain⟨v,rfl,h1⟩:=h.one;obtain⟨a,ws,rfl,h2,h3,h4⟩:=h1;split at w
   ·rename_i ks zA;split at w
    ·rename_i hok;obtain⟨r1,r2⟩:=vB s zA h3;have Ws:=vC zA h3;refine⟨a,ws,ks,rfl,SqL.of (s _ _ h2),r1,hok,λq is hq hi hl hs=>WP.fin w (Ext.lay s hq) ⟨q,_,rfl,aD,DenL.mono (Ext.lay s hq).ff ?_,?_⟩⟩
     ·have:=pb r2 hi;rw[hs] at this;exact nM this λk hk=>Ws k (gO.mp hk)
     ·rw[X3,pA,<-kD r1,<-h3.len];exact h4
    ·exact w.elim
   ·exact w.elim
  ·exact w.elim) hg hm hb ha (by decide) (by decide) he rfl
end
def j6(k:List Int):List Key:=k.map acs
def Q0:List V->Hp->VK->Prop:=λxs H Q=>∃p kvs ks,xs=[.ref p]/\Rd H p (.dT kvs)/\kvs.map (·.1)=ks.map j6/\gx ks=ψ/\∀(q:Addr) (ws:List V),H q=ω->d6 H ws (sortI ks)->Q (.ref q) (upd H q (.lst ws))
theorem oI:∀{kvs:List (List Key×V)}{xs:List (List Key×Addr×Value)}{ks:List (List Int)},abQ (λ(p:List Key×V) (q:List Key×Addr×Value)=>p.1=q.1/\H q.2.1=θ (.tup (p.1.map kV))/\RelV p.2 q.2.2) kvs xs->
 kvs.map (·.1)=ks.map j6->d6 H (xs.map λx=>V.ref x.2.1) ks
 |_,_,[], .nil,_=> .nil
 |_,_,_::_, .nil,e=>by simp at e
 |_,_,[], .cons h t,e=>by simp at e
 |_,_,k::ks, .cons h t,e=>by
  rw[X9,X9] at e;injection e with e1 e2
  refine .cons ⟨_,rfl,?_⟩ (oI t e2);have hk:(j6 k).map kV=k.map V.int:=by unfold j6;rw[YD];rfl
  rw[h.2.1,e1,hk]
section
variable{X:Cx}{Xw:Nat->Hp->Prop}{e:Expr}{δs:DA}{pos p:Pos}
def Ez(hc:X.calm=ψ):CallR X (.builtin "sorted") Q0:=by
 intro f8 s σ H xs us Q I r h;obtain⟨a,kvs,ks,rfl,hH,yO,hk,q⟩:=h;obtain⟨u,rfl,r1⟩:=r.one;cases (show u=_ from r1);obtain⟨z,lo,xs,rel,o,es,ep,g1,g2,g3,g4,g5⟩:=(show ObjOk X.prog X.w H s.heap a (.dT kvs) from hH.ok I.hok)
 unfold gx at hk;rw[Yq,Yq] at hk;have hd:ks.Nodup:=aei hk.1.1;have la:ks.length<64:=aei hk.1.2;have fE:∀k∈ks,k≠[]:=λk GW z=>by have:=Yu.mp hk.2 k GW;rw[z] at this;cases this
 have hr:=oI rel yO;have FX:=kD hr;rw[X3] at FX;have EM:es.size=xs.length:=by rw[<-Yd,g4,X3]
 have pM:Yv=16777216:=ZJ;refine aaf adm acX acY (ac0 _) ?_;unfold ab8.«sorted»;refine X6 (Yb (X6 (abG (t_ lo g2 g3) (I.ok.hd hc) g1 (by rw[EM,pM];omega) λh1 tk v4 sm g6=>?_)));have zw:v4.toList.length=xs.length:=by rw[Yd,<-EM];exact g6.1
 have I1:Inv X f8 σ H {s with heap:=h1,toks:=tk}:=I.kept λb ob e=>sm b ob e;have rv:Vals (xs.map λx=>V.ref x.2.1) v4.toList:=by
  have ext:∀{vs:List V}{us:List Value},vs.length=us.length->(∀(i:Nat) (v:V) (u:Value),vs[i]? =θ v->us[i]? =θ u->RelV v u)->Vals vs us:=by
   intro vs;induction vs with
   |nil=>intro us h _;cases us with | nil=>exact .nil | cons _ _=>simp at h
   |cons v vs ih=>
    intro us h hh;cases us with
    |nil=>simp at h
    |cons u us=>exact .cons (hh 0 v u rfl rfl) (ih (by simpa using h) λi v u h1 h2=>hh (i+1) v u h1 h2)
  refine ext (by rw[X3,zw]) λi v u e1 e2=>?_;rw[Y6] at e2;obtain⟨en,q1,q2⟩:=g6.2 i u e2;rw[<-Y6,g4,Yl] at q1;rw[Yl] at e1;cases w:xs[i]? with
  |none=>rw[w] at e1;cases e1
  |some x=>
   rw[w] at e1 q1;cases e1;cases q1;exact q2
 have ht:=pd I1 hr rv fE;refine X6 (aaP ?_ (by rw[pM];omega));have BG:(h1.push (Y5 "list" v4.toList.toArray 0)).get? h1.objs.size=θ (Y5 "list" v4.toList.toArray 0):=Yy _ rfl;refine X6 (ZF (Zs ack ⟨_,BG,rfl⟩ ab3 (wq BG
  (ht.keep (λb o _ e=>X8 _ e) (λo e=>ael (Ys e) (Zb _))) hd (by omega) λP h' c' hP hR BF zx=>?_) (acm _)))
 have Jt:∀i∈P.toList,i<(xs.map λx=>V.ref x.2.1).length:=λi hi=>by
  obtain⟨j,hj,rfl⟩:=Zp.mp hi;have h':j<P.size:=by rw[Yd] at hj;exact hj
  have:=hP.lt j (by rw[hP.sz] at h';exact h');rw[d_,Zt h'] at this;have e:P.toList[j]=P[j]:=by simp
  rw[e,X3];have:P[j]<v4.toList.length:=this;omega
 have Py:PN ks.length P:=by rw[<-FX,<-zw];exact hP
 have Pz:Ri (λi j=>fG (ks.getD i []) (ks.getD j [])) P ks.length:=by rw[<-FX,<-zw];exact hR
 have Jy:=wt hd Py Pz;have Qc:=pb hr Jt;rw[Jy] at Qc;refine⟨_,rfl,Yb ⟨_,rfl,⟨.ref h1.objs.size,_,I1.laid (λb ob e=>zx b ob (YF (Ys e)) (X8 _ e)) (X_ _) ?_,rfl,q _ _ (I1.hok.fresh (X_ _)) Qc⟩⟩⟩;exact⟨by rw[X3,Yd,hP.sz,pM];omega,_,c',lG rv Jt,BF⟩
theorem we(e:Same F F'):∀{ws:List V}{ks:List (List Int)},d6 F ws ks->d6 F' ws ks
 |_,_, .nil=> .nil
 |_,_, .cons ⟨b,q1,q2⟩ t=> .cons ⟨b,q1,e _ _ q2⟩ (we e t)
theorem tU(hs:Same F H):∀{ws:List V}{ks:List (List Int)},d6 H ws ks->∃F',Ext F H F' H/\d6 F' ws ks
 |_,_, .nil=>⟨F,Ext.refl hs, .nil⟩
 |_,_, .cons h t=>by
  obtain⟨a,rfl,h⟩:=h;obtain⟨F1,e1,r1⟩:=tU hs t;have e2:=Ext.tup e1.fh h;refine⟨_,e1.trans e2, .cons ⟨a,rfl,aD⟩ ?_⟩;exact we e2.ff r1
def lN:List Key->Option (List Int)
 |[]=>θ []
 | .inl i::r=>(lN r).map (i:: ·)
 |_=>ω
def fT:List (List Key)->Option (List (List Int))
 |[]=>θ []
 |k::r=>match lN k,fT r with
  |some x,θ xs=>θ (x::xs)
  |_,_=>ω
theorem sd:∀{k:List Key}{x:List Int},lN k=θ x->k=j6 x
 |[],_,e=>by cases e;rfl
 | .inl i::r,_,e=>by
   unfold lN at e;cases q:lN r with
   |none=>rw[q] at e;cases e
   |some y=>rw[q] at e;cases e;rw[sd q];rfl
 | .inr _::r,_,e=>by cases e
theorem lg:∀{kk:List (List Key)}{ks:List (List Int)},fT kk=θ ks->kk=ks.map j6
 |[],_,e=>by cases e;rfl
 |k::r,_,e=>by
  unfold fT at e;split at e
  ·rename_i x xs e1 e2;cases e;rw[X9,<-sd e1,<-lg e2]
  ·cases e
def lZ:List D->M D
 |[.dct kk ds]=>match fT kk with
  |some ks=>if gx ks&&ks.all (λk=>decide (k.length<=lim)) then aa (.lst ((sortI ks).map tupI)) else af
  |none=>af
 |_=>af
theorem gJ:∀{a:List α}{b:List β},a.length=b.length->(a.zip b).map (·.1)=a
 |[],[],_=>rfl
 |x::a,y::b,h=>by rw[ZO,X9,gJ (by simpa using h)]
 |[],_::_,h=>by simp at h
 |_::_,[],h=>by simp at h
def DU(hc:X.calm=ψ)(hg:Gl X "sorted")(hm:X.mg "sorted"=ω)(hb:YW "sorted"=θ (.builtin "sorted"))(ha:nZ X Xw [e] δs)(he:Yw [e] X.env=[(μ,eval e X.env)]:=by rfl):PD X Xw (.Call (.Name "sorted" p) [e] [] pos) (dA lZ δs):=
 ez (Ez hc) (λXw F H vs ds Q s h w=>by
  unfold lZ at w;split at w
  ·rename_i kk ds;obtain⟨v,rfl,h1⟩:=h.one;obtain⟨a,ob,ws,rfl,h2,h3,h4,h5⟩:=h1;split at w
   ·rename_i ks zA;split at w
    ·rename_i hok;rw[Yq] at hok;have hl:∀k∈ks,k.length<=lim:=λk hk=>aei (Yu.mp hok.2 k hk);have la:ks.length<64:=by
      have:=hok.1;unfold gx at this;rw[Yq,Yq] at this;exact aei this.1.2
     refine⟨a,_,ks,rfl, .inr ⟨ob,s _ _ h2⟩,by rw[gJ (by rw[h4];exact h3.len),lg zA],hok.1,λq us hq hr=>?_⟩;obtain⟨F1,e1,r1⟩:=tU s hr;have e2:=Ext.lay (o:= .lst us) e1.fh hq;exact WP.fin w (e1.trans e2) ⟨q,_,rfl,aD,DenL.mono e2.ff (nM r1 λk hk=>hl k (gO.mp hk)),by rw[X3,pA];unfold lim;omega⟩
    ·exact w.elim
   ·exact w.elim
  ·exact w.elim) hg hm hb ha (by decide) (by decide) he rfl
end
end L3
namespace L3
open PySem PySem.Spec L2
open PyProof.Rows hiding St
def orM(a b:M α):M α:=match a with
 |none=>b
 |some r=>θ r
def Ke(a b:DA):DA:=λρ=>orM (a ρ) (b ρ)
section
variable{X:Cx}{Xw:Nat->Hp->Prop}{e tg:Expr}{δi δi':DA}
def DV(h:Ba X Xw tg e δi)(h':Ba X Xw tg e δi'):Ba X Xw tg e (Ke δi δi'):=λf8 s σ H Q I ⟨F,ρ,S,w⟩=>by
 unfold Ke orM at w;cases q:δi ρ with
 |none=>rw[q] at w;exact h' f8 s σ H Q I ⟨F,ρ,S,w⟩
 |some r=>rw[q] at w;exact h f8 s σ H Q I ⟨F,ρ,S,by rw[q];exact w⟩
def jd{st:Stmt}:iQ X Xw st (λ_=>af):=λu8 aep f8 s σ H D I ⟨F,ρ,S,w⟩=>w.elim
end
def fgt:List Nat->bQ->bQ
 |[],ρ=>ρ
 |i::is,ρ=>fgt is (ρ.set i ω)
def QG(f:bQ->bQ):Out->M Out
 | .nx ρ=>aa (.nx (f ρ))
 | .rt d=>aa (.rt d)
def cM(is:List Nat)(τ:DS):DS:=λρ=>τ ρ>>=QG (fgt is)
def StOk.fgt1{K:Ym}(s:StOk K u8 aep F H σ ρ)(i:Nat):StOk K u8 aep F H σ (ρ.set i ω):=by
 have get:∀(j:Nat) (sl:Sl),(ρ.set i ω)[j]? =θ (θ sl)->ρ[j]? =θ (θ sl):=λj sl e=>by
  by_cases hj:j=i
  ·subst hj;by_cases hl:j<ρ.length
   ·rw[Yt hl] at e;cases e
   ·rw[ZP (by simpa using hl)] at e;cases e
  ·rw[Yn (Y9 hj)] at e;exact e
 exact⟨s.ext,⟨s.st.fh,λj sl e=>s.st.den j sl (get j sl e)⟩,by simp[s.len],λj c a e e'=>s.own j c a (get j _ e) e',λj k c c' a e1 e2 e3 e4=>s.sep j k c c' a (get j _ e1) (get k _ e2) e3 e4⟩
theorem StOk.fgt{K:Ym}:∀(is:List Nat) {ρ:bQ},StOk K u8 aep F H σ ρ->StOk K u8 aep F H σ (L3.fgt is ρ)
 |[],_,s=>s
 |i::is,_,s=>StOk.fgt is (s.fgt1 i)
theorem WPS.fgt{K:Ym}(w:WPS K Xw u8 aep (m>>=QG (L3.fgt is)) Dn):WPS K Xw u8 aep m Dn:=by
 match m,w with
 |none,w=>exact w
 |some (.ok (.nx ρ)),w=>exact λσ F H s=>w σ F H (s.fgt is)
 |some (.ok (.rt d)),w=>exact w
 |some (.ex n),w=>exact w
section
variable{X:Cx}{Xw:Nat->Hp->Prop}{Vv:List Stmt}{τ:DS}{is:List Nat}
def a6(h:PSDs X Xw Vv τ):PSDs X Xw Vv (cM is τ):=λu8 aep=>PSs.weak (h u8 aep) λD σ H ⟨F,ρ,s,w⟩=>⟨F,ρ,s,WPS.fgt w⟩
end
def VN:Option Sl->Option Sl
 |some (.ow c)=>θ (.fz c.d)
 |x=>x
def yN(ρ:bQ):bQ:=ρ.map VN
def refA(h:Heap)(P:Addr->Prop)[DecidablePred P](H:Hp):Hp:=λb=>if P b then(H b).map (qD ((h.get? b).getD {cls:= .none,data:= .fields #[]})) else H b
def BA(ob:Obj)(o:HO):qD ob o=o\/((∃k,o= .dT k)\/∃k,o= .dK k)/\qD ob o= .frz ob o:=by
 cases o<;>first | exact .inl rfl | exact .inr ⟨.inl ⟨_,rfl⟩,rfl⟩ | exact .inr ⟨.inr ⟨_,rfl⟩,rfl⟩
section
variable{X:Cx}{f8:List (Addr×Obj)}{σ:St}{H:Hp}{s:Yc}{P:Addr->Prop}[DecidablePred P]
def jf(e:H b=ω):refA h P H b=ω:=by
 unfold refA;split
 ·rw[e];rfl
 ·exact e
def v8(e:H b=θ o):refA h P H b=θ o\/((∃k,o= .dT k)\/∃k,o= .dK k)/\P b/\refA h P H b=θ (.frz ((h.get? b).getD {cls:= .none,data:= .fields #[]}) o):=by
 unfold refA;split
 ·rename_i hp;rw[e];rcases BA ((h.get? b).getD {cls:= .none,data:= .fields #[]}) o with q | ⟨q1,q2⟩
  ·exact .inl (by show θ _=_;rw[q])
  ·exact .inr ⟨q1,hp,by show θ _=_;rw[q2]⟩
 ·exact .inl e
def je(e:H b=θ o)(n1:∀k,o≠ .dT k)(n2:∀k,o≠ .dK k):refA h P H b=θ o:=by
 rcases v8 (P:=P) e with q | ⟨⟨k,q⟩ | ⟨k,q⟩,_⟩
 ·exact q
 ·exact ael q (n1 k)
 ·exact ael q (n2 k)
theorem Inv.refA(I:Inv X f8 σ H s):Inv X f8 σ (L3.refA s.heap P H) s:=by
 have obj:∀b o,H b=θ o->((∃k,o=HO.dT k)\/∃k,o= .dK k)->∃ob,s.heap.get? b=θ ob:=λb o e hu=>by
  have hk:=I.hok b o e;rcases hu with⟨k,h1⟩ | ⟨k,h1⟩
  ·subst h1;obtain⟨_,_,_,_,ob,_,_,q,_⟩:=hk;exact⟨ob,q⟩
  ·subst h1;obtain⟨_,_,_,_,ob,_,_,q,_⟩:=hk;exact⟨ob,q⟩
 refine⟨I.ok,I.os,I.bare,⟨I.base.keep,I.base.slot,λb q h1 h2 h3=>jf (I.base.free b q h1 h2 h3),I.base.there,λb xs q=>je (I.base.tups b xs q) (λ_ z=>nomatch z) (λ_ z=>nomatch z),
  λb q1 v q=>je (I.base.frzs b q1 v q) (λ_ z=>nomatch z) (λ_ z=>nomatch z),λb ps q=>?_⟩,I.loc,I.cell,jf I.free,λx c q=>jf (I.freeC x c q),λp hp=>?_,λb v q=>?_,I.len⟩
 ·obtain⟨m,this⟩:=I.base.tbls b ps q;exact⟨m,je this (λ_ z=>nomatch z) (λ_ z=>nomatch z)⟩
 ·obtain⟨h1,h2,h3⟩:=I.pin p hp;exact⟨h1,jf h2,h3⟩
 ·have st:∀{c:Addr}{v:HO},ObjOk X.prog X.w H s.heap c v->ObjOk X.prog X.w (L3.refA s.heap P H) s.heap c v:=λ{c v} k=>k.stay (λ_ _ _ q=>q)
   (λc' q=>je q (λ_ z=>nomatch z) (λ_ z=>nomatch z)) λc' xs q=>je q (λ_ z=>nomatch z) (λ_ z=>nomatch z)
  cases e:H b with
  |none=>rw[jf e] at q;cases q
  |some o=>
   rcases v8 (P:=P) e with z | ⟨hu,hp,z⟩
   ·rw[z] at q;cases q;exact st (I.hok b _ e)
   ·rw[z] at q;cases q;obtain⟨ob,M5⟩:=obj b o e hu;rw[M5];exact⟨M5,st (I.hok b o e)⟩
def unA(P:Addr->Prop)[DecidablePred P](H:Hp):Hp:=λb=>if P b then(match H b with | some (.frz _ u)=>θ u | x=>x) else H b
theorem Inv.unA(I:Inv X f8 σ H s)(hP:∀b,P b->∀o u,X.aep b≠θ (.frz o u))(hQ:∀b,P b->∀o u,H b=θ (.frz o u)->(∃k,u= .dT k)\/∃k,u= .dK k):Inv X f8 σ (L3.unA P H) s:=by
 have non:∀b,H b=ω->L3.unA P H b=ω:=λb e=>by unfold L3.unA;rw[e];split<;>rfl
 have keep:∀b o,H b=θ o->(∀q u,o≠ .frz q u)->L3.unA P H b=θ o:=λb o e n=>by
  unfold L3.unA;split
  ·rw[e];cases o<;>first | rfl | exact ael rfl (n _ _)
  ·exact e
 refine⟨I.ok,I.os,I.bare,⟨I.base.keep,I.base.slot,λb q h1 h2 h3=>non b (I.base.free b q h1 h2 h3),I.base.there,λb xs q=>keep b _ (I.base.tups b xs q) (λ_ _ z=>nomatch z),
  λb q1 v q=>?_,λb ps q=>?_⟩,I.loc,I.cell,non _ I.free,λx c q=>non _ (I.freeC x c q),λp hp=>?_,λb v q=>?_,I.len⟩
 ·have:=I.base.frzs b q1 v q;unfold L3.unA;rw[aeh (λhp=>hP b hp q1 v q)];exact this
 ·obtain⟨m,this⟩:=I.base.tbls b ps q;exact⟨m,keep b _ this (λ_ _ z=>nomatch z)⟩
 ·obtain⟨h1,h2,h3⟩:=I.pin p hp;exact⟨h1,non _ h2,h3⟩
 ·have st:∀{c:Addr}{v:HO},ObjOk X.prog X.w H s.heap c v->ObjOk X.prog X.w (L3.unA P H) s.heap c v:=λ{c v} k=>k.stay (λ_ _ _ q=>q)
   (λc' q=>keep c' _ q (λ_ _ z=>nomatch z)) λc' xs q=>keep c' _ q (λ_ _ z=>nomatch z)
  cases e:H b with
  |none=>rw[non b e] at q;cases q
  |some o=>
   have ko:=I.hok b o e;by_cases hf:∃ob u,o= .frz ob u
   ·obtain⟨ob,u,rfl⟩:=hf;unfold L3.unA at q;split at q
    ·rw[e] at q;cases q;obtain⟨_,k2⟩:=ko;exact st k2
    ·rw[e] at q;cases q;exact st ko
   ·rw[keep b o e (λq u z=>hf ⟨q,u,z⟩)] at q;cases q;exact st ko
end
mutual
def C3:D->Bool
 | .non=>ψ
 | .bl _=>ψ
 | .int _=>ψ
 | .str _=>ψ
 | .tup ds=>C4 ds
 | .raw _=>μ
 | .exc _=>μ
 | .scr _=>μ
 | .lst _=>μ
 | .dct _ _=>μ
 | .dci _ _=>μ
def C4:List D->Bool
 |[]=>ψ
 |d::ds=>C3 d&&C4 ds
end
def rP(d:D):M D:=if C3 d then aa d else af
def OwnAt(σ:St)(ρ:bQ)(b:Addr):Prop:=∃(i:Nat) (c:C),ρ[i]? =θ (θ (Sl.ow c))/\σ[i]? =θ (θ (V.ref b))
section
variable{K:Ym}{F H F' H':Hp}{σ:St}{ρ:bQ}{h:Heap}{b:Addr}
def OwnAt.obj(S:StE K F H σ ρ)(p:OwnAt σ ρ b):F b=ω/\∃o,H b=θ o/\((∃x,o= .lst x)\/(∃x,o= .dT x)\/∃x,o= .dK x):=by
 obtain⟨i,c,h1,h2⟩:=p;obtain⟨v,h3,a,o,rfl,h4,h5,h6⟩:=S.den i _ h1;rw[h3] at h2;cases h2;refine⟨h5,o,h4,?_⟩;cases c with
 |lst ds=>obtain⟨vs,rfl,_⟩:=h6;exact .inl ⟨_,rfl⟩
 |dct ks ds=>obtain⟨vs,rfl,_⟩:=h6;exact .inr (.inl ⟨_,rfl⟩)
 |dci ks ds=>obtain⟨vs,rfl,_⟩:=h6;exact .inr (.inr ⟨_,rfl⟩)
open Classical in
noncomputable def fA(σ:St)(ρ:bQ)(H1 F:Hp):Hp:=λb=>if OwnAt σ ρ b then H1 b else F b
open Classical in
def C2(S:StE K F H σ ρ):Same F (fA σ ρ H1 F):=λb u e=>by
 unfold fA;rw[aeh (λp=>by rw[(OwnAt.obj S p).1] at e;cases e)];exact e
open Classical in
def Bz(S:StE K F H σ ρ):StE K (fA σ ρ (refA h (OwnAt σ ρ) H) F) (refA h (OwnAt σ ρ) H) σ (yN ρ):=by
 refine⟨λb u e=>?_,λj sl e=>?_⟩
 ·unfold fA at e;split at e
  ·exact e
  ·rename_i hp;unfold refA;rw[aeh hp];exact S.fh b u e
 ·unfold yN at e;rw[Yl] at e;cases q:ρ[j]? with
  |none=>rw[q] at e;cases e
  |some x=>
   rw[q] at e;cases x with
   |none=>cases e
   |some y=>
    cases y with
    |fz d=>
     cases e;obtain⟨v,h1,h2⟩:=S.den j _ q;exact⟨v,h1,Den.mono (C2 S) h2⟩
    |ow c=>
     cases e;obtain⟨v,h1,a,o,rfl,h4,h5,h6⟩:=S.den j _ q;refine⟨_,h1,DenC.den (ob:=(h.get? a).getD {cls:= .none,data:= .fields #[]}) h6 (C2 S) ?_⟩;have hp:OwnAt σ ρ a:=⟨j,c,q,h1⟩
     unfold fA refA;rw[aef hp,aef hp,h4];rfl
open Classical in
def rT(S:StE K F H σ ρ)(E:Ext (fA σ ρ (refA h (OwnAt σ ρ) H) F) (refA h (OwnAt σ ρ) H) F' H'):
 Ext F H (λb=>if OwnAt σ ρ b then ω else F' b) (unA (OwnAt σ ρ) H')/\∀b,OwnAt σ ρ b->∀o u,H' b=θ (.frz o u)->(∃k,u= .dT k)\/∃k,u= .dK k:=by
 have Um:∀b,OwnAt σ ρ b->∃o,H b=θ o/\H' b=θ (qD ((h.get? b).getD {cls:= .none,data:= .fields #[]}) o)/\((∃x,o= .lst x)\/(∃x,o= .dT x)\/∃x,o= .dK x):=λb hp=>by
  obtain⟨_,o,h1,h2⟩:=OwnAt.obj S hp;refine⟨o,h1,E.hh b _ ?_,h2⟩;unfold refA;rw[aef hp,h1];rfl
 refine⟨⟨λb o e=>?_,λb u e=>?_,λb u e=>?_,λb hb=>?_⟩,λb hp o u e=>?_⟩
 ·unfold unA;by_cases hp:OwnAt σ ρ b
  ·obtain⟨o',h1,h2,h3⟩:=Um b hp;rw[e] at h1;cases h1;rw[aef hp,h2];rcases h3 with⟨x,rfl⟩ | ⟨x,rfl⟩ | ⟨x,rfl⟩<;>rfl
  ·rw[aeh hp];refine E.hh b o ?_;unfold refA;rw[aeh hp];exact e
 ·have hp:¬OwnAt σ ρ b:=λp=>by rw[(OwnAt.obj S p).1] at e;cases e
  show (if OwnAt σ ρ b then ω else F' b)=_;rw[aeh hp];refine E.ff b u ?_;unfold fA;rw[aeh hp];exact e
 ·have e:(if OwnAt σ ρ b then ω else F' b)=θ u:=e;split at e
  ·cases e
  ·rename_i hp;unfold unA;rw[aeh hp];exact E.fh b u e
 ·show (if OwnAt σ ρ b then ω else F' b)=F b\/_;by_cases hp:OwnAt σ ρ b
  ·rw[aef hp];exact .inl (OwnAt.obj S hp).1.symm
  ·rw[aeh hp];have e1:refA h (OwnAt σ ρ) H b=H b:=by unfold refA;rw[aeh hp]
   have e2:fA σ ρ (refA h (OwnAt σ ρ) H) F b=F b:=by unfold fA;rw[aeh hp]
   rcases E.new b (by rw[e1];exact hb) with q | q
   ·exact .inl (q.trans e2)
   ·rw[e1] at q;exact .inr q
 ·obtain⟨o',h1,h2,h3⟩:=Um b hp;rw[e] at h2;rcases h3 with⟨x,rfl⟩ | ⟨x,rfl⟩ | ⟨x,rfl⟩
  ·cases h2
  ·cases h2;exact .inl ⟨_,rfl⟩
  ·cases h2;exact .inr ⟨_,rfl⟩
open Classical in
mutual
theorem zo(S:StE K F H σ ρ)(E:Ext (fA σ ρ (refA h (OwnAt σ ρ) H) F) (refA h (OwnAt σ ρ) H) F' H'):∀{d:D}{v:V},C3 d=ψ->Den K F' d v->Den K (λb=>if OwnAt σ ρ b then ω else F' b) d v
 | .non,_,_,q=>q
 | .bl _,_,_,q=>q
 | .int _,_,_,q=>q
 | .str _,_,_,q=>q
 | .tup ds,_,f,⟨a,vs,h1,h2,h3,h4⟩=>by
   refine⟨a,vs,h1,?_,vo S E ?_ h3,h4⟩
   ·show (if OwnAt σ ρ a then ω else F' a)=_;rw[aeh,h2];intro hp;obtain⟨_,o,k1,k2⟩:=OwnAt.obj S hp;have k3:fA σ ρ (refA h (OwnAt σ ρ) H) F a=θ (qD ((h.get? a).getD {cls:= .none,data:= .fields #[]}) o):=by
     unfold fA refA;rw[aef hp,aef hp,k1];rfl
    have k4:=E.ff a _ k3;rw[h2] at k4;rcases k2 with⟨x,rfl⟩ | ⟨x,rfl⟩ | ⟨x,rfl⟩<;>cases k4
   ·exact f
 | .raw _,_,f,_=>by cases f
 | .exc _,_,f,_=>by cases f
 | .scr _,_,f,_=>by cases f
 | .lst _,_,f,_=>by cases f
 | .dct _ _,_,f,_=>by cases f
 | .dci _ _,_,f,_=>by cases f
theorem vo(S:StE K F H σ ρ)(E:Ext (fA σ ρ (refA h (OwnAt σ ρ) H) F) (refA h (OwnAt σ ρ) H) F' H'):∀{ds:List D}{vs:List V},C4 ds=ψ->DenL K F' ds vs->DenL K (λb=>if OwnAt σ ρ b then ω else F' b) ds vs
 |[],_,_,q=>q
 |d::ds,_,f,⟨v,r,h1,h2,h3⟩=>by
  unfold C4 at f;rw[Yq] at f;exact⟨v,r,h1,zo S E f.1 h2,vo S E f.2 h3⟩
end
end
def qZ(h:noex m=aa a):m=aa a:=by
 match m,h with
 |some (.ok b),h=>exact h
section
variable{X:Cx}{Xw:Nat->Hp->Prop}{e:Expr}{δ:DE}{τ:DT}
def oY(I:Inv X f8 σ H s)(S:StE X.K F H σ ρ)(b:Addr)(p:OwnAt σ ρ b)(o:Obj)(u:HO):X.aep b≠θ (.frz o u):=λz=>by
 obtain⟨_,o',k1,k2⟩:=OwnAt.obj S p;have:=I.base.frzs b o u z;rw[k1] at this;rcases k2 with⟨x,rfl⟩ | ⟨x,rfl⟩ | ⟨x,rfl⟩<;>cases this
def g9(m:M α):noex m=af\/∃a,m=aa a/\noex m=aa a:=by
 rcases m.cs with h | ⟨n,h⟩ | ⟨a,h⟩
 ·subst h;exact .inl rfl
 ·subst h;exact .inl rfl
 ·subst h;exact .inr ⟨a,rfl,rfl⟩
def o6(h:n0 X Xw e τ):n0 X Xw e (λρ=>noex (τ (yN ρ))):=λf8 s σ H Q I ⟨F,ρ,S,w⟩=>by
 classical
 rcases g9 (τ (yN ρ)) with q | ⟨b,q,q2⟩
 ·have w:WPB Xw F H (noex (τ (yN ρ))) Q:=w;rw[q] at w;exact w.elim
 ·have w:WPB Xw F H (noex (τ (yN ρ))) Q:=w;rw[q2] at w;refine cJ (h f8 s σ _ (λb' H'=>Q b' (unA (OwnAt σ ρ) H')/\∀c,OwnAt σ ρ c->∀o u,H' c=θ (.frz o u)->(∃k,u= .dT k)\/∃k,u= .dK k) (Inv.refA I) ⟨_,_,Bz S,?_⟩) λb' s' ⟨H',I',q1,q3⟩=>⟨_,Inv.unA I' (oY I S) q3,q1⟩
  rw[q];intro H' F' E;obtain⟨E1,q3⟩:=rT S E;exact⟨w _ _ E1,q3⟩
def QN(h:PD X Xw e δ):PD X Xw e (λρ=>noex (δ (yN ρ))>>=rP):=λf8 s σ H Q I ⟨F,ρ,S,w⟩=>by
 classical
 rcases g9 (δ (yN ρ)) with q | ⟨d,q,q2⟩
 ·have w:WP X.K Xw F H (noex (δ (yN ρ))>>=rP) Q:=w;rw[q] at w;exact w.elim
 ·have w:WP X.K Xw F H (noex (δ (yN ρ))>>=rP) Q:=w;rw[q2,aw] at w;unfold rP at w;split at w
  ·rename_i hf;refine cJ (h f8 s σ _ (λv H'=>Q v (unA (OwnAt σ ρ) H')/\∀c,OwnAt σ ρ c->∀o u,H' c=θ (.frz o u)->(∃k,u= .dT k)\/∃k,u= .dK k) (Inv.refA I) ⟨_,_,Bz S,?_⟩) λb' s' ⟨v,H',I',rv,q1,q3⟩=>⟨v,_,Inv.unA I' (oY I S) q3,rv,q1⟩
   rw[q];intro v H' F' E dn;obtain⟨E1,q3⟩:=rT S E;exact⟨w _ _ _ E1 (zo S E hf dn),q3⟩
  ·exact w.elim
end
abbrev DF:=bQ->M C
def WPF(K:Ym)(Xw:Nat->Hp->Prop)(F H:Hp)(m:M C)(Q:VK):Prop:=
 match m with
 |none=>False
 |some (.ok c)=>∀a o H' F',Ext F H F' H'->H' a=θ o->F' a=ω->H a=ω->DenC K F' c o->Q (.ref a) H'
 |some (.ex n)=>∀F' H',Ext F H F' H'->Xw n H'
def XD(K:Ym)(Xw:Nat->Hp->Prop)(δ:DF):TE:=λσ H Q=>∃F ρ,StE K F H σ ρ/\WPF K Xw F H (δ ρ) Q
def OE(X:Cx)(Xw:Nat->Hp->Prop)(e:Expr)(δ:DF):Prop:=PE X e (XD X.K Xw δ)
def AB(i:Nat)(δ:DF):DS:=λρ=>δ ρ>>=λc=>aa (.nx (ρ.set i (θ (.ow c))))
def StOk.setFresh{K:Ym}(s:StOk K u8 aep F H σ ρ)(E:Ext F H F' H')(ho:H' a=θ o)(nF:F' a=ω)(n:H a=ω)(h:DenC K F' c₀ o):
 StOk K u8 aep F' H' (σ.set i (θ (.ref a))) (ρ.set i (θ (.ow c₀))):=by
 have hle:=s.len;have get:∀(j:Nat) (sl:Sl),(ρ.set i (θ (.ow c₀)))[j]? =θ (θ sl)->(j=i/\i<ρ.length/\sl= .ow c₀)\/(j≠i/\ρ[j]? =θ (θ sl)):=λj sl e=>by
  by_cases hj:j=i
  ·subst hj;have hi:j<ρ.length:=by
    have:=(Yk.mp e).1;simpa using this
   rw[Yt hi] at e;cases e;exact .inl ⟨rfl,hi,rfl⟩
  ·rw[Yn (Y9 hj)] at e;exact .inr ⟨hj,e⟩
 have old:∀(j:Nat) (c:C) (b:Addr),ρ[j]? =θ (θ (.ow c))->σ[j]? =θ (θ (.ref b))->b≠a:=λj c b e e' z=>by
  obtain⟨u,h1,b',o,h2,h3,_⟩:=s.st.den j _ e;rw[h1] at e';cases e';cases h2;rw[z,n] at h3;cases h3
 refine⟨s.ext.trans E,⟨E.fh,λj sl e=>?_⟩,by simp[hle],λj c b e e'=>?_,λj k c c' b e1 e2 e3 e4=>?_⟩
 ·rcases get j sl e with⟨rfl,hi,rfl⟩ | ⟨hj,e⟩
  ·exact⟨.ref a,by rw[Yt (by omega)],a,_,rfl,ho,nF,h⟩
  ·obtain⟨u,h1,h2⟩:=s.st.den j sl e;exact⟨u,by rw[Yn (Y9 hj)];exact h1,h2.ext E⟩
 ·rcases get j _ e with⟨rfl,hi,_⟩ | ⟨hj,e⟩
  ·rw[Yt (by omega)] at e';cases e';exact Same.free s.ext.hh n
  ·rw[Yn (Y9 hj)] at e';exact s.own j c b e e'
 ·rcases get j _ e1 with⟨rfl,hi,_⟩ | ⟨hj,e1⟩
  ·rw[Yt (by omega)] at e3;cases e3;rcases get k _ e2 with⟨rfl,_,_⟩ | ⟨hk,e2⟩
   ·rfl
   ·rw[Yn (Y9 hk)] at e4;exact ael rfl (old k c' a e2 e4)
  ·rcases get k _ e2 with⟨SW,hi,_⟩ | ⟨hk,e2⟩
   ·rw[SW,Yt (by omega)] at e4;cases e4;rw[Yn (Y9 hj)] at e3;exact ael rfl (old j c a (by assumption) e3)
   ·rw[Yn (Y9 hj)] at e3;rw[Yn (Y9 hk)] at e4;exact s.sep j k c c' b e1 e2 e3 e4
def WPF.mono{K:Ym}(h:WPF K Xw F H m Q)(k:∀v H',Q v H'->Q' v H'):WPF K Xw F H m Q':=by
 match m,h with
 |none,h=>exact h
 |some (.ok d),h=>exact λa o H' F' e h1 h2 h3 h4=>k _ _ (h a o H' F' e h1 h2 h3 h4)
 |some (.ex n),h=>exact h
def WPF.ext{K:Ym}(e:Ext F H F1 H1)(h:WPF K Xw F H m Q):WPF K Xw F1 H1 m Q:=by
 match m,h with
 |none,h=>exact h
 |some (.ok d),h=>exact λa o H' F' e' h1 h2 h3 h4=>h a o H' F' (e.trans e') h1 h2 (Same.free e.hh h3) h4
 |some (.ex n),h=>exact λF2 H2 e2=>h F2 H2 (e.trans e2)
def WPF.bind{K:Ym}(h:WPF K Xw F H (m>>=k) Q):WP K Xw F H m λv H1=>∃F1 d,Ext F H F1 H1/\Den K F1 d v/\WPF K Xw F1 H1 (k d) Q:=by
 match m,h with
 |none,h=>exact h
 |some (.ok d),h=>exact λv H2 F2 e2 q=>⟨F2,d,e2,q,WPF.ext e2 (show WPF K Xw F H (k d) Q from h)⟩
 |some (.ex n),h=>exact h
def MK(a b:DF):DF:=λρ=>orM (a ρ) (b ρ)
section
variable{X:Cx}{Xw:Nat->Hp->Prop}{e k v a b:Expr}{es:List Expr}{δ δ':DF}{pos pos':Pos}{x:Str}{i:Nat}
def KZ(h:OE X Xw e δ)(h':OE X Xw e δ'):OE X Xw e (MK δ δ'):=λf8 s σ H Q I ⟨F,ρ,S,w⟩=>by
 unfold MK orM at w;cases q:δ ρ with
 |none=>rw[q] at w;exact h' f8 s σ H Q I ⟨F,ρ,S,w⟩
 |some r=>rw[q] at w;exact h f8 s σ H Q I ⟨F,ρ,S,by rw[q];exact w⟩
def tL(hN:X.N.Nodup)(hi:X.N[i]? =θ x)(hx:Loc X.env.scope x)(he:OE X Xw e δ)(hf:X.fn x=ψ\/X.env.scope.names.lookup x=θ .local:=by first | exact .inl rfl | exact .inr rfl)
 (hs:acA [.Name x pos'] e pos.line X.env=pure μ:=by rfl):
 iQ X Xw (.Assign [.Name x pos'] e pos) (AB i δ):=λu8 aep=>PS.weak (o8 he (aY hN hi hx hf) hs) λD σ H ⟨F,ρ,s,w⟩=>by
 refine⟨F,ρ,s.st,?_⟩;unfold AB at w
 match δ ρ,w with
 |none,w=>exact w
 |some (.ok c),w=>exact λa o H' F' E h1 h2 h3 h4=>w _ F' H' (s.setFresh E h1 h2 h3 h4)
 |some (.ex n),w=>exact λF' H' e'=>w F' H' (s.ext.trans e')
def Pd{a:Addr}{y v:V}(hu:A.units+1<cLine)(I:Inv X f8 σ H s)(g:DPut H a y v H')(ry:RelV y u)(rv:RelV v r)(h:∀s',Inv X f8 σ H' s'->Q () s'):
 wpAny (model X.prog X.w) A (dictSet a u r) Q E s:=by
 rcases g with⟨kvs,k,e,ey,l,eH⟩ | ⟨kvs,k,b,e,ey,eb,l,eH⟩
 ·subst ey eH;obtain⟨z,hd,vs,rel,dd⟩:=GA I.hok e;have hz:vs.length<=Yv:=by rw[<-rel.length];exact z
  have hl:(putK kvs k v).length<=Yv:=by have:=eO kvs k v;omega
  refine wpAny_dictSet_pairs (sj ry) dd λh' CU hs=>h _ ?_;have he:∃q,h'.get? a=θ q:=let ⟨q,_,_,hq,_⟩:=CU;⟨q,hq⟩
  exact k8 I (by rw[e];exact ZR) hs he (Bu hl hd (rel.put k rv) CU)
 ·subst ey eH;cases (show u=YY b from ry);obtain⟨z,hd,xs,rel,dd⟩:=GD I.hok e;have hz:xs.length<=Yv:=by rw[<-ZV rel];exact z
  have hl:(putK kvs k v).length<=Yv:=by have:=eO kvs k v;omega
  refine wpAny_dictSet_heap (by exact(show A.units<cLine by omega)) (oG I.hok eb) dd λh' CU hs=>h _ ?_;obtain⟨q,es,ep,hq,h2,h3,h4,_,h5⟩:=CU;refine k8 I (by rw[e];exact ZR) hs ⟨q,hq⟩ ⟨hl,hd,_,(rel.put k eb rv).keeps λc ys ec=>?_,q,es,ep,hq,h2,h3,h4,h5⟩;rw[ay (HA ec e (λz=>nomatch z))];exact ec
end
section
variable{X:Cx}{Xw:Nat->Hp->Prop}{e k v a b:Expr}{es:List Expr}{δk δv δa δb:DE}{pos p:Pos}{x:Str}{i:Nat}
def zg(hu:X.A.units+1<cLine)(h0:∀(H:Hp) (h:Heap),Zy<h.objs.size->ObjOk X.prog X.w H (h.push {cls:= .type "dict",data:= .dict #[]}) h.objs.size o0)(hk:PE X k tk)(hv:PE X v tv):
 PE X (.Dict [θ k] [v] pos) (λσ H Q=>∀p,H p=ω->tk σ (upd H p o0) λy H1=>tv σ H1 λz H2=>∃H3,DPut H2 p y z H3/\Q (.ref p) H3):=by
 intro f8 s σ H Q I q;have hn:=I.hok.fresh (X_ s.heap.objs.size);have I1:=I.laid (t':=s.toks) (λ_ _ q=>X8 _ q) (X_ _) (h0 _ s.heap I.big);refine wpAny_Dict_any rfl rfl (by simp) (by simp) (cJ (Iu hk hv K_ f8 _ σ _ (λps H2=>∃y z H3,ps=[(y,z)]/\DPut H2 s.heap.objs.size y z H3/\Q (.ref s.heap.objs.size) H3) I1 ?_) λws s2 ⟨ps,H2,I2,rel,y,z,H3,ep,g,q2⟩=>?_)
 ·refine ?_;have:=q _ hn;show tk σ _ λy H1=>tv σ H1 λz H2=>∃y' z' H3,[(y,z)]=[(y',z')]/\DPut H2 s.heap.objs.size y' z' H3/\Q (.ref s.heap.objs.size) H3;have e:(λ(y:V) (H1:Hp)=>tv σ H1 λz H2=>∃y' z' H3,[(y,z)]=[(y',z')]/\DPut H2 s.heap.objs.size y' z' H3/\Q (.ref s.heap.objs.size) H3)=(λy H1=>tv σ H1 λz H2=>∃H3,DPut H2 s.heap.objs.size y z H3/\Q (.ref s.heap.objs.size) H3):=by
   funext y H1;congr 1;funext z H2;refine propext ⟨λ⟨y',z',H3,ee,r⟩=>?_,λ⟨H3,r⟩=>⟨y,z,H3,rfl,r⟩⟩;cases ee;exact⟨H3,r⟩
  rw[e];exact this
 ·subst ep;cases rel with
  | @cons a b as bs h t=>
    cases t;obtain⟨r1,r2⟩:=h;unfold storeAll;rw[aby];refine X6 (X6 (Pd hu I2 g r1 r2 λs3 I3=>?_));refine Yb ?_;show wpAny _ _ (forIn ([]:List (Value×Value)) aaw _) _ _ _;rw[List.forIn_nil];exact Yb ⟨V.ref s.heap.objs.size,_,I3,rfl,q2⟩
def lL(k v:D):M C:=match eJ k with
 |some kk=>aa (.dct [kk] [v])
 |none=>af
def rK(k v:D):M C:=match me k with
 |some kk=>aa (.dci [kk] [v])
 |none=>af
def o5(hu:X.A.units+64<cLine)(hk:PD X Xw k δk)(hv:PD X Xw v δv):OE X Xw (.Dict [θ k] [v] pos) (λρ=>δk ρ>>=λx=>δv ρ>>=λy=>lL x y):=
 PE.weak (zg (o0:= .dT []) (by omega) (λH h hb=>zj h hb) hk hv) λσ H Q ⟨F,ρ,s,w⟩ q hq=>by
  have e0:=Ext.free (o:= .dT []) s.fh hq;refine⟨F,ρ,s.ext e0,?_⟩;have w:WPF X.K Xw F H (δk ρ>>=λx=>δv ρ>>=λy=>lL x y) Q:=w
  match GW:δk ρ,w with
  |none,w=>exact w
  |some (.ex n),w=>exact λF' H' e'=>w F' H' (e0.trans e')
  |some (.ok kd),w=>
   intro y H1 F1 e1 q1;refine⟨F1,ρ,(s.ext e0).ext e1,?_⟩;have w:WPF X.K Xw F H (δv ρ>>=λy=>lL kd y) Q:=w
   match RK:δv ρ,w with
   |none,w=>exact w
   |some (.ex n),w=>exact λF' H' e'=>w F' H' (e0.trans (e1.trans e'))
   |some (.ok vd),w=>
    intro z H2 F2 e2 q2;have w3:WPF X.K Xw F H (lL kd vd) Q:=w;clear w;unfold lL at w3;cases yO:eJ kd with
    |none=>rw[yO] at w3;exact w3.elim
    |some kk=>
     rw[yO] at w3;have E:=e1.trans e2;have P8:H2 q=θ (.dT []):=E.hh _ _ aD;have Pw:F2 q=ω:=by
      have:=E.old aD (λ_ z=>nomatch z);rw[this];exact Same.free s.fh hq
     unfold eJ at yO;split at yO
     ·rename_i es;obtain⟨b,ws,rfl,k2,k3,_⟩:=Den.mono e2.ff q1;have e5:=j7 yO k3;subst e5;refine⟨_,DPut.t P8 (e2.fh _ _ k2) (by rw[ZJ];decide),?_⟩;refine w3 q (.dT (putK [] kk z)) _ F2 ⟨λc u hc=>?_,(e0.trans E).ff,λc u hc=>?_,(e0.trans E).new⟩ aD Pw hq ⟨[z],rfl, .cons q2 .nil,rfl,show 1<=lim by decide⟩
      ·rw[ay (λzz=>by rw[zz,hq] at hc;cases hc)];exact(e0.trans E).hh c u hc
      ·rw[ay (λzz=>by rw[zz,Pw] at hc;cases hc)];exact e2.fh c u hc
     ·cases yO
def Fs(hu:X.A.units+64<cLine)(hk:PD X Xw k δk)(hv:PD X Xw v δv):OE X Xw (.Dict [θ k] [v] pos) (λρ=>δk ρ>>=λx=>δv ρ>>=λy=>rK x y):=
 PE.weak (zg (o0:= .dK []) (by omega) (λH h hb=>zh h hb) hk hv) λσ H Q ⟨F,ρ,s,w⟩ q hq=>by
  have e0:=Ext.free (o:= .dK []) s.fh hq;refine⟨F,ρ,s.ext e0,?_⟩;have w:WPF X.K Xw F H (δk ρ>>=λx=>δv ρ>>=λy=>rK x y) Q:=w
  match GW:δk ρ,w with
  |none,w=>exact w
  |some (.ex n),w=>exact λF' H' e'=>w F' H' (e0.trans e')
  |some (.ok kd),w=>
   intro y H1 F1 e1 q1;refine⟨F1,ρ,(s.ext e0).ext e1,?_⟩;have w:WPF X.K Xw F H (δv ρ>>=λy=>rK kd y) Q:=w
   match RK:δv ρ,w with
   |none,w=>exact w
   |some (.ex n),w=>exact λF' H' e'=>w F' H' (e0.trans (e1.trans e'))
   |some (.ok vd),w=>
    intro z H2 F2 e2 q2;have w3:WPF X.K Xw F H (rK kd vd) Q:=w;clear w;unfold rK at w3;cases yO:me kd with
    |none=>rw[yO] at w3;exact w3.elim
    |some kk=>
     rw[yO] at w3;have E:=e1.trans e2;have P8:H2 q=θ (.dK []):=E.hh _ _ aD;have Pw:F2 q=ω:=by
      have:=E.old aD (λ_ z=>nomatch z);rw[this];exact Same.free s.fh hq
     have e5:=i2 yO (Den.mono e2.ff q1);subst e5;refine⟨_,DPut.k P8 (by rw[ZJ];decide),?_⟩;refine w3 q (.dK (putK [] kk z)) _ F2 ⟨λc u hc=>?_,(e0.trans E).ff,λc u hc=>?_,(e0.trans E).new⟩ aD Pw hq ⟨[z],rfl, .cons q2 .nil,rfl,show 1<=lim by decide⟩
     ·rw[ay (λzz=>by rw[zz,hq] at hc;cases hc)];exact(e0.trans E).hh c u hc
     ·rw[ay (λzz=>by rw[zz,Pw] at hc;cases hc)];exact e2.fh c u hc
def CL{K:Ym}{d k:D}{x y:V}(s:Same F H)(hd:Den K F d x)(hk:Den K F k y)(e:FU d k=θ o):
 ∃a ov,x= .ref a/\ux H a y ov/\ov.isSome=o.isSome/\∀d',o=θ d'->∃v,ov=θ v/\Den K F d' v:=by
 obtain⟨a,ov,h1,h2,h3,h4⟩:=CM (σ:=[θ x]) (ρ:=[θ (.fz d)]) (i:=0) ⟨s,λi sl q=>by
  match i,q with
  |0,q=>cases q;exact⟨x,rfl,hd⟩
  |i+1,q=>simp at q⟩ rfl hk e
 cases h1;exact⟨a,ov,rfl,h2,h3,h4⟩
def eI(neg:Bool)(k d:D):M D:=match FU d k with
 |some o=>aa (.bl (if neg then !o.isSome else o.isSome))
 |none=>af
def Oh(neg:Bool):R2:=λy x H Q=>∃a o,x= .ref a/\ux H a y o/\Q (.bl (if neg then !o.isSome else o.isSome)) H
def HW(hu:X.A.units+64<cLine):OpR X (Zf .In) (Oh μ):=λf8 s σ H y x v u Q I ry rx ⟨a,o,ex,g,q⟩=>by
 subst ex;obtain rfl:u=YY a:=rx;exact Pc (by omega) I g ry λs' I'=>⟨.bl o.isSome,_,I',rfl,q⟩
def Fh(hu:X.A.units+64<cLine):OpR X (Zf .NotIn) (Oh ψ):=λf8 s σ H y x v u Q I ry rx ⟨a,o,ex,g,q⟩=>by
 subst ex;obtain rfl:u=YY a:=rx;exact JO (by omega) I g ry λs' I'=>⟨.bl (!o.isSome),_,I',rfl,q⟩
def xI{K:Ym}:A_ K (Oh neg) (eI neg):=λXw F H y x dk dd Q s hk hd w=>by
 unfold eI at w;cases he:FU dd dk with
 |none=>rw[he] at w;exact w.elim
 |some o=>
  rw[he] at w;obtain⟨a,ov,h1,h2,h3,_⟩:=CL s hd hk he;refine⟨a,ov,h1,h2,?_⟩;rw[h3];exact WP.now w s rfl
def IB(hu:X.A.units+64<cLine)(ha:PD X Xw a δa)(hb:PD X Xw b δb)(hm:Y3 .In b=μ:=by rfl):n0 X Xw (.Compare a [.In] [b] pos) (cT (d2 (eI μ) δa δb)):=f9 (HW hu) xI ha hb hm
def NP(hu:X.A.units+64<cLine)(ha:PD X Xw a δa)(hb:PD X Xw b δb)(hm:Y3 .In b=μ:=by rfl):PD X Xw (.Compare a [.In] [b] pos) (d2 (eI μ) δa δb):=xQ (HW hu) xI ha hb hm
def gM(hu:X.A.units+64<cLine)(ha:PD X Xw a δa)(hb:PD X Xw b δb)(hm:Y3 .NotIn b=μ:=by rfl):n0 X Xw (.Compare a [.NotIn] [b] pos) (cT (d2 (eI ψ) δa δb)):=f9 (Fh hu) xI ha hb hm
def eZ(d k:D):M D:=match FU d k with
 |some (θ v)=>aa v
 |_=>af
def iJ(hu:X.A.units+64<cLine)(ha:PD X Xw a δa)(hb:PD X Xw b δb)(hs:Mq b:=by intro _ _;rfl):PD X Xw (.Subscript a b pos) (d2 eZ δa δb):=
 PE.weak (K4 (by omega) ha hb hs) λσ H Q ⟨F,ρ,s,w⟩=>by
  refine⟨F,ρ,s,WP.mono (WP.bind w) λx H1 ⟨F1,d,e1,q1,w1⟩=>?_⟩;refine⟨F1,ρ,s.ext e1,WP.mono (WP.bind w1) λy H2 ⟨F2,k,e2,q2,w2⟩=>?_⟩;unfold eZ at w2;cases he:FU d k with
  |none=>rw[he] at w2;exact w2.elim
  |some o=>
   cases o with
   |none=>rw[he] at w2;exact w2.elim
   |some d'=>
    rw[he] at w2;obtain⟨a,ov,h1,h2,h3,h4⟩:=CL e2.fh (Den.mono e2.ff q1) q2 he;obtain⟨v,rfl,hd⟩:=h4 d' rfl;exact⟨a,v,h1,h2,WP.now w2 e2.fh hd⟩
end
section
variable{X:Cx}{f8:List (Addr×Obj)}{σ:St}{H:Hp}{s:Yc}{h':Heap}
def Inv.turnedLaid{ch:List Addr}(I:Inv X f8 σ H s)(k:∀b q,b∉ch->s.heap.get? b=θ q->h'.get? b=θ q)(hf:∀b∈ch,uy X f8 H b)(hp:s.heap.objs.size<=a)(new:ObjOk X.prog X.w (upd H a o) h' a o):
 Inv X f8 σ (upd H a o) {s with heap:=h',toks:=t'}:=by
 have hn:=I.hok.fresh hp;have L9:∀b u,H b=θ u->b∉ch:=λb u e z=>by rw[(hf b z).1] at e;cases e
 refine I.step (λb hb=>?_) (λb q _ _ hc e _=>k b q hc e) (λb q _ _ hc e _=>⟨q.slots,k b q hc e⟩) (λb q hc e n=>?_)
  (λb q hc e=>⟨q,k b q hc e⟩) (λb xs e=>?_) (λb q u e=>?_) (λb ps e=>⟨#[],?_⟩) (λm hm=>?_) (λb u e=>?_) I.bare
 ·obtain⟨f0,f1,f2,f3,f4,f5⟩:=hf b hb;exact⟨f3,f1,f4,f5⟩
 ·rw[ay (λz=>by rw[z] at e;exact ael (Ys e) (Nat.not_lt.mpr hp))];exact n
 ·rw[ay (bB e hn)];exact e
 ·rw[ay (bB e hn)];exact e
 ·rw[ay (bB e hn),e];simp
 ·obtain⟨q,es,ep,ho,r⟩:=hm;exact⟨q,es,ep,k _ q (λz=>(hf _ z).2.1 rfl) ho,r⟩
 ·by_cases hb:b=a
  ·subst hb;rw[aD] at e;cases e;exact new
  ·rw[ay hb] at e;refine(I.hok b u e).stay (λc v hc q=>k c v ?_ q) (λc q=>by rw[ay (bB q hn)];exact q) λc xs q=>by rw[ay (bB q hn)];exact q
   rcases hc with z | z
   ·rw[z];exact L9 b u e
   ·exact L9 c _ z
def Inv.turnedL{ch:List Addr}(I:Inv X f8 σ H s)(k:∀b q,b∉ch->s.heap.get? b=θ q->h'.get? b=θ q)(hf:∀b∈ch,uy X f8 H b):Inv X f8 σ H {s with heap:=h',toks:=t'}:=by
 have L9:∀b u,H b=θ u->b∉ch:=λb u e z=>by rw[(hf b z).1] at e;cases e
 refine I.step (λb hb=>?_) (λb q _ _ hc e _=>k b q hc e) (λb q _ _ hc e _=>⟨q.slots,k b q hc e⟩) (λb q hc e n=>n)
  (λb q hc e=>⟨q,k b q hc e⟩) (λb xs e=>e) (λb q u e=>e) (λb ps e=>⟨#[],by rw[e];simp⟩) (λm hm=>?_) (λb u e=>?_) I.bare
 ·obtain⟨f0,f1,f2,f3,f4,f5⟩:=hf b hb;exact⟨f3,f1,f4,f5⟩
 ·obtain⟨q,es,ep,ho,r⟩:=hm;exact⟨q,es,ep,k _ q (λz=>(hf _ z).2.1 rfl) ho,r⟩
 ·refine(I.hok b u e).stay (λc v hc q=>k c v ?_ q) (λc q=>q) λc xs q=>q;rcases hc with z | z
  ·rw[z];exact L9 b u e
  ·exact L9 c _ z
end
def Ui(K:Ym)(a:Addr):It:=
 ⟨λi H=>∃xs x,SqL K H a xs/\xs[i]? =θ x,λi H x H'=>∃p,x= .ref p/\H p=ω/\∃v,(∀xs,SqL K H a xs->xs[i]? =θ v)/\H'=upd H p (.tup [.int (i:Int),v]),λi H=>∃xs,SqL K H a xs/\xs.length<=i⟩
def FJ{K:Ym}(l e it:Addr)(UT:e≠it):
 Turn P w K (.Tuple es x1 tp) (Ui K l) [e,it] e (λi h=>∃old,IsEnum h e it (i:Int) old/\h.IsListIter it l i) where
 mem:=by simp
 obj:=λi h ⟨old,uX,uY⟩ b hb=>by
  rcases Ye.mp hb with z | z
  ·subst z;exact⟨_,uX,λv z=>nomatch z⟩
  ·have z:b=it:=by simpa using z
   subst z;obtain⟨o,e1,c,d⟩:=uY;exact⟨o,e1,λv z=>by rw[d] at z;cases z⟩
 keep:=λi h h' ⟨old,uX,uY⟩ k=>⟨old,k e (by simp) _ uX,uY.at λo q=>k it (by simp) o q⟩
 item:=by
  intro X hP hw hK hc i f8 s σ H E I hf st hg;subst hP hw hK;obtain⟨old,uX,uY⟩:=st;obtain⟨xs,x,hq,hx⟩:=hg;obtain⟨aS,rv,p,hz⟩:=I.list hq;obtain⟨u,hu,ru⟩:=rv.get hx;refine wpAny_pyNext_enum_item uX uY p.isList (by simpa using hu) UT λh1 k1 k2 k3 k4 k5=>?_;refine⟨_,rfl,wpAny_letOwnedTupleGo_enum k1 λh2 m1 m2=>?_⟩;have fE:s.heap.objs.size≠e:=abJ (Ys uX);have T_:h2.get? s.heap.objs.size=θ {cls:= .type "tuple",data:= .seq #[.int i s.toks,u]}:=(m2.2 _ fE).trans k3;have keep:∀b q,b∉[e,it]->s.heap.get? b=θ q->h2.get? b=θ q:=λb q hb e1=>by
   have UM:b≠e:=λz=>hb (by simp[z]);have PF:b≠it:=λz=>hb (by simp[z]);exact(m2.2 b UM).trans (k5 b q UM PF e1)
  have I2:Inv X f8 σ (upd H s.heap.objs.size (.tup [.int (i:Int),x])) {s with heap:=h2,toks:=s.toks+1}:=by
   refine Inv.turnedLaid I keep hf (X_ _) ⟨?_,[.int i s.toks,u], .cons ⟨_,rfl⟩ (.cons ru .nil),_,T_,rfl,_,rfl⟩;rw[ZJ];show 2<=_;decide
  refine⟨.ref s.heap.objs.size,_,I2,rfl,⟨_,rfl,I.hok.fresh (X_ _),x,λys hy=>by rw[I.list_inj hy hq];exact hx,rfl⟩,⟨u,?_,?_⟩,λb hb=>?_⟩
  ·have:((i+1:Nat):Int)=(i:Int)+1:=by push_cast;rfl
   rw[this];exact m1
  ·exact k2.at λo q=>(m2.2 it (Y9 UT)).trans q
  ·rw[ay (λz=>by
    rcases Ye.mp hb with y | y
    ·exact ael (Ys uX) (by rw[<-y,z];exact Zb _)
    ·have y:b=it:=by simpa using y
     obtain⟨o,q1,_⟩:=id uY;exact ael (Ys q1) (by rw[<-y,z];exact Zb _))]
   exact(hf b hb).1
 done:=by
  intro X hP hw hK hc i f8 s σ H E I hf st hg;subst hP hw hK;obtain⟨old,uX,uY⟩:=st;obtain⟨xs,hq,hx⟩:=hg;obtain⟨aS,rv,p,hz⟩:=I.list hq;have hl:=rv.length;exact wpAny_pyNext_enum_end (I.ok.hd hc) uX uY p.isList (by simp;omega) λh' eb=>⟨rfl,Inv.turnedL I (λb q hb e1=>eb b q (λz=>hb (by simp[z])) e1) λb hb=>hf b (X4 _ hb)⟩
 self:=λA i s Q E st h=>by
  obtain⟨old,uX,uY⟩:=st;exact wpAny_pyIter_enum uX h
def Ha{K:Ym}{F:Hp}(h:SqL K F a vs)(hd:DenL K F ds vs):ItD K F (Ui K a) (ds.mapIdx λi d=> .tup [.int (i:Int),d]):=λF' H' i s1 s2=>by
 have hs:=Same.seq s2 (Same.seq s1 h);refine⟨λd e=>?_,λhl=>⟨vs,hs,by rw[List.length_mapIdx,hd.len] at hl;exact hl⟩⟩;rw[adJ] at e;cases q:ds[i]? with
 |none=>rw[q] at e;cases e
 |some d0=>
  rw[q] at e;cases e;obtain⟨v,e1,q1⟩:=hd.get q;refine⟨⟨vs,v,hs,e1⟩,λx H'' ⟨p,y1,y2,u,y3,y4⟩=>?_⟩;subst y1 y4;have:=y3 vs hs;rw[e1] at this;cases this;have E:=Ext.lay (o:= .tup [.int (i:Int),v]) s2 y2;exact⟨_,E,p,_,rfl,aD, .cons rfl (.cons (Den.mono E.ff (Den.mono s1 q1)) .nil),by show 2<=lim;decide⟩
section
variable{X:Cx}{Xw:Nat->Hp->Prop}{e:Expr}{es:List Expr}{δs:DA}{pos p tp:Pos}{x1:Nat}
def CY:List D->M (List D)
 |[.lst ds]=>aa (ds.mapIdx λi d=> .tup [.int (i:Int),d])
 |_=>af
def Ii(hg:Gl X "enumerate")(hm:X.mg "enumerate"=ω)(ha:nZ X Xw [e] δs)(hs:Yw [e] X.env=[(μ,eval e X.env)]:=by rfl):Ba X Xw (.Tuple es x1 tp) (.Call (.Name "enumerate" p) [e] [] pos) (λρ=>δs ρ>>=CY):=by
 intro f8 s σ H R I ⟨F,ρ,S,w⟩;refine Call_ (j8 I hg hm (show YW "enumerate"=θ (.type "enumerate") from rfl) (Zl (cJ (ha pos f8 s σ H (λvs H1=>∃F1 ds,Ext F H F1 H1/\DenL X.K F1 ds vs/\WPI X.K Xw F1 H1 (CY ds) R) I ⟨F,ρ,S,WPI.bindL w⟩) λus s1 ⟨vs,H1,I1,r1,F1,ds,e1,q1,w1⟩=>?_) hs rfl));unfold CY at w1;split at w1
 ·rename_i ds;obtain⟨v,rfl,h1⟩:=q1.one;obtain⟨a,xs,rfl,h2,h3,h4⟩:=h1;obtain⟨u,rfl,r2⟩:=r1.one;cases (show u=_ from r2);obtain⟨aS,rv,pl,hz⟩:=I1.list (SqL.of (K:=X.K) (e1.fh _ _ h2));refine call_enumerate_list pl.isList λh' k1 k2 k3 k4=>?_;refine wpAny_pyIter_enum k1 ?_;refine⟨s1.heap.objs.size+1,[s1.heap.objs.size+1,s1.heap.objs.size],_,_,H1,rfl,I1.kept λb o e=>k4 b o e,FJ a _ _ (abJ (acF _)),⟨.none,k1,k2⟩,λb hb=>?_,w1 _ _ _ (Ext.refl e1.fh) (Ha (SqL.of h2) h3)⟩;have e:s1.heap.objs.size<=b:=by
   rcases Ye.mp hb with z | z
   ·rw[z];exact acS _
   ·have z:b=s1.heap.objs.size:=by simpa using z
    rw[z];exact X_ _
  exact I1.fpOk e (I1.hok.fresh e)
 ·exact w1.elim
end
def Hg:Key->D
 | .inl i=> .int i
 | .inr x=> .str x
def LG(H:Hp)(d:Addr)(od:Obj)(i:Nat)(x:V):Prop:=
 (∃kvs k b,H d=θ (.frz od (.dT kvs))/\(kvs.map (·.1))[i]? =θ k/\x= .ref b/\H b=θ (.tup (k.map kV)))\/
 ∃kvs k,H d=θ (.frz od (.dK kvs))/\(kvs.map (·.1))[i]? =θ k/\x=kV k
def Uh(d:Addr)(od:Obj):It:=
 ⟨λi H=>(∃kvs,H d=θ (.frz od (.dT kvs))/\i<kvs.length)\/∃kvs,H d=θ (.frz od (.dK kvs))/\i<kvs.length,λi H x H'=>H'=H/\LG H d od i x,
  λi H=>(∃kvs,H d=θ (.frz od (.dT kvs))/\kvs.length<=i)\/∃kvs,H d=θ (.frz od (.dK kvs))/\kvs.length<=i⟩
theorem qj{R:α->β->Prop}(h:∀a b,R a b->f a=g b):∀{l:List α}{m:List β},abQ R l m->l.map f=m.map g
 |_,_, .nil=>rfl
 |_,_, .cons r t=>by rw[X9,X9,h _ _ r,qj h t]
theorem ml:∀{l:List α}{m:List β}{i:Nat}{a:α},abQ R l m->l[i]? =θ a->∃b,m[i]? =θ b/\R a b
 |_,_,i,_, .nil,e=>by simp at e
 |_,_,0,_, .cons r t,e=>by simp at e;subst e;exact⟨_,rfl,r⟩
 |_,_,i+1,_, .cons r t,e=>by
  obtain⟨b,e1,e2⟩:=ml t (by simpa using e);exact⟨b,by simpa using e1,e2⟩
def Fl{w:World}{κ:Type}[DecidableEq κ]{knd:KeyKind prog w κ}:∀{es:List abt}{kvs:List (κ×Value)}{i:Nat}{kv:κ×Value},Pairs knd es kvs->kvs[i]? =θ kv->∃e,es[i]? =θ e/\knd.is kv.1 e.key=ψ:=by
 intro es kvs i kv h e;induction h generalizing i with
 |nil=>simp at e
 | @cons en X0 OI Qr h1 h2 h3 ih=>
   cases i with
   |zero=>simp at e;subst e;exact⟨en,rfl,h1⟩
   |succ i=>
    obtain⟨q,e1,e2⟩:=ih (by simpa using e);exact⟨q,by simpa using e1,e2⟩
def Ni(h:pO k u=ψ):RelV (kV k) u:=by
 rcases b9 h with⟨i,t,rfl,rfl⟩ | ⟨x,t,rfl,rfl⟩
 ·exact⟨t,rfl⟩
 ·exact⟨t,rfl⟩
def rJ{σ:St}{H:Hp}(I:Inv X f8 σ H s)
 (h:(∃kvs,H d=θ (.frz od (.dT kvs))/\n=kvs.length)\/∃kvs,H d=θ (.frz od (.dK kvs))/\n=kvs.length):
 ∃es ep,(d==Zy)=μ/\s.heap.get? d=θ od/\od.ExactDict/\od.data= .dict es ep/\es.size=n/\∀i,i<n->∃e x,es[i]? =θ e/\RelV x e.key/\LG H d od i x:=by
 rcases h with⟨kvs,e,rfl⟩ | ⟨kvs,e,rfl⟩
 ·obtain⟨ho,z,lo,xs,rel,o,es,ep,h1,h2,h3,h4,h5⟩:=(show ObjOk X.prog X.w H s.heap d (.frz od (.dT kvs)) from I.hok d _ e)
  rw[ho] at h1;cases h1;have hl:es.size=kvs.length:=by
   rw[<-Yd,h4,X3];exact(ZV rel).symm
  refine⟨es,ep,lo,ho,h2,h3,hl,λi hi=>?_⟩;obtain⟨q,e1,e2,e3,e4⟩:=ml rel (X7 hi);refine⟨adN (aan (bM X.prog X.w)) q, .ref q.2.1,?_,rfl, .inl ⟨kvs,kvs[i].1,q.2.1,e,?_,rfl,e3⟩⟩
  ·rw[<-Y6,h4,Yl,e1];rfl
  ·rw[Yl,X7 hi];rfl
 ·obtain⟨ho,z,lo,vs,rel,o,es,ep,h1,h2,h3,h4,h5,h6⟩:=(show ObjOk X.prog X.w H s.heap d (.frz od (.dK kvs)) from I.hok d _ e)
  rw[ho] at h1;cases h1;have hl:es.size=kvs.length:=by
   rw[<-Yd,h5.length];exact(ZV rel).symm
  refine⟨es,ep,lo,ho,h2,h3,hl,λi hi=>?_⟩;obtain⟨q,e1,e2,e3⟩:=ml rel (X7 hi);obtain⟨en,e4,e5⟩:=Fl h5 e1;refine⟨en,kV kvs[i].1,by rw[<-Y6];exact e4,?_, .inr ⟨kvs,kvs[i].1,e,by rw[Yl,X7 hi];rfl,rfl⟩⟩;rw[e2];exact Ni e5
def FK{K:Ym}(d it:Addr)(od:Obj)(es:Array abt)(ep:Nat)(qG:od.data= .dict es ep):
 Turn P w K tg (Uh d od) [it] it (λi h=>h.IsKeyIter it d i es.size ep) where
 mem:=by simp
 obj:=λi h st b hb=>by
  have e:b=it:=by simpa using hb
  subst e;obtain⟨o,e,c,dd⟩:=st;exact⟨o,e,λv z=>by rw[dd] at z;cases z⟩
 keep:=λi h h' st k=>st.at λo e=>k it (by simp) o e
 item:=by
  intro X hP hw hK hc i f8 s σ H E I hf st hg;subst hP hw hK;obtain⟨n,hn,hi⟩:∃n,((∃kvs,H d=θ (.frz od (.dT kvs))/\n=kvs.length)\/∃kvs,H d=θ (.frz od (.dK kvs))/\n=kvs.length)/\i<n:=by
   rcases hg with⟨kvs,e,hi⟩ | ⟨kvs,e,hi⟩
   ·exact⟨_, .inl ⟨kvs,e,rfl⟩,hi⟩
   ·exact⟨_, .inr ⟨kvs,e,rfl⟩,hi⟩
  obtain⟨OI,JX,lo,ho,hx,Bc,hsz,hk⟩:=rJ I hn;rw[qG] at Bc;cases Bc;obtain⟨en,x,e1,rx,ka⟩:=hk i hi;obtain⟨f0,f1,f2,f3,f4,f5⟩:=hf it (by simp);refine zU st ho qG e1 λh' qk sb=>?_;have I1:Inv X f8 σ H {s with heap:=h'}:=I.turned (λb o hb e=>(sb.2 b hb).trans e) f0 f1 f3 f4 f5;obtain⟨o,e2,c,dd⟩:=id qk;exact⟨_,rfl,vw e2 c dd (by decide) ⟨x,H,I1,rx,⟨rfl,ka⟩,qk,λb hb=>(hf b hb).1⟩⟩
 done:=by
  intro X hP hw hK hc i f8 s σ H E I hf st hg;subst hP hw hK;obtain⟨n,hn,hi⟩:∃n,((∃kvs,H d=θ (.frz od (.dT kvs))/\n=kvs.length)\/∃kvs,H d=θ (.frz od (.dK kvs))/\n=kvs.length)/\n<=i:=by
   rcases hg with⟨kvs,e,hi⟩ | ⟨kvs,e,hi⟩
   ·exact⟨_, .inl ⟨kvs,e,rfl⟩,hi⟩
   ·exact⟨_, .inr ⟨kvs,e,rfl⟩,hi⟩
  obtain⟨OI,JX,lo,ho,hx,Bc,hsz,hk⟩:=rJ I hn;rw[qG] at Bc;cases Bc;obtain⟨f0,f1,f2,f3,f4,f5⟩:=hf it (by simp);exact vn (I.ok.hd hc) st (by omega) ho qG λh' eb=>⟨rfl,I.turned (λb o hb e=>eb b o hb e) f0 f1 f3 f4 f5⟩
 self:=λ_ _ _ _ _ st h=>wpAny_pyIter_keyiter st h
def tupK(k:List Key):D:= .tup (k.map Hg)
def sW:Key->Bool
 | .inl _=>ψ
 | .inr x=>decide (x.length<=lim)
def g7:D->M (List D)
 | .dct ks _=>if ks.all (λk=>decide (k.length<=lim)&&k.all sW) then aa (ks.map tupK) else af
 | .dci ks _=>if ks.all sW then aa (ks.map Hg) else af
 |_=>af
def zF{K:Ym}(h:sW k=ψ):Den K F (Hg k) (kV k):=by
 cases k with
 |inl i=>exact rfl
 |inr x=>exact⟨rfl,aei h⟩
theorem vG{K:Ym}:∀{k:List Key},k.all sW=ψ->DenL K F (k.map Hg) (k.map kV)
 |[],_=>rfl
 |x::k,h=>by
  rw[aas,Yq] at h;exact .cons (zF h.1) (vG h.2)
def Hb{K:Ym}(hd:Den K F d (.ref a))(hF:∃u,F a=θ (.frz ob u))(e:g7 d=aa ds):ItD K F (Uh a ob) ds:=λF' H' i s1 s2=>by
 unfold g7 at e;split at e
 ·rename_i ks es;split at e
  ·rename_i hok;obtain rfl:=fi e;obtain⟨a',Xr,vs,z,h2,h3,h4,h5⟩:=hd;cases z;obtain⟨u,hu⟩:=hF;rw[h2] at hu;cases hu;have hh:=s2 _ _ (s1 _ _ h2);have hz:=gJ (b:=vs) (by rw[h4];exact h3.len);have hl:(ks.zip vs).length=ks.length:=by rw[<-X3,hz]
   refine⟨λd e=>?_,λhle=> .inl ⟨_,hh,by rw[hl];simpa using hle⟩⟩;rw[Yl] at e;cases q:ks[i]? with
   |none=>rw[q] at e;cases e
   |some k=>
    rw[q] at e;cases e;have hi:=(Yk.mp q).1;refine⟨.inl ⟨_,hh,by rw[hl];exact hi⟩,λx H'' ⟨y1,y2⟩=>?_⟩;subst y1;have hk:=Yu.mp hok k (YB q);rw[Yq] at hk;rcases y2 with⟨kvs,k',b,q1,q2,rfl,q3⟩ | ⟨kvs,k',q1,q2,rfl⟩
    ·rw[hh] at q1;cases q1;rw[hz,q] at q2;cases q2;have E:=Ext.tup s2 q3;exact⟨_,E,b,_,rfl,aD,vG hk.2,by rw[X3];exact aei hk.1⟩
    ·rw[hh] at q1;cases q1
  ·exact(fw e).elim
 ·rename_i ks es;split at e
  ·rename_i hok;obtain rfl:=fi e;obtain⟨a',Xr,vs,z,h2,h3,h4,h5⟩:=hd;cases z;obtain⟨u,hu⟩:=hF;rw[h2] at hu;cases hu;have hh:=s2 _ _ (s1 _ _ h2);have hz:=gJ (b:=vs) (by rw[h4];exact h3.len);have hl:(ks.zip vs).length=ks.length:=by rw[<-X3,hz]
   refine⟨λd e=>?_,λhle=> .inr ⟨_,hh,by rw[hl];simpa using hle⟩⟩;rw[Yl] at e;cases q:ks[i]? with
   |none=>rw[q] at e;cases e
   |some k=>
    rw[q] at e;cases e;have hi:=(Yk.mp q).1;refine⟨.inr ⟨_,hh,by rw[hl];exact hi⟩,λx H'' ⟨y1,y2⟩=>?_⟩;subst y1;have hk:=Yu.mp hok k (YB q);rcases y2 with⟨kvs,k',b,q1,q2,rfl,q3⟩ | ⟨kvs,k',q1,q2,rfl⟩
    ·rw[hh] at q1;cases q1
    ·rw[hh] at q1;cases q1;rw[hz,q] at q2;cases q2;exact⟨F',Ext.refl s2,zF hk⟩
  ·exact(fw e).elim
 ·exact(fw e).elim
section
variable{X:Cx}{Xw:Nat->Hp->Prop}{tg l:Expr}{δ:DE}
def tG(h:PD X Xw l δ):Ba X Xw tg l (λρ=>δ ρ>>=g7):=by
 intro f8 s σ H R I ⟨F,ρ,S,w⟩;refine cJ (h f8 s σ H (λv H1=>∃F1 d,Ext F H F1 H1/\Den X.K F1 d v/\WPI X.K Xw F1 H1 (g7 d) R) I ⟨F,ρ,S,WPI.bind w⟩) λu s1 ⟨v,H1,I1,r1,F1,d,e1,q1,w1⟩=>?_;rcases(g7 d).cs with z | ⟨n,z⟩ | ⟨ds,z⟩
 ·rw[z] at w1;exact w1.elim
 ·exfalso
  unfold g7 at z;split at z
  ·split at z<;>cases z
  ·split at z<;>cases z
  ·cases z
 ·rw[z] at w1;obtain⟨a,ob,u',rfl,hF,hn⟩:∃a ob u',v= .ref a/\F1 a=θ (.frz ob u')/\∃n,((∃kvs,H1 a=θ (.frz ob (.dT kvs))/\n=kvs.length)\/∃kvs,H1 a=θ (.frz ob (.dK kvs))/\n=kvs.length):=by
   unfold g7 at z;split at z
   ·obtain⟨a,ob,vs,e,h2,_⟩:=q1;exact⟨a,ob,_,e,h2,_, .inl ⟨_,e1.fh _ _ h2,rfl⟩⟩
   ·obtain⟨a,ob,vs,e,h2,_⟩:=q1;exact⟨a,ob,_,e,h2,_, .inr ⟨_,e1.fh _ _ h2,rfl⟩⟩
   ·exact(fw z).elim
  obtain⟨n,hn⟩:=hn;cases (show u=_ from r1);obtain⟨es,ep,lo,ho,hx,hd,hsz,hk⟩:=rJ I1 hn;refine vF lo ho hx hd ?_;refine⟨s1.heap.objs.size,[s1.heap.objs.size],_,_,H1,rfl,I1.kept (t':=s1.toks) λb o e=>X8 _ e,FK a _ ob es ep hd,⟨_,Yy _ rfl,rfl,rfl⟩,λb hb=>?_,w1 _ _ _ (Ext.refl e1.fh) (Hb q1 ⟨_,hF⟩ z)⟩;have e:b=s1.heap.objs.size:=by simpa using hb
  subst e;exact I1.fpOk (X_ _) (I1.hok.fresh (X_ _))
end
end L3
namespace L3
open PySem
section
variable{prog:YM}{w:World}{K:Type}[DecidableEq K]{knd:HeapKind prog w K}{A:Y7}{E:Value->Yc->Prop}{s:Yc}
def t7(hu:knd.room A)(J_:knd.is s.heap k a)(hm:s.heap.DictOfH knd d xs)(hsz:xs.length<=Yv)
 (hQ:∀h',h'.DictOfH knd d (abD xs k a v)->aal d s.heap h'->Q () {s with heap:=h'}):wpAny (model prog w) A (acC d (.ref a) (knd.hash k) v) Q E s:=by
 obtain⟨o,es,ep,ho,hc,hd,he,SS,hn⟩:=hm;unfold acC;refine ZF (X6 (wpAny_dictFind_heap hu J_ ho hd he SS hn (λxc=>?_) λj p hj=>?_))
 ·have e0:=atKey_none_of_get xc;have hz:es.size<=Yv:=by rw[adk he];exact hsz
  refine X6 (wpAny_rule (wpAny_updateDictKeys ho hd (hQ _ ?_ (YR ..))));rw[storedH_new e0];refine⟨_,_,ep+1,aaE _ ho (ab6 (aaL hd _)),hc.mapDictKeys _,aaL hd _,by simp[he,adN],λx hx=>?_,?_⟩
  ·rcases YA.mp hx with hx | hx
   ·exact knd.keeps (SS x hx) ho hd (YR ..)
   ·obtain rfl:x=(k,a,v):=by simpa using hx
    exact knd.keeps J_ ho hd (YR ..)
  ·rw[YC];refine YN.mpr ⟨hn,by simp,λx hx y hy z=>?_⟩;have hy:y=k:=by simpa using hy
   exact not_mem_keys_of_get xc (by rw[<-hy,<-z];exact hx)
 ·have e0:=atKey_of_get hn hj;refine X6 (wpAny_rule (X6 (wpAny_updateDict ho hd (wpAny_point (hQ _ ?_ (YR ..))))));rw[storedH_old e0];refine⟨_,_,ep,aaE _ ho (ab6 (Obj.data_mapDict hd _)),hc.mapDict _,Obj.data_mapDict hd _,?_,λx hx=>?_,by rw[keys_map_putAt];exact hn⟩
  ·have:=modify_map_putAt (adN knd) (λe:abt=>{e with val:=v}) k v (λ_ _=>rfl) hn hj;rw[<-he] at this;obtain⟨l⟩:=es;simpa using this
  ·obtain⟨y,hy,rfl⟩:=Yo.mp hx;unfold putAt;split<;>exact knd.keeps (SS y hy) ho hd (YR ..)
def dz(xs ys:List (K×Addr×Value)):List (K×Addr×Value):=ys.foldl (λv4 y=>abD v4 y.1 y.2.1 y.2.2) xs
def AO(xs:List (K×Addr×Value))(k:K)(a:Addr)(v:Value):(abD xs k a v).length<=xs.length+1:=by
 unfold abD;split<;>simp
theorem pP:∀(ys xs:List (K×Addr×Value)),(dz xs ys).length<=xs.length+ys.length
 |[],xs=>X_ _
 |y::ys,xs=>by
  have h1:=pP ys (abD xs y.1 y.2.1 y.2.2);have h2:=AO xs y.1 y.2.1 y.2.2;show (dz (abD xs y.1 y.2.1 y.2.2) ys).length<=_;rw[Yh];omega
def xo{xs ys:List (K×Addr×Value)}(h:ys[i]? =θ y):dz xs (ys.take (i+1))=abD (dz xs (ys.take i)) y.1 y.2.1 y.2.2:=by
 rw[List.take_add_one,h];unfold dz;rw[aed];rfl
theorem pQ:∀(ys v4:List (K×Addr×Value)),((v4++ys).map (·.1)).Nodup->dz v4 ys=v4++ys
 |[],v4,_=>by simp[dz]
 |y::ys,v4,hn=>by
  show dz (abD v4 y.1 y.2.1 y.2.2) ys=_;have S1:y.1∉v4.map (·.1):=λh=>by
   rw[YC] at hn;exact(YN.mp hn).2.2 _ h _ (by simp) rfl
  have e0:atKey v4 y.1=ω:=atKey_none_of_get λj p hj=>S1 (Yo.mpr ⟨_,YB hj,rfl⟩);rw[storedH_new e0,pQ ys (v4++[(y.1,y.2.1,y.2.2)]) (by simpa using hn)];simp
def wW{id:String}(ho:s.heap.get? o=θ ob)(hd:ob.data= .dict es ep)
 (hq:∀e∈es.toList,∃a,e.key= .ref a/\s.TypeIs (.ref a) "tuple")(hh:∀e∈es.toList,(es.filter (·.hash==e.hash)).size<=1)(h:Q es s):wpAny (model prog w) A (abR id o) Q E s:=by
 unfold abR;refine X6 (ZG ho hd ?_);rw[<-Array.forIn_toList];refine X6 (wpAny_forIn_list _ (λW1 _ s'=>s'=s/\∀e∈W1,e∈es.toList) _ ?_ ?_ _ _ ⟨rfl,λ_ h=>h⟩)
 ·rintro e W1 b s' ⟨rfl,hr⟩;obtain⟨a,ea,ta⟩:=hq e (hr e (X5 ..));have hf:=hh e (hr e (X5 ..));have il:¬((es.filter (·.hash==e.hash)).size>1):=by omega
  rw[ea];unfold Builtin.Dict.quietEq;refine X6 (X6 (adi ta F.slot_tuple_eq.lookup (Yb ?_)));simp only[il,if_false];have:(θ (Value.builtin "tuple.__eq__")==θ (Value.builtin "object.__eq__"))=μ:=by decide
  simp only[this,abS,if_true];exact Yb ⟨rfl,λx hx=>hr x (X4 _ hx)⟩
 ·rintro b s' ⟨rfl,_⟩;exact Yb h
def sH(hu:knd.room A)(UR:d≠o)(WA:(o==Zy)=μ)(hd:s.heap.DictOfH knd d xs)(ho:s.heap.DictOfH knd o ys)
 (Wn:∀{h:Heap}{k:K}{a:Addr},knd.is h k a->∃ob,h.get? a=θ ob/\ob.cls= .type "tuple")(hh:xs=[]->(ys.map λy=>knd.hash y.1).Nodup)(hsz:xs.length+ys.length<=Yv)
 (hQ:∀h',h'.DictOfH knd d (dz xs ys)->aal d s.heap h'->Q () {s with heap:=h'}):wpAny (model prog w) A (acx nm d o) Q E s:=by
 obtain⟨od,VI,VG,EO,Bb,qG,V9,XS,Jx⟩:=id hd;obtain⟨oo,Bw,VH,P7,UP,EL,FW,SR,xc⟩:=id ho;have v6:=adk FW;unfold acx;rw[aeh (by simpa using UR)];unfold aaW;rw[aeh (by rw[WA];exact YI)];refine X6 (Yb (X6 (ZG P7 EL ?_)));have loop:∀(body:Nat->PUnit->Sem (ForInStep PUnit)),body=(λi (_:PUnit)=>(do
       let l'<-dictEntries o
       match l'[i]? with
        |some e=>do
         holding [e.key,e.val] (acC d e.key e.hash e.val)
         let JX<-dictEpoch o
         if (JX !=VH)=ψ then do (unsupported (toString nm++toString ":source-changed-during-callback"):Sem PUnit);pure (Zi aaw) else pure (Zi aaw)
        |_=>do
         (unsupported "internal:dict-merge":Sem PUnit)
         pure (Zi aaw):Sem (ForInStep PUnit)))->wpAny (model prog w) A (forIn [:Bw.size] aaw body) (λ_ s'=>Q () s') E s:=by
  rintro _ rfl;rw[Std.Legacy.Range.forIn_eq_forIn_range'];simp only[Std.Legacy.Range.size,adG,Nat.add_sub_cancel,Nat.div_one];refine wpAny_forIn_list _ (λW1 _ s'=>∃h' i,s'={s with heap:=h'}/\W1=YO i (Bw.size - i)/\i<=Bw.size/\h'.DictOfH knd d (dz xs (ys.take i))/\h'.get? o=θ oo/\aal d s.heap h') _ ?_ ?_ _ _
   ⟨s.heap,0,rfl,by simp,YH _,by simpa[dz] using hd,P7,ac5 _ _⟩
  ·rintro x W1 b s' ⟨h',i,rfl,hr,hi,Bc,M7,Kb⟩;have il:i<Bw.size:=by
    by_cases h:i<Bw.size
    ·exact h
    ·rw[show Bw.size - i=0 by omega] at hr;simp at hr
   rw[show Bw.size - i=(Bw.size - (i+1))+1 by omega,Z2] at hr;injection hr with h1 h2
   subst h1;refine X6 (ZG M7 EL ?_);obtain⟨y,hy⟩:∃y,ys[x]? =θ y:=⟨_,X7 (by omega)⟩
   rw[entry_at FW x,hy];have Ww:(dz xs (ys.take x)).length<=Yv:=by
    have e1:=pP (ys.take x) xs;rw[ZL] at e1;omega
   have Wo:knd.is h' y.1 y.2.1:=knd.keeps (SR y (YB hy)) EO qG Kb;refine X6 (ZF (t7 hu Wo Bc Ww λUB SH Qa=>?_));have L4:UB.get? o=θ oo:=(Qa.2 o (Y9 UR)).trans M7;refine X6 (aaX L4 EL ?_);rw[aeh (by simp)];exact Yb ⟨UB,x+1,rfl,h2,il,by rw[xo hy];exact SH,L4,Kb.trans Qa⟩
  ·rintro b s' ⟨h',i,rfl,hr,hi,Bc,M7,Kb⟩;have De:i=Bw.size:=by
    by_cases h:i<Bw.size
    ·rw[show Bw.size - i=(Bw.size - (i+1))+1 by omega,Z2] at hr;exact nomatch hr
    ·omega
   refine hQ h' ?_ Kb;rw[De,v6,List.take_length] at Bc;exact Bc
 have go:wpAny (model prog w) A (do
  let Pj<-dictEpoch o
  let l<-dictEntries o
  forIn [:l.size] aaw λi (_:PUnit)=>(do
   let l'<-dictEntries o
   match l'[i]? with
    |some e=>do
     holding [e.key,e.val] (acC d e.key e.hash e.val)
     let JX<-dictEpoch o
     if (JX !=Pj)=ψ then do (unsupported (toString nm++toString ":source-changed-during-callback"):Sem PUnit);pure (Zi aaw) else pure (Zi aaw)
    |_=>do
     (unsupported "internal:dict-merge":Sem PUnit)
     pure (Zi aaw):Sem (ForInStep PUnit))
  pure ()) Q E s:=by
  refine X6 (aaX P7 EL (X6 (ZG P7 EL (X6 ?_))));exact Zj (loop _ rfl) (λ_ _ h=>Yb h) λ_ _ h=>h
 dsimp only
 split
 ·refine X6 (ZG EO qG ?_);split
  ·rename_i SJ;have Qd:xs=[]:=by
    have h0:VI= #[]:=ad7.mp SJ;have:=adk V9;rw[h0] at this;exact ZY.mp (by simpa using this.symm)
   subst Qd;have Wy:=hh rfl;refine X6 (wW P7 EL (λe he=>?_) (λe he=>?_) ?_)
   ·rw[FW] at he;obtain⟨y,hy,rfl⟩:=Yo.mp he;obtain⟨ob,h1,h2⟩:=Wn (SR y hy);exact⟨y.2.1,rfl,ob,h1,h2⟩
   ·have:(Bw.filter (·.hash==e.hash)).size=((ys.map λy=>knd.hash y.1).filter (· ==e.hash)).length:=by
     rw[<-Yd,Array.toList_filter,FW,acK,acK,X3,X3];rfl
    rw[this];have hc:=List.nodup_iff_count.mp Wy e.hash;rw[List.count_eq_countP,aaM] at hc;exact hc
   ·have hm:dz ([]:List (K×Addr×Value)) ys=ys:=by
     rw[pQ ys [] (by simpa using xc)];rfl
    rw[hm] at hQ;split
    ·have WW:Bw.size<=Yv+1:=by simp at hsz;omega
     refine X6 (wpAny_updateDictKeysTo EO qG (Yb (hQ _ ⟨_,_,VG+1,aaE _ EO (ab6 (aaL qG _)),Bb.mapDictKeys _,aaL qG _,FW,λx hx=>?_,xc⟩ (YR ..))) WW);exact knd.keeps (SR x hx) EO qG (YR ..)
    ·rename_i fE;have h0:Bw= #[]:=ad7.mp (by simpa using fE);have SY:ys=[]:=ZY.mp (by rw[<-v6,h0];rfl);subst SY;exact Yb (hQ _ hd (ac5 _ _))
  ·exact go
 ·exact go
end
end L3
namespace L3
open PySem PySem.Spec L2
open PyProof.Rows hiding St
def LB(h1:(aan (bM P w)).is h k a):∃ob,h.get? a=θ ob/\ob.cls= .type "tuple":=by
 obtain⟨ob,aS,n,q1,q2,_⟩:=h1;exact⟨ob,q1,q2⟩
def ke(kvs more:List (List Key×V)):List (List Key×V):=more.foldl (λv4 kv=>putK v4 kv.1 kv.2) kvs
theorem DB:∀{more:List (List Key×V)}{ys:List (List Key×Addr×Value)},KT H more ys->∀{kvs:List (List Key×V)}{xs:List (List Key×Addr×Value)},KT H kvs xs->KT H (ke kvs more) (dz xs ys)
 |_,_, .nil,_,_,q=>q
 |_,_, .cons h t,kvs,xs,r=>by
  refine DB t ?_;have:=KT.put r _ h.2.1 h.2.2;rw[h.1] at this;show KT H (putK kvs _ _) (abD xs _ _ _);rw[h.1];exact this
theorem sr:∀(more kvs:List (List Key×V)),(ke kvs more).length<=kvs.length+more.length
 |[],kvs=>X_ _
 |p::r,kvs=>by
  have h1:=sr r (putK kvs p.1 p.2);have h2:=eO kvs p.1 p.2;show (ke (putK kvs p.1 p.2) r).length<=_;rw[Yh];omega
def iu(k:List Int):Int:=reduceHash (ab7 (k.map hashInt))
def GR(k:List Int):(aan (bM P w)).hash (j6 k)=iu k:=by
 show reduceHash (ab7 ((j6 k).map (Qo w)))=_;unfold iu j6;rw[YD];rfl
section
variable{X:Cx}{f8:List (Addr×Obj)}{σ:St}{H:Hp}{s:Yc}{a b:Addr}{A:Y7}{E:Value->Yc->Prop}
def Gy{ks:List (List Int)}(hu:A.units+2<cLine)(I:Inv X f8 σ H s)(ha:H a=θ (.dT kvs))(hb:Rd H b (.dT more))(Sz:a≠b)(hk:more.map (·.1)=ks.map j6)
 (hh:kvs=[]->(ks.map iu).Nodup)(hz:kvs.length+more.length<=Yv)(h:∀s',Inv X f8 σ (upd H a (.dT (ke kvs more))) s'->Q .none s'):
 wpAny (model X.prog X.w) A (call (.builtin "dict.update") [.ref a, .ref b]) Q E s:=by
 obtain⟨z1,lo1,xs,Q2,Ur⟩:=GD I.hok ha;obtain⟨z2,Xm,ys,Le,JP⟩:=rN I.hok hb;have l1:=ZV Q2;have l2:=ZV Le;have hT:=Ur.typeIs;refine Zs acJ hT PySem.F.entry_dict_update ?_ (PySem.F.args_dict_update_2 _ _);unfold ab8.«dict.update»;refine X6 ?_;unfold Builtin.Dict.selfAndRest;refine X6 (wpAny_notOrdered_dict hT ?_);show wpAny _ _ (pure (a,[YY b])) _ _ s;refine Yb ?_;show wpAny _ _ (acr "dict.update" a (.ref b) [] .none) _ _ s;unfold acr;refine X6 (abX JP.typeIs ?_);rw[aeh (by decide)];refine X6 ?_;unfold Builtin.Dict.merge;refine X6 ?_;unfold Builtin.Dict.readDirectly;refine X6 (wpAny_isInstance JP.typeIs isSubtype_dict_dict ?_);simp only[Bool.not_true,Y0,if_false];refine X6 (adi JP.typeIs PySem.F.slot_dict_iter.lookup (Yb ?_));simp only[beq_self_eq_true,if_true];refine X6 (Yb ?_);refine sH (show A.in1.units<cLine by show A.units+1<cLine;omega) Sz Xm Ur JP LB (λe0=>?_) (by omega) λh' CU Kb=>?_
 ·have e1:kvs=[]:=ZY.mp (by rw[l1,e0];rfl);have:=hh e1;have e2:(ys.map λy=>(aan (bM X.prog X.w)).hash y.1)=ks.map iu:=by
   have e3:more.map (·.1)=ys.map (·.1):=qj (λ_ _ r=>r.1) Le;rw[show (λy:List Key×Addr×Value=>(aan (bM X.prog X.w)).hash y.1)=(aan (bM X.prog X.w)).hash∘(·.1) from rfl,<-YD,<-e3,hk,YD];exact ZE λk _=>GR k
  rw[e2];exact this
 ·show wpAny _ _ (Builtin.Dict.addKeywords a []>>=_) _ _ _;refine X6 (Yb (Yb ⟨.none,rfl,h _ ?_⟩));obtain⟨q,es,ep,hq,h2,h3,h4,_,h5⟩:=CU;have hl:(ke kvs more).length<=Yv:=by have:=sr more kvs;omega
  refine k8 I (by rw[ha];exact ZR) Kb ⟨q,hq⟩ ⟨hl,lo1,_,(DB Le Q2).keeps λc ys ec=>?_,q,es,ep,hq,h2,h3,h4,h5⟩;rw[ay (HA ec ha (λz=>nomatch z))];exact ec
end
def da(ks:List (List Key))(ds:List D):List (List Key)->List D->List (List Key)×List D
 |k::ks',d::ds'=>da (cC ks ds k) (bZ ks ds k d) ks' ds'
 |_,_=>(ks,ds)
def Jm(ks:List (List Key))(ds:List D):D->Option C
 | .dct ks' ds'=>match fT ks' with
   |some ns=>if ds.length+ds'.length<=lim/\(ks.isEmpty=ψ->(ns.map iu).Nodup) then θ (.dct (da ks ds ks' ds').1 (da ks ds ks' ds').2) else ω
   |none=>ω
 |_=>ω
theorem sF{K:Ym}:∀{ks':List (List Key)}{ds':List D}{ei:List V}{ks:List (List Key)}{ds:List D}{vs:List V},DenL K F ds' ei->ks'.length=ds'.length->DenL K F ds vs->ks.length=ds.length->
 ∃ws,ke (ks.zip vs) (ks'.zip ei)=(da ks ds ks' ds').1.zip ws/\DenL K F (da ks ds ks' ds').2 ws/\(da ks ds ks' ds').1.length=(da ks ds ks' ds').2.length
 |[],[],ei,ks,ds,vs,h',_,h,hl=>⟨vs,rfl,h,hl⟩
 |k::ks',d::ds',ei,ks,ds,vs,⟨v,r,e,h1,h2⟩,Jw,h,hl=>by
  subst e;obtain⟨ws,e1,e2,e3⟩:=xY h1 k h hl;obtain⟨us,q1,q2,q3⟩:=sF h2 (by simpa using Jw) e2 e3;refine⟨us,?_,q2,q3⟩;show ke (putK (ks.zip vs) k v) (ks'.zip r)=_;rw[e1];exact q1
 |[],_::_,_,_,_,_,_,Jw,_,_=>by simp at Jw
 |_::_,[],_,_,_,_,_,Jw,_,_=>by simp at Jw
def IH[DecidableEq κ]{k:κ}(hl:ks.length=ds.length):(bZ ks ds k d).length<=ds.length+1:=by
 unfold bZ;split
 ·rw[kE ks ds k d hl];omega
 ·simp
def II[DecidableEq κ]{k:κ}(hl:ks.length=ds.length):(cC ks ds k).length=(bZ ks ds k d).length:=by
 unfold bZ cC;split
 ·rw[kE ks ds k d hl];exact hl
 ·simp[hl]
theorem sG:∀{ks':List (List Key)}{ds':List D}{ks:List (List Key)}{ds:List D},ks.length=ds.length->(da ks ds ks' ds').2.length<=ds.length+ds'.length
 |[],ds',ks,ds,_=>by show ds.length<=_;omega
 |_::_,[],ks,ds,_=>by show ds.length<=_;simp
 |k::ks',d::ds',ks,ds,hl=>by
  have h1:=sG (ks':=ks') (ds':=ds') (ks:=cC ks ds k) (ds:=bZ ks ds k d) (II hl);have h2:=IH (k:=k) (d:=d) hl;show (da (cC ks ds k) (bZ ks ds k d) ks' ds').2.length<=_;rw[Yh];omega
section
variable{X:Cx}{Xw:Nat->Hp->Prop}{o e:Expr}{δ:DE}{pos p T0 bJ:Pos}{x:Str}{i:Nat}
def FC(i:Nat)(δ:DE):DS:=λρ=>match qM ρ i with
 |some (.dct ks ds)=>δ ρ>>=λd=>match Jm ks ds d with
  |some c'=>aa (.nx (ρ.set i (θ (.ow c'))))
  |none=>af
 |_=>af
def N3(hu:X.A.units+2<cLine)(ho:PE X o td)(he:PE X e ty)(m:M1 X o "update" T0 e bJ):
 PE X (.Call (.Attribute o "update" T0) [e] [] bJ) (λσ H Q=>td σ H λx H1=>∃a,x= .ref a/\RZ H1 a/\ty σ H1 λy H2=>∃(b:Addr) (kvs more:List (List Key×V)) (ks:List (List Int)),y= .ref b/\H2 a=θ (.dT kvs)/\Rd H2 b (.dT more)/\a≠b/\more.map (·.1)=ks.map j6/\(kvs=[]->(ks.map iu).Nodup)/\kvs.length+more.length<=Yv/\Q .non (upd H2 a (.dT (ke kvs more)))):=by
 intro f8 s σ H Q I h;refine wpAny_Call_method m.base m.few m.line acR acJ (by rfl) (cJ (ho f8 s σ H _ I h) λu s1 ⟨x,H1,I1,rx,a,ex,d,q1⟩=>?_);subst ex;obtain rfl:u=YY a:=rx;obtain⟨t1,t2,_⟩:=G9 I1 d;refine⟨t1,t2,?_⟩;rw[m.trees];refine abj rfl (abN (Z6 (cJ (he f8 s1 σ H1 _ I1 q1) λiv s2 ⟨y,H2,I2,ry,b,kvs,more,ks,ey,k1,k2,k3,k4,k5,k6,q2⟩=>aax ?_)));subst ey;obtain rfl:iv=YY b:=ry;exact Gy hu I2 k1 k2 k3 k4 k5 k6 λs3 I3=>⟨.non,_,I3,rfl,q2⟩
def D2(hu:X.A.units+64<cLine)(hv:PE X (.Name x p) (mG i))(he:PD X Xw e δ)(m:M1 X (.Name x p) "update" T0 e bJ)(hs:aaY (.Call (.Attribute (.Name x p) "update" T0) [e] [] bJ) ω pos.line X.env=pure μ:=by rfl):
 iQ X Xw (.Expr (.Call (.Attribute (.Name x p) "update" T0) [e] [] bJ) pos) (FC i δ):=λu8 aep=>PS.weak (ra (N3 (by omega) hv he m) hs) λD σ H ⟨F,ρ,s,w⟩=>by
 unfold FC at w;split at w
 ·rename_i ks ds M6;have hi:=oX M6;obtain⟨v,RK,a,oh,rfl,hH,hF,vs,rfl,hd,hl,hz⟩:=s.st.den i _ hi;refine⟨.ref a,RK,a,rfl, .inr ⟨_, .inl hH⟩,F,ρ,s.st,?_⟩;rcases(δ ρ).cs with q | ⟨n,q⟩ | ⟨d,q⟩
  ·rw[q] at w;exact w.elim
  ·rw[q] at w⊢;exact λF' H' e'=>w F' H' (s.ext.trans e')
  ·rw[q] at w⊢;intro u H1 F1 e1 hq;have w:WPS X.K Xw u8 aep (match Jm ks ds d with | some c'=>aa (.nx (ρ.set i (θ (.ow c')))) | none=>af) D:=w;cases d with
   |dct ks' ds'=>
    obtain⟨b,ob,ei,rfl,k2,k3,k4,k5⟩:=hq;cases hc:Jm ks ds (.dct ks' ds') with
    |none=>rw[hc] at w;exact w.elim
    |some c'=>
     rw[hc] at w;have hc:(match fT ks' with | some ns=>if ds.length+ds'.length<=lim/\(ks.isEmpty=ψ->(ns.map iu).Nodup) then θ (C.dct (da ks ds ks' ds').1 (da ks ds ks' ds').2) else ω | none=>ω)=θ c':=hc;cases hn:fT ks' with
     |none=>rw[hn] at hc;cases hc
     |some ns=>
      rw[hn] at hc;have hc:(if ds.length+ds'.length<=lim/\(ks.isEmpty=ψ->(ns.map iu).Nodup) then θ (C.dct (da ks ds ks' ds').1 (da ks ds ks' ds').2) else ω)=θ c':=hc;split at hc
      ·rename_i PK;cases hc;have UQ:=DenL.mono e1.ff hd;have l1:=UQ.len;have l2:=k3.len;have Sz:a≠b:=λz=>by
        have:=e1.old hH (λ_ z=>nomatch z);rw[hF,z,k2] at this;cases this
       obtain⟨ws,m1,m2,m3⟩:=sF k3 k4 UQ hl;refine⟨b,ks.zip vs,ks'.zip ei,ns,rfl,e1.hh _ _ hH, .inr ⟨ob,e1.fh _ _ k2⟩,Sz,by rw[gJ (by rw[k4];exact l2),lg hn],λz=>PK.2 ?_,?_,?_⟩
       ·have:=gJ (a:=ks) (b:=vs) (by rw[hl];exact l1);rw[z] at this;rw[<-this];rfl
       ·rw[abw,abw];have:=dH;omega
       ·rw[m1];exact w σ F1 _ ((s.ext' e1).chg hi RK ⟨ws,rfl,m2,m3,by have:=sG (ks':=ks') (ds':=ds') hl;omega⟩)
      ·cases hc
   |_=>exact w.elim
 ·exact w.elim
end
section
variable{x:Str}
def getM(d k v:D):M D:=match FU d k with
 |some (θ x)=>aa x
 |some ω=>aa v
 |none=>af
end
section
variable{a:Expr}
end
def BB:List Nat->LI
 |[]=>Pq
 |i::is=>LQ (lM i) (BB is)
def Co:List Nat->List D->bQ->bQ
 |i::is,d::ds,ρ=>Co is ds (ρ.set i (θ (.fz d)))
 |_,_,ρ=>ρ
def v5(is:List Nat):D->bQ->Option bQ
 | .tup ds,ρ=>if ds.length=is.length then θ (Co is ds ρ) else ω
 |_,_=>ω
theorem wo{K:Ym}{u8 aep F H:Hp}{Q:St->Hp->Prop}:∀(is:List Nat) (ds:List D) (vs:List V) (σ:St) (ρ:bQ),ds.length=is.length->StOk K u8 aep F H σ ρ->DenL K F ds vs->(∀σ',StOk K u8 aep F H σ' (Co is ds ρ)->Q σ' H)->BB is vs σ H Q
 |[],[],vs,σ,ρ,_,s,h,k=>⟨h,k σ s⟩
 |i::is,d::ds,vs,σ,ρ,hl,s,⟨v,r,e,h1,h2⟩,k=>by
  subst e;exact⟨v,r,rfl,wo is ds r _ _ (by simpa using hl) (s.set h1) h2 k⟩
 |[],_::_,_,_,_,hl,_,_,_=>by simp at hl
 |_::_,[],_,_,_,hl,_,_,_=>by simp at hl
def D8{K:Ym}{is:List Nat}:FZ K (Pt K is.length (BB is)) (v5 is):=λu8 aep F H σ ρ ρ' d v Q s q e k=>by
 unfold v5 at e;split at e
 ·rename_i ds;split at e
  ·rename_i hl;cases e;obtain⟨a,vs,rfl,hs,hd,_⟩:=q;exact⟨a,vs,rfl,SqT.of (s.st.fh _ _ hs),by rw[<-hd.len];exact hl,wo is ds vs σ ρ hl s hd k⟩
  ·cases e
 ·cases e
section
variable{prog:YM}{w:World}
abbrev Vh(prog:YM)(w:World):HeapKind prog w (List Key):=aan (bM prog w)
def DictOfH.at'{h h':Heap}{xs:List (List Key×Addr×Value)}(x:h.DictOfH (Vh prog w) d xs)(k:∀c o,h.get? c=θ o->(c=d\/∃y∈xs,y.2.1=c)->h'.get? c=θ o):h'.DictOfH (Vh prog w) d xs:=by
 obtain⟨o,es,ep,h1,h2,h3,h4,h5,h6⟩:=x;refine⟨o,es,ep,k _ _ h1 (.inl rfl),h2,h3,h4,λy hy=>?_,h6⟩;obtain⟨oa,items,n,a1,a2⟩:=h5 y hy;exact⟨oa,items,n,k _ _ a1 (.inr ⟨y,hy,rfl⟩),a2⟩
end
mutual
def vk:D->Bool
 | .non=>ψ
 | .bl _=>ψ
 | .int _=>ψ
 | .str _=>ψ
 | .tup ds=>rG ds
 | .lst ds=>rG ds
 | .raw _=>μ
 | .exc _=>μ
 | .scr _=>μ
 | .dct _ _=>μ
 | .dci _ _=>μ
def rG:List D->Bool
 |[]=>ψ
 |d::ds=>vk d&&rG ds
end
def Gz(d:D):M D:=if vk d then aa d else af
def nv(ρ:bQ):Bool:=ρ.all λx=>match x with
 |some (.ow (.lst _))=>μ
 |_=>ψ
def H0{i:Nat}(h:nv ρ=ψ)(e:ρ[i]? =θ (θ (.ow (.lst ds)))):False:=by
 have:=Yu.mp h _ (YB e);cases this
def Pa(δ:DE):DE:=λρ=>if nv ρ then noex (δ (yN ρ))>>=Gz else af
section
variable{K:Ym}{F H F' H':Hp}{σ:St}{ρ:bQ}{h:Heap}{b:Addr}
def OwnAt.dict(S:StE K F H σ ρ)(hd:nv ρ=ψ)(p:OwnAt σ ρ b):∃o,H b=θ o/\((∃x,o= .dT x)\/∃x,o= .dK x):=by
 obtain⟨i,c,h1,h2⟩:=p;obtain⟨v,h3,a,o,rfl,h4,h5,h6⟩:=S.den i _ h1;rw[h3] at h2;cases h2;refine⟨o,h4,?_⟩;cases c with
 |lst ds=>exact(H0 hd h1).elim
 |dct ks ds=>obtain⟨vs,rfl,_⟩:=h6;exact .inl ⟨_,rfl⟩
 |dci ks ds=>obtain⟨vs,rfl,_⟩:=h6;exact .inr ⟨_,rfl⟩
open Classical in
def DK(S:StE K F H σ ρ)(hd:nv ρ=ψ)(E:Ext (fA σ ρ (refA h (OwnAt σ ρ) H) F) (refA h (OwnAt σ ρ) H) F' H'){o:HO}(e:F' a=θ o)(fE:∀q u,o≠ .frz q u):(if OwnAt σ ρ a then ω else F' a)=θ o:=by
 rw[aeh,e];intro hp;obtain⟨o',k1,k2⟩:=OwnAt.dict S hd hp;have k3:fA σ ρ (refA h (OwnAt σ ρ) H) F a=θ (qD ((h.get? a).getD {cls:= .none,data:= .fields #[]}) o'):=by
  unfold fA refA;rw[aef hp,aef hp,k1];rfl
 have k4:=E.ff a _ k3;rw[e] at k4;rcases k2 with⟨x,rfl⟩ | ⟨x,rfl⟩<;>cases k4<;>exact fE _ _ rfl
open Classical in
mutual
theorem za(S:StE K F H σ ρ)(hd:nv ρ=ψ)(E:Ext (fA σ ρ (refA h (OwnAt σ ρ) H) F) (refA h (OwnAt σ ρ) H) F' H'):∀{d:D}{v:V},vk d=ψ->Den K F' d v->Den K (λb=>if OwnAt σ ρ b then ω else F' b) d v
 | .non,_,_,q=>q
 | .bl _,_,_,q=>q
 | .int _,_,_,q=>q
 | .str _,_,_,q=>q
 | .tup ds,_,f,⟨a,vs,h1,h2,h3,h4⟩=>⟨a,vs,h1,DK S hd E h2 (λ_ _ z=>nomatch z),oA S hd E f h3,h4⟩
 | .lst ds,_,f,⟨a,vs,h1,h2,h3,h4⟩=>⟨a,vs,h1,DK S hd E h2 (λ_ _ z=>nomatch z),oA S hd E f h3,h4⟩
 | .raw _,_,f,_=>by cases f
 | .exc _,_,f,_=>by cases f
 | .scr _,_,f,_=>by cases f
 | .dct _ _,_,f,_=>by cases f
 | .dci _ _,_,f,_=>by cases f
theorem oA(S:StE K F H σ ρ)(hd:nv ρ=ψ)(E:Ext (fA σ ρ (refA h (OwnAt σ ρ) H) F) (refA h (OwnAt σ ρ) H) F' H'):∀{ds:List D}{vs:List V},rG ds=ψ->DenL K F' ds vs->DenL K (λb=>if OwnAt σ ρ b then ω else F' b) ds vs
 |[],_,_,q=>q
 |d::ds,_,f,⟨v,r,h1,h2,h3⟩=>by
  unfold rG at f;rw[Yq] at f;exact⟨v,r,h1,za S hd E f.1 h2,oA S hd E f.2 h3⟩
end
end
section
variable{X:Cx}{Xw:Nat->Hp->Prop}{e:Expr}{δ:DE}
def QM(h:PD X Xw e δ):PD X Xw e (Pa δ):=λf8 s σ H Q I ⟨F,ρ,S,w⟩=>by
 classical
 have w:WP X.K Xw F H (if nv ρ then noex (δ (yN ρ))>>=Gz else af) Q:=w;by_cases hd:nv ρ=ψ
 ·rw[aef hd] at w;rcases g9 (δ (yN ρ)) with q | ⟨d,q,q2⟩
  ·rw[q] at w;exact w.elim
  ·rw[q2,aw] at w;unfold Gz at w;split at w
   ·rename_i hf;refine cJ (h f8 s σ _ (λv H'=>Q v (unA (OwnAt σ ρ) H')/\∀c,OwnAt σ ρ c->∀o u,H' c=θ (.frz o u)->(∃k,u= .dT k)\/∃k,u= .dK k) (Inv.refA I) ⟨_,_,Bz (h:=s.heap) S,?_⟩) λu s' ⟨v,H',I',r,q1,q3⟩=>⟨v,_,Inv.unA I' (oY I S) q3,r,q1⟩
    rw[q];intro v H' F' E k;obtain⟨E1,q3⟩:=rT S E;exact⟨w _ _ _ E1 (za S hd E hf k),q3⟩
   ·exact w.elim
 ·rw[aeh hd] at w;exact w.elim
end
def Se(δ:DE):DE:=λρ=>noex (δ (yN ρ))>>=rP
def Ct(τ:DT):DT:=λρ=>noex (τ (yN ρ))
section
variable{a b:Expr}
def yC{x y:Str}(h:x.cps.toList=y.cps.toList):x=y:=by
 obtain⟨⟨a⟩⟩:=x;obtain⟨⟨b⟩⟩:=y;cases (show a=b from h);rfl
end
def BL(x:Int):List Int->List Int
 |[]=>[x]
 |y::r=>if x<=y then x::y::r else y::BL x r
def kQ:List Int->List Int
 |[]=>[]
 |x::r=>BL x (kQ r)
theorem oD(x:Int):∀l,(BL x l).Perm (x::l)
 |[]=>acw _
 |y::r=>by
  unfold BL;split
  ·exact acw _
  ·exact((oD x r).cons y).trans (List.Perm.swap ..)
theorem ig:∀l,(kQ l).Perm l
 |[]=>acw _
 |x::r=>(oD x (kQ r)).trans ((ig r).cons x)
theorem zB{x:Int}:∀{l:List Int},l.Pairwise (· <= ·)->(BL x l).Pairwise (· <= ·)
 |[],_=>by simp[BL]
 |y::r,h=>by
  rw[YK] at h;unfold BL;split
  ·rename_i hx;refine YK.mpr ⟨λz hz=>?_,YK.mpr h⟩;rcases Ye.mp hz with rfl | hz
   ·exact hx
   ·exact Int.le_trans hx (h.1 z hz)
  ·rename_i hx;refine YK.mpr ⟨λz hz=>?_,zB h.2⟩;rcases Ye.mp ((oD x r).mem_iff.mp hz) with rfl | hz
   ·omega
   ·exact h.1 z hz
theorem pC:∀l,(kQ l).Pairwise (· <= ·)
 |[]=>abq
 |x::r=>zB (pC r)
theorem xJ:∀{a b:List Int},a.Perm b->a.Pairwise (· <= ·)->b.Pairwise (· <= ·)->a=b
 |[],b,h,_,_=>(List.nil_perm.mp h).symm
 |x::a,[],h,_,_=>ael (List.perm_nil.mp h) (by simp)
 |x::a,y::b,h,h1,h2=>by
  rw[YK] at h1 h2;have e:x=y:=by
   have m1:x∈y::b:=h.mem_iff.mp (X5 ..);have m2:y∈x::a:=h.mem_iff.mpr (X5 ..);rcases Ye.mp m1 with z | z
   ·exact z
   ·rcases Ye.mp m2 with z' | z'
    ·exact z'.symm
    ·have:=h1.1 y z';have:=h2.1 x z;omega
  subst e;rw[xJ (List.Perm.cons_inv h) h1.2 h2.2]
theorem qp:∀{us:List Value}{ns:List Int},aaK us ns->Vals (ns.map V.int) us
 |_,_, .nil=> .nil
 |_,_, .cons n t h=> .cons ⟨t,rfl⟩ (qp h)
theorem vm{K:Ym}{F:Hp}:∀{xs:List Int},DenL K F (xs.map D.int) (xs.map V.int)
 |[]=> .nil
 |x::r=> .cons rfl vm
section
variable{a:Expr}
end
theorem mI:∀{xs:List V}{us:List Value},xs.length=us.length->(∀(i:Nat) x u,xs[i]? =θ x->us[i]? =θ u->RelV x u)->Vals xs us
 |[],[],_,_=> .nil
 |x::xs,u::us,hl,h=> .cons (h 0 x u rfl rfl) (mI (by simpa using hl) λi y v e1 e2=>h (i+1) y v (by simpa using e1) (by simpa using e2))
end L3
namespace L3
open PySem PySem.SetTable
def iK(m b:Nat):Nat->Nat×Nat
 |0=>(b % (m+1),b)
 |k+1=>leap m (iK m b k).1 (iK m b k).2
def OU(m i:Nat):Nat:=(i*5+1) % (m+1)
def it(m:Nat):Nat->Nat->Nat
 |0,x=>x
 |n+1,x=>OU m (it m n x)
theorem si(m:Nat):∀a b x,it m (a+b) x=it m a (it m b x)
 |0,b,x=>by rw[aaT];rfl
 |a+1,b,x=>by rw[aea];show OU m _=OU m _;rw[si m a b x]
theorem Qh(m b:Nat):∀k,(iK m b k).2=b / 32 ^ k
 |0=>by simp[iK]
 |k+1=>by
  show (iK m b k).2 / 32=_;rw[Qh m b k,ady,abI]
theorem Dg{m b:Nat}(hb:b<2 ^ 64):∀k,(iK m b (k+13)).1=it m k (iK m b 13).1
 |0=>by rw[aaT];rfl
 |k+1=>by
  rw[aea];have hq:(iK m b (k+13)).2 / 32=0:=by
   rw[Qh];refine Nat.div_eq_of_lt ?_;refine Z8 (m:=b / 32 ^ 13) ?_ ?_
   ·rw[Nat.pow_add,Nat.mul_comm,<-ady];exact Nat.div_le_self ..
   ·have:b / 32 ^ 13<1:=Nat.div_lt_of_lt_mul (by omega);omega
  show ((iK m b (k+13)).1*5+1+(iK m b (k+13)).2 / 32) % (m+1)=OU m _;rw[hq,Dg hb k];rfl
def Ro(m:Nat):Prop:=m=7\/m=31\/m=127
def TJ(m:Nat):Nat->Nat->List Nat
 |0,_=>[]
 |n+1,x=>x::TJ m n (OU m x)
theorem Cc(m:Nat):∀(n x j:Nat),j∈TJ m n x->∃a,a<n/\it m a x=j
 |0,x,j,h=>by cases h
 |n+1,x,j,h=>by
  rcases Ye.mp h with rfl | h
  ·exact⟨0,by omega,rfl⟩
  ·obtain⟨a,ha,e⟩:=Cc m n (OU m x) j h;exact⟨a+1,by omega,by rw[si m a 1 x];exact e⟩
def KP(hm:Ro m):(∀j,j<m+1->j∈TJ m (m+1) 0)/\it m (m+1) 0=0:=by
 rcases hm with rfl | rfl | rfl
 ·exact⟨by decide+kernel,by decide+kernel⟩
 ·exact⟨by decide+kernel,by decide+kernel⟩
 ·exact⟨by decide+kernel,by decide+kernel⟩
def VD(hm:Ro m)(hi:i<m+1)(hj:j<m+1):∃n,n<=m/\it m n i=j:=by
 obtain⟨h1,h2⟩:=KP hm;obtain⟨a,ha,rfl⟩:=Cc m _ 0 i (h1 i hi);obtain⟨b,hb,rfl⟩:=Cc m _ 0 j (h1 j hj);by_cases h:a<=b
 ·exact⟨b - a,by omega,by rw[<-si,Nat.sub_add_cancel h]⟩
 ·refine⟨m+1 - a+b,by omega,?_⟩;rw[<-si,show m+1 - a+b+a=b+(m+1) by omega,si,h2]
def Qg(m b k:Nat):(iK m b k).1<m+1:=by
 cases k with
 |zero=>exact ade _ (by omega)
 |succ k=>exact ade _ (by omega)
def reach(hm:Ro m)(hb:b<2 ^ 64)(hj:j<m+1):∃k,k<=m+13/\(iK m b k).1=j:=by
 obtain⟨n,hn,e⟩:=VD hm (Qg m b 13) hj;exact⟨n+13,by omega,by rw[Dg hb,e]⟩
def Ul(t:SetTable):Nat->Probe->Probe
 |0,p=>p
 |n+1,p=>Ul t n (t.advance p)
def vals(o:Array (Option Nat))(n:Nat):List Nat:=(Yr n).filterMap λj=>o.getD j ω
structure TabOk (t:SetTable) (n:Nat) (ld:Bool):Prop where
 X1:Ro t.mask
 size:t.place.size=n
 XQ:t.dummies= #[]
 room:5*n<3*t.mask
 plain:t.plain=ψ
 led:t.led=ld
 rise:t.place.toList.Pairwise (· < ·)
def SetH(ld:Bool)(h:Heap)(a:Addr)(xs:List (Int×Value)):Prop:=∃o es ep t,h.get? a=θ o/\o.ExactSet/\o.data= .set es ep t/\es.toList.Perm xs/\TabOk t es.size ld
def SetH.at{ld:Bool}{h h':Heap}{a:Addr}{xs:List (Int×Value)}(x:SetH ld h a xs)(e:∀o,h.get? a=θ o->h'.get? a=θ o):SetH ld h' a xs:=
 let ⟨o,es,ep,t,ho,r⟩:=x
 ⟨o,es,ep,t,e o ho,r⟩
end L3
namespace L3
open PySem PySem.Spec L2 HT
open PyProof.Rows hiding St
theorem items_int{P:YM}{w:World}:∀{us:List Value}{ns:List Int},aaK us ns->ItemsAre (intKind P w) ns us
 |_,_, .nil=> .nil
 |_,_, .cons n t h=> .cons (intKind_is _ _ _ _) (items_int h)
end L3
namespace L3
open PySem PySem.SetTable PySem.W PyProof.Rows
def IsSI(h:Heap)(it a:Addr)(sl k n ep:Nat):Prop:=∃o,h.get? it=θ o/\o.cls= .type "set_iterator"/\o.data= .fields #[acW sl,acW k, .ref a,acW n,acW ep]
def IsSI.at{h h':Heap}{it a:Addr}{sl k n ep:Nat}(x:IsSI h it a sl k n ep)(e:∀o,h.get? it=θ o->h'.get? it=θ o):IsSI h' it a sl k n ep:=let ⟨o,ho,r⟩:=x;⟨o,e o ho,r⟩
end L3
namespace L3
open PySem PySem.Spec L2 HT
open PyProof.Rows hiding St
theorem zc{K:Ym}{F:Hp}:∀l:List Nat,DenL K F (l.map λ(i:Nat)=>D.int (i:Int)) (l.map λ(i:Nat)=>V.int (i:Int))
 |[]=> .nil
 |c::l=> .cons rfl (zc l)
section
variable{prog:YM}{w:World}
def SetS(prog:YM)(w:World)(h:Heap)(a:Addr)(xs:List Str):Prop:=h.SetOf (strKind prog w) a (λk=>decide (k∈xs)) xs.length
def SetS.at{h h':Heap}{a:Addr}{xs:List Str}(x:SetS prog w h a xs)(e:∀o,h.get? a=θ o->h'.get? a=θ o):SetS prog w h' a xs:=
 let ⟨o,es,ep,t,ho,r⟩:=x
 ⟨o,es,ep,t,e o ho,r⟩
end
end L3
namespace L3
open PySem PySem.Spec L2 SeqAt HT
open PyProof.Rows hiding St
def QY:List V->Hp->VK->Prop:=λxs H Q=>∃p kvs ks,xs=[.ref p]/\Rd H p (.dT kvs)/\kvs.map (·.1)=ks.map j6/\ks.length<=lim/\∀(q:Addr) (ws:List V),H q=ω->d6 H ws ks->Q (.ref q) (upd H q (.lst ws))
section
variable{X:Cx}{Xw:Nat->Hp->Prop}{e:Expr}{δs:DA}{pos p:Pos}
def Bo(hc:X.calm=ψ):CallR X (.type "list") QY:=by
 intro f8 s σ H xs us Q I r h;obtain⟨a,kvs,ks,rfl,hH,yO,hk,q⟩:=h;obtain⟨u,rfl,r1⟩:=r.one;cases (show u=_ from r1);obtain⟨z,lo,xs,rel,o,es,ep,g1,g2,g3,g4,g5⟩:=(show ObjOk X.prog X.w H s.heap a (.dT kvs) from hH.ok I.hok)
 have hr:=oI rel yO;have FX:=kD hr;rw[X3] at FX;have EM:es.size=xs.length:=by rw[<-Yd,g4,X3]
 have pM:Yv=16777216:=ZJ;have XT:lim=4096:=rfl;refine PySem.W.kdl_call (t_ lo g2 g3) (I.ok.hd hc) g1 (by rw[EM,pM];omega) λh1 tk v4 c sm BF g6=>?_;have zw:v4.toList.length=xs.length:=by rw[Yd,<-EM];exact g6.1
 have rv:Vals (xs.map λx=>V.ref x.2.1) v4.toList:=by
  refine mI (by rw[X3,zw]) λi v u e1 e2=>?_;rw[Y6] at e2;obtain⟨en,q1,q2⟩:=g6.2 i u e2;rw[<-Y6,g4,Yl] at q1;rw[Yl] at e1;cases w:xs[i]? with
  |none=>rw[w] at e1;cases e1
  |some x=>
   rw[w] at e1 q1;cases e1;cases q1;exact q2
 refine⟨.ref s.heap.objs.size,_,I.laid (t':=tk) sm (X_ _) (show ObjOk X.prog X.w _ h1 _ (.lst (xs.map λx=>V.ref x.2.1)) from⟨by rw[X3];omega,v4.toList,c,rv,by simpa using BF⟩),rfl,q _ _ (I.hok.fresh (X_ _)) hr⟩
def Dv:List D->M D
 |[.dct kk ds]=>match fT kk with
  |some ks=>if ks.length<=lim/\ks.all (λk=>decide (k.length<=lim)) then aa (.lst (ks.map tupI)) else af
  |none=>af
 |_=>af
def Ic(hc:X.calm=ψ)(hg:Gl X "list")(hm:X.mg "list"=ω)(hb:YW "list"=θ (.type "list"))(ha:nZ X Xw [e] δs)(he:Yw [e] X.env=[(μ,eval e X.env)]:=by rfl):PD X Xw (.Call (.Name "list" p) [e] [] pos) (dA Dv δs):=
 vY (Bo hc) (λXw F H vs ds Q s h w=>by
  unfold Dv at w;split at w
  ·rename_i kk ds;obtain⟨v,rfl,h1⟩:=h.one;obtain⟨a,ob,ws,rfl,h2,h3,h4,h5⟩:=h1;split at w
   ·rename_i ks zA;split at w
    ·rename_i hok;have hl:∀k∈ks,k.length<=lim:=λk hk=>aei (Yu.mp hok.2 k hk);refine⟨a,_,ks,rfl, .inr ⟨ob,s _ _ h2⟩,by rw[gJ (by rw[h4];exact h3.len),lg zA],hok.1,λq us hq hr=>?_⟩;obtain⟨F1,e1,r1⟩:=tU s hr;have e2:=Ext.lay (o:= .lst us) e1.fh hq;exact WP.fin w (e1.trans e2) ⟨q,_,rfl,aD,DenL.mono e2.ff (nM r1 hl),by rw[X3];exact hok.1⟩
    ·exact w.elim
   ·exact w.elim
  ·exact w.elim) hg hm hb ha (by decide) (by decide) he rfl
end
end L3
namespace L3
open PySem PySem.Spec L2
open PyProof.Rows hiding St
end L3
namespace L3
open PySem PySem.Spec L2 SeqAt HT
open PyProof.Rows hiding St
section
variable{a:Expr}
end
end L3
namespace L3
open PySem PySem.Spec L2 HT
open PyProof.Rows hiding St
end L3
namespace L3
open PySem PySem.Spec L2 SeqAt HT
open PyProof.Rows hiding St
section
variable{X:Cx}{f8:List (Addr×Obj)}{σ:St}{H:Hp}{s:Yc}{a:Addr}{kvs:List (Key×V)}{k:Key}{z:V}{u r:Value}{A:Y7}{E:Value->Yc->Prop}
def Gx{Q:Value->Yc->Prop}(I:Inv X f8 σ H s)(e:H a=θ (.dK kvs))(ry:RelV (kV k) u)(rz:RelV z r)(hl:kvs.length<Yv)
 (h1:∀v w' s',gu kvs k=θ v->Inv X f8 σ H s'->RelV v w'->Q w' s')
 (h2:∀s',gu kvs k=ω->Inv X f8 σ (upd H a (.dK (putK kvs k z))) s'->Q r s'):
 wpAny (model X.prog X.w) A (call (.builtin "dict.setdefault") [.ref a,u,r]) Q E s:=by
 obtain⟨zz,hd,vs,rel,dd⟩:=GA I.hok e;have hz:vs.length<=Yv:=by rw[<-rel.length];exact zz
 have Jw:(putK kvs k z).length<=Yv:=by have:=eO kvs k z;omega
 have rv:=rel.val k;refine call_meetsIn acn dd.typeIs PySem.F.entry_dict_setdefault (PySem.F.args_dict_setdefault_3 _ _ _) (kt_meets_setdefault (bM X.prog X.w) a (sj ry) hd r) ⟨vs,dd,hz,λv hv=>?_,λhn h' CU hs=>?_⟩
 ·cases q:gu kvs k with
  |none=>rw[q] at rv;rw[RelO.none_of rv] at hv;cases hv
  |some v0=>
   rw[q] at rv;obtain⟨w',hw,Eb⟩:=RelO.some_of rv;rw[hw] at hv;cases hv;exact h1 v0 _ _ q (I.tok _) Eb
 ·cases q:gu kvs k with
  |some v0=>rw[q] at rv;obtain⟨w',hw,_⟩:=RelO.some_of rv;rw[hw] at hn;cases hn
  |none=>
   have he:∃q,h'.get? a=θ q:=let ⟨q,_,_,hq,_⟩:=CU;⟨q,hq⟩
   exact h2 _ q (k8 I (by rw[e];exact ZR) hs he (Bu Jw hd (rel.put k rz) CU))
end
section
variable{X:Cx}{o e f:Expr}{T0 bJ:Pos}{td ty tx:TE}
def Mm(td ty tx:TE):TE:=λσ H Q=>td σ H λx H1=>∃a,x= .ref a/\RZ H1 a/\ty σ H1 λy H2=>tx σ H2 λz H3=>∃kvs k,H3 a=θ (.dK kvs)/\y=kV k/\kvs.length<Yv/\
 (∀v,gu kvs k=θ v->Q v H3)/\(gu kvs k=ω->Q z (upd H3 a (.dK (putK kvs k z))))
def K5(ho:PE X o td)(he:PE X e ty)(hf:PE X f tx)(m:M2 X o "setdefault" T0 e f bJ):PE X (.Call (.Attribute o "setdefault" T0) [e,f] [] bJ) (Mm td ty tx):=by
 intro f8 s σ H Q I h;refine wpAny_Call_method m.base m.few m.line acR acn PySem.F.type_dict_setdefault (cJ (ho f8 s σ H _ I h) λu s1 ⟨x,H1,I1,rx,a,ex,d,q1⟩=>?_);subst ex;obtain rfl:u=YY a:=rx;obtain⟨t1,t2,_⟩:=G9 I1 d;refine⟨t1,t2,?_⟩;rw[m.trees];refine abj rfl (abN (Z6 (cJ (he f8 s1 σ H1 _ I1 q1) λiv s2 ⟨y,H2,I2,ry,q2⟩=>
  Z6 (cJ (hf f8 s2 σ H2 _ I2 q2) λfv s3 ⟨z,H3,I3,rz,kvs,k,e1,ey,hl,g1,g2⟩=>aax ?_))))
 subst ey;exact Gx I3 e1 ry rz hl (λv w' s' q I4 r4=>⟨v,H3,I4,r4,g1 v q⟩) λs' q I4=>⟨z,_,I4,rz,g2 q⟩
end
abbrev rh:=List (Key×List Key)
def uH(ks:List Key)(k:Key):Bool:=ks.any λx=>decide (x=k)
def mU{ks:List Key}{k:Key}:uH ks k=ψ↔k∈ks:=by
 unfold uH;rw[List.any_eq_true];exact⟨λ⟨x,h1,h2⟩=>(aei h2)▸h1,λh=>⟨k,h,aeg rfl⟩⟩
def yn(ps:rh)(k:Key):rh:=if uH (ps.map (·.1)) k then ps else ps++[(k,[])]
def rj(ps:rh)(k j:Key):rh:=ps.map λp=>if p.1=k then(p.1,if uH p.2 j then p.2 else p.2++[j]) else p
def yQ(ps:rh):Bool:=decide (ps.length<lim)&&ps.all λp=>decide (p.2.length<lim)
def inD(ks:List Key):D:= .dci ks (ks.map λ_=> .bl ψ)
def gm(ps:rh):D:= .dci (ps.map (·.1)) (ps.map λp=>inD p.2)
def mj(oi:Nat)(tc:DT)(δk:DE)(k:Key)(ρ:bQ):List D->rh->M rh
 |[],ps=>aa ps
 |d::ds,ps=>noex (tc (ρ.set oi (θ (.fz d))))>>=λb=>if b then noex (δk (ρ.set oi (θ (.fz d))))>>=λkd=>match me kd with
   |some j=>if yQ ps then mj oi tc δk k ρ ds (rj ps k j) else af
   |none=>af
  else mj oi tc δk k ρ ds ps
def g_(ci oi:Nat)(δk:DE)(δj:DA)(tc:DT)(δk2:DE)(ρ:bQ):List D->rh->M rh
 |[],ps=>aa ps
 |d::ds,ps=>noex (δk (ρ.set ci (θ (.fz d))))>>=λkd=>match me kd with
   |some k=>if yQ ps then noex (δj (ρ.set ci (θ (.fz d))))>>=λes=>mj oi tc δk2 k (ρ.set ci (θ (.fz d))) es (yn ps k)>>=λjS=>g_ ci oi δk δj tc δk2 ρ ds jS else af
   |none=>af
def pJ(ρ:bQ):Bool:=ρ.all λx=>match x with | some (.ow _)=>μ | _=>ψ
def AA(ni ci mi oi:Nat)(δi:DA)(δk:DE)(δj:DA)(tc:DT)(δk2:DE):DS:=λρ=>match qM ρ ni with
 |some (.dci [] [])=>if pJ (fgt [ni,ci,mi,oi] ρ) then noex (δi (fgt [ni,ci,mi,oi] ρ))>>=λds=>noex (g_ ci oi δk δj tc δk2 (fgt [ni,ci,mi,oi] ρ) ds [])>>=λps=>
   if yQ ps then aa (.nx ((fgt [ni,ci,mi,oi] ρ).set ni (θ (.fz (gm ps))))) else af else af
 |_=>af
def Ext.of_chg{u8 aep F H:Hp}{b:Addr}{o:HO}(e:Ext u8 aep F H)(h1:F b=ω)(h2:aep b=ω):Ext u8 aep F (upd H b o):=
 ⟨λc u q=>by rw[ay (λz=>by rw[z,h2] at q;cases q)];exact e.hh c u q,e.ff,λc u q=>by rw[ay (λz=>by rw[z,h1] at q;cases q)];exact e.fh c u q,e.new⟩
def StE.fzH{K:Ym}{F H H':Hp}{σ:St}{ρ:bQ}(s:StE K F H σ ρ)(h:pJ ρ=ψ)(e:Same F H'):StE K F H' σ ρ:=
 ⟨e,λi sl q=>by
  obtain⟨v,h1,h2⟩:=s.den i sl q;refine⟨v,h1,?_⟩;cases sl with
  |fz d=>exact h2
  |ow c=>have:=Yu.mp h _ (YB q);cases this⟩
def get_set{α:Type}{l:List (Option α)}{i j:Nat}{x:Option α}{y:α}(h:(l.set i x)[j]? =θ (θ y)):(j=i/\x=θ y)\/(j≠i/\l[j]? =θ (θ y)):=by
 by_cases hj:j=i
 ·subst hj;have hi:j<l.length:=by have:=(Yk.mp h).1;simpa using this
  rw[Yt hi] at h;exact .inl ⟨rfl,YS h⟩
 ·rw[Yn (Y9 hj)] at h;exact .inr ⟨hj,h⟩
def oe{ρ:bQ}(h:pJ ρ=ψ)(i:Nat){x:Option Sl}(hx:∀c,x≠θ (.ow c)):pJ (ρ.set i x)=ψ:=Yu.mpr λy hy=>by
 rcases List.mem_or_eq_of_mem_set hy with q | q
 ·exact Yu.mp h y q
 ·subst q
  match y,hx with
  |none,_=>rfl
  |some (.fz d),_=>rfl
  |some (.ow c),hx=>exact ael rfl (hx c)
structure Nr (K:Ym) (u8 aep G F H:Hp) (σ:St) (ρ:bQ) (ni:Nat) (a:Addr) (bs:List Addr) (ps:rh):Prop where
 ext:Ext u8 aep F H
 gf:Same G F
 st:StE K F H σ ρ
 len:ρ.length=σ.length
 near:σ[ni]? =θ (θ (.ref a))
 ha:H a=θ (.dK ((ps.map (·.1)).zip (bs.map V.ref)))
 hb:∀(i:Nat) (b:Addr) (p:Key×List Key),bs[i]? =θ b->ps[i]? =θ p->H b=θ (.dK (p.2.map λk=>(k,V.bl ψ)))
 sz:bs.length=ps.length
 nd:(a::bs).Nodup
 fr:∀b∈a::bs,F b=ω/\aep b=ω
 fz:pJ ρ=ψ
section
variable{K:Ym}{u8 aep G G' F H F' H':Hp}{σ:St}{ρ:bQ}{ni:Nat}{a:Addr}{bs:List Addr}{ps:rh}
def Nr.at(n:Nr K u8 aep G F H σ ρ ni a bs ps){b:Addr}(hb:b∈a::bs):∃kvs,H b=θ (.dK kvs):=by
 rcases Ye.mp hb with rfl | hb
 ·exact⟨_,n.ha⟩
 ·obtain⟨i,hi,rfl⟩:=ZZ hb;exact⟨_,n.hb i _ (ps[i]'(by rw[<-n.sz];exact hi)) (X7 hi) (X7 _)⟩
def Nr.ext'(n:Nr K u8 aep G F H σ ρ ni a bs ps)(e:Ext F H F' H'):Nr K u8 aep G F' H' σ ρ ni a bs ps:=
 ⟨n.ext.trans e,n.gf.trans e.ff,n.st.ext e,n.len,n.near,e.hh _ _ n.ha,λi b p h1 h2=>e.hh _ _ (n.hb i b p h1 h2),n.sz,n.nd,λb hb=>by
  obtain⟨kvs,hk⟩:=n.at hb;exact⟨by rw[e.old hk λts z=>nomatch z];exact(n.fr b hb).1,(n.fr b hb).2⟩,n.fz⟩
def Nr.rg(n:Nr K u8 aep G F H σ ρ ni a bs ps)(e:Same G' F):Nr K u8 aep G' F H σ ρ ni a bs ps:=⟨n.ext,e,n.st,n.len,n.near,n.ha,n.hb,n.sz,n.nd,n.fr,n.fz⟩
def Nr.put(n:Nr K u8 aep G F H σ ρ ni a bs ps){j:Nat}(hj:j≠ni){d:D}{v:V}(h:Den K F d v):Nr K u8 aep G F H (σ.set j (θ v)) (ρ.set j (θ (.fz d))) ni a bs ps:=
 ⟨n.ext,n.gf,⟨n.st.fh,λi sl q=>by
  rcases get_set q with⟨rfl,e⟩ | ⟨fE,q⟩
  ·cases e;have hi:i<ρ.length:=by have:=(Yk.mp q).1;simpa using this
   exact⟨v,by rw[Yt (by rw[<-n.len];exact hi)],h⟩
  ·obtain⟨u,h1,h2⟩:=n.st.den i sl q;exact⟨u,by rw[Yn (Y9 fE)];exact h1,h2⟩⟩,by simp[n.len],by rw[Yn hj];exact n.near,n.ha,n.hb,n.sz,n.nd,n.fr,oe n.fz _ (λc z=>nomatch z)⟩
def Nr.put0(n:Nr K u8 aep G F H σ ρ ni a bs ps){j:Nat}(hj:j≠ni)(v:V):Nr K u8 aep G F H (σ.set j (θ v)) (ρ.set j ω) ni a bs ps:=
 ⟨n.ext,n.gf,⟨n.st.fh,λi sl q=>by
  rcases get_set q with⟨rfl,e⟩ | ⟨fE,q⟩
  ·cases e
  ·obtain⟨u,h1,h2⟩:=n.st.den i sl q;exact⟨u,by rw[Yn (Y9 fE)];exact h1,h2⟩⟩,by simp[n.len],by rw[Yn hj];exact n.near,n.ha,n.hb,n.sz,n.nd,n.fr,oe n.fz _ (λc z=>nomatch z)⟩
def Nr.fgt0(n:Nr K u8 aep G F H σ ρ ni a bs ps)(j:Nat):Nr K u8 aep G F H σ (ρ.set j ω) ni a bs ps:=
 ⟨n.ext,n.gf,⟨n.st.fh,λi sl q=>by
  rcases get_set q with⟨rfl,e⟩ | ⟨fE,q⟩
  ·cases e
  ·exact n.st.den i sl q⟩,by simp[n.len],n.near,n.ha,n.hb,n.sz,n.nd,n.fr,oe n.fz _ (λc z=>nomatch z)⟩
def xn{α β:Type}{l:List α}{i:Nat}{f:α->β}{y:β}(h:(l.map f)[i]? =θ y):∃x,l[i]? =θ x/\f x=y:=by
 rw[Yl] at h;exact ac_.mp h
def Fy(ks:List Key)(j:Key):putK (ks.map λk=>(k,V.bl ψ)) j (V.bl ψ)=(if uH ks j then ks else ks++[j]).map λk=>(k,V.bl ψ):=by
 unfold putK;have e:((ks.map λk=>(k,V.bl ψ)).any λkv=>decide (kv.1=j))=uH ks j:=by
  rw[abC,List.any_eq_true,mU];constructor
  ·rintro⟨kv,h1,h2⟩;obtain⟨k,hk,rfl⟩:=Yo.mp h1;exact(aei h2:k=j)▸hk
  ·exact λh=>⟨(j,V.bl ψ),Yo.mpr ⟨j,h,rfl⟩,by simp⟩
 rw[e];by_cases hj:uH ks j=ψ
 ·rw[aef hj,aef hj,YD];refine ZE λk _=>?_;show (if k=j then(k,V.bl ψ) else(k,V.bl ψ))=_;split<;>rfl
 ·rw[aeh hj,aeh hj,YC];rfl
def yT(ps:rh)(k j:Key):(rj ps k j).map (·.1)=ps.map (·.1):=by
 unfold rj;rw[YD];refine ZE λp _=>?_;show (if p.1=k then(p.1,_) else p).1=p.1;split<;>rfl
def Nr.add(n:Nr K u8 aep G F H σ ρ ni a bs ps)(kn:(ps.map (·.1)).Nodup){i:Nat}{b:Addr}{p:Key×List Key}(hi:bs[i]? =θ b)(hp:ps[i]? =θ p)(j:Key):
 Nr K u8 aep G F (upd H b (.dK (putK (p.2.map λk=>(k,V.bl ψ)) j (V.bl ψ)))) σ ρ ni a bs (rj ps p.1 j):=by
 have hm:b∈a::bs:=X4 _ (YB hi);have fE:a≠b:=λz=>(YZ.mp n.nd).1 (z▸YB hi);have e:=n.ext.of_chg (o:= .dK (putK (p.2.map λk=>(k,V.bl ψ)) j (V.bl ψ))) (n.fr b hm).1 (n.fr b hm).2;refine⟨e,n.gf,n.st.fzH n.fz e.fh,n.len,n.near,?_,λi' b' p' h1 h2=>?_,by rw[n.sz];simp[rj],n.nd,n.fr,n.fz⟩
 ·rw[ay fE,yT];exact n.ha
 ·obtain⟨q,hq,rfl⟩:=xn (show (ps.map _)[i']? =_ from h2);by_cases SN:i'=i
  ·subst SN;rw[hi] at h1;cases h1;rw[hp] at hq;cases hq;rw[aD,aef rfl,Fy]
  ·have J7:b'≠b:=λz=>by
    subst z;exact SN ((aco (Yk.mp h1).1 (YZ.mp n.nd).2).mp (h1.trans hi.symm))
   have WH:q.1≠p.1:=λz=>by
    exact SN ((aco (by simpa using (Yk.mp hq).1) kn).mp (by rw[Yl,Yl,hq,hp];exact aeo θ z))
   rw[ay J7,aeh WH];exact n.hb i' b' q h1 hq
theorem uf{κ:Type}[DecidableEq κ]:∀{ks:List κ}{vs:List V}(k:κ),ks.length=vs.length->
 (match gu (ks.zip vs) k with | some v=>∃i:Nat,ks[i]? =θ k/\vs[i]? =θ v | none=>k∉ks)
 |[],[],k,_=>by simp[gu]
 |k'::ks,v::vs,k,hl=>by
  rw[ZO];by_cases e:k'=k
  ·rw[kX (p:=(k',v)) e];exact⟨0,by simp[e],rfl⟩
  ·rw[kW (p:=(k',v)) e];have:=uf (ks:=ks) (vs:=vs) k (by simpa using hl);cases q:gu (ks.zip vs) k with
   |none=>rw[q] at this;exact λz=>(Ye.mp z).elim (λz=>e z.symm) this
   |some u=>rw[q] at this;obtain⟨i,h1,h2⟩:=this;exact⟨i+1,by simpa using h1,by simpa using h2⟩
 |[],_::_,_,hl=>by simp at hl
 |_::_,[],_,hl=>by simp at hl
def Ar{κ:Type}[DecidableEq κ]{kvs:List (κ×V)}{k:κ}{v:V}(h:gu kvs k=ω):putK kvs k v=kvs++[(k,v)]:=by
 unfold putK;rw[kU,h];rfl
def Nr.new(n:Nr K u8 aep G F H σ ρ ni a bs ps){p:Addr}(hp:H p=ω){k:Key}(hk:gu ((ps.map (·.1)).zip (bs.map V.ref)) k=ω):
 Nr K u8 aep G F (upd (upd H p (.dK [])) a (.dK (putK ((ps.map (·.1)).zip (bs.map V.ref)) k (.ref p)))) σ ρ ni a (bs++[p]) (ps++[(k,[])]):=by
 have fE:∀b∈a::bs,b≠p:=λb hb z=>by
  obtain⟨kvs,h⟩:=n.at hb;rw[z,hp] at h;cases h
 have ha:=fE a X5;have e0:=n.ext.trans (Ext.free (o:= .dK []) n.st.fh hp);have hF:F p=ω:=Same.free n.st.fh hp;have hH:aep p=ω:=Same.free n.ext.hh hp;have e:=e0.of_chg (o:= .dK (putK ((ps.map (·.1)).zip (bs.map V.ref)) k (.ref p))) (n.fr a X5).1 (n.fr a X5).2;have nd:=YZ.mp n.nd;refine⟨e,n.gf,n.st.fzH n.fz e.fh,n.len,n.near,?_,λi b q h1 h2=>?_,by simp[n.sz],?_,λb hb=>?_,n.fz⟩
 ·rw[aD,Ar hk,YC,YC,abu (by simp[n.sz])];rfl
 ·by_cases hi:i<bs.length
  ·rw[YV hi] at h1;rw[YV (by rw[<-n.sz];exact hi)] at h2;have hm:=YB h1;rw[ay (λz:b=a=>nd.1 (z▸hm)),ay (fE b (X4 _ hm))];exact n.hb i b q h1 h2
  ·have PX:i=bs.length:=by
    have:=(Yk.mp h1).1;simp at this;omega
   subst PX;rw[Z_] at h1;cases h1;rw[n.sz,Z_] at h2;cases h2;rw[ay (Y9 ha),aD];rfl
 ·rw[YZ,YA];refine⟨λz=>z.elim nd.1 λz=>ha (Yi.mp z),?_⟩;rw[YN];exact⟨nd.2,by simp,λx hx y hy z=>fE x (X4 _ hx) (by rw[z];exact Yi.mp hy)⟩
 ·rcases Ye.mp hb with rfl | hb
  ·exact n.fr _ X5
  ·rcases YA.mp hb with hb | hb
   ·exact n.fr b (X4 _ hb)
   ·cases Yi.mp hb;exact⟨hF,hH⟩
def Nr.gar(n:Nr K u8 aep G F H σ ρ ni a bs ps){p:Addr}(hp:H p=ω):Nr K u8 aep G F (upd H p (.dK [])) σ ρ ni a bs ps:=n.ext' (Ext.free n.st.fh hp)
end
theorem v9{X:Cx}{f8:List (Addr×Obj)}{σ:St}{s:Yc}:∀{bs:List Addr}{H:Hp},Inv X f8 σ H s->bs.Nodup->(∀b∈bs,∃kvs,H b=θ (.dK kvs))->
 ∃H',Inv X f8 σ H' s/\(∀b∈bs,∀kvs,H b=θ (.dK kvs)->∃ob,H' b=θ (.frz ob (.dK kvs)))/\∀c,c∉bs->H' c=H c
 |[],H,I,_,_=>⟨H,I,λb hb=>(nomatch hb),λ_ _=>rfl⟩
 |b::bs,H,I,nd,h=>by
  obtain⟨kvs,e⟩:=h b X5;have nd:=YZ.mp nd;obtain⟨H',I',h1,h2⟩:=v9 (bs:=bs) (L3.Inv.refrz I e (o':= .frz _ (.dK kvs)) (.inr ⟨_,rfl, .inr ⟨_,rfl,rfl⟩⟩)) nd.2 λc hc=>by
   rw[ay (λz:c=b=>nd.1 (z▸hc))];exact h c (X4 _ hc)
  refine⟨H',I',λc hc Qr e'=>?_,λc hc=>?_⟩
  ·rcases Ye.mp hc with rfl | hc
   ·rw[e] at e';cases e';exact⟨_,by rw[h2 _ nd.1,aD]⟩
   ·exact h1 c hc Qr (by rw[ay (λz:c=b=>nd.1 (z▸hc))];exact e')
  ·rw[h2 c λz=>hc (X4 _ z),ay λz:c=b=>hc (z▸X5)]
def Jn(ks:List Key):ks.map (λk=>(k,V.bl ψ))=ks.zip (ks.map λ_=>V.bl ψ):=by
 induction ks with
 |nil=>rfl
 |cons k ks ih=>rw[X9,X9,ZO,ih]
theorem DenL.trues{K:Ym}{F:Hp}:∀(ks:List Key),DenL K F (ks.map λ_=>D.bl ψ) (ks.map λ_=>V.bl ψ)
 |[]=>rfl
 |_::ks=> .cons rfl (DenL.trues ks)
theorem DenL.ins{K:Ym}{F:Hp}:∀{ps:rh}{bs:List Addr},bs.length=ps.length->(∀(i:Nat) (b:Addr) (p:Key×List Key),bs[i]? =θ b->ps[i]? =θ p->Den K F (inD p.2) (.ref b))->DenL K F (ps.map λp=>inD p.2) (bs.map V.ref)
 |[],[],_,_=>rfl
 |p::ps,b::bs,hl,h=> .cons (h 0 b p rfl rfl) (DenL.ins (by simpa using hl) λi b' p' h1 h2=>h (i+1) b' p' (by simpa using h1) (by simpa using h2))
 |[],_::_,hl,_=>by simp at hl
 |_::_,[],hl,_=>by simp at hl
def Nr.fin{X:Cx}{f8:List (Addr×Obj)}{s:Yc}{u8 aep G F H:Hp}{σ:St}{ρ:bQ}{ni:Nat}{a:Addr}{bs:List Addr}{ps:rh}(n:Nr X.K u8 aep G F H σ ρ ni a bs ps)(I:Inv X f8 σ H s)(ok:yQ ps=ψ):
 ∃F' H',Inv X f8 σ H' s/\StOk X.K u8 aep F' H' σ (ρ.set ni (θ (.fz (gm ps)))):=by
 obtain⟨Vq,Xv⟩:=ZQ.mp ok;have Vq:=aei Vq;obtain⟨H',I',h1,h2⟩:=v9 I n.nd λb hb=>n.at hb
 let F':Hp:=λc=>if c∈a::bs then H' c else F c
 have f1:∀c,c∈a::bs->F' c=H' c:=λc hc=>aef hc;have f2:∀c,c∉a::bs->F' c=F c:=λc hc=>aeh hc;have ff:Same F F':=λc u q=>by rw[f2 c λz=>by rw[(n.fr c z).1] at q;cases q];exact q
 have fh:Same F' H':=λc u q=>by
  by_cases z:c∈a::bs
  ·rw[f1 c z] at q;exact q
  ·rw[f2 c z] at q;rw[h2 c z];exact n.st.fh c u q
 have e:Ext u8 aep F' H':=⟨λc u q=>by rw[h2 c λz=>by rw[(n.fr c z).2] at q;cases q];exact n.ext.hh c u q,n.ext.ff.trans ff,fh,λc hc=>by
  have z:c∉a::bs:=λz=>hc (n.fr c z).2;rw[f2 c z];exact n.ext.new c hc⟩
 have hd:Den X.K F' (gm ps) (.ref a):=by
  obtain⟨ob,M5⟩:=h1 a X5 _ n.ha;refine⟨a,ob,bs.map V.ref,rfl,by rw[f1 a X5];exact M5,DenL.ins n.sz λi b p q1 q2=>?_,by simp,by simp;omega⟩;have hm:b∈a::bs:=X4 _ (YB q1);obtain⟨Xs,S2⟩:=h1 b hm _ (n.hb i b p q1 q2);have:=aei (Yu.mp Xv p (YB q2));exact⟨b,Xs,p.2.map λ_=>V.bl ψ,rfl,by rw[f1 b hm,S2,Jn],DenL.trues _,by simp,by simp;omega⟩
 have QC:∀(i:Nat) (c:C),(ρ.set ni (θ (.fz (gm ps))))[i]? ≠θ (θ (.ow c)):=λi c q=>by
  rcases get_set q with⟨_,z⟩ | ⟨_,q⟩
  ·cases z
  ·have:=Yu.mp n.fz _ (YB q);cases this
 refine⟨F',H',I',e,⟨fh,λi sl q=>?_⟩,by simp[n.len],λi c b q=>ael q (QC i c),λi j c c' b q=>ael q (QC i c)⟩;rcases get_set q with⟨rfl,z⟩ | ⟨_,q⟩
 ·cases z;exact⟨.ref a,n.near,hd⟩
 ·obtain⟨v,q1,q2⟩:=n.st.den i sl q;refine⟨v,q1,?_⟩;cases sl with
  |fz d=>exact Den.mono ff q2
  |ow c=>have:=Yu.mp n.fz _ (YB q);cases this
def Cq{ps:rh}{k:Key}(h:k∈ps.map (·.1)):yn ps k=ps:=by
 unfold yn;rw[aef (mU.mpr h)]
def IZ{ps:rh}{k:Key}(h:k∉ps.map (·.1)):yn ps k=ps++[(k,[])]:=by
 unfold yn;rw[aeh (λz=>h (mU.mp z))]
def IX{ρ:bQ}{j:Nat}(h:∀sl,ρ[j]? ≠θ (θ sl)):ρ.set j ω=ρ:=by
 refine acp λi=>?_;by_cases hi:i=j
 ·subst hi;by_cases hl:i<ρ.length
  ·rw[Yt hl];cases q:ρ[i]? with
   |none=>rw[aaU] at q;omega
   |some x=>
    cases x with
    |none=>rfl
    |some sl=>exact ael q (h sl)
  ·rw[aaU.mpr (by simp;omega),aaU.mpr (by omega)]
 ·rw[Yn (Y9 hi)]
def CW{α:Type}{l:List α}{i:Nat}{d:α}(hd:l[i]? =θ d):l.drop i=d::l.drop (i+1):=by
 obtain⟨hi,e⟩:=Yk.mp hd;rw[aaV hi,e]
def NC{ps:rh}{i:Nat}{p:Key×List Key}(ok:yQ ps=ψ)(h:ps[i]? =θ p):p.2.length<lim:=aei (Yu.mp (ZQ.mp ok).2 p (YB h))
def KD{ps:rh}(ok:yQ ps=ψ):ps.length<lim:=aei (ZQ.mp ok).1
section
variable{X:Cx}{Xw:Nat->Hp->Prop}{D':Ends}{tc:DT}{δk δk2:DE}{δj:DA}{u8 aep G:Hp}{ρ:bQ}{ni ci mi oi:Nat}{a b:Addr}{bs:List Addr}{DY ps:rh}{J:It}{es ds:List D}{σ:St}{F H:Hp}
abbrev Rg(X:Cx)(Xw:Nat->Hp->Prop)(tc:DT)(mi:Nat)(δk:DE):TS:=Rc (RU X.K Xw tc) (Ml (mG mi) (tD X.K Xw δk) (tC (.bl ψ))) Mn
def DJ{i:Nat}{k:Key}(fF:oi≠ni)(RI:oi≠mi)(Xh:ρ.set oi ω=ρ)(hi:bs[i]? =θ b)(it:ItD X.K G J es)
 (fin:∀σ F H,Nr X.K u8 aep G F H σ ρ ni a bs DY->(DY.map (·.1)).Nodup->D'.nx σ H)
 (n:Nr X.K u8 aep G F H σ ρ ni a bs ps)(kn:(ps.map (·.1)).Nodup)(hm:σ[mi]? =θ (θ (.ref b)))(hk:∃p,ps[i]? =θ p/\p.1=k)(w:mj oi tc δk k ρ es ps=aa DY):
 ∃W:Nat->Nat->St->Hp->Prop,(∃m,W 0 m σ H)/\∀i m σ H,W i m σ H->(J.stop i H/\D'.nx σ H)\/(J.go i H/\∃N:St->Hp->Prop,(∀σ' H',N σ' H'->∃m',m'<m/\W (i+1) m' σ' H')/\∀x H',J.yld i H x H'->lM oi x σ H' λσ2 H2=>Rg X Xw tc mi δk {D' with nx:=N,ct:=N,bk:=D'.nx} σ2 H2):=by
 refine⟨λt m σ H=>m=es.length - t/\t<=es.length/\∃F ps,Nr X.K u8 aep G F H σ ρ ni a bs ps/\(ps.map (·.1)).Nodup/\σ[mi]? =θ (θ (.ref b))/\(∃p,ps[i]? =θ p/\p.1=k)/\mj oi tc δk k ρ (es.drop t) ps=aa DY,⟨es.length,by simp,YH _,F,ps,n,kn,hm,hk,by simpa using w⟩,?_⟩;rintro t m σ2 H2 ⟨rfl,WV,F2,FY,n2,Nq,GY,RE,w2⟩;by_cases il:t<es.length
 ·obtain⟨d,hd⟩:∃d,es[t]? =θ d:=⟨_,X7 il⟩
  obtain⟨MU,BK⟩:=(it F2 H2 t n2.gf n2.st.fh).1 d hd;rw[CW hd] at w2;unfold mj at w2;obtain⟨bv,hb,w3⟩:=eC w2;have hb:=qZ hb;refine .inr ⟨MU,λσ' H'=>∃F' jS,Nr X.K u8 aep G F' H' σ' ρ ni a bs jS/\(jS.map (·.1)).Nodup/\σ'[mi]? =θ (θ (.ref b))/\(∃p,jS[i]? =θ p/\p.1=k)/\mj oi tc δk k ρ (es.drop (t+1)) jS=aa DY,
   λσ' H' ⟨F',jS,h⟩=>⟨es.length - (t+1),by omega,rfl,il,F',jS,h⟩,λx H3 y3=>?_⟩
  obtain⟨F3,C1,q3⟩:=BK x H3 y3;have n4:=(n2.ext' C1).put fF q3;have S0:(σ2.set oi (θ x))[mi]? =θ (θ (.ref b)):=by rw[Yn RI];exact GY
  have back:∀{σ':St}{F' H':Hp}{jS:rh},Nr X.K u8 aep G F' H' σ' (ρ.set oi (θ (.fz d))) ni a bs jS->Nr X.K u8 aep G F' H' σ' ρ ni a bs jS:=λ{σ' F' H' jS} n=>by
   have:=n.fgt0 oi;rw[List.set_set,Xh] at this;exact this
  refine⟨F3,ρ.set oi (θ (.fz d)),n4.st,?_⟩;rw[hb];intro H5 F5 e5;have n5:=n4.ext' e5;cases bv with
  |false=>exact⟨F5,FY,back n5,Nq,S0,RE,w3⟩
  |true=>
   obtain⟨kd,Jv,w4⟩:=eC (show (noex (δk (ρ.set oi (θ (.fz d))))>>=_)=aa DY from w3);have Jv:=qZ Jv;refine⟨.ref b,S0,F5,ρ.set oi (θ (.fz d)),n5.st,?_⟩;rw[Jv];intro v H6 F6 e6 q6;cases hj:me kd with
   |none=>rw[hj] at w4;exact(fw w4).elim
   |some j=>
    rw[hj] at w4;have w4:(if yQ FY then mj oi tc δk k ρ (es.drop (t+1)) (rj FY k j) else af)=aa DY:=w4;split at w4
    ·rename_i ok;obtain⟨p,hp,rfl⟩:=RE;have n6:=n5.ext' e6;have e1:=i2 hj q6;subst e1;have hl:=NC ok hp;have:=dH;refine⟨b,_,rfl,DPut.k (n6.hb i b p hi hp) (by rw[X3];omega),F6,rj FY p.1 j,back (n6.add Nq hi hp j),by rw[yT];exact Nq,S0,?_,w4⟩;refine⟨(if p.1=p.1 then(p.1,if uH p.2 j then p.2 else p.2++[j]) else p),?_,by rw[aef rfl]⟩;unfold rj;rw[Yl,hp];rfl
    ·exact(fw w4).elim
 ·have ht:t=es.length:=by omega
  subst ht;rw[abh] at w2;have:=fi (show aa FY=aa DY from w2);subst this;exact .inl ⟨(it F2 H2 es.length n2.gf n2.st.fh).2 (X_ _),fin σ2 F2 H2 n2 Nq⟩
abbrev T4(X:Cx)(Xw:Nat->Hp->Prop)(tc:DT)(ni mi oi:Nat)(δk:DE)(δj:DA)(δk2:DE):TS:=Rk (Q8 (Mm (mG ni) (tD X.K Xw δk) Jh) (lM mi)) (Ra (Vy X.K Xw δj) (lM oi) (Rg X Xw tc mi δk2))
def HB(V4:ci≠ni)(U2:mi≠ni)(fF:oi≠ni)(V3:ci≠mi)(UP:ci≠oi)(RI:oi≠mi)(ρc:ρ.set ci ω=ρ)(ρm:ρ.set mi ω=ρ)(ρo:ρ.set oi ω=ρ)(MY:mi<ρ.length)(it:ItD X.K G J ds)
 (fin:∀σ F H bs,Nr X.K u8 aep G F H σ ρ ni a bs DY->D'.nx σ H)
 (n:Nr X.K u8 aep G F H σ ρ ni a bs ps)(kn:(ps.map (·.1)).Nodup)(w:g_ ci oi δk δj tc δk2 ρ ds ps=aa DY):
 ∃W:Nat->Nat->St->Hp->Prop,(∃m,W 0 m σ H)/\∀i m σ H,W i m σ H->(J.stop i H/\D'.nx σ H)\/(J.go i H/\∃N:St->Hp->Prop,(∀σ' H',N σ' H'->∃m',m'<m/\W (i+1) m' σ' H')/\∀x H',J.yld i H x H'->lM ci x σ H' λσ2 H2=>T4 X Xw tc ni mi oi δk δj δk2 {D' with nx:=N,ct:=N,bk:=D'.nx} σ2 H2):=by
 refine⟨λt m σ H=>m=ds.length - t/\t<=ds.length/\∃F ps bs,Nr X.K u8 aep G F H σ ρ ni a bs ps/\(ps.map (·.1)).Nodup/\g_ ci oi δk δj tc δk2 ρ (ds.drop t) ps=aa DY,⟨ds.length,by simp,YH _,F,ps,bs,n,kn,by simpa using w⟩,?_⟩;rintro t m σ2 H2 ⟨rfl,WV,F2,FY,O5,n2,Nq,w2⟩;by_cases il:t<ds.length
 ·obtain⟨d,hd⟩:∃d,ds[t]? =θ d:=⟨_,X7 il⟩
  obtain⟨MU,BK⟩:=(it F2 H2 t n2.gf n2.st.fh).1 d hd;rw[CW hd] at w2;unfold g_ at w2;obtain⟨kd,Jv,w3⟩:=eC w2;have Jv:=qZ Jv;cases hj:me kd with
  |none=>rw[hj] at w3;exact(fw w3).elim
  |some k=>
  rw[hj] at w3;have w3:(if yQ FY then noex (δj (ρ.set ci (θ (.fz d))))>>=λes=>mj oi tc δk2 k (ρ.set ci (θ (.fz d))) es (yn FY k)>>=λjS=>g_ ci oi δk δj tc δk2 ρ (ds.drop (t+1)) jS else af)=aa DY:=w3;by_cases ok:yQ FY=ψ
  ·rw[aef ok] at w3;obtain⟨es,EM,w4⟩:=eC w3;have EM:=qZ EM;obtain⟨Vs,h3,w5⟩:=eC w4;refine .inr ⟨MU,λσ' H'=>∃F' jS MB,Nr X.K u8 aep G F' H' σ' ρ ni a MB jS/\(jS.map (·.1)).Nodup/\g_ ci oi δk δj tc δk2 ρ (ds.drop (t+1)) jS=aa DY,
    λσ' H' ⟨F',jS,MB,h⟩=>⟨ds.length - (t+1),by omega,rfl,il,F',jS,MB,h⟩,λx H3 y3=>?_⟩
   obtain⟨F3,C1,q3⟩:=BK x H3 y3;have n4:=(n2.ext' C1).put V4 q3;generalize Qf:ρ.set ci (θ (.fz d))=ρ1 at*;have ρ1m:ρ1.set mi ω=ρ1:=by rw[<-Qf,List.set_comm _ _ V3,ρm]
   have ρ1o:ρ1.set oi ω=ρ1:=by rw[<-Qf,List.set_comm _ _ UP,ρo]
   have back:∀{σ':St}{G' F' H':Hp}{MB:List Addr}{jS:rh},Nr X.K u8 aep G' F' H' σ' ρ1 ni a MB jS->Nr X.K u8 aep G' F' H' σ' ρ ni a MB jS:=λ{σ' G' F' H' MB jS} n=>by
    have:=n.fgt0 ci;rw[<-Qf,List.set_set,ρc] at this;exact this
   refine⟨.ref a,n4.near,a,rfl, .inl ⟨_, .inl n4.ha⟩,F3,ρ1,n4.st,?_⟩;rw[Jv];intro v H5 F5 e5 q5;have e1:=i2 hj q5;subst e1;have n5:=n4.ext' e5;intro p hp;have hsz:=KD ok;have GX:=dH;refine⟨_,k,(n5.gar hp).ha,rfl,by rw[abw,X3,X3,n5.sz,adH];omega,λv hv=>?_,λhn=>?_⟩
   ·have hz:=uf (ks:=FY.map (·.1)) (vs:=O5.map V.ref) k (by simp[n5.sz]);rw[hv] at hz;obtain⟨i,z1,z2⟩:=hz;obtain⟨pr,WE,WD⟩:=xn z1;obtain⟨b,hb,rfl⟩:=xn z2;rw[Cq (YB z1)] at h3;have n7:=(n5.gar hp).put0 U2 (.ref b);rw[ρ1m] at n7;refine⟨F5,ρ1,n7.st,?_⟩;rw[EM];intro J' H8 F8 e8 Tr;have n8:=(n7.ext' e8).rg (Same.refl _);have hG:Same G F8:=(n7.ext' e8).gf;exact DJ fF RI ρ1o hb Tr (λσ' F' H' n' Tt=>⟨F',Vs,O5,back (n'.rg (hG.trans n'.gf)),Tt,w5⟩) n8 Nq (Yt (by rw[<-n4.len,<-Qf];simpa using MY)) ⟨pr,WE,WD⟩ h3
   ·have hz:=uf (ks:=FY.map (·.1)) (vs:=O5.map V.ref) k (by simp[n5.sz]);rw[hn] at hz;rw[IZ hz] at h3;have n7:=(n5.new hp hn).put0 U2 (.ref p);rw[ρ1m] at n7;refine⟨F5,ρ1,n7.st,?_⟩;rw[EM];intro J' H8 F8 e8 Tr;have n8:=(n7.ext' e8).rg (Same.refl _);have hG:Same G F8:=(n7.ext' e8).gf;refine DJ (i:=O5.length) fF RI ρ1o Z_ Tr (λσ' F' H' n' Tt=>⟨F',Vs,_,back (n'.rg (hG.trans n'.gf)),Tt,w5⟩) n8 ?_ (Yt (by rw[<-n4.len,<-Qf];simpa using MY)) ⟨(k,[]),by rw[n5.sz];exact Z_,rfl⟩ h3;rw[YC,YN];exact⟨Nq,by simp,λx hx y hy z=>hz (by rw[z] at hx;cases Yi.mp hy;exact hx)⟩
  ·rw[aeh ok] at w3;exact(fw w3).elim
 ·have ht:t=ds.length:=by omega
  subst ht;rw[abh] at w2;have:=fi (show aa FY=aa DY from w2);subst this;exact .inl ⟨(it F2 H2 ds.length n2.gf n2.st.fh).2 (X_ _),fin σ2 F2 H2 O5 n2⟩
def Iy{δi:DA}{T8 T9 iter Hd k1 k2 test:Expr}{x y:Str}{p q q2 T0 GC bJ p1 p2 p3 p4 p5 p6 p7:Pos}{j0:Nat}(hp:adq (model X.prog X.w) X.A X.env X.xe)(hc:X.calm=ψ)(hu:X.A.units+64<cLine)
 (hi:Ba X Xw T8 iter δi)(Wc:PG X T8 (lM ci))(hv:PE X (.Name x p) (mG ni))(hk:PD X Xw k1 δk)(m:M2 X (.Name x p) "setdefault" T0 k1 (.Dict [] [] GC) bJ)(Wg:PG X (.Name y q) (lM mi))
 (hj:Ba X Xw T9 Hd δj)(SM:PG X T9 (lM oi))(ht:n0 X Xw test tc)(W2:PE X (.Name y q2) (mG mi))(RE:PD X Xw k2 δk2)
 (MY:X.N[mi]? =θ y:=by rfl)
 (fE:[ni,ci,mi,oi].Nodup:=by decide)
 (hs:∀x,aag iter X.env x=pure x:=by intro _;rfl)(OP:∀x,aag Hd X.env x=pure x:=by intro _;rfl)
 (W4:acA [.Name y q] (.Call (.Attribute (.Name x p) "setdefault" T0) [k1, .Dict [] [] GC] [] bJ) p1.line X.env=pure μ:=by rfl)
 (W5:swappedStores [.Name y q] (.Call (.Attribute (.Name x p) "setdefault" T0) [k1, .Dict [] [] GC] [] bJ) X.env=pure ω:=by rfl)
 (W6:(abp [.Name y q] X.env).map (·.2)=[assign (.Name y q) X.env]:=by rfl)
 (W7:aaY (.Constant (.bool ψ) j0 p3) (θ (.Subscript (.Name y q2) k2 p2)) p4.line X.env=pure μ:=by rfl):
 iQ X Xw (.For T8 iter [.Assign [.Name y q] (.Call (.Attribute (.Name x p) "setdefault" T0) [k1, .Dict [] [] GC] [] bJ) p1,
  .For T9 Hd [.If test [.Assign [.Subscript (.Name y q2) k2 p2] (.Constant (.bool ψ) j0 p3) p4] [] p5] [] p6] [] p7) (AA ni ci mi oi δi δk δj tc δk2):=λu8 aep f8 sh σ H D I ⟨F,ρ,s,w⟩=>by
 have WG:=Cg (pos:=p7) hp hc hi Wc (Ao (o8 (pos:=p1) (K5 hv hk (Al (pos:=GC)) m) Wg W4 W5 W6) (rb (Cg (pos:=p6) hp hc hj SM (rb (Mi (pos:=p5) ht (rb (DZ (by omega) W2 RE (Mg (b:=ψ) (j:=j0) (pos:=p3)) W7)) D3)) OP))) hs;have P5:=fE;simp only[YZ,Ye,List.not_mem_nil,or_false,not_or] at P5;obtain⟨⟨n1,n2,n3⟩,⟨n4,n5⟩,n6,_⟩:=P5;unfold AA at w;split at w
 ·rename_i ho;have M6:=oX ho;obtain⟨u,UK,a,o,rfl,VX,VY,vs,rfl,W3,_,_⟩:=s.st.den ni _ M6;cases (show vs=[] from W3);have h0:=s.own ni _ a M6 UK;have s0:=s.fgt [ni,ci,mi,oi];have v6:(fgt [ni,ci,mi,oi] ρ).length=ρ.length:=by simp[fgt]
  have gn:∀j∈[ni,ci,mi,oi],(fgt [ni,ci,mi,oi] ρ).set j ω=fgt [ni,ci,mi,oi] ρ:=λj hj=>IX λsl q=>by
   have hj:j=ni\/j=ci\/j=mi\/j=oi:=by simpa using hj
   rcases get_set q with⟨_,z⟩ | ⟨h4,q⟩
   ·cases z
   rcases get_set q with⟨_,z⟩ | ⟨h3,q⟩
   ·cases z
   rcases get_set q with⟨_,z⟩ | ⟨h2,q⟩
   ·cases z
   rcases get_set q with⟨_,z⟩ | ⟨h1,q⟩
   ·cases z
   rcases hj with z | z | z | z
   ·exact h1 z
   ·exact h2 z
   ·exact h3 z
   ·exact h4 z
  generalize fgt [ni,ci,mi,oi] ρ=ρ0 at*;split at w
  ·rename_i Wb;rcases g9 (δi ρ0) with q | ⟨ds,q,q'⟩
   ·rw[q] at w;exact w.elim
   rw[q'] at w;have w:WPS X.K Xw u8 aep (noex (g_ ci oi δk δj tc δk2 ρ0 ds [])>>=λps=>if yQ ps then aa (.nx (ρ0.set ni (θ (.fz (gm ps))))) else af) D:=w;rcases g9 (g_ ci oi δk δj tc δk2 ρ0 ds []) with q2 | ⟨ps,q2,Xy⟩
   ·rw[q2] at w;exact w.elim
   rw[Xy] at w;have w:WPS X.K Xw u8 aep (if yQ ps then aa (.nx (ρ0.set ni (θ (.fz (gm ps))))) else af) D:=w;by_cases ok:yQ ps=ψ
   ·rw[aef ok] at w;have Xp:Nr X.K u8 aep F F H σ ρ0 ni a [] []:=⟨s0.ext,Same.refl _,s0.st,s0.len,UK,VX,λi b p z=>by simp at z,rfl,by simp,λb hb=>by
     cases Yi.mp hb;exact⟨VY,h0⟩,Wb⟩
    have hD:=WG f8 sh σ H {D with nx:=λσ H=>∃F bs G,Nr X.K u8 aep G F H σ ρ0 ni a bs ps} I ⟨F,ρ0,s0.st,by
     rw[q];intro J H1 F1 e1 it;have Xo:=(Xp.ext' e1).rg (Same.refl _);exact HB (Y9 n1) (Y9 n2) (Y9 n3) n4 n5 (Y9 n6) (gn ci (by simp)) (gn mi (by simp)) (gn oi (by simp)) (by rw[v6,s.len,I.len];exact(Yk.mp MY).1) it (λσ F H bs n=>⟨F,bs,F1,n⟩) Xo (by simp) q2⟩
    refine cJ hD λf s' hq=>?_;cases f with
    |next=>
     obtain⟨σ',H',I',F',bs,G,n⟩:=hq;obtain⟨F2,H2,I2,so⟩:=n.fin I' ok;exact⟨σ',H2,I2,w σ' F2 H2 so⟩
    |brk=>exact hq
    |cont=>exact hq
    |ret u=>exact hq
   ·rw[aeh ok] at w;exact w.elim
  ·exact w.elim
 ·exact w.elim
end
end L3
namespace L3
open PySem
open AutoSeq1 (wpAny_loadPart')
section
variable{prog:YM}{w:World}{A:Y7}{E:Value->Yc->Prop}{s:Yc}
def uC{Q:List Value->Yc->Prop}{r:Addr}{a b c:Int}{t u v:Tok}{n:Nat}(hh:A.handled=ω)(hr:IsRange s.heap r a b c t u v)(r9:aa9 a b c=ψ)(hn:Zw a b c=n)(v6:n<=2 ^ 24)
 (hQ:∀h' tk cV,(∀b o',s.heap.get? b=θ o'->h'.get? b=θ o')->ItemsOf (λi v=>∃t,v= .int (a+i*c) t) cV n->Q cV.toList {s with heap:=h',toks:=tk}):
 wpAny (model prog w) A (collect (.ref r)) Q E s:=by
 unfold collect;refine X6 (wpAny_runValue (codeAny_builtin F.entry_proto_collect ?_));rw[adw F.plain_proto_collect _];show wpAny _ A.in1 (newList []>>=λl=>again (.builtin "list.__iadd__" ⟨[l, .ref r],[]⟩)) _ _ s;refine X6 (Zo ?_);refine Yb ⟨plainId_quiet F.plain_list_iadd _,codeAny_builtin F.entry_list_iadd ?_⟩;rw[adw F.plain_list_iadd _];show wpAny _ A.in1 (Builtin.List.listExtendWith (.ref s.heap.objs.size) (.ref r) (.ref s.heap.objs.size)) _ _ _;have hS:(s.heap.push {cls:= .type "list",data:= .seq ([]:List Value).toArray}).get? s.heap.objs.size=θ {cls:= .type "list",data:= .seq #[] 0}:=Yy _ rfl;have Pn:∀(h':Heap) (tk:Nat) (cV:Array Value) (c':Nat),(∀b o,s.heap.get? b=θ o->h'.get? b=θ o)->h'.get? s.heap.objs.size=θ {cls:= .type "list",dict:=ω,data:= .seq cV c',slots:= #[]}->ItemsOf (λi v=>∃t,v= .int (a+i*c) t) cV n->
  wpAny (model prog w) A (match YY s.heap.objs.size with
  |YY a=>do
   match (<-load a).data with
    |Data.seq xs _=>pure xs.toList
    |_=>unsupported "internal:collect"
  |_=>unsupported "internal:collect") Q E {s with heap:=h',toks:=tk}:=λh' tk cV c' hk hg g6=>by
  show wpAny _ A (load s.heap.objs.size>>=_) _ _ _;refine X6 (wpAny_load hg ?_);exact Yb (hQ h' tk cV hk g6)
 refine Zj (wpAny_extend_range (A:=A) (s:={s with heap:=s.heap.push {cls:= .type "list",data:= .seq ([]:List Value).toArray} }) (R:=λq s'=>q= .ok (.ret (.ref s.heap.objs.size))/\∃h' tk cV c',s'={s with heap:=h',toks:=tk}/\(∀b o,s.heap.get? b=θ o->h'.get? b=θ o)/\h'.get? s.heap.objs.size=θ {cls:= .type "list",dict:=ω,data:= .seq cV c',slots:= #[]}/\ItemsOf (λi v=>∃t,v= .int (a+i*c) t) cV n)
  hh (X8 _ hr) r9 hn v6 _ _ 0 hS λh' tk cV c' hk hg g6=>⟨rfl,h',tk,cV,c',rfl,λb o e=>hk b o (YF (Ys e)) (X8 _ e),hg,g6⟩) (λfin s' h=>?_) (λe s' h=>?_)
 ·cases fin with
  |done f=>
   obtain⟨e,h',tk,cV,c',rfl,k1,k2,k3⟩:=h;cases e;exact Pn h' tk cV c' k1 k2 k3
  |again c'=>exact⟨h.1,acZ h.2 λq RS hq=>by
    obtain⟨rfl,h',tk,cV,c',rfl,k1,k2,k3⟩:=hq;exact Pn h' tk cV c' k1 k2 k3⟩
 ·exact ael h.1 (by simp)
def qQ(r:Addr){a b c:Int}{t u v:Tok}{n:Nat}(r9:aa9 a b c=ψ)(hn:Zw a b c=n)(v6:n<=2 ^ 24)(hz:n<=Yv):
 MeetsIn prog w (ab8.«tuple.__new__» ⟨[.type "tuple", .ref r],[]⟩)
  (λA R s=>A.handled=ω/\IsRange s.heap r a b c t u v/\∀(h':Heap) (tk:Nat) (cV:Array Value),(∀b o',s.heap.get? b=θ o'->h'.get? b=θ o')->ItemsOf (λi v=>∃t,v= .int (a+i*c) t) cV n->R (.ok (.ret (.ref h'.objs.size))) {s with heap:=h'.push {cls:= .type "tuple",data:= .seq cV},toks:=tk}):=
 .of_wp λA R s h=>by
  obtain⟨hp,g,d,tk,os⟩:=s;obtain⟨hh,ht,h⟩:=h;have BJ:=sub_tuple_self;have UX:=init_tuple_lookup;have XW:=madeHere_tuple;have hT:Shared.TypeIs ⟨hp,g,d,tk,os⟩ (.ref r) "range":=⟨_,ht,rfl⟩
  have Wj:A.in1.handled=ω:=by simp[hh]
  wp_walk using wpAny_loadPart' ht,abX hT,uC Wj ht r9 hn v6
  intro h' XJ cV hk g6;show wpAny _ _ (Zr cV.toList.toArray>>=λv=>ret v) _ _ _;unfold Zr;refine X6 (Zo ?_ (by show cV.toList.toArray.size<=Yv;have:=g6.1;simp;omega));refine Yb ⟨_,rfl,?_⟩;have e:cV.toList.toArray=cV:=by simp
  rw[e];exact h h' XJ cV hk g6
def ou{r:Addr}{a b c:Int}{t u v:Tok}{n:Nat}{Q:Value->Yc->Prop}(hh:A.handled=ω)(hr:IsRange s.heap r a b c t u v)(r9:aa9 a b c=ψ)(hn:Zw a b c=n)(v6:n<=2 ^ 24)(hz:n<=Yv)
 (h:∀(h':Heap) (tk:Nat) (cV:Array Value),(∀b o',s.heap.get? b=θ o'->h'.get? b=θ o')->ItemsOf (λi v=>∃t,v= .int (a+i*c) t) cV n->Q (.ref h'.objs.size) {s with heap:=h'.push {cls:= .type "tuple",data:= .seq cV},toks:=tk}):
 wpAny (model prog w) A (call (.type "tuple") [.ref r]) Q E s:=
 callType_newIn F.called_tuple (by decide) (F.typeCall_tuple_1 _) (F.newCall_tuple_1 _) (λobj=>F.args_object_init_2 obj _) F.entry_tuple_new (qQ r r9 hn v6 hz) ⟨by simp[hh],hr,λh' tk cV hk g6=>⟨⟨_,Yy _ rfl,rfl⟩,h h' tk cV hk g6⟩⟩
end
open PySem.Spec L2 SeqAt HT
open PyProof.Rows hiding St
section
variable{X:Cx}{Xw:Nat->Hp->Prop}{e:Expr}{δ:DE}{pos Am p p2:Pos}
def wB:D->M D
 | .int n=>if 0<=n/\n<=4096 then aa (.tup ((Yr n.toNat).map λ(i:Nat)=>D.int (i:Int))) else af
 |_=>af
def Fq(hc:X.calm=ψ)(hg:Gl X "tuple")(hm:X.mg "tuple"=ω)(SM:Gl X "range")(GY:X.mg "range"=ω)(hb:YW "tuple"=θ (.type "tuple"))(PF:YW "range"=θ (.type "range"))(ha:PD X Xw e δ)
 (US:Yw [e] X.env=[(μ,eval e X.env)]:=by rfl)(he:Yw [.Call (.Name "range" p2) [e] [] Am] X.env=[(μ,eval (.Call (.Name "range" p2) [e] [] Am) X.env)]:=by rfl):
 PD X Xw (.Call (.Name "tuple" p) [.Call (.Name "range" p2) [e] [] Am] [] pos) (d1 wB δ):=λf8 s σ H Q I ⟨F,ρ,S,w⟩=>by
 have w:WP X.K Xw F H (δ ρ>>=wB) Q:=w;refine aaB (j8 I hg hm hb ?_ (by decide) (by decide));refine Zl ?_ he rfl;rw[he];refine Z6 (aaB (j8 I SM GY PF ?_ (by decide) (by decide)));refine Zl ?_ US rfl;rw[US];refine Z6 (cJ (ha f8 s σ H _ I ⟨F,ρ,S,WP.bind w⟩) λu s1 ⟨v,H1,I1,r,F1,d,e1,q1,w1⟩=>aax ?_);unfold wB at w1;split at w1
 ·rename_i n;split at w1
  ·rename_i hn;cases (show v=_ from q1);obtain⟨t,rfl⟩:=r;refine call_range_1 (aax ?_);have hsz:Zw 0 n 1=(n.toNat:Int):=by
    unfold Zw;rw[aef (by decide)];split
    ·rw[Int.ediv_one];omega
    ·omega
   have GX:=dH;refine ou (n:=n.toNat) (I1.ok.hd hc) (IsRange.new ..) (small_one (by decide) (by decide) (by omega) (by omega)) hsz (by omega) (by unfold lim at GX;omega) λh' tk cV kp hi=>?_;have hv:Vals ((Yr n.toNat).map λ(i:Nat)=>V.int (i:Int)) cV.toList:=by
    obtain⟨k1,k2⟩:=hi;refine mI (by simp[k1]) λi v u q1 q2=>?_;obtain⟨t',rfl⟩:=k2 i u (by rw[<-Y6];exact q2);rw[Yl] at q1;by_cases De:i<n.toNat
    ·rw[Z1 De] at q1;cases q1;exact⟨t',by simp⟩
    ·rw[ZP (by simpa using De)] at q1;cases q1
   have Xk:∀b o,s1.heap.get? b=θ o->h'.get? b=θ o:=λb o q=>kp b o (X8 _ q);have v6:((Yr n.toNat).map λ(i:Nat)=>V.int (i:Int)).length<=lim:=by rw[X3,ZS];unfold lim;omega
   have I2:Inv X f8 σ H1 {s1 with heap:=h',toks:=tk}:=I1.kept (t':=tk) Xk;have I3:=I2.laid (a:=h'.objs.size) (t':=tk) (o:= .tup ((Yr n.toNat).map λ(i:Nat)=>V.int (i:Int))) (h':=h'.push {cls:= .type "tuple",data:= .seq cV}) (λb o e=>X8 _ e) (X_ _) (show ObjOk X.prog X.w _ _ _ (.tup _) from⟨by have:=dH;omega,cV.toList,hv,by have:=adu h' cV;simpa using this⟩);exact⟨.ref h'.objs.size,_,I3,rfl,WP.fin w1 (Ext.lay e1.fh (I2.hok.fresh (X_ _))) ⟨_,_,rfl,aD,zc _,by simpa using v6⟩⟩
  ·exact w1.elim
 ·exact w1.elim
end
end L3
namespace L3
open PySem PySem.Spec L2 SeqAt HT
open PyProof.Rows hiding St
theorem Di:∀{us:List Value}{ns:List Int},us.length=ns.length->(∀(i:Nat) (u:Value) (n:Int),us[i]? =θ u->ns[i]? =θ n->∃t,u= .int n t)->aaK us ns
 |[],[],_,_=> .nil
 |u::us,n::ns,hl,h=>by
  obtain⟨t,rfl⟩:=h 0 u n rfl rfl;exact .cons n t (Di (by simpa using hl) λi u n h1 h2=>h (i+1) u n (by simpa using h1) (by simpa using h2))
 |[],_::_,hl,_=>by simp at hl
 |_::_,[],hl,_=>by simp at hl
def Q1:List V->Hp->VK->Prop:=λxs H Q=>∃p kvs ns,xs=[.ref p]/\Rd H p (.dK kvs)/\kvs.map (·.1)=j6 ns/\ns.length<64/\∀q:Addr,H q=ω->Q (.ref q) (upd H q (.lst ((kQ ns).map V.int)))
section
variable{X:Cx}{Xw:Nat->Hp->Prop}{e:Expr}{δs:DA}{pos p:Pos}
def EA(hc:X.calm=ψ):CallR X (.builtin "sorted") Q1:=by
 intro f8 s σ H xs us Q I r h;obtain⟨a,kvs,ns,rfl,hH,yO,la,q⟩:=h;obtain⟨u,rfl,r1⟩:=r.one;cases (show u=_ from r1);obtain⟨z,lo,vs,rel,dd⟩:=rL I.hok hH;obtain⟨ep,BD⟩:=dd.dictAt;have U_:vs.map (·.1)=j6 ns:=rel.keys.symm.trans yO;have Te:vs.length=ns.length:=by
  have:=aeo adT U_;simpa[j6] using this
 have pM:Yv=16777216:=ZJ;refine aaf adm acX acY (ac0 _) ?_;unfold ab8.«sorted»;refine X6 (m:=checkCount "sorted" 1 1 _) (Yb (X6 (abG (A:=X.A.in1) (PySem.W.kdl_dict (knd:=bM X.prog X.w) (kvs:=vs) (ep:=ep) lo) (I.ok.hd hc) BD (by rw[pM];omega) λh1 tk v4 sm g6=>?_)));have I1:Inv X f8 σ H {s with heap:=h1,toks:=tk}:=I.kept (t':=tk) λb ob e=>sm b ob e;have zw:v4.toList.length=ns.length:=by rw[Yd,<-Te];exact g6.1
 have hi:aaK v4.toList ns:=Di zw λi u n h1 h2=>by
  obtain⟨k,x,q1,q2⟩:=g6.2 i u (by rw[<-Y6];exact h1);have q3:(vs.map (·.1))[i]? =θ k:=by rw[Yl,q1];rfl
  rw[U_] at q3;have q4:(j6 ns)[i]? =θ (.inl n):=by unfold j6;rw[Yl,h2];rfl
  rw[q4] at q3;cases q3;rcases b9 (show pO (.inl n) u=ψ from q2) with⟨j,t,e1,e2⟩ | ⟨y,t,e1,_⟩
  ·cases e1;exact⟨t,e2⟩
  ·cases e1
 refine X6 (aaP ?_ (by rw[pM,zw];omega));have BG:(h1.push (Y5 "list" v4.toList.toArray 0)).get? h1.objs.size=θ (Y5 "list" v4.toList.toArray 0):=Yy _ rfl;refine X6 (ZF (Zs ack ⟨_,BG,rfl⟩ ab3 (list_sort_tree (s:={s with heap:=h1.push (Y5 "list" v4.toList.toArray 0),toks:=tk}) BG hi (by omega) λout Xq a1 a2 a3=>⟨_,rfl,?_⟩) (acm _)));have e:Xq=kQ ns:=xJ (a2.trans (ig ns).symm) a3 (pC ns);subst e;obtain⟨c,ON⟩:=sortedHeap_at (out:=out) BG;refine Yb ⟨_,rfl,⟨.ref h1.objs.size,_,I1.laid (a:=h1.objs.size) (t':=tk) (o:= .lst ((kQ ns).map V.int)) (λb ob e=>?_) (X_ _) ?_,rfl,q _ (I1.hok.fresh (X_ _))⟩⟩
 ·have il:=Ys e;show (sortedHeap (h1.push (Y5 "list" v4.toList.toArray 0)) h1.objs.size v4.toList out).get? b=θ ob;rw[sortedHeap_old (YF il) (by rw[Heap.size_push];exact Nat.lt_succ_of_lt il)];exact X8 _ e
 ·exact⟨by rw[X3,(ig ns).length_eq,pM];omega,out.toList,c,qp a1,by simpa using ON⟩
def Jc:List D->M D
 |[.dci kk ds]=>match lN kk with
  |some ns=>if ns.length<64 then aa (.lst ((kQ ns).map D.int)) else af
  |none=>af
 |_=>af
def KY(hc:X.calm=ψ)(hg:Gl X "sorted")(hm:X.mg "sorted"=ω)(hb:YW "sorted"=θ (.builtin "sorted"))(ha:nZ X Xw [e] δs)(he:Yw [e] X.env=[(μ,eval e X.env)]:=by rfl):PD X Xw (.Call (.Name "sorted" p) [e] [] pos) (dA Jc δs):=
 ez (EA hc) (λXw F H vs ds Q s h w=>by
  unfold Jc at w;split at w
  ·rename_i kk ds;obtain⟨v,rfl,h1⟩:=h.one;obtain⟨a,ob,ws,rfl,h2,h3,h4,h5⟩:=h1;split at w
   ·rename_i ns zA;split at w
    ·rename_i hok;exact⟨a,_,ns,rfl, .inr ⟨ob,s _ _ h2⟩,by rw[gJ (by rw[h4];exact h3.len),sd zA],hok,λq hq=>WP.fin w (Ext.lay s hq) ⟨q,_,rfl,aD,vm,by rw[X3,(ig ns).length_eq];unfold lim;omega⟩⟩
    ·exact w.elim
   ·exact w.elim
  ·exact w.elim) hg hm hb ha (by decide) (by decide) he rfl
end
end L3
namespace L3
open PySem PySem.Spec L2
open PyProof.Rows hiding St
def StE.fgt1{K:Ym}{F H:Hp}{σ:St}{ρ:bQ}(s:StE K F H σ ρ)(i:Nat):StE K F H σ (ρ.set i ω):=
 ⟨s.fh,λj sl q=>by
  rcases get_set q with⟨_,e⟩ | ⟨_,q⟩
  ·cases e
  ·exact s.den j sl q⟩
theorem StE.fgt{K:Ym}{F H:Hp}{σ:St}:∀(is:List Nat) {ρ:bQ},StE K F H σ ρ->StE K F H σ (L3.fgt is ρ)
 |[],_,s=>s
 |i::is,_,s=>StE.fgt is (s.fgt1 i)
def Sd(is:List Nat)(δ:DE):DE:=λρ=>δ (fgt is ρ)
def QJ{X:Cx}{Xw:Nat->Hp->Prop}{e:Expr}{δ:DE}{is:List Nat}(h:PD X Xw e δ):PD X Xw e (Sd is δ):=PE.weak h λσ H Q ⟨F,ρ,s,w⟩=>⟨F,fgt is ρ,s.fgt is,w⟩
end L3
namespace L3
open PySem PySem.SetTable
def tM(m:Nat):SetTable:={mask:=m,place:= #[],dummies:= #[],finger:=0,led:=μ,moves:=0,plain:=ψ}
def pos(m:Nat)(h:Int)(n:Nat):Nat:=(Ul (tM m) n ((tM m).probeStart h)).j
def R5(m:Nat)(Z:List (Nat×Int)):Prop:=∀x∈Z,∃n,n<10*turns m/\pos m x.2 n=x.1/\∀n',n'<n->∃h',(pos m x.2 n',h')∈Z
def Xu(t:SetTable)(es:Array (Int×Value)):List (Nat×Int):=t.place.toList.zip (es.toList.map (·.1))
def SetR(ld:Bool)(h:Heap)(a:Addr)(xs:List (Int×Value)):Prop:=∃o es ep t,h.get? a=θ o/\o.ExactSet/\o.data= .set es ep t/\es.toList.Perm xs/\TabOk t es.size ld/\R5 t.mask (Xu t es)
def SetR.set:SetR ld h a xs->SetH ld h a xs:=λ⟨o,es,ep,t,a1,a2,a3,a4,a5,_⟩=>⟨o,es,ep,t,a1,a2,a3,a4,a5⟩
def SetR.at(x:SetR ld h a xs)(e:∀o,h.get? a=θ o->h'.get? a=θ o):SetR ld h' a xs:=
 let ⟨o,es,ep,t,ho,r⟩:=x
 ⟨o,es,ep,t,e o ho,r⟩
end L3
namespace L3
open PySem PySem.Spec L2 SeqAt HT
open PyProof.Rows hiding St
end L3
namespace L3
open PySem PySem.Spec L2 PySem.W
open PyProof.Rows hiding St
def Prs(es:Array abt)(lo:Addr)(h:Heap)(n:Nat)(as:List Addr):Prop:=as.length=n/\as.Nodup/\∀(j:Nat) (a:Addr),as[j]? =θ a->lo<a/\∃e,es[j]? =θ e/\h.get? a=θ {cls:= .type "tuple",data:= .seq #[e.key,e.val]}
def Prs.keep{es:Array abt}{lo Vi:Addr}{h h':Heap}{n:Nat}{as:List Addr}(p:Prs es lo h n as)(hl:Vi<=lo)(hk:∀b o,lo<b->h.get? b=θ o->h'.get? b=θ o):Prs es Vi h' n as:=⟨p.1,p.2.1,λj a hj=>by
 obtain⟨h1,e,h2,h3⟩:=p.2.2 j a hj;exact⟨Z8 hl h1,e,h2,hk a _ h1 h3⟩⟩
end L3
namespace L3
open PySem PySem.Spec L2 PySem.W SeqAt
open PyProof.Rows hiding St
section
variable{prog:YM}{w:World}{A:Y7}{E:Value->Yc->Prop}{s:Yc}
def FF{R:Array Nat->Prop}{a:Addr}{c:Nat}{vs:List Value}{bt:Nat->Nat->Bool}{κ:SortKind}{P:PySem.Fin->Yc->Prop}{G:Heap->Prop}(ho:s.heap.get? a=θ (Y5 "list" vs.toArray c))(la:vs.length<64)
 (S_:2<=vs.length->PN vs.length (d3 bt (kas_sort vs.length))/\R (d3 bt (kas_sort vs.length)))(WO:∀p,vs.length<2->R p)(hG:∀h',(∀b o,b≠a->s.heap.get? b=θ o->h'.get? b=θ o)->G h')
 (zy:∀(h':Heap) (Q:SortKind->Yc->Prop),G h'->2<=vs.length->Q κ {s with heap:=h'}->wpAny (model prog w) A (keyKind' vs.toArray) Q E {s with heap:=h'})
 (MR:∀(h':Heap),G h'->∀i j C,i<vs.length->j<vs.length->C (bt i j) {s with heap:=h'}->kas_ask prog w A κ vs i j C {s with heap:=h'})
 (h:∀(p:Array Nat) (h':Heap) (c':Nat),PN vs.length p->R p->h'.get? a=θ (Y5 "list" (YX (p.toList.map λi=>vs.getD i Y8)) c')->
  (∀b o,b≠a->s.heap.get? b=θ o->h'.get? b=θ o)->P (.done (.ret .none)) {s with heap:=h'}):wpAny (model prog w) A (ab8.«list.sort» ⟨[.ref a],[]⟩) P E s:=by
 have pM:Yv=16777216:=ZJ;have s1:=YR s.heap a (Y2 λ_=>(#[]:Array Value));obtain⟨e1,P6⟩:∃e1,(s.heap.update a (Y2 λ_=>(#[]:Array Value))).get? a=θ (Y5 "list" #[] e1):=⟨_,ab2 ho λ_=> #[]⟩
 have k1:∀b o,b≠a->s.heap.get? b=θ o->(((s.heap.update a (Y2 λ_=>(#[]:Array Value))).push (Y5 "tuple" vs.toArray 0)).push (Y5 "list" #[] 0)).get? b=θ o:=λb o hb e=>
  X8 _ (X8 _ ((s1.2 b hb).trans e))
 have M4:=X8 (Y5 "list" #[] 0) (X8 (Y5 "tuple" vs.toArray 0) P6);have g3:=hG _ k1;have fin:∀(st:SortSt) (p:Array Nat),PN vs.length p->R p->(arrOf st).map (·.2)=YX (p.toList.map λi=>vs.getD i Y8)->adb st=ω->
  wpAny (model prog w) A (do
   let touched:=(<-seqEpoch a) !=e1
   acq (.ref a) λ_=>(arrOf st).map (·.2)
   if let θ e:=adb st then rule "list.sort.comparison-raised";throw e
   if touched then rule "list.sort.modified";raiseError "ValueError" "list modified during sort"
   ret .none) P E {s with heap:=((s.heap.update a (Y2 λ_=>(#[]:Array Value))).push (Y5 "tuple" vs.toArray 0)).push (Y5 "list" #[] 0)}:=λst p hp hr he hf=>by
  have hz:(YX (p.toList.map λi=>vs.getD i Y8)).size=vs.length:=by rw[Yj,X3,Yd,hp.sz]
  rw[he,hf];refine X6 (adl M4 rfl (X6 (acB M4 rfl ?_ (YH _) (by rw[hz,pM];omega))));simp only[bne_self_eq_false,Y0,if_false];have s2:=YR (((s.heap.update a (Y2 λ_=>(#[]:Array Value))).push (Y5 "tuple" vs.toArray 0)).push (Y5 "list" #[] 0)) a (Y2 λ_=>YX (p.toList.map λi=>vs.getD i Y8));exact Yb (h p _ _ hp hr (ab2 M4 λ_=>YX (p.toList.map λi=>vs.getD i Y8)) λb o hb e=>(s2.2 b hb).trans (k1 b o hb e))
 rw[list_sort_plain];refine X6 (listItems_at ho rfl (X6 (acB ho rfl (X6 (adl P6 rfl ?_)) (by rw[Yj,pM];omega) (YH _))));refine X6 (wpAny_newTuple (X6 (aaP (ZF ?_) (YH _))) (by show vs.length<=_;rw[pM];omega));show wpAny (model prog w) A _ P E {s with heap:=((s.heap.update a (Y2 λ_=>(#[]:Array Value))).push (Y5 "tuple" vs.toArray 0)).push (Y5 "list" #[] 0)}
 dsimp only
 by_cases hs:vs.toArray.size<2
 ·rw[aef hs,aef hs];have Bd:vs.length<2:=by simpa using hs
  refine X6 (Yb (X6 (Yb ?_)));refine fin (SortSt.mk' general' (vs.toArray.zip vs.toArray) #[] 7 ω) (YX (Yr vs.length)) ⟨by simp,λi hi=>?_,λi j hi hj _=>by omega⟩ (WO _ Bd) ?_ rfl
  ·rw[d_];simp[hi]
  ·show (vs.toArray.zip vs.toArray).map (·.2)=_;apply acy.mp;refine abg (by simp) λi a1 a2=>?_;simp at a1;simp[a1]
 ·rw[aeh hs,aeh hs];have Bd:2<=vs.length:=by
   have:¬vs.length<2:=by simpa using hs
   omega
  refine X6 (zy _ _ g3 Bd ?_);obtain⟨r1,r2⟩:=S_ Bd;have run:=kat_run (prog:=prog) (w:=w) (A:=A) (E:=E) (ks:=vs) (vs:=vs) (κ:=κ) (Q:=λst s'=>s'={s with heap:=((s.heap.update a (Y2 λ_=>(#[]:Array Value))).push (Y5 "tuple" vs.toArray 0)).push (Y5 "list" #[] 0)}/\∃p,PN vs.length p/\R p/\(arrOf st).map (·.2)=YX (p.toList.map λi=>vs.getD i Y8)/\adb st=ω)
   (G:=λp s'=>s'={s with heap:=((s.heap.update a (Y2 λ_=>(#[]:Array Value))).push (Y5 "tuple" vs.toArray 0)).push (Y5 "list" #[] 0)}/\PN vs.length p/\R p) rfl Bd la
   (λp qk s' a1 a2 a3 a4=>⟨a4.1,p,a4.2.1,a4.2.2,kat_snds rfl a2,a3⟩)
   (wp_run (s:={s with heap:=((s.heap.update a (Y2 λ_=>(#[]:Array Value))).push (Y5 "tuple" vs.toArray 0)).push (Y5 "list" #[] 0)}) (λi j C hi hj hC=>MR _ g3 i j C hi hj hC) (vb (by omega)) ⟨rfl,r1,r2⟩)
  refine X6 (Zj run ?_ λ_ _ e=>e);rintro⟨⟨⟩,qk⟩ s' ⟨rfl,p,a1,a2,a3,a4⟩;exact fin qk p a1 a2 a3 a4
def Ja{a:Addr}{c:Nat}{vs:List Value}{bt:Nat->Nat->Bool}{κ:SortKind}{P:PySem.Fin->Yc->Prop}{G:Heap->Prop}(ho:s.heap.get? a=θ (Y5 "list" vs.toArray c))(la:vs.length<64)
 (hb:2<=vs.length->Lt vs.length bt)(hG:∀h',(∀b o,b≠a->s.heap.get? b=θ o->h'.get? b=θ o)->G h')
 (zy:∀(h':Heap) (Q:SortKind->Yc->Prop),G h'->2<=vs.length->Q κ {s with heap:=h'}->wpAny (model prog w) A (keyKind' vs.toArray) Q E {s with heap:=h'})
 (MR:∀(h':Heap),G h'->∀i j C,i<vs.length->j<vs.length->C (bt i j) {s with heap:=h'}->kas_ask prog w A κ vs i j C {s with heap:=h'})
 (h:∀(p:Array Nat) (h':Heap) (c':Nat),PN vs.length p->Ri bt p vs.length->h'.get? a=θ (Y5 "list" (YX (p.toList.map λi=>vs.getD i Y8)) c')->
  (∀b o,b≠a->s.heap.get? b=θ o->h'.get? b=θ o)->P (.done (.ret .none)) {s with heap:=h'}):wpAny (model prog w) A (ab8.«list.sort» ⟨[.ref a],[]⟩) P E s:=
 FF ho la (λh2=>AJ (hb h2) h2) (λp hl i j vy hj=>by omega) hG zy MR h
end
end L3
namespace L3
open PySem PySem.W PyProof.Rows
end L3
namespace L3
open PySem PySem.Spec L2 PySem.W SeqAt
open PyProof.Rows hiding St
end L3
namespace L3
open PySem PySem.Spec L2 SeqAt HT
open PyProof.Rows hiding St
def LL(aep F H:Hp)(D:Addr)(bs:List Addr):Prop:=H D=θ (.lst (bs.map V.ref))/\(∀b∈bs,H b=θ (.lst []))/\(D::bs).Nodup/\∀b∈D::bs,F b=ω/\aep b=ω
section
variable{aep F H F' H':Hp}{D:Addr}{bs:List Addr}
def LL.at(l:LL aep F H D bs){b:Addr}(hb:b∈D::bs):∃xs,H b=θ (.lst xs):=(Ye.mp hb).elim (λz=>z▸⟨_,l.1⟩) λz=>⟨_,l.2.1 b z⟩
def LL.ext(l:LL aep F H D bs)(e:Ext F H F' H'):LL aep F' H' D bs:=⟨e.hh _ _ l.1,λb hb=>e.hh _ _ (l.2.1 b hb),l.2.2.1,λb hb=>by
 obtain⟨xs,hx⟩:=l.at hb;exact⟨by rw[e.old hx λts z=>nomatch z];exact(l.2.2.2 b hb).1,(l.2.2.2 b hb).2⟩⟩
end
structure Nl (K:Ym) (u8 aep G F H:Hp) (σ:St) (ρ:bQ) (ni:Nat) (a:Addr) (bs:List Addr) (ps:List (List Int)):Prop where
 ext:Ext u8 aep F H
 gf:Same G F
 st:StE K F H σ ρ
 len:ρ.length=σ.length
 near:σ[ni]? =θ (θ (.ref a))
 ha:H a=θ (.lst (bs.map V.ref))
 hb:∀(i:Nat) (b:Addr) (p:List Int),bs[i]? =θ b->ps[i]? =θ p->H b=θ (.lst (p.map V.int))
 sz:bs.length=ps.length
 nd:(a::bs).Nodup
 fr:∀b∈a::bs,F b=ω/\aep b=ω
 fz:pJ ρ=ψ
section
variable{K:Ym}{u8 aep G F H:Hp}{σ:St}{ρ:bQ}{ni:Nat}{a:Addr}{bs:List Addr}{ps:List (List Int)}
def Nl.at(n:Nl K u8 aep G F H σ ρ ni a bs ps){b:Addr}(hb:b∈a::bs):∃xs,H b=θ (.lst xs):=by
 rcases Ye.mp hb with rfl | hb
 ·exact⟨_,n.ha⟩
 ·obtain⟨i,hi,rfl⟩:=ZZ hb;exact⟨_,n.hb i _ (ps[i]'(by rw[<-n.sz];exact hi)) (X7 hi) (X7 _)⟩
end
end L3
namespace L3
open PySem PySem.Spec L2 PySem.W SeqAt HT
open PyProof.Rows hiding St
def Ed{x y:Str}(h:x.cps.toList=y.cps.toList):x=y:=by
 obtain⟨cx⟩:=x;obtain⟨cy⟩:=y;have h:cx.toList=cy.toList:=h;rw[acy.mp h]
def Jp(k:List Str):List (List Nat):=k.map λx=>x.cps.toList
theorem CQ:∀{a b:List Str},Jp a=Jp b->a=b
 |[],[],_=>rfl
 |[],_::_,e=>by cases e
 |_::_,[],e=>by cases e
 |x::a,y::b,e=>by
  injection e with e1 e2
  rw[CQ e2,Ed e1]
def uw(a b:List Str):Bool:=decide (Jp a<Jp b)
def Ht{x:Str}{a b:List Str}:uw (x::a) (x::b)=uw a b:=by
 unfold uw Jp;rw[X9,X9];exact aem.mpr ⟨λh=>(aaD.mp h).elim (λz=>ael z (List.lt_irrefl _)) λz=>z.2,λh=>aaD.mpr (.inr ⟨rfl,h⟩)⟩
def Hs{x y:Str}{a b:List Str}(h:x≠y):uw (x::a) (y::b)=decide (x.cps.toList<y.cps.toList):=by
 unfold uw Jp;rw[X9,X9];exact aem.mpr ⟨λq=>(aaD.mp q).elim id λz=>ael (Ed z.1) h,λq=>aaD.mpr (.inl q)⟩
def Hu{a b c:List Str}(h1:uw a b=ψ)(h2:uw b c=ψ):uw a c=ψ:=aeg (List.lt_trans (aei h1) (aei h2))
def xl{a b:List Str}(h1:uw a b=ψ):uw b a=μ:=aek (List.lt_asymm (aei h1))
def xm{a b:List Str}(h:a≠b):uw a b=ψ\/uw b a=ψ:=by
 by_cases h1:Jp a<Jp b
 ·exact .inl (aeg h1)
 ·by_cases h2:Jp b<Jp a
  ·exact .inr (aeg h2)
  ·exact ael (CQ (List.le_antisymm h2 h1)) h
def yp(ks:List (List Str)):List (List Str):=ks.mergeSort λa b=>!uw b a
def ji(ks:List (List Str)):(yp ks).Perm ks:=List.mergeSort_perm ks _
def Jb{ks:List (List Str)}{p:Array Nat}(hd:ks.Nodup)(P:PN ks.length p)(R:Ri (λi j=>uw (ks.getD i []) (ks.getD j [])) p ks.length):(p.toList.map λi=>ks.getD i [])=yp ks:=by
 have hsz:p.toList.length=ks.length:=by rw[Yd];exact P.sz
 have BD:∀i (h:i<p.toList.length),p.toList[i]=at' p i:=λi h=>by
  have h':i<p.size:=by rw[Yd] at h;exact h
  rw[d_,Zt h'];simp
 have pw:(p.toList.map λi=>ks.getD i []).Pairwise λa b=>uw a b=ψ:=by
  refine Zu.mpr λi j hi hj vy=>?_;rw[X3] at hi hj;rw[abf,abf,BD i hi,BD j hj];exact R i j vy (by omega)
 have nd:p.toList.Nodup:=Zu.mpr λi j hi hj vy z=>by
  rw[BD i hi,BD j hj] at z;have:=P.inj i j (by omega) (by omega) z;omega
 have pm:(p.toList.map λi=>ks.getD i []).Perm ks:=by
  have h1:p.toList.Perm (Yr ks.length):=by
   refine(acT nd List.nodup_range).mpr λk=>⟨λhk=>?_,λhk=>?_⟩
   ·obtain⟨j,hj,rfl⟩:=Zp.mp hk;rw[BD j hj];exact YJ.mpr (P.lt j (by omega))
   ·exact xX ks.length p.toList nd (λx hx=>by
     obtain⟨j,hj,rfl⟩:=Zp.mp hx;rw[BD j hj];exact P.lt j (by omega)) hsz k (YJ.mp hk)
  have h2:=h1.map λi=>ks.getD i [];have h3:(Yr ks.length).map (λi=>ks.getD i [])=ks:=by
   refine acp λi=>?_;rw[Yl];by_cases hi:i<ks.length
   ·rw[Z1 hi,X7 hi];show θ (ks.getD i [])=_;rw[Yp,X7 hi];rfl
   ·rw[ZP (by simpa using hi),ZP (by omega)];rfl
  rw[h3] at h2;exact h2
 refine List.Perm.eq_of_pairwise (le:=λa b=>(!uw b a)=ψ) (λa b _ _ h1 h2=>?_) (pw.imp λh=>by rw[xl h];rfl) (List.pairwise_mergeSort (λa b c h1 h2=>?_) (λa b=>?_) ks) (pm.trans (ji ks).symm)
 ·by_cases e:a=b
  ·exact e
  ·rcases xm e with q | q
   ·rw[q] at h2;cases h2
   ·rw[q] at h1;cases h1
 ·by_cases e:uw c a=ψ
  ·exfalso
   by_cases e2:a=b
   ·subst e2;rw[e] at h2;cases h2
   ·rcases xm e2 with q | q
    ·rw[Hu e q] at h2;cases h2
    ·rw[q] at h1;cases h1
  ·rw[aa5.mpr e];rfl
 ·by_cases e:uw b a=ψ
  ·rw[xl e];simp
  ·rw[aa5.mpr e];simp
def tupS(k:List Str):D:= .tup (k.map D.str)
def ND(ks:List (List Str)):Bool:=decide ks.Nodup&&decide (ks.length<64)&&ks.all λk=>(!k.isEmpty&&decide (k.length<=lim))&&k.all λx=>decide (x.length<=lim)
def dw(k:List Str):List Key:=k.map abF
def jN(H:Hp):List V->List (List Str)->Prop:=abQ λv k=>∃a,v= .ref a/\H a=θ (.tup (k.map V.str))
theorem v_{K:Ym}:∀{ws:List V}{ks:List (List Str)},jN F ws ks->(∀k∈ks,k.length<=lim/\∀x∈k,x.length<=lim)->DenL K F (ks.map tupS) ws
 |_,_, .nil,_=>rfl
 |_,_, .cons (b:=k) h t,hl=>by
  obtain⟨a,rfl,h⟩:=h;have hk:=hl k (X5 ..);have hs:∀l:List Str,(∀x∈l,x.length<=lim)->DenL K F (l.map D.str) (l.map V.str):=λl=>by
   induction l with
   |nil=>exact λ_=>rfl
   |cons x l ih=>exact λhx=> .cons ⟨rfl,hx x (X5 ..)⟩ (ih λy hy=>hx y (X4 _ hy))
  exact .cons ⟨a,_,rfl,h,hs k hk.2,by rw[X3];exact hk.1⟩ (v_ t λk hk=>hl k (X4 _ hk))
theorem wb:∀{vs:List V}{ks:List (List Str)}{i:Nat},jN H vs ks->i<vs.length->∃a,vs.getD i .non= .ref a/\H a=θ (.tup ((ks.getD i []).map V.str))
 |_,_,i, .nil,hi=>by simp at hi
 |_,_,0, .cons h t,_=>h
 |_,_,i+1, .cons h t,hi=>wb (i:=i) t (by simpa using hi)
theorem wc:∀{vs:List V}{ks:List (List Str)},jN H vs ks->vs.length=ks.length
 |_,_, .nil=>rfl
 |_,_, .cons h t=>by rw[Yh,Yh,wc t]
theorem tR(h:jN H vs ks):∀{is:List Nat},(∀i∈is,i<vs.length)->jN H (is.map λi=>vs.getD i .non) (is.map λi=>ks.getD i [])
 |[],_=> .nil
 |i::is,hi=> .cons (wb h (hi i (X5 ..))) (tR h λj hj=>hi j (X4 _ hj))
theorem sq:∀{kvs:List (List Key×V)}{xs:List (List Key×Addr×Value)}{ks:List (List Str)},abQ (λ(p:List Key×V) (q:List Key×Addr×Value)=>p.1=q.1/\H q.2.1=θ (.tup (p.1.map kV))/\RelV p.2 q.2.2) kvs xs->
 kvs.map (·.1)=ks.map dw->jN H (xs.map λx=>V.ref x.2.1) ks
 |_,_,[], .nil,_=> .nil
 |_,_,_::_, .nil,e=>by simp at e
 |_,_,[], .cons h t,e=>by simp at e
 |_,_,k::ks, .cons h t,e=>by
  rw[X9,X9] at e;injection e with e1 e2
  refine .cons ⟨_,rfl,?_⟩ (sq t e2);have hk:(dw k).map kV=k.map V.str:=by unfold dw;rw[YD];rfl
  rw[h.2.1,e1,hk]
theorem tQ(e:Same F F'):∀{ws:List V}{ks:List (List Str)},jN F ws ks->jN F' ws ks
 |_,_, .nil=> .nil
 |_,_, .cons ⟨b,q1,q2⟩ t=> .cons ⟨b,q1,e _ _ q2⟩ (tQ e t)
theorem wa(hs:Same F H):∀{ws:List V}{ks:List (List Str)},jN H ws ks->∃F',Ext F H F' H/\jN F' ws ks
 |_,_, .nil=>⟨F,Ext.refl hs, .nil⟩
 |_,_, .cons h t=>by
  obtain⟨a,rfl,h⟩:=h;obtain⟨F1,e1,r1⟩:=wa hs t;have e2:=Ext.tup e1.fh h;exact⟨_,e1.trans e2, .cons ⟨a,rfl,aD⟩ (tQ e2.ff r1)⟩
section
variable{prog:YM}{w:World}{A:Y7}{s:Yc}
theorem vI{Q:Bool->Yc->Prop}:∀{us vs:List Value}{xs ys:List Str}(i:Nat) {fin:Bool},Vals (xs.map V.str) us->Vals (ys.map V.str) vs->fin=decide (xs.length<ys.length)->Q (uw xs ys) s->KatLex prog w A ψ fin Q (us.zip vs) i s
 |_,_,[],[],i,_, .nil, .nil,e,h=>by subst e;exact kat_nil h
 |_,_,[],_::_,i,_, .nil, .cons r1 r,e,h=>by subst e;exact kat_nil h
 |_,_,_::_,[],i,_, .cons r1 r, .nil,e,h=>by subst e;exact kat_nil h
 |_,_,x::xs,y::ys,i,_, .cons r1 r, .cons Og r',e,h=>by
  obtain⟨t,rfl⟩:=r1;obtain⟨u,rfl⟩:=Og;refine kat_cons (wpAny_eqBool_str ?_);by_cases q:x=y
  ·subst q;rw[aeg rfl];refine kat_yes (vI (i+1) r r' (by rw[e];simp) ?_);rw[Ht] at h;exact h
  ·rw[aek q];rw[Hs q] at h;refine kat_no ?_;by_cases hi:(i==0)=ψ
   ·rw[hi];exact oneLt_str h
   ·rw[show (i==0)=μ by simpa using hi];exact kat_one _ _ (lt_str h)
def TupsS(h:Heap)(vs:List Value)(ks:List (List Str)):Prop:=abQ (λv k=>∃a o us m,v=YY a/\h.get? a=θ o/\o.cls= .type "tuple"/\o.data= .seq (YX us) m/\Vals (k.map V.str) us/\k≠[]) vs ks
theorem TupsS.get{h:Heap}:∀{vs:List Value}{ks:List (List Str)}{i:Nat},TupsS h vs ks->i<vs.length->∃a o us m,vs.getD i Y8= .ref a/\h.get? a=θ o/\o.cls= .type "tuple"/\o.data= .seq (YX us) m/\Vals ((ks.getD i []).map V.str) us/\ks.getD i []≠[]
 |_,_,0, .cons t _,_=>t
 |_,_,i+1, .cons _ t,hi=>TupsS.get (i:=i) t (by simpa using hi)
 |_,_,_, .nil,hi=>by simp at hi
theorem TupsS.keep{h h':Heap}{a:Addr}(k:∀b o,b≠a->h.get? b=θ o->h'.get? b=θ o)(ha:∀o,h.get? a=θ o->o.cls≠ .type "tuple"):∀{vs:List Value}{ks:List (List Str)},TupsS h vs ks->TupsS h' vs ks
 |_,_, .nil=> .nil
 |_,_, .cons ⟨b,o,us,m,e1,e2,e3,e4⟩ t=> .cons ⟨b,o,us,m,e1,k b o (λz=>ha o (by rw[<-z];exact e2) e3) e2,e3,e4⟩ (TupsS.keep k ha t)
theorem TupsS.firsts{M:Model}{h:Heap}:∀{vs:List Value}{ks:List (List Str)},TupsS h vs ks->∃fs,KatTups h vs fs/\fs.length=vs.length/\∀v∈fs,Looks M h (typeOf v) (.type "str")
 |_,_, .nil=>⟨[],KatTups.nil,rfl,λ_ z=>by cases z⟩
 |_,_, .cons (b:=k) ⟨a,o,us,m,e1,e2,e3,e4,e5,e6⟩ t=>by
  obtain⟨fs,q1,q2,q3⟩:=TupsS.firsts (M:=M) t;subst e1;cases k with
  |nil=>exact ael rfl e6
  |cons x k=>
   cases e5 with
   |cons r1 r2=>
    obtain⟨t,rfl⟩:=r1;refine⟨.str x t::fs,KatTups.cons e2 e3 e4 (by simp) q1,by simp[q2],λv hv=>?_⟩;rcases Ye.mp hv with rfl | hv
    ·exact show Looks M h (pure (ach "str")) (ach "str") from .now
    ·exact q3 v hv
def Mw{vs:List Value}{ks:List (List Str)}(t:TupsS s.heap vs ks)(i j:Nat)(C:Bool->Yc->Prop)(hi:i<vs.length)(hj:j<vs.length)(h:C (uw (ks.getD i []) (ks.getD j [])) s):kas_ask prog w A (tuples' ψ) vs i j C s:=by
 obtain⟨a,o,us,m,e1,e2,_,e4,e5,_⟩:=t.get hi;obtain⟨a',o',XM,m',zk,GF,_,Sf,Ph,_⟩:=t.get hj;unfold kas_ask;rw[e1,zk];refine kat_lt e2 e4 GF Sf (vI 0 e5 Ph ?_ h);rw[Yj,Yj,<-e5.length,<-Ph.length,X3,X3]
end
section
variable{X:Cx}{Xw:Nat->Hp->Prop}{e:Expr}{δs:DA}{pos p:Pos}
theorem tT(I:Inv X f8 σ H s):∀{vs:List V}{aS:List Value}{ks:List (List Str)},jN H vs ks->Vals vs aS->(∀k∈ks,k≠[])->TupsS s.heap aS ks
 |_,_,_, .nil,r,_=>by cases r;exact .nil
 |_,_,_, .cons (b:=k) h t,r,hn=>by
  obtain⟨a,rfl,h⟩:=h;cases r with
  |cons r1 r2=>
   cases (show _=_ from r1);obtain⟨us,ru,pt,_⟩:=I.tuple (SqT.of h);obtain⟨o,q1,q2,m,q3⟩:=pt;exact .cons ⟨a,o,us,m,rfl,q1,q2,q3,ru,hn k (X5 ..)⟩ (tT I t r2 λk hk=>hn k (X4 _ hk))
def Ol:List V->Hp->VK->Prop:=λxs H Q=>∃p kvs ks,xs=[.ref p]/\Rd H p (.dT kvs)/\kvs.map (·.1)=ks.map dw/\ND ks=ψ/\∀(q:Addr) (ws:List V),H q=ω->jN H ws (yp ks)->Q (.ref q) (upd H q (.lst ws))
def HQ{ks:List (List Str)}(h:ND ks=ψ):ks.Nodup/\ks.length<64/\∀k∈ks,k≠[]/\k.length<=lim/\∀x∈k,x.length<=lim:=by
 unfold ND at h;rw[Yq,Yq] at h;refine⟨aei h.1.1,aei h.1.2,λk hk=>?_⟩;have:=Yu.mp h.2 k hk;rw[Yq,Yq] at this;exact⟨λz=>(by rw[z] at this;cases this.1.1),aei this.1.2,λx hx=>aei (Yu.mp this.2 x hx)⟩
def Bp(hc:X.calm=ψ):CallR X (.builtin "sorted") Ol:=by
 intro f8 s σ H xs us Q I r h;obtain⟨a,kvs,ks,rfl,hH,yO,hk,q⟩:=h;obtain⟨u,rfl,r1⟩:=r.one;cases (show u=_ from r1);obtain⟨z,lo,xs,rel,o,es,ep,g1,g2,g3,g4,g5⟩:=(show ObjOk X.prog X.w H s.heap a (.dT kvs) from hH.ok I.hok)
 obtain⟨hd,la,fE⟩:=HQ hk;have hr:=sq rel yO;have FX:=wc hr;rw[X3] at FX;have EM:es.size=xs.length:=by rw[<-Yd,g4,X3]
 have pM:Yv=16777216:=ZJ;refine aaf adm acX acY (ac0 _) ?_;unfold ab8.«sorted»;refine X6 (Yb (X6 (abG (t_ lo g2 g3) (I.ok.hd hc) g1 (by rw[EM,pM];omega) λh1 tk v4 sm g6=>?_)));have zw:v4.toList.length=xs.length:=by rw[Yd,<-EM];exact g6.1
 have I1:Inv X f8 σ H {s with heap:=h1,toks:=tk}:=I.kept λb ob e=>sm b ob e;have rv:Vals (xs.map λx=>V.ref x.2.1) v4.toList:=by
  have ext:∀{vs:List V}{us:List Value},vs.length=us.length->(∀(i:Nat) (v:V) (u:Value),vs[i]? =θ v->us[i]? =θ u->RelV v u)->Vals vs us:=by
   intro vs;induction vs with
   |nil=>intro us h _;cases us with | nil=>exact .nil | cons _ _=>simp at h
   |cons v vs ih=>
    intro us h hh;cases us with
    |nil=>simp at h
    |cons u us=>exact .cons (hh 0 v u rfl rfl) (ih (by simpa using h) λi v u h1 h2=>hh (i+1) v u h1 h2)
  refine ext (by rw[X3,zw]) λi v u e1 e2=>?_;rw[Y6] at e2;obtain⟨en,q1,q2⟩:=g6.2 i u e2;rw[<-Y6,g4,Yl] at q1;rw[Yl] at e1;cases w:xs[i]? with
  |none=>rw[w] at e1;cases e1
  |some x=>
   rw[w] at e1 q1;cases e1;cases q1;exact q2
 have ht:=tT I1 hr rv λk hk=>(fE k hk).1;refine X6 (aaP ?_ (by rw[pM];omega));have BG:(h1.push (Y5 "list" v4.toList.toArray 0)).get? h1.objs.size=θ (Y5 "list" v4.toList.toArray 0):=Yy _ rfl;have WT:=ht.keep (a:=h1.objs.size) (h':=h1.push (Y5 "list" v4.toList.toArray 0)) (λb o _ e=>X8 _ e) (λo e=>ael (Ys e) (Zb _));have v6:v4.toList.length=ks.length:=by omega
 refine X6 (ZF (Zs ack ⟨_,BG,rfl⟩ ab3 (Ja (bt:=λi j=>uw (ks.getD i []) (ks.getD j [])) (κ:=tuples' ψ) (G:=λh'=>TupsS h' v4.toList ks) BG (by omega)
  (λ_=>⟨λi j k=>Hu,λi j=>xl,λi j hi hj vy=>xm λz=>vy ?_⟩)
  (λh' k=>WT.keep k λo e z=>by rw[BG] at e;cases e;exact ael (adA z) (by decide))
  (λh' Q g h2 hq=>?_) (λh' g i j C hi hj h=>Mw g i j C hi hj h) λP h' c' hP hR BF zx=>?_) (acm _)))
 ·rw[v6] at hi hj;rw[Yp,Yp,X7 hi,X7 hj] at z;exact zV hd hi hj z
 ·obtain⟨fs,q1,q2,q3⟩:=TupsS.firsts (M:=model X.prog X.w) g;exact kat_kind (T:= .type "str") q1 (by omega) q3 rfl hq
 have Jt:∀i∈P.toList,i<(xs.map λx=>V.ref x.2.1).length:=λi hi=>by
  obtain⟨j,hj,rfl⟩:=Zp.mp hi;have h':j<P.size:=by rw[Yd] at hj;exact hj
  have:=hP.lt j (by rw[hP.sz] at h';exact h');rw[d_,Zt h'] at this;have e:P.toList[j]=P[j]:=by simp
  rw[e,X3];have:P[j]<v4.toList.length:=this;omega
 have Py:PN ks.length P:=by rw[<-v6];exact hP
 have Pz:Ri (λi j=>uw (ks.getD i []) (ks.getD j [])) P ks.length:=by rw[<-v6];exact hR
 have Jy:=Jb hd Py Pz;have Qc:=tR hr Jt;rw[Jy] at Qc;refine⟨_,rfl,Yb ⟨_,rfl,⟨.ref h1.objs.size,_,I1.laid (λb ob e=>zx b ob (YF (Ys e)) (X8 _ e)) (X_ _) ?_,rfl,q _ _ (I1.hok.fresh (X_ _)) Qc⟩⟩⟩;exact⟨by rw[X3,Yd,hP.sz,pM];omega,_,c',lG rv Jt,BF⟩
def qo:List Key->Option (List Str)
 |[]=>θ []
 | .inr x::r=>(qo r).map (x:: ·)
 |_=>ω
def mF:List (List Key)->Option (List (List Str))
 |[]=>θ []
 |k::r=>match qo k,mF r with
  |some x,θ xs=>θ (x::xs)
  |_,_=>ω
theorem AQ:∀{k:List Key}{x:List Str},qo k=θ x->k=dw x
 |[],_,e=>by cases e;rfl
 | .inr i::r,_,e=>by
   unfold qo at e;cases q:qo r with
   |none=>rw[q] at e;cases e
   |some y=>rw[q] at e;cases e;rw[AQ q];rfl
 | .inl _::r,_,e=>by cases e
theorem wx:∀{kk:List (List Key)}{ks:List (List Str)},mF kk=θ ks->kk=ks.map dw
 |[],_,e=>by cases e;rfl
 |k::r,_,e=>by
  unfold mF at e;split at e
  ·rename_i x xs e1 e2;cases e;rw[X9,<-AQ e1,<-wx e2]
  ·cases e
def AL:List D->M D
 |[.dct kk ds]=>match mF kk with
  |some ks=>if ND ks then aa (.lst ((yp ks).map tupS)) else af
  |none=>af
 |_=>af
def Ih(hc:X.calm=ψ)(hg:Gl X "sorted")(hm:X.mg "sorted"=ω)(hb:YW "sorted"=θ (.builtin "sorted"))(ha:nZ X Xw [e] δs)(he:Yw [e] X.env=[(μ,eval e X.env)]:=by rfl):PD X Xw (.Call (.Name "sorted" p) [e] [] pos) (dA AL δs):=
 ez (Bp hc) (λXw F H vs ds Q s h w=>by
  unfold AL at w;split at w
  ·rename_i kk ds;obtain⟨v,rfl,h1⟩:=h.one;obtain⟨a,ob,ws,rfl,h2,h3,h4,h5⟩:=h1;split at w
   ·rename_i ks zA;split at w
    ·rename_i hok;obtain⟨hd,la,hl⟩:=HQ hok;refine⟨a,_,ks,rfl, .inr ⟨ob,s _ _ h2⟩,by rw[gJ (by rw[h4];exact h3.len),wx zA],hok,λq us hq hr=>?_⟩;obtain⟨F1,e1,r1⟩:=wa s hr;have e2:=Ext.lay (o:= .lst us) e1.fh hq;exact WP.fin w (e1.trans e2) ⟨q,_,rfl,aD,DenL.mono e2.ff (v_ r1 λk hk=>(hl k ((ji ks).mem_iff.mp hk)).2),by rw[X3,(ji ks).length_eq];unfold lim;omega⟩
    ·exact w.elim
   ·exact w.elim
  ·exact w.elim) hg hm hb ha (by decide) (by decide) he rfl
end
end L3
namespace L3
def Q4(n:Nat)(δs:DA):DS:=λ_=>af
end L3
namespace K1
open PySem PySem.Spec L2 L3
open PyProof.Rows hiding St
def CC:DS:=(bI (gT (dA jw (aC (dV 0) (aC (dC (.raw (.ty "int"))) aN))) (CT (dA jw (aC (dV 0) (aC (dC (.raw (.ty "bool"))) aN))))))
def bX:List D->M D:=b_ 1 (CC)
def A1:DS:=(bI (gT (dA jw (aC (dV 0) (aC (dC (.raw (.ty "str"))) aN))) (gT (d2 mS (dA bG (aC (dV 0) aN)) (dC (.int 1))) (d2 (uF μ) (dV 0) (dC (.str "abcdef"))))))
def b6:List D->M D:=b_ 1 (A1)
def um:DS:=(bI (bw 0 (λρ=>(aC (dA bG (aC (d2 cu (dV 0) (dC (.int 0))) aN)) aN) ρ>>=lW) c6 (dA e7 (aC (dV 2) (aC (dV 0) aN)))))
def bK:List D->M D:=b_ 2 (um)
def A7:DS:=(bI (d2 uG (d2 cu (dV 0) (d2 cu (dV 1) (dC (.int 0)))) (d2 cu (dV 1) (dC (.int 1)))))
def a7:List D->M D:=b_ 2 (A7)
def Cz:DS:=(aA (bN 3 (dA F7 (aC (d2 rU (d2 cu (dV 0) (dC (.int 0))) (d2 cu (dV 1) (dC (.int 0)))) aN))) (aA (bN 4 (dA F7 (aC (d2 rU (d2 cu (dV 0) (dC (.int 1))) (d2 cu (dV 1) (dC (.int 1)))) aN))) (aA (jQ (cT (d2 mS (dV 2) (dC (.int 4)))) (bI (d2 mS (d2 gk (dV 3) (dV 4)) (dC (.int 1)))) eg) (bI (d2 mS (dA BU (aC (dV 3) (aC (dV 4) aN))) (dC (.int 1)))))))
def eG:List D->M D:=b_ 5 (Cz)
def LF:DS:=(aA (tW 1) (aA (λρ=>noex ((dN (putN 2) (Ke (cE (dV 0)) (λρ=>(dV 0) ρ>>=g7)) (cM [2] (dO 1 (dV 2) (dC (.bl ψ))))) ρ)) (uT 1 (bI (dV 1)))))
def eD:List D->M D:=b_ 3 (LF)
def uq:DS:=(aA (jQ (cT (d2 mS (dV 0) (dA dm aN))) (bI (d2 lI (dC (.int 7)) (dV 1))) eg) (bI (d2 gk (d2 GL (dV 0) (d2 mT (dV 1) (dA bG (aC (dV 0) aN)))) (d2 lI (dC (.int 6553)) (d2 uE (dV 1) (dA bG (aC (dV 0) aN)))))))
def gZ:List D->M D:=b_ 2 (uq)
def A2:DS:=(aA (jQ (qS (cZ (cq (dA jw (aC (dV 0) (aC (dC (.raw (.ty "str"))) aN))))) (cZ (cT (Bq (λi j=>decide (i<=j)) (λi j=>decide (i<=j)) (dC (.int 1)) (dA bG (aC (dV 0) aN)) (dC (.int 8)))))) (bI (dC (.bl μ))) eg) (bI (dA allM (aC (bw 0 (λρ=>(dV 0) ρ>>=I8) c6 (aq 1 b6 (aC (dV 0) aN))) aN))))
def gY:List D->M D:=b_ 1 (A2)
def wG:DS:=(aA (jQ (qS (cZ (cq (dA jw (aC (dV 1) (aC (dC (.raw (.ty "tuple"))) aN))))) (cT (d2 qF (dA bG (aC (dV 1) aN)) (dC (.int 2))))) (bI (dC (.bl μ))) eg) (aA (jQ (qS (cZ (cq (aq 1 bX (aC (d2 cu (dV 1) (dC (.int 0))) aN)))) (cZ (cq (aq 1 bX (aC (d2 cu (dV 1) (dC (.int 1))) aN))))) (bI (dC (.bl μ))) eg) (bI (gT (Bq (λi j=>decide (i<=j)) (λi j=>decide (i<j)) (dC (.int 0)) (d2 cu (dV 1) (dC (.int 0))) (dA bG (aC (dV 0) aN))) (Bq (λi j=>decide (i<=j)) (λi j=>decide (i<j)) (dC (.int 0)) (d2 cu (dV 1) (dC (.int 1))) (dA bG (aC (d2 cu (dV 0) (dC (.int 0))) aN)))))))
def k9:List D->M D:=b_ 2 (wG)
def A9:DS:=(jQ (qS (cZ (cq (aq 1 bX (aC (dV 0) aN)))) (cT (d2 (J4 ψ) (dV 0) (dA e7 (aC (dC (.int 4)) (aC (dC (.int 8)) aN)))))) (Q4 1 (aC (dC (.str "ways are 4 or 8")) aN)) eg)
def bg:List D->M D:=b_ 1 (A9)
def AZ:DS:=(aA (tV 1) (aA (λρ=>noex ((dN (putN 2) (λρ=>(aC (dA bG (aC (dV 0) aN)) aN) ρ>>=lW) (cM [2] (Fz 1 (aq 2 bK (aC (dV 0) (aC (dV 2) aN)))))) ρ)) (uT 1 (bI (dV 1)))))
def c7:List D->M D:=b_ 3 (AZ)
def yK:DS:=(aA (tV 3) (aA (λρ=>noex ((dN (putN 4) (λρ=>(aC (dA BU (aC (d2 rU (d2 cu (dV 1) (dC (.int 0))) (dC (.int 1))) (aC (dC (.int 0)) aN))) (aC (dA E7 (aC (d2 gk (d2 cu (dV 1) (dC (.int 0))) (dC (.int 2))) (aC (dA bG (aC (dV 0) aN)) aN))) aN)) ρ>>=wk) (cM [4,5] (dN (putN 5) (λρ=>(aC (dA BU (aC (d2 rU (d2 cu (dV 1) (dC (.int 1))) (dC (.int 1))) (aC (dC (.int 0)) aN))) (aC (dA E7 (aC (d2 gk (d2 cu (dV 1) (dC (.int 1))) (dC (.int 2))) (aC (dA bG (aC (d2 cu (dV 0) (dC (.int 0))) aN)) aN))) aN)) ρ>>=wk) (cM [5] (jQ (cq (aq 3 eG (aC (dV 1) (aC (dA e7 (aC (dV 4) (aC (dV 5) aN))) (aC (dV 2) aN))))) (pj 3 (dA e7 (aC (dV 4) (aC (dV 5) aN)))) eg))))) ρ)) (uT 3 (bI (dV 3)))))
def bL:List D->M D:=b_ 6 (yK)
def qq:DS:=(aA (bN 3 (d2 mT (d2 gk (d2 lI (d2 mT (aq 2 gZ (aC (dV 0) (aC (dV 1) aN))) (dC (.int 2147483563))) (dC (.int 69069))) (d2 lI (dC (.int 104723)) (d2 gk (dV 1) (dC (.int 1))))) (dC (.int 2147483563)))) (aA (bN 3 (d2 mT (d2 gk (d2 lI (dV 3) (dV 3)) (d2 uE (dV 3) (dC (.int 3)))) (dC (.int 2147483399)))) (bI (d2 mT (d2 uE (d2 mT (d2 gk (d2 lI (dV 3) (dV 3)) (d2 uE (dV 3) (dC (.int 7)))) (dC (.int 2147483647))) (dC (.int 11))) (dV 2)))))
def aX:List D->M D:=b_ 4 (qq)
def uo:DS:=(aA (jQ (qS (cZ (cq (dA jw (aC (dV 0) (aC (dC (.raw (.ty "tuple"))) aN))))) (cZ (cT (Bq (λi j=>decide (i<=j)) (λi j=>decide (i<=j)) (dC (.int 1)) (dA bG (aC (dV 0) aN)) (dC (.int 8)))))) (bI (dC (.bl μ))) eg) (aA (jQ (cZ (cq (dA allM (aC (bw 0 (rE (dV 0)) c6 (aq 1 gY (aC (dV 0) aN))) aN)))) (bI (dC (.bl μ))) eg) (bI (dA allM (aC (bw 0 (rE (dV 0)) c6 (d2 mS (dA bG (aC (dV 0) aN)) (dA bG (aC (d2 cu (dV 1) (dC (.int 0))) aN)))) aN)))))
def js:List D->M D:=b_ 1 (uo)
def A8:DS:=(jQ (cZ (cq (aq 2 k9 (aC (dV 0) (aC (dV 1) aN))))) (Q4 2 (aC (dC (.str "a tuple (row, column) on the board is asked for")) aN)) eg)
def b8:List D->M D:=b_ 2 (A8)
def yG:DS:=(aA (bN 3 (aq 2 a7 (aC (dV 0) (aC (dV 1) aN)))) (bI (bw 0 (cE (aq 3 bL (aC (dV 0) (aC (dV 1) (aC (dV 2) aN))))) (cT (d2 mS (aq 2 a7 (aC (dV 1) (aC (dV 0) aN))) (dV 4))) (dV 0))))
def c8:List D->M D:=b_ 4 (yG)
def Ud:DE:=bw 0 (λρ=>(aC (dV 4) aN) ρ>>=lW) c6 (d2 uG (dV 6) (aq 3 aX (aC (dV 1) (aC (d2 gk (d2 gk (d2 gk (dV 2) (dC (.int 3))) (d2 lI (dC (.int 7)) (dV 8))) (dV 0)) (aC (dA bG (aC (dV 6) aN)) aN)))))
def Ue:DS:=bN 6 (d2 C8 (dV 6) (dA e7 (aC (dM yP joinM (dC (.str "")) (aC (dV 8) aN)) aN)))
def A4:DS:=(aA (bN 3 (d2 gk (dC (.int 1)) (aq 3 aX (aC (dV 0) (aC (dV 1) (aC (dV 2) aN)))))) (aA (bN 4 (d2 gk (dC (.int 1)) (aq 3 aX (aC (dV 0) (aC (d2 gk (dV 1) (dC (.int 1))) (aC (dV 2) aN)))))) (aA (bN 5 (d2 j3 (dA dm (aC (dC (.str "ab")) (aC (dC (.str "abc")) (aC (dC (.str "aab")) (aC (dC (.str "fa")) aN))))) (aq 3 aX (aC (dV 0) (aC (d2 gk (dV 1) (dC (.int 2))) (aC (dC (.int 4)) aN)))))) (aA (bN 6 (dA e7 aN)) (aA (λρ=>noex ((dN (putN 7) (λρ=>(aC (dV 3) aN) ρ>>=lW) (cM [7,8] (aA (bN 8 (Ud)) (Ue)))) ρ)) (bI (dV 6)))))))
def eL:List D->M D:=b_ 9 (A4)
def yI:DS:=(jQ (cZ (cq (aq 1 js (aC (dV 0) aN)))) (Q4 0 (aC (dC (.str "a tuple of 1 to 8 texts of 1 to 8 letters, all as long, is asked for")) aN)) eg)
def aH:List D->M D:=b_ 1 (yI)
def Oo:DS:=cM [7] (jQ (Ct (cT (d2 (eI ψ) (dV 7) (dV 3)))) (aA (dO 3 (dV 7) (dV 6)) (pj 5 (dV 7))) eg)
def yM:DS:=(aA (AB 3 (λρ=>(dV 1) ρ>>=λx=>(dC .non) ρ>>=λy=>lL x y)) (aA (bN 4 (dA dm (aC (dV 1) aN))) (aA (λρ=>noex ((yd (cq (dV 4)) (cM [5,6,7] (aA (tV 5) (aA (dN (putN 6) (cE (dV 4)) (cM [6,7] (dN (putN 7) (cE (aq 3 c8 (aC (dV 0) (aC (dV 6) (aC (dV 2) aN))))) (Oo)))) (uT 5 (bN 4 (dV 5))))))) ρ)) (uT 3 (bI (dV 3))))))
def aK:List D->M D:=b_ 8 (yM)
def LD:DS:=(aA (eK (aq 1 aH (aC (dV 0) aN))) (bI (aq 1 c7 (aC (dV 0) aN))))
def mO:List D->M D:=b_ 1 (LD)
def pH:DS:=(aA (eK (aq 1 aH (aC (dV 0) aN))) (aA (eK (aq 1 bg (aC (dV 1) aN))) (aA (eK (aq 2 b8 (aC (dV 0) (aC (dV 2) aN)))) (eK (aq 2 b8 (aC (dV 0) (aC (dV 3) aN)))))))
def dU:List D->M D:=b_ 4 (pH)
def CF:DS:=(aA (eK (aq 1 aH (aC (dV 0) aN))) (aA (eK (aq 2 b8 (aC (dV 0) (aC (dV 1) aN)))) (aA (eK (aq 1 bg (aC (dV 2) aN))) (bI (dA lZ (aC (aq 3 aK (aC (dV 0) (aC (dV 1) (aC (dV 2) aN)))) aN))))))
def g0:List D->M D:=b_ 3 (CF)
def FQ:DS:=(aA (eK (aq 4 dU (aC (dV 0) (aC (dV 1) (aC (dV 2) (aC (dV 3) aN)))))) (bI (d2 (eI μ) (dV 3) (aq 3 aK (aC (dV 0) (aC (dV 2) (aC (dV 1) aN)))))))
def fQ:List D->M D:=b_ 4 (FQ)
def yL:DS:=(aA (tW 1) (aA (λρ=>noex ((dN (v5 [2,3]) (λρ=>(aC (dV 0) aN) ρ>>=CY) (cM [2,3,4] (dN (putN 4) (cE (dV 3)) (cM [4] (dO 1 (dV 4) (dV 2)))))) ρ)) (uT 1 (bI (dV 1)))))
def eY:List D->M D:=b_ 5 (yL)
def Pf:DS:=(cM [6] (jQ (Ct (cT (d2 (eI ψ) (dV 6) (dV 2)))) (aA (dO 2 (dV 6) (Se (d2 gk (d2 eZ (dV 2) (dV 5)) (dC (.int 1))))) (pj 4 (dV 6))) eg))
def Pe:DS:=(cM [5,6] (dN (putN 6) (Ke (cE (d2 eZ (dV 0) (dV 5))) (λρ=>(d2 eZ (dV 0) (dV 5)) ρ>>=g7)) Pf))
def MF:DS:=(cM [4,5,6] (aA (tV 4) (aA (dN (putN 5) (cE (dV 3)) Pe) (uT 4 (bN 3 (dV 4))))))
def A0:DS:=(aA (AB 2 (MK (λρ=>(dV 1) ρ>>=λx=>(dC (.int 0)) ρ>>=λy=>lL x y) (λρ=>(dV 1) ρ>>=λx=>(dC (.int 0)) ρ>>=λy=>rK x y))) (aA (bN 3 (dA dm (aC (dV 1) aN))) (aA (λρ=>noex ((yd (cq (dV 3)) MF) ρ)) (uT 2 (bI (dV 2))))))
def ir:List D->M D:=b_ 7 (A0)
def Uq:DS:=(cM [6] (jQ (cT (d2 mS (d2 j3 (dV 2) (dV 6)) (dV 3))) (dO 4 (dV 6) (dC (.bl ψ))) eg))
def Up:DS:=(cM [5,6] (aA (dO 4 (dV 5) (dC (.bl ψ))) (dN (putN 6) (λρ=>(d2 eZ (dV 1) (dV 5)) ρ>>=g7) Uq)))
def CA:DS:=(aA (IU 4) (aA (λρ=>noex ((dN (putN 5) (rE (dV 0)) Up) ρ)) (uT 4 (bI (dA wA (aC (dA Jc (aC (dV 4) aN)) aN))))))
def gX:List D->M D:=b_ 7 (CA)
def va:DS:=(jQ (cZ (cq (aq 1 b6 (aC (dV 0) aN)))) (Q4 3 (aC (dC (.str "one of the letters a to f is asked for")) aN)) eg)
def f6:List D->M D:=b_ 1 (va)
def uu:DS:=(jQ (qS (cZ (cq (dA jw (aC (dV 0) (aC (dC (.raw (.ty "list"))) aN))))) (cZ (cq (dA allM (aC (bw 0 (cE (dV 0)) c6 (aq 1 b6 (aC (dV 0) aN))) aN))))) (Q4 3 (aC (dC (.str "a list of letters from a to f is asked for")) aN)) eg)
def eX:List D->M D:=b_ 1 (uu)
def uv:DS:=(aA (bN 3 (aq 1 eD (aC (dV 1) aN))) (aA (tV 4) (aA (λρ=>noex ((dN (putN 5) (λρ=>(aC (dA bG (aC (dV 0) aN)) aN) ρ>>=lW) (cM [5,6] (aA (bN 6 (aq 2 bK (aC (dV 0) (aC (dV 5) aN)))) (pj 4 (dM yP joinM (dC (.str "")) (aC (bw 0 (cE (dV 6)) c6 (Gv (cT (d2 (eI μ) (dV 0) (dV 4))) (dV 3) (aq 2 a7 (aC (dV 1) (aC (dV 0) aN))))) aN)))))) ρ)) (uT 4 (bI (dA wA (aC (dV 4) aN)))))))
def bh:List D->M D:=b_ 7 (uv)
def ur:DS:=(aA (bN 3 (aq 1 eY (aC (dV 2) aN))) (aA (IU 4) (aA (λρ=>noex ((AA 4 5 6 7 (cE (aq 1 c7 (aC (dV 0) aN))) (d2 eZ (dV 3) (dV 5)) (cE (aq 3 bL (aC (dV 0) (aC (dV 5) (aC (dV 1) aN))))) (cT (d2 qF (d2 eZ (dV 3) (dV 7)) (d2 eZ (dV 3) (dV 5)))) (d2 eZ (dV 3) (dV 7))) ρ)) (uT 4 (bI (dV 4))))))
def eW:List D->M D:=b_ 8 (ur)
def Vo:DS:=(cM [5] (dO 4 (dV 5) (bw 0 (cE (aq 3 bL (aC (dV 0) (aC (dV 5) (aC (dV 2) aN))))) (cT (d2 (eI μ) (dV 0) (dV 4))) (dV 0))))
def yH:DS:=(aA (bN 3 (aq 1 eD (aC (dV 1) aN))) (aA (tW 4) (aA (λρ=>noex ((dN (putN 5) (cE (dV 1)) Vo) ρ)) (uT 4 (bI (dV 4))))))
def gy:List D->M D:=b_ 6 (yH)
def TL:DS:=(cM [6,7] (jQ (Ct (cT (d2 (eI ψ) (dV 6) (dV 5)))) (aA (bN 7 (dA Dv (aC (aq 2 ir (aC (dV 3) (aC (dV 6) aN))) aN))) (aA (pj 4 (dV 7)) (FC 5 (aq 1 eD (aC (dV 7) aN))))) eg))
def CD:DS:=(aA (bN 3 (aq 3 gy (aC (dV 0) (aC (dV 1) (aC (dV 2) aN))))) (aA (tV 4) (aA (tW 5) (aA (λρ=>noex ((dN (putN 6) (cE (dV 1)) TL) ρ)) (uT 4 (bI (dV 4)))))))
def jt:List D->M D:=b_ 8 (CD)
def A6:DS:=(aA (eK (aq 1 aH (aC (dV 0) aN))) (aA (eK (aq 2 b8 (aC (dV 0) (aC (dV 1) aN)))) (bI (aq 2 a7 (aC (dV 0) (aC (dV 1) aN))))))
def b7:List D->M D:=b_ 2 (A6)
def FR:DS:=(aA (eK (aq 1 aH (aC (dV 0) aN))) (aA (bN 1 (dM yP joinM (dC (.str "")) (aC (dV 0) aN))) (bI (bw 0 (λρ=>(dC (.str "abcdef")) ρ>>=I8) (cT (d2 (uF μ) (dV 0) (dV 2))) (dA e7 (aC (dV 0) (aC (dM yP y7 (dV 2) (aC (dV 0) aN)) aN)))))))
def cb:List D->M D:=b_ 2 (FR)
def Sa:DS:=(cM [4,5] (jQ (Ct (cT (d2 (eI ψ) (dV 4) (dV 3)))) (aA (bN 5 (dA lZ (aC (aq 3 aK (aC (dV 0) (aC (dV 4) (aC (dV 1) aN)))) aN))) (aA (pj 2 (dV 5)) (FC 3 (aq 1 eD (aC (dV 5) aN))))) eg))
def u_:DS:=(aA (tV 2) (aA (tW 3) (aA (λρ=>noex ((dN (putN 4) (cE (aq 1 c7 (aC (dV 0) aN))) Sa) ρ)) (uT 2 (bI (dV 2))))))
def a9:List D->M D:=b_ 6 (u_)
def yJ:DS:=(aA (eK (aq 1 aH (aC (dV 0) aN))) (aA (eK (aq 2 b8 (aC (dV 0) (aC (dV 1) aN)))) (aA (eK (aq 1 bg (aC (dV 2) aN))) (eK (aq 1 f6 (aC (dV 3) aN))))))
def dS:List D->M D:=b_ 4 (yJ)
def pF:DS:=(aA (bN 4 (bw 0 (cE (dV 2)) (cT (d2 qF (dV 0) (dV 4))) (dV 0))) (bI (d2 MO (dA bG (aC (aq 3 jt (aC (dV 0) (aC (dV 4) (aC (dV 1) aN)))) aN)) (dC (.int 1)))))
def bW:List D->M D:=b_ 5 (pF)
def CB:DS:=(aA (eK (aq 1 aH (aC (dV 0) aN))) (aA (eK (aq 1 bg (aC (dV 1) aN))) (bI (dA bG (aC (aq 2 a9 (aC (dV 0) (aC (dV 1) aN))) aN)))))
def fR:List D->M D:=b_ 2 (CB)
def FT:DS:=(aA (eK (aq 4 dS (aC (dV 0) (aC (dV 1) (aC (dV 2) (aC (dV 3) aN)))))) (bI (aq 3 bh (aC (dV 0) (aC (aq 3 aK (aC (dV 0) (aC (dV 1) (aC (dV 2) aN)))) (aC (dV 3) aN))))))
def eN:List D->M D:=b_ 4 (FT)
def Jo:DS:=(aA (eK (aq 4 dS (aC (dV 0) (aC (dV 1) (aC (dV 2) (aC (dV 3) aN)))))) (aA (bN 4 (aq 3 bh (aC (dV 0) (aC (dA dm (aC (dV 1) aN)) (aC (dV 3) aN))))) (bI (d2 rU (dA bG (aC (aq 2 a9 (aC (dV 4) (aC (dV 2) aN))) aN)) (dA bG (aC (aq 2 a9 (aC (dV 0) (aC (dV 2) aN))) aN))))))
def el:List D->M D:=b_ 5 (Jo)
def Uo:DS:=(cM [3] (Fz 2 (bw 0 (cE (dV 3)) (cq (aq 4 bW (aC (dV 1) (aC (dV 2) (aC (dV 4) (aC (dV 0) aN)))))) (dV 0))))
def OD:DS:=(aA (eK (aq 1 aH (aC (dV 0) aN))) (aA (eK (aq 1 bg (aC (dV 1) aN))) (aA (tV 2) (aA (λρ=>noex ((dN (putN 3) (cE (aq 2 a9 (aC (dV 0) (aC (dV 1) aN)))) Uo) ρ)) (uT 2 (bI (dA Ls (aC (dV 2) aN))))))))
def jY:List D->M D:=b_ 4 (OD)
def pI:DS:=(aA (eK (aq 1 aH (aC (dV 0) aN))) (aA (eK (aq 1 bg (aC (dV 1) aN))) (aA (eK (aq 1 eX (aC (dV 2) aN))) (aA (bN 3 (dV 0)) (aA (λρ=>noex ((dN (putN 4) (cE (dV 2)) (cM [4] (bN 3 (aq 3 bh (aC (dV 3) (aC (aq 3 aK (aC (dV 3) (aC (dA e7 (aC (dC (.int 0)) (aC (dC (.int 0)) aN))) (aC (dV 1) aN)))) (aC (dV 4) aN))))))) ρ)) (bI (dV 3)))))))
def bF:List D->M D:=b_ 5 (pI)
def Sq:DS:=(cM [10,11] (aA (bN 11 (aq 4 gX (aC (dV 9) (aC (dV 3) (aC (dV 4) (aC (dV 10) aN)))))) (jQ (Ct (cT (d2 (eI ψ) (dV 11) (dV 6)))) (aA (dO 6 (dV 11) (Sd [8] (Pa (d2 zu (d2 eZ (dV 6) (dV 9)) (dA dm (aC (dV 10) aN)))))) (pj 8 (dV 11))) eg)))
def So:DS:=(cM [9,10,11] (dN (putN 10) (λρ=>(dC (.str "abcdef")) ρ>>=I8) Sq))
def Sn:DS:=(cM [8,9,10,11] (aA (tV 8) (aA (dN (putN 9) (cE (dV 7)) So) (uT 8 (bN 7 (dV 8))))))
def qR:DS:=(aA (eK (aq 1 aH (aC (dV 0) aN))) (aA (eK (aq 1 bg (aC (dV 1) aN))) (aA (bN 2 (aq 2 a9 (aC (dV 0) (aC (dV 1) aN)))) (aA (bN 3 (aq 3 eW (aC (dV 0) (aC (dV 1) (aC (dV 2) aN))))) (aA (bN 4 (bw 0 (cE (dV 2)) c6 (aq 2 a7 (aC (dV 1) (aC (d2 j3 (dV 0) (dC (.int 0))) aN))))) (aA (bN 5 (d1 wB (dA bG (aC (dV 2) aN)))) (aA (AB 6 (λρ=>(dA e7 (aC (dC (.int 0)) aN)) ρ>>=λx=>(dA dm aN) ρ>>=λy=>lL x y)) (aA (bN 7 (dA dm (aC (dA e7 (aC (dC (.int 0)) aN)) aN))) (aA (λρ=>noex ((yd (Ct (cT (d2 (eI ψ) (dV 5) (dV 6)))) Sn) ρ)) (uT 6 (bI (d2 eZ (dV 6) (dV 5)))))))))))))
def di:List D->M D:=b_ 12 (qR)
def Tw:DS:=(cM [7,8] (dO 5 (aq 3 bF (aC (dV 6) (aC (dV 1) (aC (dA dm (aC (dV 7) aN)) aN)))) (dC (.bl ψ))))
def Tv:DS:=(cM [6,7,8] (dN (v5 [7,8]) (cE (aq 1 cb (aC (dV 6) aN))) Tw))
def Tu:DS:=(cM [4,5,6,7,8] (aA (jQ (cT (d2 qF (bw 0 (cE (dV 3)) (cT (d2 mS (dA bG (aC (aq 1 cb (aC (dV 0) aN)) aN)) (dC (.int 1)))) (dV 0)) (dA dm aN))) (bI (dC (.bl ψ))) eg) (aA (tW 5) (aA (dN (putN 6) (cE (dV 3)) Tv) (uT 5 (bN 3 (dA AL (aC (dV 5) aN))))))))
def A5:DS:=(aA (bN 3 (dA dm (aC (dV 0) aN))) (aA (λρ=>noex ((dN (putN 4) (λρ=>(aC (d2 gk (dV 2) (dC (.int 1))) aN) ρ>>=lW) Tu) ρ)) (bI (dC (.bl μ)))))
def eM:List D->M D:=b_ 9 (A5)
def qr:DS:=(bN 1 (dA wA (aC (bw 0 (rE (JM (aq 3 eL (aC (dV 0) (aC (dC (.int 0)) (aC (dC (.int 5)) aN)))) oN (oS (dC (.int 3))))) c6 (JM (dV 0) oN (oS (dC (.int 3))))) aN)))
def qt:DS:=(bN 2 (aq 1 mO (aC (dV 1) aN)))
def qu:DS:=(bN 3 (d2 j3 (dV 2) (aq 3 aX (aC (dV 0) (aC (dC (.int 50)) (aC (dA bG (aC (dV 2) aN)) aN))))))
def qw:DS:=(bN 4 (d2 uG (dC (.str "abcf")) (aq 3 aX (aC (dV 0) (aC (dC (.int 51)) (aC (dC (.int 4)) aN))))))
def qx:DS:=(bN 5 (d2 j3 (dA dm (aC (dC (.int 4)) (aC (dC (.int 8)) aN))) (aq 3 aX (aC (dV 0) (aC (dC (.int 52)) (aC (dC (.int 2)) aN))))))
def qy:DS:=(bN 6 (aq 3 g0 (aC (dV 1) (aC (dV 3) (aC (dV 5) aN)))))
def qz:DS:=(bN 7 (aq 4 eN (aC (dV 1) (aC (dV 3) (aC (dV 5) (aC (dV 4) aN))))))
def qA:DS:=(λρ=>noex ((dN (putN 8) (cE (dV 2)) (cM [8,9] (aA (bN 9 (Gv (cT (d2 (qE μ) (dV 8) (dV 6))) (dV 4) (aq 2 b7 (aC (dV 1) (aC (dV 8) aN))))) (jQ (cT (d2 qF (aq 2 b7 (aC (dV 7) (aC (dV 8) aN))) (dV 9))) (bI (dC (.bl μ))) eg)))) ρ))
def qB:DS:=(jQ (cT (d2 qF (bw 0 (cE (dV 6)) (cZ (cq (aq 4 fQ (aC (dV 8) (aC (dV 6) (aC (dV 4) (aC (dV 0) aN))))))) (dV 0)) (dA dm aN))) (bI (dC (.bl μ))) eg)
def qC:DS:=(bN 10 (aq 2 b7 (aC (dV 1) (aC (dV 3) aN))))
def nR:DS:=(jQ (qS (cT (d2 qF (aq 4 eN (aC (dV 1) (aC (dV 3) (aC (dV 5) (aC (dV 10) aN))))) (dV 1))) (cT (d2 qF (aq 4 eN (aC (dV 7) (aC (dV 3) (aC (dV 5) (aC (dV 4) aN))))) (dV 7)))) (bI (dC (.bl μ))) eg)
def nS:DS:=(jQ (qS (cT (d2 MO (aq 2 fR (aC (dV 7) (aC (dV 5) aN))) (aq 2 fR (aC (dV 1) (aC (dV 5) aN))))) (cT (d2 qF (aq 4 el (aC (dV 1) (aC (dV 3) (aC (dV 5) (aC (dV 10) aN))))) (dC (.int 0))))) (bI (dC (.bl μ))) eg)
def nU:DS:=(jQ (Gs (cT (d2 (qE μ) (dV 3) (aq 2 jY (aC (dV 1) (aC (dV 5) aN))))) (cT (d2 Uz (aq 4 el (aC (dV 1) (aC (dV 3) (aC (dV 5) (aC (dC (.str "e")) aN))))) (dC (.int 2))))) (bI (dC (.bl μ))) eg)
def nV:DS:=(jQ (Gs (cT (d2 (qE ψ) (dV 3) (aq 2 jY (aC (dV 1) (aC (dV 5) aN))))) (cT (d2 MO (aq 4 el (aC (dV 1) (aC (dV 3) (aC (dV 5) (aC (dC (.str "e")) aN))))) (dC (.int 1))))) (bI (dC (.bl μ))) eg)
def nW:DS:=(bN 11 (aq 2 di (aC (dV 1) (aC (dV 5) aN))))
def nX:DS:=(jQ (cT (d2 qF (dA bG (aC (aq 1 cb (aC (aq 3 bF (aC (dV 1) (aC (dV 5) (aC (dV 11) aN)))) aN)) aN)) (dC (.int 1)))) (bI (dC (.bl μ))) eg)
def nY:DS:=(bI (EF (d2 mS (dV 11) (dA dm aN)) (CT (aq 3 eM (aC (dV 1) (aC (dV 5) (aC (d2 rU (dA bG (aC (dV 11) aN)) (dC (.int 1))) aN)))))))
def pG:DS:=(aA qr (aA qt (aA qu (aA qw (aA qx (aA qy (aA qz (aA qA (aA qB (aA qC (aA nR (aA nS (aA nU (aA nV (aA nW (aA nX nY))))))))))))))))
def k_:List D->M D:=b_ 12 pG
structure Bl (K:Ym) (mg:Str->Option Value) (base:Heap) (cv:Nat->Value) (cA:Nat->Addr) (Cp:Addr):Prop where
 len:mg "len"=ω
 isinstance:mg "isinstance"=ω
 all:mg "all"=ω
 abs:mg "abs"=ω
 max:mg "max"=ω
 min:mg "min"=ω
 range:mg "range"=ω
 str:mg "str"=ω
 int:mg "int"=ω
 bool:mg "bool"=ω
 tuple:mg "tuple"=ω
 list:mg "list"=ω
 sorted:mg "sorted"=ω
 enumerate:mg "enumerate"=ω
 LETTERS:∃t,mg "LETTERS"=θ (.str "abcdef" t)
 MOST_ROWS:∃t,mg "MOST_ROWS"=θ (.int 8 t)
 MOST_COLUMNS:∃t,mg "MOST_COLUMNS"=θ (.int 8 t)
section
variable{P:YM}{w:World}{K:Ym}{mg:Str->Option Value}{base:Heap}{cv:Nat->Value}{cA:Nat->Addr}{Cp:Addr}{f:Addr}
abbrev my:Stmt:=top 10
def sN:List Str:=["thing"]
def tf:List Str:=["thing"]
def mR{j k:Nat}{A:Y7}(r:Room k A)(h:j<=k:=by decide):Room j A:=r.mono h
def cK{N Q:List Str}{sc:Scope}(k:sc.kind= .function:=by rfl)(c:sc.isCoroutine=μ:=by rfl)(g:sc.isGenerator=μ:=by rfl)(p:N.take Q.length=Q:=by rfl)(h:N.Nodup/\(∀x∈Q,sc.names.lookup x=θ .local\/sc.names.lookup x=θ .cell)/\∀y∈sc.names,y.2≠ .free:=by decide+kernel):FnScope N Q sc:=⟨k,c,g,h.1,p,h.2.1,h.2.2⟩
def AG:FnScope sN tf (ah my):=cK
def z_(B:Bl K mg base cv cA Cp)(T:bo K mg "is_whole" my f):ak P w K mg base cv 1 "is_whole" 1 (bX):=
 az (N:=sN) (ps:=tf) T AG (λ_ _ _ _ _ _ us hl=>match us,hl with | [_],_=>rfl) λ_ _ _ _ _ _ hr=>
  (ar (aB (xP (mq rfl B.isinstance rfl (ab (ae (pv 0)) (ab (tF rfl B.int rfl) ag))) (xT (Ig (mq rfl B.isinstance rfl (ab (ae (pv 0)) (ab (tF rfl B.bool rfl) ag))))))))
abbrev kI:Stmt:=top 11
def pU:List Str:=["thing"]
def qa:List Str:=["thing"]
def yi:FnScope pU qa (ah kI):=cK
def xy(B:Bl K mg base cv cA Cp)(T:bo K mg "is_letter" kI f):ak P w K mg base cv 1 "is_letter" 1 (b6):=
 az (N:=pU) (ps:=qa) T yi (λ_ _ _ _ _ _ us hl=>match us,hl with | [_],_=>rfl) λ_ _ _ _ _ _ hr=>
  (ar (aB (xP (mq rfl B.isinstance rfl (ab (ae (pv 0)) (ab (tF rfl B.str rfl) ag))) (xP (Ah hr.units (cg rfl B.len (ab (ae (pv 0)) ag)) ax) (xT (NQ (ae (pv 0)) (xU rfl B.LETTERS (by decide))))))))
abbrev fk:Stmt:=top 20
def e9:List Str:=["board","row"]
def ku:List Str:=["board","row"]
def qO:FnScope e9 ku (ah fk):=cK
def qI(B:Bl K mg base cv cA Cp)(T:bo K mg "cells_of_row" fk f):ak P w K mg base cv 1 "cells_of_row" 2 (bK):=
 az (N:=e9) (ps:=ku) T qO (λ_ _ _ _ _ _ us hl=>match us,hl with | [_,_],_=>rfl) λ_ _ _ _ _ _ hr=>
  (ar (aB (dZ (tn:=["column"]) (n:=0) (bO (N:=e9) (osc:=(ah fk)) rfl rfl (by decide+kernel)) rfl rfl (fV rfl B.range (ab (cg rfl B.len (ab (de (ae (pv 0)) ax) ag)) ag)) (λ_ _ _ _ _ _ _=>cU (show Zq (((["column"]:List Str))++dj ["column"] e9) by decide+kernel) rfl rfl) (λ_ _ _ _ _ _=>fB) (λ_ _ _ _ _ _=>(iM (ab (ae (pv 2)) (ab (ae (pv 0)) ag)))))))
abbrev kL:Stmt:=top 22
def pX:List Str:=["board","cell"]
def qg:List Str:=["board","cell"]
def yk:FnScope pX qg (ah kL):=cK
def xE(B:Bl K mg base cv cA Cp)(T:bo K mg "letter_of" kL f):ak P w K mg base cv 1 "letter_of" 2 (a7):=
 az (N:=pX) (ps:=qg) T yk (λ_ _ _ _ _ _ us hl=>match us,hl with | [_,_],_=>rfl) λ_ _ _ _ _ _ hr=>
  (ar (aB (Ce (de (ae (pv 0)) (de (ae (pv 1)) ax)) (de (ae (pv 1)) ax))))
abbrev mv:Stmt:=top 23
def sJ:List Str:=["one","other","ways","down","along"]
def sZ:List Str:=["one","other","ways"]
def kP:FnScope sJ sZ (ah mv):=cK
def z6(B:Bl K mg base cv cA Cp)(T:bo K mg "are_next" mv f):ak P w K mg base cv 1 "are_next" 3 (eG):=
 az (N:=sJ) (ps:=sZ) T kP (λ_ _ _ _ _ _ us hl=>match us,hl with | [_,_,_],_=>rfl) λ_ _ _ _ _ _ hr=>
  (ai (aL kP.nd rfl (.inl rfl) (Ia rfl B.abs (ab (o4 (de (ae (pv 0)) ax) (de (ae (pv 1)) ax)) ag) rfl)) (ai (aL kP.nd rfl (.inl rfl) (Ia rfl B.abs (ab (o4 (de (ae (pv 0)) ax) (de (ae (pv 1)) ax)) ag) rfl)) (ai (bY (Ap hr.units (ae (pv 2)) ax) (ar (aB (Ah hr.units (dJ (ae (pv 3)) (ae (pv 4))) ax))) br) (ar (aB (Ah hr.units (Cf rfl rfl B.max rfl (ab (ae (pv 3)) (ab (ae (pv 4)) ag))) ax))))))
abbrev yg:Stmt:=top 25
def DH:List Str:=["things","found","thing"]
def DN:List Str:=["things"]
def tY:FnScope DH DN (ah yg):=cK
def HS(B:Bl K mg base cv cA Cp)(T:bo K mg "keyed" yg f):ak P w K mg base cv 1 "keyed" 1 (eD):=
 az (N:=DH) (ps:=DN) T tY (λ_ _ _ _ _ _ us hl=>match us,hl with | [_],_=>rfl) λ_ _ _ _ _ _ hr=>
  (ai (jc tY.nd rfl (.inl rfl)) (ai (cH (bx Yx rfl (DV (a_ (ae (pv 0))) (tG (ae (pv 0)))) (aY tY.nd rfl (.inl rfl)) bj (a6 (ar (fg hr.units (pv 1) (ae (pv 2)) fI))))) (ar (cG (i:=1) (aB (ae (pv 1)))))))
abbrev jH:Stmt:=top 35
def m_:List Str:=["found","numbers","number","patch","cell"]
def nG:List Str:=["found"]
def eA:FnScope m_ nG (ah jH):=cK
def uR(B:Bl K mg base cv cA Cp)(T:bo K mg "numbers_of" jH f):ak P w K mg base cv 1 "numbers_of" 1 (eY):=
 az (N:=m_) (ps:=nG) T eA (λ_ _ _ _ _ _ us hl=>match us,hl with | [_],_=>rfl) λ_ _ _ _ _ _ hr=>
  (ai (jc eA.nd rfl (.inl rfl)) (ai (cH (bx Yx rfl (Ii rfl B.enumerate (ab (ae (pv 0)) ag)) (Ir rfl (nK (aY eA.nd rfl (.inl rfl)) (nK (aY eA.nd rfl (.inl rfl)) DX))) (D8 (is:=[2,3])) (a6 (ar (bx Yx rfl (a_ (ae (pv 3))) (aY eA.nd rfl (.inl rfl)) bj (a6 (ar (fg hr.units (pv 1) (ae (pv 4)) (ae (pv 2)))))))))) (ar (cG (i:=1) (aB (ae (pv 1)))))))
abbrev kH:Stmt:=top 38
def pT:List Str:=["near","start","far","ring","further","thing","other"]
def p_:List Str:=["near","start"]
def dg:FnScope pT p_ (ah kH):=cK
def xx(B:Bl K mg base cv cA Cp)(T:bo K mg "distances" kH f):ak P w K mg base cv 1 "distances" 2 (ir):=
 az (N:=pT) (ps:=p_) T dg (λ_ _ _ _ _ _ us hl=>match us,hl with | [_,_],_=>rfl) λ_ _ _ _ _ _ hr=>
  (ai (tL dg.nd rfl (.inl rfl) (KZ (o5 hr.units (ae (pv 1)) ax) (Fs hr.units (ae (pv 1)) ax))) (ai (aL dg.nd rfl (.inl rfl) (fe (ab (ae (pv 1)) ag))) (ai (cH (o9 Yx (cO (ae (pv 3))) (a6 (ai (gB dg.nd rfl (.inl rfl)) (ai (bx Yx rfl (a_ (ae (pv 3))) (aY dg.nd rfl (.inl rfl)) bj (a6 (ar (bx Yx rfl (DV (a_ (iJ hr.units (ae (pv 0)) (ae (pv 5)))) (tG (iJ hr.units (ae (pv 0)) (ae (pv 5))))) (aY dg.nd rfl (.inl rfl)) bj (a6 (ar (bY (o6 (gM hr.units (ae (pv 6)) (ae (pv 2)))) (ai (fg hr.units (pv 2) (ae (pv 6)) (QN (dJ (iJ hr.units (ae (pv 2)) (ae (pv 5))) ax))) (ar (jC (pv 4) (ae (pv 6))))) br))))))) (ar (cG (i:=4) (aL dg.nd rfl (.inl rfl) (ae (pv 4)))))))))) (ar (cG (i:=2) (aB (ae (pv 2))))))))
abbrev mw:Stmt:=top 46
def sL:List Str:=["taken","near","signs","letter","more","number","other"]
def s8:List Str:=["taken","near","signs","letter"]
def iF:FnScope sL s8 (ah mw):=cK
def z7(B:Bl K mg base cv cA Cp)(T:bo K mg "drawn_in" mw f):ak P w K mg base cv 1 "drawn_in" 4 (gX):=
 az (N:=sL) (ps:=s8) T iF (λ_ _ _ _ _ _ us hl=>match us,hl with | [_,_,_,_],_=>rfl) λ_ _ _ _ _ _ hr=>
  (ai (An iF.nd rfl (.inl rfl)) (ai (cH (bx Yx rfl (q_ (ae (pv 0))) (aY iF.nd rfl (.inl rfl)) bj (a6 (ai (fg hr.units (pv 4) (ae (pv 5)) fI) (ar (bx Yx rfl (tG (iJ hr.units (ae (pv 1)) (ae (pv 5)))) (aY iF.nd rfl (.inl rfl)) bj (a6 (ar (bY (Ap hr.units (tw (ae (pv 2)) (ae (pv 6))) (ae (pv 3))) (ar (fg hr.units (pv 4) (ae (pv 6)) fI)) br))))))))) (ar (cG (i:=4) (aB (tE rfl B.tuple rfl (ab (KY rfl rfl B.sorted rfl (ab (ae (pv 4)) ag)) ag)))))))
abbrev mz:Stmt:=top 53
def sO:List Str:=["_law_script","_law_k"]
def tj:List Str:=["_law_script","_law_k"]
def AH:FnScope sO tj (ah mz):=cK
def Aa(B:Bl K mg base cv cA Cp)(T:bo K mg "_law_cell" mz f):ak P w K mg base cv 1 "_law_cell" 2 (gZ):=
 az (N:=sO) (ps:=tj) T AH (λ_ _ _ _ _ _ us hl=>match us,hl with | [_,_],_=>rfl) λ_ _ _ _ _ _ hr=>
  (ai (bY (Ap hr.units (ae (pv 0)) (fe ag)) (ar (aB (mr ax (ae (pv 1))))) br) (ar (aB (dJ (NR (ae (pv 0)) (o3 (ae (pv 1)) (cg rfl B.len (ab (ae (pv 0)) ag)))) (mr ax (xR (ae (pv 1)) (cg rfl B.len (ab (ae (pv 0)) ag))))))))
abbrev nN:Stmt:=top 12
def m6:List Str:=["thing"]
def Ag:List Str:=["thing"]
def FD:FnScope m6 Ag (ah nN):=cK
def Ff(B:Bl K mg base cv cA Cp)(gi:ak P w K mg base cv 1 "is_letter" 1 b6)(T:bo K mg "is_row" nN f):ak P w K mg base cv 2 "is_row" 1 (gY):=
 az (N:=m6) (ps:=Ag) T FD (λ_ _ _ _ _ _ us hl=>match us,hl with | [_],_=>rfl) λ_ _ _ _ _ _ hr=>
  (ai (bY (PDW.t (kB (df (cO (mq rfl B.isinstance rfl (ab (ae (pv 0)) (ab (tF rfl B.str rfl) ag))))) (iC (df (Iz vR vR ax (cg rfl B.len (ab (ae (pv 0)) ag)) (DQ rfl B.MOST_COLUMNS)))))) (ar (aB fI)) br) (ar (aB (xO rfl rfl B.all rfl (ab (dZ (tn:=["sign"]) (n:=0) (bO (N:=m6) (osc:=(ah nN)) rfl rfl (by decide+kernel)) rfl rfl (xV (ae (pv 0))) (λ_ _ _ _ _ _ _=>cU (show Zq (((["sign"]:List Str))++dj ["sign"] m6) by decide+kernel) rfl rfl) (λ_ _ _ _ _ _=>fB) (λ_ _ _ _ _ _=>(aM gi (mR hr) rfl cI (ab (ae (pv 0)) ag) rfl))) ag)))))
abbrev pq:Stmt:=top 14
def vO:List Str:=["board","thing"]
def vV:List Str:=["board","thing"]
def Ck:FnScope vO vV (ah pq):=cK
def B9(B:Bl K mg base cv cA Cp)(jm:ak P w K mg base cv 1 "is_whole" 1 bX)(T:bo K mg "is_cell" pq f):ak P w K mg base cv 2 "is_cell" 2 (k9):=
 az (N:=vO) (ps:=vV) T Ck (λ_ _ _ _ _ _ us hl=>match us,hl with | [_,_],_=>rfl) λ_ _ _ _ _ _ hr=>
  (ai (bY (PDW.t (kB (df (cO (mq rfl B.isinstance rfl (ab (ae (pv 1)) (ab (tF rfl B.tuple rfl) ag))))) (iC (lV hr.units (cg rfl B.len (ab (ae (pv 1)) ag)) ax)))) (ar (aB fI)) br) (ai (bY (PDW.t (kB (df (cO (aM jm (mR hr) rfl aG (ab (de (ae (pv 1)) ax) ag) rfl))) (iC (df (cO (aM jm (mR hr) rfl aG (ab (de (ae (pv 1)) ax) ag) rfl)))))) (ar (aB fI)) br) (ar (aB (xP (Ib vR HX ax (de (ae (pv 1)) ax) (cg rfl B.len (ab (ae (pv 0)) ag))) (xT (Ib vR HX ax (de (ae (pv 1)) ax) (cg rfl B.len (ab (de (ae (pv 0)) ax) ag)))))))))
abbrev iP:Stmt:=top 17
def lP:List Str:=["thing"]
def lU:List Str:=["thing"]
def t6:FnScope lP lU (ah iP):=cK
def sY(B:Bl K mg base cv cA Cp)(gi:ak P w K mg base cv 1 "is_letter" 1 b6)(T:bo K mg "need_letter" iP f):ak P w K mg base cv 2 "need_letter" 1 (f6):=
 az (N:=lP) (ps:=lU) T t6 (λ_ _ _ _ _ _ us hl=>match us,hl with | [_],_=>rfl) λ_ _ _ _ _ _ hr=>
  (ar (bY (df (cO (aM gi (mR hr) rfl aG (ab (ae (pv 0)) ag) rfl))) (ar jd) br))
abbrev fm:Stmt:=top 18
def e_:List Str:=["thing"]
def ky:List Str:=["thing"]
def qP:FnScope e_ ky (ah fm):=cK
def qK(B:Bl K mg base cv cA Cp)(gi:ak P w K mg base cv 1 "is_letter" 1 b6)(T:bo K mg "need_letters" fm f):ak P w K mg base cv 2 "need_letters" 1 (eX):=
 az (N:=e_) (ps:=ky) T qP (λ_ _ _ _ _ _ us hl=>match us,hl with | [_],_=>rfl) λ_ _ _ _ _ _ hr=>
  (ar (bY (PDW.t (kB (df (cO (mq rfl B.isinstance rfl (ab (ae (pv 0)) (ab (tF rfl B.list rfl) ag))))) (iC (df (cO (xO rfl rfl B.all rfl (ab (dZ (tn:=["part"]) (n:=0) (bO (N:=e_) (osc:=(ah fm)) rfl rfl (by decide+kernel)) rfl rfl (a_ (ae (pv 0))) (λ_ _ _ _ _ _ _=>cU (show Zq (((["part"]:List Str))++dj ["part"] e_) by decide+kernel) rfl rfl) (λ_ _ _ _ _ _=>fB) (λ_ _ _ _ _ _=>(aM gi (mR hr) rfl cI (ab (ae (pv 0)) ag) rfl))) ag))))))) (ar jd) br))
abbrev kO:Stmt:=top 19
def pZ:List Str:=["thing"]
def qi:List Str:=["thing"]
def ym:FnScope pZ qi (ah kO):=cK
def xG(B:Bl K mg base cv cA Cp)(jm:ak P w K mg base cv 1 "is_whole" 1 bX)(T:bo K mg "need_ways" kO f):ak P w K mg base cv 2 "need_ways" 1 (bg):=
 az (N:=pZ) (ps:=qi) T ym (λ_ _ _ _ _ _ us hl=>match us,hl with | [_],_=>rfl) λ_ _ _ _ _ _ hr=>
  (ar (bY (PDW.t (kB (df (cO (aM jm (mR hr) rfl aG (ab (ae (pv 0)) ag) rfl))) (iC (Fw (ae (pv 0)) (iM (ab ax (ab ax ag))))))) (ar jd) br))
abbrev kG:Stmt:=top 21
def pS:List Str:=["board","found","row"]
def p9:List Str:=["board"]
def jJ:FnScope pS p9 (ah kG):=cK
def xu(B:Bl K mg base cv cA Cp)(gQ:ak P w K mg base cv 1 "cells_of_row" 2 bK)(T:bo K mg "all_cells" kG f):ak P w K mg base cv 2 "all_cells" 1 (c7):=
 az (N:=pS) (ps:=p9) T jJ (λ_ _ _ _ _ _ us hl=>match us,hl with | [_],_=>rfl) λ_ _ _ _ _ _ hr=>
  (ai (gB jJ.nd rfl (.inl rfl)) (ai (cH (bx Yx rfl (fV rfl B.range (ab (cg rfl B.len (ab (ae (pv 0)) ag)) ag)) (aY jJ.nd rfl (.inl rfl)) bj (a6 (ar (D1 (pv 1) (aM gQ (mR hr) rfl cI (ab (ae (pv 0)) (ab (ae (pv 2)) ag)) rfl)))))) (ar (cG (i:=1) (aB (ae (pv 1)))))))
abbrev jG:Stmt:=top 24
def m9:List Str:=["board","cell","ways","found","row","column"]
def nE:List Str:=["board","cell","ways"]
def gg:FnScope m9 nE (ah jG):=cK
def uQ(B:Bl K mg base cv cA Cp)(Bh:ak P w K mg base cv 1 "are_next" 3 eG)(T:bo K mg "next_cells" jG f):ak P w K mg base cv 2 "next_cells" 3 (bL):=
 az (N:=m9) (ps:=nE) T gg (λ_ _ _ _ _ _ us hl=>match us,hl with | [_,_,_],_=>rfl) λ_ _ _ _ _ _ hr=>
  (ai (gB gg.nd rfl (.inl rfl)) (ai (cH (bx Yx rfl (tH rfl B.range (ab (Cf rfl rfl B.max rfl (ab (o4 (de (ae (pv 1)) ax) ax) (ab ax ag))) (ab (Ie rfl rfl B.min rfl (ab (dJ (de (ae (pv 1)) ax) ax) (ab (cg rfl B.len (ab (ae (pv 0)) ag)) ag))) ag))) (aY gg.nd rfl (.inl rfl)) bj (a6 (ar (bx Yx rfl (tH rfl B.range (ab (Cf rfl rfl B.max rfl (ab (o4 (de (ae (pv 1)) ax) ax) (ab ax ag))) (ab (Ie rfl rfl B.min rfl (ab (dJ (de (ae (pv 1)) ax) ax) (ab (cg rfl B.len (ab (de (ae (pv 0)) ax) ag)) ag))) ag))) (aY gg.nd rfl (.inl rfl)) bj (a6 (ar (bY (cO (aM Bh (mR hr) rfl cI (ab (ae (pv 1)) (ab (iM (ab (ae (pv 4)) (ab (ae (pv 5)) ag))) (ab (ae (pv 2)) ag))) rfl)) (ar (jC (pv 3) (iM (ab (ae (pv 4)) (ab (ae (pv 5)) ag))))) br)))))))) (ar (cG (i:=3) (aB (ae (pv 3)))))))
abbrev fq:Stmt:=top 26
def fb:List Str:=["board","some","letter","marked","told","row","places"]
def kz:List Str:=["board","some","letter"]
def du:FnScope fb kz (ah fq):=cK
def qL(B:Bl K mg base cv cA Cp)(jo:ak P w K mg base cv 1 "keyed" 1 eD)(gQ:ak P w K mg base cv 1 "cells_of_row" 2 bK)(c0:ak P w K mg base cv 1 "letter_of" 2 a7)(T:bo K mg "with_letters" fq f):ak P w K mg base cv 2 "with_letters" 3 (bh):=
 az (N:=fb) (ps:=kz) T du (λ_ _ _ _ _ _ us hl=>match us,hl with | [_,_,_],_=>rfl) λ_ _ _ _ _ _ hr=>
  (ai (aL du.nd rfl (.inr rfl) (aM jo (mR hr) rfl aG (ab (ae (pv 1)) ag) rfl)) (ai (gB du.nd rfl (.inl rfl)) (ai (cH (bx Yx rfl (fV rfl B.range (ab (cg rfl B.len (ab (ae (pv 0)) ag)) ag)) (aY du.nd rfl (.inl rfl)) bj (a6 (ai (aL du.nd rfl (.inl rfl) (aM gQ (mR hr) rfl cI (ab (ae (pv 0)) (ab (ae (pv 5)) ag)) rfl)) (ar (jC (pv 4) (xS iL (ab (dZ (tn:=["cell"]) (n:=0) (bO (N:=fb) (osc:=(ah fq)) rfl rfl (by decide+kernel)) rfl rfl (a_ (ae (pv 6))) (λ_ _ _ _ _ _ _=>cU (show Zq (((["cell"]:List Str))++dj ["cell"] fb) by decide+kernel) rfl rfl) (λ_ _ _ _ _ _=>fB) (λ_ _ _ _ _ _=>(Me (IB hr.units (ae (pv 0)) (ae (pv 4))) (ae (pv 3)) (aM c0 (mR hr) rfl cI (ab (ae (pv 1)) (ab (ae (pv 0)) ag)) rfl)))) ag)))))))) (ar (cG (i:=4) (aB (tE rfl B.tuple rfl (ab (ae (pv 4)) ag))))))))
abbrev kJ:Stmt:=top 54
def pV:List Str:=["_law_script","_law_k","_law_many","_law_cell_here"]
def qc:List Str:=["_law_script","_law_k","_law_many"]
def jK:FnScope pV qc (ah kJ):=cK
def xB(B:Bl K mg base cv cA Cp)(Bm:ak P w K mg base cv 1 "_law_cell" 2 gZ)(T:bo K mg "_law_drawn" kJ f):ak P w K mg base cv 2 "_law_drawn" 3 (aX):=
 az (N:=pV) (ps:=qc) T jK (λ_ _ _ _ _ _ us hl=>match us,hl with | [_,_,_],_=>rfl) λ_ _ _ _ _ _ hr=>
  (ai (aL jK.nd rfl (.inl rfl) (o3 (dJ (mr (o3 (aM Bm (mR hr) rfl aG (ab (ae (pv 0)) (ab (ae (pv 1)) ag)) rfl) ax) ax) (mr ax (dJ (ae (pv 1)) ax))) ax)) (ai (aL jK.nd rfl (.inl rfl) (o3 (dJ (mr (ae (pv 3)) (ae (pv 3))) (xR (ae (pv 3)) ax)) ax)) (ar (aB (o3 (xR (o3 (dJ (mr (ae (pv 3)) (ae (pv 3))) (xR (ae (pv 3)) ax)) ax) ax) (ae (pv 2)))))))
abbrev ib:Stmt:=top 13
def fU:List Str:=["thing"]
def s_:List Str:=["thing"]
def AF:FnScope fU s_ (ah ib):=cK
def z9(B:Bl K mg base cv cA Cp)(Gf:ak P w K mg base cv 2 "is_row" 1 gY)(T:bo K mg "is_board" ib f):ak P w K mg base cv 3 "is_board" 1 (js):=
 az (N:=fU) (ps:=s_) T AF (λ_ _ _ _ _ _ us hl=>match us,hl with | [_],_=>rfl) λ_ _ _ _ _ _ hr=>
  (ai (bY (PDW.t (kB (df (cO (mq rfl B.isinstance rfl (ab (ae (pv 0)) (ab (tF rfl B.tuple rfl) ag))))) (iC (df (Iz vR vR ax (cg rfl B.len (ab (ae (pv 0)) ag)) (DQ rfl B.MOST_ROWS)))))) (ar (aB fI)) br) (ai (bY (df (cO (xO rfl rfl B.all rfl (ab (dZ (tn:=["row"]) (n:=0) (bO (N:=fU) (osc:=(ah ib)) rfl rfl (by decide+kernel)) rfl rfl (q_ (ae (pv 0))) (λ_ _ _ _ _ _ _=>cU (show Zq (((["row"]:List Str))++dj ["row"] fU) by decide+kernel) rfl rfl) (λ_ _ _ _ _ _=>fB) (λ_ _ _ _ _ _=>(aM Gf (mR hr) rfl cI (ab (ae (pv 0)) ag) rfl))) ag)))) (ar (aB fI)) br) (ar (aB (xO rfl rfl B.all rfl (ab (dZ (tn:=["row"]) (n:=0) (bO (N:=fU) (osc:=(ah ib)) rfl rfl (by decide+kernel)) rfl rfl (q_ (ae (pv 0))) (λ_ _ _ _ _ _ _=>cU (show Zq (((["row"]:List Str))++dj ["row"] fU) by decide+kernel) rfl rfl) (λ_ _ _ _ _ _=>fB) (λ_ _ _ _ _ _=>(Ah hr.units (cg rfl B.len (ab (ae (pv 0)) ag)) (cg rfl B.len (ab (de (ae (pv 1)) ax) ag))))) ag))))))
abbrev kM:Stmt:=top 16
def pY:List Str:=["board","thing"]
def qh:List Str:=["board","thing"]
def yl:FnScope pY qh (ah kM):=cK
def xF(B:Bl K mg base cv cA Cp)(Eu:ak P w K mg base cv 2 "is_cell" 2 k9)(T:bo K mg "need_cell" kM f):ak P w K mg base cv 3 "need_cell" 2 (b8):=
 az (N:=pY) (ps:=qh) T yl (λ_ _ _ _ _ _ us hl=>match us,hl with | [_,_],_=>rfl) λ_ _ _ _ _ _ hr=>
  (ar (bY (df (cO (aM Eu (mR hr) rfl aG (ab (ae (pv 0)) (ab (ae (pv 1)) ag)) rfl))) (ar jd) br))
abbrev gE:Stmt:=top 32
def gz:List Str:=["board","cell","ways","letter"]
def ny:List Str:=["board","cell","ways"]
def lX:FnScope gz ny (ah gE):=cK
def uM(B:Bl K mg base cv cA Cp)(c0:ak P w K mg base cv 1 "letter_of" 2 a7)(eV:ak P w K mg base cv 2 "next_cells" 3 bL)(T:bo K mg "like_cells" gE f):ak P w K mg base cv 3 "like_cells" 3 (c8):=
 az (N:=gz) (ps:=ny) T lX (λ_ _ _ _ _ _ us hl=>match us,hl with | [_,_,_],_=>rfl) λ_ _ _ _ _ _ hr=>
  (ai (aL lX.nd rfl (.inr rfl) (aM c0 (mR hr) rfl aG (ab (ae (pv 0)) (ab (ae (pv 1)) ag)) rfl)) (ar (aB (dZ (tn:=["near"]) (n:=0) (bO (N:=gz) (osc:=(ah gE)) rfl rfl (by decide+kernel)) rfl rfl (a_ (aM eV (mR hr) rfl aG (ab (ae (pv 0)) (ab (ae (pv 1)) (ab (ae (pv 2)) ag))) rfl)) (λ_ _ _ _ _ _ _=>cU (show Zq (((["near"]:List Str))++dj ["near"] gz) by decide+kernel) rfl rfl) (λ_ _ _ _ _ _=>(ij (Ap hr.units (aM c0 (mR hr) rfl cI (ab (ae (pv 1)) (ab (ae (pv 0)) ag)) rfl) (ae (pv 4))))) (λ_ _ _ _ _ _=>(ae (pv 0)))))))
abbrev ie:Stmt:=top 36
def kf:List Str:=["board","ways","found","numbers","near","cell","mine","other"]
def kx:List Str:=["board","ways","found"]
def cN:FnScope kf kx (ah ie):=cK
def qJ(B:Bl K mg base cv cA Cp)(wO:ak P w K mg base cv 1 "numbers_of" 1 eY)(gh:ak P w K mg base cv 2 "all_cells" 1 c7)(eV:ak P w K mg base cv 2 "next_cells" 3 bL)(T:bo K mg "near_numbers" ie f):ak P w K mg base cv 3 "near_numbers" 3 (eW):=
 az (N:=kf) (ps:=kx) T cN (λ_ _ _ _ _ _ us hl=>match us,hl with | [_,_,_],_=>rfl) λ_ _ _ _ _ _ hr=>
  (ai (aL cN.nd rfl (.inl rfl) (aM wO (mR hr) rfl aG (ab (ae (pv 2)) ag) rfl)) (ai (An cN.nd rfl (.inl rfl)) (ai (cH (Iy Yx rfl hr.units (a_ (aM gh (mR hr) rfl cI (ab (ae (pv 0)) ag) rfl)) (aY cN.nd rfl (.inl rfl)) (pv 4) (iJ hr.units (ae (pv 3)) (ae (pv 5))) ⟨rfl,rfl,rfl,rfl⟩ (aY cN.nd rfl (.inl rfl)) (a_ (aM eV (mR hr) rfl cI (ab (ae (pv 0)) (ab (ae (pv 5)) (ab (ae (pv 1)) ag))) rfl)) (aY cN.nd rfl (.inl rfl)) (lV hr.units (iJ hr.units (ae (pv 3)) (ae (pv 7))) (iJ hr.units (ae (pv 3)) (ae (pv 5)))) (pv 6) (iJ hr.units (ae (pv 3)) (ae (pv 7))))) (ar (cG (i:=4) (aB (ae (pv 4))))))))
abbrev gG:Stmt:=top 37
def gA:List Str:=["board","some","ways","among","near","cell"]
def nz:List Str:=["board","some","ways"]
def gc:FnScope gA nz (ah gG):=cK
def uN(B:Bl K mg base cv cA Cp)(jo:ak P w K mg base cv 1 "keyed" 1 eD)(eV:ak P w K mg base cv 2 "next_cells" 3 bL)(T:bo K mg "near_among" gG f):ak P w K mg base cv 3 "near_among" 3 (gy):=
 az (N:=gA) (ps:=nz) T gc (λ_ _ _ _ _ _ us hl=>match us,hl with | [_,_,_],_=>rfl) λ_ _ _ _ _ _ hr=>
  (ai (aL gc.nd rfl (.inr rfl) (aM jo (mR hr) rfl aG (ab (ae (pv 1)) ag) rfl)) (ai (jc gc.nd rfl (.inl rfl)) (ai (cH (bx Yx rfl (a_ (ae (pv 1))) (aY gc.nd rfl (.inl rfl)) bj (a6 (ar (fg hr.units (pv 4) (ae (pv 5)) (dZ (tn:=["other"]) (n:=0) (bO (N:=gA) (osc:=(ah gG)) rfl rfl (by decide+kernel)) rfl rfl (a_ (aM eV (mR hr) rfl cI (ab (ae (pv 0)) (ab (ae (pv 5)) (ab (ae (pv 2)) ag))) rfl)) (λ_ _ _ _ _ _ _=>cU (show Zq (((["other"]:List Str))++dj ["other"] gA) by decide+kernel) rfl rfl) (λ_ _ _ _ _ _=>(ij (IB hr.units (ae (pv 0)) (ae (pv 4))))) (λ_ _ _ _ _ _=>(ae (pv 0))))))))) (ar (cG (i:=4) (aB (ae (pv 4))))))))
abbrev iD:Stmt:=top 55
def iy:List Str:=["_law_script","_law_at","_law_most","_law_rows","_law_wide","_law_alphabet","_law_found","_law_row","_law_signs"]
def qb:List Str:=["_law_script","_law_at","_law_most"]
def cP:FnScope iy qb (ah iD):=cK
def xA(B:Bl K mg base cv cA Cp)(bu:ak P w K mg base cv 2 "_law_drawn" 3 aX)(T:bo K mg "_law_board" iD f):ak P w K mg base cv 3 "_law_board" 3 (eL):=
 az (N:=iy) (ps:=qb) T cP (λ_ _ _ _ _ _ us hl=>match us,hl with | [_,_,_],_=>rfl) λ_ _ _ _ _ _ hr=>
  (ai (aL cP.nd rfl (.inl rfl) (dJ ax (aM bu (mR hr) rfl aG (ab (ae (pv 0)) (ab (ae (pv 1)) (ab (ae (pv 2)) ag))) rfl))) (ai (aL cP.nd rfl (.inl rfl) (dJ ax (aM bu (mR hr) rfl aG (ab (ae (pv 0)) (ab (dJ (ae (pv 1)) ax) (ab (ae (pv 2)) ag))) rfl))) (ai (aL cP.nd rfl (.inr rfl) (tw (fe (ab iL (ab iL (ab iL (ab iL ag))))) (aM bu (mR hr) rfl aG (ab (ae (pv 0)) (ab (dJ (ae (pv 1)) ax) (ab ax ag))) rfl))) (ai (aL cP.nd rfl (.inl rfl) (iM ag)) (ai (cH (bx Yx rfl (fV rfl B.range (ab (ae (pv 3)) ag)) (aY cP.nd rfl (.inr rfl)) bj (a6 (ai (kC (tn:=["_law_k"]) (n:=0) cP.nd rfl (.inl rfl) (bO (N:=iy) (osc:=(ah iD)) rfl rfl (by decide+kernel)) rfl rfl (fV rfl B.range (ab (ae (pv 4)) ag)) (λ_ _ _ _ _ _ _=>cU (show Zq (((["_law_k"]:List Str))++dj ["_law_k"] iy) by decide+kernel) rfl rfl) (λ_ _ _ _ _ _=>fB) (λ_ _ _ _ _ _=>(Ce (ae (pv 6)) (aM bu (mR hr) rfl cI (ab (ae (pv 1)) (ab (dJ (dJ (dJ (ae (pv 2)) ax) (mr ax (ae (pv 8)))) (ae (pv 0))) (ab (cg rfl B.len (ab (ae (pv 6)) ag)) ag))) rfl)))) (ar (aL cP.nd rfl (.inl rfl) (KU (ae (pv 6)) (iM (ab (xS iL (ab (ae (pv 8)) ag)) ag))))))))) (ar (aB (ae (pv 6)))))))))
abbrev jE:Stmt:=top 15
def m7:List Str:=["thing"]
def nA:List Str:=["thing"]
def uU:FnScope m7 nA (ah jE):=cK
def uO(B:Bl K mg base cv cA Cp)(Bj:ak P w K mg base cv 3 "is_board" 1 js)(T:bo K mg "need_board" jE f):ak P w K mg base cv 4 "need_board" 1 (aH):=
 az (N:=m7) (ps:=nA) T uU (λ_ _ _ _ _ _ us hl=>match us,hl with | [_],_=>rfl) λ_ _ _ _ _ _ hr=>
  (ar (bY (df (cO (aM Bj (mR hr) rfl aG (ab (ae (pv 0)) ag) rfl))) (ar jd) br))
abbrev jI:Stmt:=top 33
def ng:List Str:=["board","start","ways","back","ring","further","cell","near"]
def nH:List Str:=["board","start","ways"]
def cS:FnScope ng nH (ah jI):=cK
def uS(B:Bl K mg base cv cA Cp)(wM:ak P w K mg base cv 3 "like_cells" 3 c8)(T:bo K mg "steps_back" jI f):ak P w K mg base cv 4 "steps_back" 3 (aK):=
 az (N:=ng) (ps:=nH) T cS (λ_ _ _ _ _ _ us hl=>match us,hl with | [_,_,_],_=>rfl) λ_ _ _ _ _ _ hr=>
  (ai (tL cS.nd rfl (.inl rfl) (o5 hr.units (ae (pv 1)) NS)) (ai (aL cS.nd rfl (.inl rfl) (fe (ab (ae (pv 1)) ag))) (ai (cH (o9 Yx (cO (ae (pv 4))) (a6 (ai (gB cS.nd rfl (.inl rfl)) (ai (bx Yx rfl (a_ (ae (pv 4))) (aY cS.nd rfl (.inl rfl)) bj (a6 (ar (bx Yx rfl (a_ (aM wM (mR hr) rfl cI (ab (ae (pv 0)) (ab (ae (pv 6)) (ab (ae (pv 2)) ag))) rfl)) (aY cS.nd rfl (.inl rfl)) bj (a6 (ar (bY (o6 (gM hr.units (ae (pv 7)) (ae (pv 3)))) (ai (fg hr.units (pv 3) (ae (pv 7)) (ae (pv 6))) (ar (jC (pv 5) (ae (pv 7))))) br))))))) (ar (cG (i:=5) (aL cS.nd rfl (.inl rfl) (ae (pv 5)))))))))) (ar (cG (i:=3) (aB (ae (pv 3))))))))
abbrev mB:Stmt:=top 39
def sP:List Str:=["board","some","ways","near","parts","seen","cell","part"]
def tm:List Str:=["board","some","ways"]
def eS:FnScope sP tm (ah mB):=cK
def Ab(B:Bl K mg base cv cA Cp)(wN:ak P w K mg base cv 3 "near_among" 3 gy)(yY:ak P w K mg base cv 1 "distances" 2 ir)(jo:ak P w K mg base cv 1 "keyed" 1 eD)(T:bo K mg "parts_of" mB f):ak P w K mg base cv 4 "parts_of" 3 (jt):=
 az (N:=sP) (ps:=tm) T eS (λ_ _ _ _ _ _ us hl=>match us,hl with | [_,_,_],_=>rfl) λ_ _ _ _ _ _ hr=>
  (ai (aL eS.nd rfl (.inl rfl) (aM wN (mR hr) rfl aG (ab (ae (pv 0)) (ab (ae (pv 1)) (ab (ae (pv 2)) ag))) rfl)) (ai (gB eS.nd rfl (.inl rfl)) (ai (jc eS.nd rfl (.inl rfl)) (ai (cH (bx Yx rfl (a_ (ae (pv 1))) (aY eS.nd rfl (.inl rfl)) bj (a6 (ar (bY (o6 (gM hr.units (ae (pv 6)) (ae (pv 5)))) (ai (aL eS.nd rfl (.inl rfl) (Ic rfl rfl B.list rfl (ab (aM yY (mR hr) rfl cI (ab (ae (pv 3)) (ab (ae (pv 6)) ag)) rfl) ag))) (ai (jC (pv 4) (ae (pv 7))) (ar (D2 hr.units (pv 5) (aM jo (mR hr) rfl cI (ab (ae (pv 7)) ag) rfl) ⟨rfl,rfl,rfl,rfl⟩)))) br))))) (ar (cG (i:=4) (aB (ae (pv 4)))))))))
abbrev ye:Stmt:=top 27
def DG:List Str:=["board"]
def DM:List Str:=["board"]
def IV:FnScope DG DM (ah ye):=cK
def HR(B:Bl K mg base cv cA Cp)(aQ:ak P w K mg base cv 4 "need_board" 1 aH)(gh:ak P w K mg base cv 2 "all_cells" 1 c7)(T:bo K mg "cells" ye f):ak P w K mg base cv 5 "cells" 1 (mO):=
 az (N:=DG) (ps:=DM) T IV (λ_ _ _ _ _ _ us hl=>match us,hl with | [_],_=>rfl) λ_ _ _ _ _ _ hr=>
  (ai (bq (aM aQ (mR hr) rfl aG (ab (ae (pv 0)) ag) rfl)) (ar (aB (aM gh (mR hr) rfl aG (ab (ae (pv 0)) ag) rfl))))
abbrev kK:Stmt:=top 28
def pW:List Str:=["board","cell"]
def qf:List Str:=["board","cell"]
def yj:FnScope pW qf (ah kK):=cK
def xD(B:Bl K mg base cv cA Cp)(aQ:ak P w K mg base cv 4 "need_board" 1 aH)(c5:ak P w K mg base cv 3 "need_cell" 2 b8)(c0:ak P w K mg base cv 1 "letter_of" 2 a7)(T:bo K mg "letter_at" kK f):ak P w K mg base cv 5 "letter_at" 2 (b7):=
 az (N:=pW) (ps:=qf) T yj (λ_ _ _ _ _ _ us hl=>match us,hl with | [_,_],_=>rfl) λ_ _ _ _ _ _ hr=>
  (ai (bq (aM aQ (mR hr) rfl aG (ab (ae (pv 0)) ag) rfl)) (ai (bq (aM c5 (mR hr) rfl aG (ab (ae (pv 0)) (ab (ae (pv 1)) ag)) rfl)) (ar (aB (aM c0 (mR hr) rfl aG (ab (ae (pv 0)) (ab (ae (pv 1)) ag)) rfl)))))
abbrev lB:Stmt:=top 29
def lu:List Str:=["board","signs"]
def vW:List Str:=["board"]
def tZ:FnScope lu vW (ah lB):=cK
def B_(B:Bl K mg base cv cA Cp)(aQ:ak P w K mg base cv 4 "need_board" 1 aH)(T:bo K mg "letters" lB f):ak P w K mg base cv 5 "letters" 1 (cb):=
 az (N:=lu) (ps:=vW) T tZ (λ_ _ _ _ _ _ us hl=>match us,hl with | [_],_=>rfl) λ_ _ _ _ _ _ hr=>
  (ai (bq (aM aQ (mR hr) rfl aG (ab (ae (pv 0)) ag) rfl)) (ai (aL tZ.nd rfl (.inr rfl) (xS iL (ab (ae (pv 0)) ag))) (ar (aB (dZ (tn:=["letter"]) (n:=0) (bO (N:=lu) (osc:=(ah lB)) rfl rfl (by decide+kernel)) rfl rfl (xV (xU rfl B.LETTERS (by decide))) (λ_ _ _ _ _ _ _=>cU (show Zq (((["letter"]:List Str))++dj ["letter"] lu) by decide+kernel) rfl rfl) (λ_ _ _ _ _ _=>(ij (Oa (ae (pv 0)) (ae (pv 2))))) (λ_ _ _ _ _ _=>(iM (ab (ae (pv 0)) (ab (KW (ae (pv 2)) (ab (ae (pv 0)) ag)) ag)))))))))
abbrev fW:Stmt:=top 31
def i5:List Str:=["board","ways","one","other"]
def i_:List Str:=["board","ways","one","other"]
def nO:FnScope i5 i_ (ah fW):=cK
def nq(B:Bl K mg base cv cA Cp)(aQ:ak P w K mg base cv 4 "need_board" 1 aH)(bD:ak P w K mg base cv 2 "need_ways" 1 bg)(c5:ak P w K mg base cv 3 "need_cell" 2 b8)(T:bo K mg "need_two_cells" fW f):ak P w K mg base cv 5 "need_two_cells" 4 (dU):=
 az (N:=i5) (ps:=i_) T nO (λ_ _ _ _ _ _ us hl=>match us,hl with | [_,_,_,_],_=>rfl) λ_ _ _ _ _ _ hr=>
  (ai (bq (aM aQ (mR hr) rfl aG (ab (ae (pv 0)) ag) rfl)) (ai (bq (aM bD (mR hr) rfl aG (ab (ae (pv 1)) ag) rfl)) (ai (bq (aM c5 (mR hr) rfl aG (ab (ae (pv 0)) (ab (ae (pv 2)) ag)) rfl)) (ar (bq (aM c5 (mR hr) rfl aG (ab (ae (pv 0)) (ab (ae (pv 3)) ag)) rfl))))))
abbrev iO:Stmt:=top 34
def lO:List Str:=["board","ways","found","seen","cell","patch"]
def lT:List Str:=["board","ways"]
def dP:FnScope lO lT (ah iO):=cK
def sX(B:Bl K mg base cv cA Cp)(gh:ak P w K mg base cv 2 "all_cells" 1 c7)(cp:ak P w K mg base cv 4 "steps_back" 3 aK)(jo:ak P w K mg base cv 1 "keyed" 1 eD)(T:bo K mg "all_patches" iO f):ak P w K mg base cv 5 "all_patches" 2 (a9):=
 az (N:=lO) (ps:=lT) T dP (λ_ _ _ _ _ _ us hl=>match us,hl with | [_,_],_=>rfl) λ_ _ _ _ _ _ hr=>
  (ai (gB dP.nd rfl (.inl rfl)) (ai (jc dP.nd rfl (.inl rfl)) (ai (cH (bx Yx rfl (a_ (aM gh (mR hr) rfl cI (ab (ae (pv 0)) ag) rfl)) (aY dP.nd rfl (.inl rfl)) bj (a6 (ar (bY (o6 (gM hr.units (ae (pv 4)) (ae (pv 3)))) (ai (aL dP.nd rfl (.inl rfl) (DU rfl rfl B.sorted rfl (ab (aM cp (mR hr) rfl cI (ab (ae (pv 0)) (ab (ae (pv 4)) (ab (ae (pv 1)) ag))) rfl) ag))) (ai (jC (pv 2) (ae (pv 5))) (ar (D2 hr.units (pv 3) (aM jo (mR hr) rfl cI (ab (ae (pv 5)) ag) rfl) ⟨rfl,rfl,rfl,rfl⟩)))) br))))) (ar (cG (i:=2) (aB (ae (pv 2))))))))
abbrev mC:Stmt:=top 40
def sQ:List Str:=["board","cell","ways"]
def tq:List Str:=["board","cell","ways"]
def AI:FnScope sQ tq (ah mC):=cK
def Ac(B:Bl K mg base cv cA Cp)(aQ:ak P w K mg base cv 4 "need_board" 1 aH)(c5:ak P w K mg base cv 3 "need_cell" 2 b8)(bD:ak P w K mg base cv 2 "need_ways" 1 bg)(cp:ak P w K mg base cv 4 "steps_back" 3 aK)(T:bo K mg "patch_of" mC f):ak P w K mg base cv 5 "patch_of" 3 (g0):=
 az (N:=sQ) (ps:=tq) T AI (λ_ _ _ _ _ _ us hl=>match us,hl with | [_,_,_],_=>rfl) λ_ _ _ _ _ _ hr=>
  (ai (bq (aM aQ (mR hr) rfl aG (ab (ae (pv 0)) ag) rfl)) (ai (bq (aM c5 (mR hr) rfl aG (ab (ae (pv 0)) (ab (ae (pv 1)) ag)) rfl)) (ai (bq (aM bD (mR hr) rfl aG (ab (ae (pv 2)) ag) rfl)) (ar (aB (DU rfl rfl B.sorted rfl (ab (aM cp (mR hr) rfl aG (ab (ae (pv 0)) (ab (ae (pv 1)) (ab (ae (pv 2)) ag))) rfl) ag)))))))
abbrev jF:Stmt:=top 44
def m8:List Str:=["board","cell","ways","letter"]
def nB:List Str:=["board","cell","ways","letter"]
def uV:FnScope m8 nB (ah jF):=cK
def uP(B:Bl K mg base cv cA Cp)(aQ:ak P w K mg base cv 4 "need_board" 1 aH)(c5:ak P w K mg base cv 3 "need_cell" 2 b8)(bD:ak P w K mg base cv 2 "need_ways" 1 bg)(uA:ak P w K mg base cv 2 "need_letter" 1 f6)(T:bo K mg "need_paint" jF f):ak P w K mg base cv 5 "need_paint" 4 (dS):=
 az (N:=m8) (ps:=nB) T uV (λ_ _ _ _ _ _ us hl=>match us,hl with | [_,_,_,_],_=>rfl) λ_ _ _ _ _ _ hr=>
  (ai (bq (aM aQ (mR hr) rfl aG (ab (ae (pv 0)) ag) rfl)) (ai (bq (aM c5 (mR hr) rfl aG (ab (ae (pv 0)) (ab (ae (pv 1)) ag)) rfl)) (ai (bq (aM bD (mR hr) rfl aG (ab (ae (pv 2)) ag) rfl)) (ar (bq (aM uA (mR hr) rfl aG (ab (ae (pv 3)) ag) rfl))))))
abbrev d4:Stmt:=top 45
def dY:List Str:=["board","ways","patch","cell","rest"]
def i9:List Str:=["board","ways","patch","cell"]
def iG:FnScope dY i9 (ah d4):=cK
def nk(B:Bl K mg base cv cA Cp)(Bn:ak P w K mg base cv 4 "parts_of" 3 jt)(T:bo K mg "holds_together" d4 f):ak P w K mg base cv 5 "holds_together" 4 (bW):=
 az (N:=dY) (ps:=i9) T iG (λ_ _ _ _ _ _ us hl=>match us,hl with | [_,_,_,_],_=>rfl) λ_ _ _ _ _ _ hr=>
  (ai (kC (tn:=["member"]) (n:=0) iG.nd rfl (.inl rfl) (bO (N:=dY) (osc:=(ah d4)) rfl rfl (by decide+kernel)) rfl rfl (a_ (ae (pv 2))) (λ_ _ _ _ _ _ _=>cU (show Zq (((["member"]:List Str))++dj ["member"] dY) by decide+kernel) rfl rfl) (λ_ _ _ _ _ _=>(ij (lV hr.units (ae (pv 0)) (ae (pv 4))))) (λ_ _ _ _ _ _=>(ae (pv 0)))) (ar (aB (QK (cg rfl B.len (ab (aM Bn (mR hr) rfl aG (ab (ae (pv 0)) (ab (ae (pv 4)) (ab (ae (pv 1)) ag))) rfl) ag)) ax))))
abbrev mx:Stmt:=top 41
def sM:List Str:=["board","ways"]
def s9:List Str:=["board","ways"]
def AE:FnScope sM s9 (ah mx):=cK
def z8(B:Bl K mg base cv cA Cp)(aQ:ak P w K mg base cv 4 "need_board" 1 aH)(bD:ak P w K mg base cv 2 "need_ways" 1 bg)(cw:ak P w K mg base cv 5 "all_patches" 2 a9)(T:bo K mg "how_many" mx f):ak P w K mg base cv 6 "how_many" 2 (fR):=
 az (N:=sM) (ps:=s9) T AE (λ_ _ _ _ _ _ us hl=>match us,hl with | [_,_],_=>rfl) λ_ _ _ _ _ _ hr=>
  (ai (bq (aM aQ (mR hr) rfl aG (ab (ae (pv 0)) ag) rfl)) (ai (bq (aM bD (mR hr) rfl aG (ab (ae (pv 1)) ag) rfl)) (ar (aB (cg rfl B.len (ab (aM cw (mR hr) rfl aG (ab (ae (pv 0)) (ab (ae (pv 1)) ag)) rfl) ag))))))
abbrev pk:Stmt:=top 42
def vN:List Str:=["board","ways","one","other"]
def vU:List Str:=["board","ways","one","other"]
def Cj:FnScope vN vU (ah pk):=cK
def B8(B:Bl K mg base cv cA Cp)(ot:ak P w K mg base cv 5 "need_two_cells" 4 dU)(cp:ak P w K mg base cv 4 "steps_back" 3 aK)(T:bo K mg "are_one" pk f):ak P w K mg base cv 6 "are_one" 4 (fQ):=
 az (N:=vN) (ps:=vU) T Cj (λ_ _ _ _ _ _ us hl=>match us,hl with | [_,_,_,_],_=>rfl) λ_ _ _ _ _ _ hr=>
  (ai (bq (aM ot (mR hr) rfl aG (ab (ae (pv 0)) (ab (ae (pv 1)) (ab (ae (pv 2)) (ab (ae (pv 3)) ag)))) rfl)) (ar (aB (NP hr.units (ae (pv 3)) (aM cp (mR hr) rfl aG (ab (ae (pv 0)) (ab (ae (pv 2)) (ab (ae (pv 1)) ag))) rfl)))))
abbrev pz:Stmt:=top 47
def vP:List Str:=["board","cell","ways","letter"]
def vX:List Str:=["board","cell","ways","letter"]
def Cm:FnScope vP vX (ah pz):=cK
def Ca(B:Bl K mg base cv cA Cp)(jq:ak P w K mg base cv 5 "need_paint" 4 dS)(dF:ak P w K mg base cv 2 "with_letters" 3 bh)(cp:ak P w K mg base cv 4 "steps_back" 3 aK)(T:bo K mg "painted" pz f):ak P w K mg base cv 6 "painted" 4 (eN):=
 az (N:=vP) (ps:=vX) T Cm (λ_ _ _ _ _ _ us hl=>match us,hl with | [_,_,_,_],_=>rfl) λ_ _ _ _ _ _ hr=>
  (ai (bq (aM jq (mR hr) rfl aG (ab (ae (pv 0)) (ab (ae (pv 1)) (ab (ae (pv 2)) (ab (ae (pv 3)) ag)))) rfl)) (ar (aB (aM dF (mR hr) rfl aG (ab (ae (pv 0)) (ab (aM cp (mR hr) rfl aG (ab (ae (pv 0)) (ab (ae (pv 1)) (ab (ae (pv 2)) ag))) rfl) (ab (ae (pv 3)) ag))) rfl))))
abbrev tX:Stmt:=top 48
def zS:List Str:=["board","cell","ways","letter","then"]
def Af:List Str:=["board","cell","ways","letter"]
def wm:FnScope zS Af (ah tX):=cK
def Fe(B:Bl K mg base cv cA Cp)(jq:ak P w K mg base cv 5 "need_paint" 4 dS)(dF:ak P w K mg base cv 2 "with_letters" 3 bh)(cw:ak P w K mg base cv 5 "all_patches" 2 a9)(T:bo K mg "change" tX f):ak P w K mg base cv 6 "change" 4 (el):=
 az (N:=zS) (ps:=Af) T wm (λ_ _ _ _ _ _ us hl=>match us,hl with | [_,_,_,_],_=>rfl) λ_ _ _ _ _ _ hr=>
  (ai (bq (aM jq (mR hr) rfl aG (ab (ae (pv 0)) (ab (ae (pv 1)) (ab (ae (pv 2)) (ab (ae (pv 3)) ag)))) rfl)) (ai (aL wm.nd rfl (.inl rfl) (aM dF (mR hr) rfl aG (ab (ae (pv 0)) (ab (fe (ab (ae (pv 1)) ag)) (ab (ae (pv 3)) ag))) rfl)) (ar (aB (o4 (cg rfl B.len (ab (aM cw (mR hr) rfl aG (ab (ae (pv 4)) (ab (ae (pv 2)) ag)) rfl) ag)) (cg rfl B.len (ab (aM cw (mR hr) rfl aG (ab (ae (pv 0)) (ab (ae (pv 2)) ag)) rfl) ag)))))))
abbrev yf:Stmt:=top 49
def xp:List Str:=["board","ways","told","patch"]
def H9:List Str:=["board","ways"]
def yh:FnScope xp H9 (ah yf):=cK
def KG(B:Bl K mg base cv cA Cp)(aQ:ak P w K mg base cv 4 "need_board" 1 aH)(bD:ak P w K mg base cv 2 "need_ways" 1 bg)(cw:ak P w K mg base cv 5 "all_patches" 2 a9)(oq:ak P w K mg base cv 5 "holds_together" 4 bW)(T:bo K mg "cuts" yf f):ak P w K mg base cv 6 "cuts" 2 (jY):=
 az (N:=xp) (ps:=H9) T yh (λ_ _ _ _ _ _ us hl=>match us,hl with | [_,_],_=>rfl) λ_ _ _ _ _ _ hr=>
  (ai (bq (aM aQ (mR hr) rfl aG (ab (ae (pv 0)) ag) rfl)) (ai (bq (aM bD (mR hr) rfl aG (ab (ae (pv 1)) ag) rfl)) (ai (gB yh.nd rfl (.inl rfl)) (ai (cH (bx Yx rfl (a_ (aM cw (mR hr) rfl cI (ab (ae (pv 0)) (ab (ae (pv 1)) ag)) rfl)) (aY yh.nd rfl (.inr rfl)) bj (a6 (ar (D1 (pv 2) (dZ (tn:=["cell"]) (n:=0) (bO (N:=xp) (osc:=(ah yf)) rfl rfl (by decide+kernel)) rfl rfl (a_ (ae (pv 3))) (λ_ _ _ _ _ _ _=>cU (show Zq (((["cell"]:List Str))++dj ["cell"] xp) by decide+kernel) rfl rfl) (λ_ _ _ _ _ _=>(ij (cO (aM oq (mR hr) rfl cI (ab (ae (pv 1)) (ab (ae (pv 2)) (ab (ae (pv 4)) (ab (ae (pv 0)) ag)))) rfl)))) (λ_ _ _ _ _ _=>(ae (pv 0))))))))) (ar (cG (i:=2) (aB (NU rfl B.sorted rfl (ab (ae (pv 2)) ag)))))))))
abbrev fX:Stmt:=top 50
def i6:List Str:=["board","ways","letters","now","letter"]
def ja:List Str:=["board","ways","letters"]
def dD:FnScope i6 ja (ah fX):=cK
def nu(B:Bl K mg base cv cA Cp)(fL:ak P w K mg base cv 5 "letters" 1 cb)(aQ:ak P w K mg base cv 4 "need_board" 1 aH)(bD:ak P w K mg base cv 2 "need_ways" 1 bg)(rq:ak P w K mg base cv 2 "need_letters" 1 eX)(dF:ak P w K mg base cv 2 "with_letters" 3 bh)(cp:ak P w K mg base cv 4 "steps_back" 3 aK)(T:bo K mg "paints_over" fX f):ak P w K mg base cv 6 "paints_over" 3 (bF):=
 az (N:=i6) (ps:=ja) T dD (λ_ _ _ _ _ _ us hl=>match us,hl with | [_,_,_],_=>rfl) λ_ _ _ _ _ _ hr=>
  (ai (bq (aM aQ (mR hr) rfl aG (ab (ae (pv 0)) ag) rfl)) (ai (bq (aM bD (mR hr) rfl aG (ab (ae (pv 1)) ag) rfl)) (ai (bq (aM rq (mR hr) rfl aG (ab (ae (pv 2)) ag) rfl)) (ai (aL dD.nd rfl (.inl rfl) (ae (pv 0))) (ai (cH (bx Yx rfl (a_ (ae (pv 2))) (aY dD.nd rfl (.inl rfl)) bj (a6 (ar (aL dD.nd rfl (.inl rfl) (aM dF (mR hr) rfl cI (ab (ae (pv 3)) (ab (aM cp (mR hr) rfl cI (ab (ae (pv 3)) (ab (iM (ab ax (ab ax ag))) (ab (ae (pv 1)) ag))) rfl) (ab (ae (pv 4)) ag))) rfl)))))) (ar (aB (ae (pv 3)))))))))
abbrev eF:Stmt:=top 51
def eE:List Str:=["board","ways","found","near","signs","whole","paints","ring","further","taken","letter","more"]
def jP:List Str:=["board","ways"]
def aV:FnScope eE jP (ah eF):=cK
def oW(B:Bl K mg base cv cA Cp)(aQ:ak P w K mg base cv 4 "need_board" 1 aH)(bD:ak P w K mg base cv 2 "need_ways" 1 bg)(cw:ak P w K mg base cv 5 "all_patches" 2 a9)(rp:ak P w K mg base cv 3 "near_numbers" 3 eW)(c0:ak P w K mg base cv 1 "letter_of" 2 a7)(Bi:ak P w K mg base cv 1 "drawn_in" 4 gX)(T:bo K mg "fewest_paints" eF f):ak P w K mg base cv 6 "fewest_paints" 2 (di):=
 az (N:=eE) (ps:=jP) T aV (λ_ _ _ _ _ _ us hl=>match us,hl with | [_,_],_=>rfl) λ_ _ _ _ _ _ hr=>
  (ai (bq (aM aQ (mR hr) rfl aG (ab (ae (pv 0)) ag) rfl)) (ai (bq (aM bD (mR hr) rfl aG (ab (ae (pv 1)) ag) rfl)) (ai (aL aV.nd rfl (.inl rfl) (aM cw (mR hr) rfl aG (ab (ae (pv 0)) (ab (ae (pv 1)) ag)) rfl)) (ai (aL aV.nd rfl (.inl rfl) (aM rp (mR hr) rfl aG (ab (ae (pv 0)) (ab (ae (pv 1)) (ab (ae (pv 2)) ag))) rfl)) (ai (kC (tn:=["patch"]) (n:=0) aV.nd rfl (.inl rfl) (bO (N:=eE) (osc:=(ah eF)) rfl rfl (by decide+kernel)) rfl rfl (a_ (ae (pv 2))) (λ_ _ _ _ _ _ _=>cU (show Zq (((["patch"]:List Str))++dj ["patch"] eE) by decide+kernel) rfl rfl) (λ_ _ _ _ _ _=>fB) (λ_ _ _ _ _ _=>(aM c0 (mR hr) rfl cI (ab (ae (pv 1)) (ab (tw (ae (pv 0)) ax) ag)) rfl))) (ai (aL aV.nd rfl (.inl rfl) (Fq rfl rfl B.tuple rfl B.range rfl rfl (cg rfl B.len (ab (ae (pv 2)) ag)))) (ai (tL aV.nd rfl (.inl rfl) (o5 hr.units (iM (ab ax ag)) (fe ag))) (ai (aL aV.nd rfl (.inl rfl) (fe (ab (iM (ab ax ag)) ag))) (ai (cH (o9 Yx (o6 (gM hr.units (ae (pv 5)) (ae (pv 6)))) (a6 (ai (gB aV.nd rfl (.inl rfl)) (ai (bx Yx rfl (a_ (ae (pv 7))) (aY aV.nd rfl (.inl rfl)) bj (a6 (ar (bx Yx rfl (xV (xU rfl B.LETTERS (by decide))) (aY aV.nd rfl (.inl rfl)) bj (a6 (ai (aL aV.nd rfl (.inl rfl) (aM Bi (mR hr) rfl cI (ab (ae (pv 9)) (ab (ae (pv 3)) (ab (ae (pv 4)) (ab (ae (pv 10)) ag)))) rfl)) (ar (bY (o6 (gM hr.units (ae (pv 11)) (ae (pv 6)))) (ai (fg hr.units (pv 6) (ae (pv 11)) (QJ (QM (KS (iJ hr.units (ae (pv 6)) (ae (pv 9))) (fe (ab (ae (pv 10)) ag)))))) (ar (jC (pv 8) (ae (pv 11))))) br)))))))) (ar (cG (i:=8) (aL aV.nd rfl (.inl rfl) (ae (pv 8)))))))))) (ar (cG (i:=6) (aB (iJ hr.units (ae (pv 6)) (ae (pv 5)))))))))))))))
abbrev iE:Stmt:=top 58
def iz:List Str:=["_law_board_here","_law_ways","_law_many","_law_rows","_law_turn","_law_longer","_law_one","_law_letter","_law_count"]
def qe:List Str:=["_law_board_here","_law_ways","_law_many"]
def cQ:FnScope iz qe (ah iE):=cK
def xC(B:Bl K mg base cv cA Cp)(fL:ak P w K mg base cv 5 "letters" 1 cb)(cW:ak P w K mg base cv 6 "paints_over" 3 bF)(T:bo K mg "_law_reach" iE f):ak P w K mg base cv 7 "_law_reach" 3 (eM):=
 az (N:=iz) (ps:=qe) T cQ (λ_ _ _ _ _ _ us hl=>match us,hl with | [_,_,_],_=>rfl) λ_ _ _ _ _ _ hr=>
  (ai (aL cQ.nd rfl (.inl rfl) (fe (ab (ae (pv 0)) ag))) (ai (cH (bx Yx rfl (fV rfl B.range (ab (dJ (ae (pv 2)) ax) ag)) (aY cQ.nd rfl (.inl rfl)) bj (a6 (ai (bY (lV hr.units (dZ (tn:=["_law_one"]) (n:=0) (bO (N:=iz) (osc:=(ah iE)) rfl rfl (by decide+kernel)) rfl rfl (a_ (ae (pv 3))) (λ_ _ _ _ _ _ _=>cU (show Zq (((["_law_one"]:List Str))++dj ["_law_one"] iz) by decide+kernel) rfl rfl) (λ_ _ _ _ _ _=>(ij (Ap hr.units (cg rfl B.len (ab (aM fL (mR hr) rfl cI (ab (ae (pv 0)) ag) rfl) ag)) ax))) (λ_ _ _ _ _ _=>(ae (pv 0)))) (fe ag)) (ar (aB fI)) br) (ai (jc cQ.nd rfl (.inl rfl)) (ai (bx Yx rfl (a_ (ae (pv 3))) (aY cQ.nd rfl (.inl rfl)) bj (a6 (ar (bx Yx rfl (a_ (aM fL (mR hr) rfl cI (ab (ae (pv 6)) ag) rfl)) (Ir rfl (nK (aY cQ.nd rfl (.inl rfl)) (nK (aY cQ.nd rfl (.inl rfl)) DX))) (D8 (is:=[7,8])) (a6 (ar (fg hr.units (pv 5) (aM cW (mR hr) rfl cI (ab (ae (pv 6)) (ab (ae (pv 1)) (ab (fe (ab (ae (pv 7)) ag)) ag))) rfl) fI))))))) (ar (cG (i:=5) (aL cQ.nd rfl (.inl rfl) (Ih rfl rfl B.sorted rfl (ab (ae (pv 5)) ag))))))))))) (ar (aB fI))))
abbrev av:Stmt:=top 59
def aZ:List Str:=["_law_script","_law_board_here","_law_whole","_law_cell_here","_law_letter","_law_ways","_law_patch","_law_fresh","_law_there","_law_due","_law_own","_law_told"]
def oZ:List Str:=["_law_script"]
def cj:FnScope aZ oZ (ah av):=cK
def yq(B:Bl K mg base cv cA Cp)(jU:ak P w K mg base cv 3 "_law_board" 3 eL){cR:Value}{A:Y7}{outer:List Env}{s:Yc}{H:Hp}{E:XK}(hr:Room 7 (A.deeper (ZU "law" (ah av) s.heap.objs.size f cR))):
 Box (iQ (d9 (lH P w cv) P w K mg base aZ "law" (ah av) f cR A outer s H E) (λn H'=>E (cv n) ω H') ((ba av).getD 0 (.Pass ⟨0,0,0,0⟩)) qr):=
 ⟨(aL cj.nd rfl (.inl rfl) (tE rfl B.tuple rfl (ab (dZ (tn:=["_law_row"]) (n:=0) (bO (N:=aZ) (osc:=(ah av)) rfl rfl (by decide+kernel)) rfl rfl (q_ (Mf (aM jU (mR hr) rfl aG (ab (ae (pv 0)) (ab ax (ab ax ag))) rfl) Ai (Aj ax))) (λ_ _ _ _ _ _ _=>cU (show Zq (((["_law_row"]:List Str))++dj ["_law_row"] aZ) by decide+kernel) rfl rfl) (λ_ _ _ _ _ _=>fB) (λ_ _ _ _ _ _=>(Mf (ae (pv 0)) Ai (Aj ax)))) ag)))⟩
def yr(B:Bl K mg base cv cA Cp)(wL:ak P w K mg base cv 5 "cells" 1 mO){cR:Value}{A:Y7}{outer:List Env}{s:Yc}{H:Hp}{E:XK}(hr:Room 7 (A.deeper (ZU "law" (ah av) s.heap.objs.size f cR))):
 Box (iQ (d9 (lH P w cv) P w K mg base aZ "law" (ah av) f cR A outer s H E) (λn H'=>E (cv n) ω H') ((ba av).getD 1 (.Pass ⟨0,0,0,0⟩)) qt):=
 ⟨(aL cj.nd rfl (.inl rfl) (aM wL (mR hr) rfl aG (ab (ae (pv 1)) ag) rfl))⟩
def yt(B:Bl K mg base cv cA Cp)(bu:ak P w K mg base cv 2 "_law_drawn" 3 aX){cR:Value}{A:Y7}{outer:List Env}{s:Yc}{H:Hp}{E:XK}(hr:Room 7 (A.deeper (ZU "law" (ah av) s.heap.objs.size f cR))):
 Box (iQ (d9 (lH P w cv) P w K mg base aZ "law" (ah av) f cR A outer s H E) (λn H'=>E (cv n) ω H') ((ba av).getD 2 (.Pass ⟨0,0,0,0⟩)) qu):=
 ⟨(aL cj.nd rfl (.inr rfl) (tw (ae (pv 2)) (aM bu (mR hr) rfl aG (ab (ae (pv 0)) (ab ax (ab (cg rfl B.len (ab (ae (pv 2)) ag)) ag))) rfl)))⟩
def yu(B:Bl K mg base cv cA Cp)(bu:ak P w K mg base cv 2 "_law_drawn" 3 aX){cR:Value}{A:Y7}{outer:List Env}{s:Yc}{H:Hp}{E:XK}(hr:Room 7 (A.deeper (ZU "law" (ah av) s.heap.objs.size f cR))):
 Box (iQ (d9 (lH P w cv) P w K mg base aZ "law" (ah av) f cR A outer s H E) (λn H'=>E (cv n) ω H') ((ba av).getD 3 (.Pass ⟨0,0,0,0⟩)) qw):=
 ⟨(aL cj.nd rfl (.inl rfl) (Ce iL (aM bu (mR hr) rfl aG (ab (ae (pv 0)) (ab ax (ab ax ag))) rfl)))⟩
def yw(B:Bl K mg base cv cA Cp)(bu:ak P w K mg base cv 2 "_law_drawn" 3 aX){cR:Value}{A:Y7}{outer:List Env}{s:Yc}{H:Hp}{E:XK}(hr:Room 7 (A.deeper (ZU "law" (ah av) s.heap.objs.size f cR))):
 Box (iQ (d9 (lH P w cv) P w K mg base aZ "law" (ah av) f cR A outer s H E) (λn H'=>E (cv n) ω H') ((ba av).getD 4 (.Pass ⟨0,0,0,0⟩)) qx):=
 ⟨(aL cj.nd rfl (.inr rfl) (tw (fe (ab ax (ab ax ag))) (aM bu (mR hr) rfl aG (ab (ae (pv 0)) (ab ax (ab ax ag))) rfl)))⟩
def yx(B:Bl K mg base cv cA Cp)(l7:ak P w K mg base cv 5 "patch_of" 3 g0){cR:Value}{A:Y7}{outer:List Env}{s:Yc}{H:Hp}{E:XK}(hr:Room 7 (A.deeper (ZU "law" (ah av) s.heap.objs.size f cR))):
 Box (iQ (d9 (lH P w cv) P w K mg base aZ "law" (ah av) f cR A outer s H E) (λn H'=>E (cv n) ω H') ((ba av).getD 5 (.Pass ⟨0,0,0,0⟩)) qy):=
 ⟨(aL cj.nd rfl (.inl rfl) (aM l7 (mR hr) rfl aG (ab (ae (pv 1)) (ab (ae (pv 3)) (ab (ae (pv 5)) ag))) rfl))⟩
def yy(B:Bl K mg base cv cA Cp)(fM:ak P w K mg base cv 6 "painted" 4 eN){cR:Value}{A:Y7}{outer:List Env}{s:Yc}{H:Hp}{E:XK}(hr:Room 7 (A.deeper (ZU "law" (ah av) s.heap.objs.size f cR))):
 Box (iQ (d9 (lH P w cv) P w K mg base aZ "law" (ah av) f cR A outer s H E) (λn H'=>E (cv n) ω H') ((ba av).getD 6 (.Pass ⟨0,0,0,0⟩)) qz):=
 ⟨(aL cj.nd rfl (.inr rfl) (aM fM (mR hr) rfl aG (ab (ae (pv 1)) (ab (ae (pv 3)) (ab (ae (pv 5)) (ab (ae (pv 4)) ag)))) rfl))⟩
def yz(B:Bl K mg base cv cA Cp)(dE:ak P w K mg base cv 5 "letter_at" 2 b7){cR:Value}{A:Y7}{outer:List Env}{s:Yc}{H:Hp}{E:XK}(hr:Room 7 (A.deeper (ZU "law" (ah av) s.heap.objs.size f cR))):
 Box (iQ (d9 (lH P w cv) P w K mg base aZ "law" (ah av) f cR A outer s H E) (λn H'=>E (cv n) ω H') ((ba av).getD 7 (.Pass ⟨0,0,0,0⟩)) qA):=
 ⟨(cH (bx Yx rfl (a_ (ae (pv 2))) (aY cj.nd rfl (.inl rfl)) bj (a6 (ai (aL cj.nd rfl (.inl rfl) (Me (IC hr.units (ae (pv 8)) (ae (pv 6))) (ae (pv 4)) (aM dE (mR hr) rfl cI (ab (ae (pv 1)) (ab (ae (pv 8)) ag)) rfl))) (ar (bY (lV hr.units (aM dE (mR hr) rfl cI (ab (ae (pv 7)) (ab (ae (pv 8)) ag)) rfl) (ae (pv 9))) (ar (aB fI)) br))))))⟩
def yA(B:Bl K mg base cv cA Cp)(og:ak P w K mg base cv 6 "are_one" 4 fQ){cR:Value}{A:Y7}{outer:List Env}{s:Yc}{H:Hp}{E:XK}(hr:Room 7 (A.deeper (ZU "law" (ah av) s.heap.objs.size f cR))):
 Box (iQ (d9 (lH P w cv) P w K mg base aZ "law" (ah av) f cR A outer s H E) (λn H'=>E (cv n) ω H') ((ba av).getD 8 (.Pass ⟨0,0,0,0⟩)) qB):=
 ⟨(bY (lV hr.units (dZ (tn:=["_law_there"]) (n:=0) (bO (N:=aZ) (osc:=(ah av)) rfl rfl (by decide+kernel)) rfl rfl (a_ (ae (pv 6))) (λ_ _ _ _ _ _ _=>cU (show Zq (((["_law_there"]:List Str))++dj ["_law_there"] aZ) by decide+kernel) rfl rfl) (λ_ _ _ _ _ _=>(ij (df (cO (aM og (mR hr) rfl cI (ab (ae (pv 8)) (ab (ae (pv 6)) (ab (ae (pv 4)) (ab (ae (pv 0)) ag)))) rfl))))) (λ_ _ _ _ _ _=>(ae (pv 0)))) (fe ag)) (ar (aB fI)) br)⟩
def yB(B:Bl K mg base cv cA Cp)(dE:ak P w K mg base cv 5 "letter_at" 2 b7){cR:Value}{A:Y7}{outer:List Env}{s:Yc}{H:Hp}{E:XK}(hr:Room 7 (A.deeper (ZU "law" (ah av) s.heap.objs.size f cR))):
 Box (iQ (d9 (lH P w cv) P w K mg base aZ "law" (ah av) f cR A outer s H E) (λn H'=>E (cv n) ω H') ((ba av).getD 9 (.Pass ⟨0,0,0,0⟩)) qC):=
 ⟨(aL cj.nd rfl (.inl rfl) (aM dE (mR hr) rfl aG (ab (ae (pv 1)) (ab (ae (pv 3)) ag)) rfl))⟩
def uZ(B:Bl K mg base cv cA Cp)(fM:ak P w K mg base cv 6 "painted" 4 eN){cR:Value}{A:Y7}{outer:List Env}{s:Yc}{H:Hp}{E:XK}(hr:Room 7 (A.deeper (ZU "law" (ah av) s.heap.objs.size f cR))):
 Box (iQ (d9 (lH P w cv) P w K mg base aZ "law" (ah av) f cR A outer s H E) (λn H'=>E (cv n) ω H') ((ba av).getD 10 (.Pass ⟨0,0,0,0⟩)) nR):=
 ⟨(bY (PDW.t (kB (lV hr.units (aM fM (mR hr) rfl aG (ab (ae (pv 1)) (ab (ae (pv 3)) (ab (ae (pv 5)) (ab (ae (pv 10)) ag)))) rfl) (ae (pv 1))) (iC (lV hr.units (aM fM (mR hr) rfl aG (ab (ae (pv 7)) (ab (ae (pv 3)) (ab (ae (pv 5)) (ab (ae (pv 4)) ag)))) rfl) (ae (pv 7)))))) (ar (aB fI)) br)⟩
def u0(B:Bl K mg base cv cA Cp)(jl:ak P w K mg base cv 6 "how_many" 2 fR)(eU:ak P w K mg base cv 6 "change" 4 el){cR:Value}{A:Y7}{outer:List Env}{s:Yc}{H:Hp}{E:XK}(hr:Room 7 (A.deeper (ZU "law" (ah av) s.heap.objs.size f cR))):
 Box (iQ (d9 (lH P w cv) P w K mg base aZ "law" (ah av) f cR A outer s H E) (λn H'=>E (cv n) ω H') ((ba av).getD 11 (.Pass ⟨0,0,0,0⟩)) nS):=
 ⟨(bY (PDW.t (kB (Mj (aM jl (mR hr) rfl aG (ab (ae (pv 7)) (ab (ae (pv 5)) ag)) rfl) (aM jl (mR hr) rfl aG (ab (ae (pv 1)) (ab (ae (pv 5)) ag)) rfl)) (iC (lV hr.units (aM eU (mR hr) rfl aG (ab (ae (pv 1)) (ab (ae (pv 3)) (ab (ae (pv 5)) (ab (ae (pv 10)) ag)))) rfl) ax)))) (ar (aB fI)) br)⟩
def u4(B:Bl K mg base cv cA Cp)(eU:ak P w K mg base cv 6 "change" 4 el)(oj:ak P w K mg base cv 6 "cuts" 2 jY){cR:Value}{A:Y7}{outer:List Env}{s:Yc}{H:Hp}{E:XK}(hr:Room 7 (A.deeper (ZU "law" (ah av) s.heap.objs.size f cR))):
 Box (iQ (d9 (lH P w cv) P w K mg base aZ "law" (ah av) f cR A outer s H E) (λn H'=>E (cv n) ω H') ((ba av).getD 12 (.Pass ⟨0,0,0,0⟩)) nU):=
 ⟨(bY (PDW.t (DW (IC hr.units (ae (pv 3)) (aM oj (mR hr) rfl aG (ab (ae (pv 1)) (ab (ae (pv 5)) ag)) rfl)) (Ak (QR (aM eU (mR hr) rfl aG (ab (ae (pv 1)) (ab (ae (pv 3)) (ab (ae (pv 5)) (ab iL ag)))) rfl) ax)))) (ar (aB fI)) br)⟩
def u5(B:Bl K mg base cv cA Cp)(eU:ak P w K mg base cv 6 "change" 4 el)(oj:ak P w K mg base cv 6 "cuts" 2 jY){cR:Value}{A:Y7}{outer:List Env}{s:Yc}{H:Hp}{E:XK}(hr:Room 7 (A.deeper (ZU "law" (ah av) s.heap.objs.size f cR))):
 Box (iQ (d9 (lH P w cv) P w K mg base aZ "law" (ah av) f cR A outer s H E) (λn H'=>E (cv n) ω H') ((ba av).getD 13 (.Pass ⟨0,0,0,0⟩)) nV):=
 ⟨(bY (PDW.t (DW (Fx hr.units (ae (pv 3)) (aM oj (mR hr) rfl aG (ab (ae (pv 1)) (ab (ae (pv 5)) ag)) rfl)) (Ak (Mj (aM eU (mR hr) rfl aG (ab (ae (pv 1)) (ab (ae (pv 3)) (ab (ae (pv 5)) (ab iL ag)))) rfl) ax)))) (ar (aB fI)) br)⟩
def u6(B:Bl K mg base cv cA Cp)(gw:ak P w K mg base cv 6 "fewest_paints" 2 di){cR:Value}{A:Y7}{outer:List Env}{s:Yc}{H:Hp}{E:XK}(hr:Room 7 (A.deeper (ZU "law" (ah av) s.heap.objs.size f cR))):
 Box (iQ (d9 (lH P w cv) P w K mg base aZ "law" (ah av) f cR A outer s H E) (λn H'=>E (cv n) ω H') ((ba av).getD 14 (.Pass ⟨0,0,0,0⟩)) nW):=
 ⟨(aL cj.nd rfl (.inl rfl) (aM gw (mR hr) rfl aG (ab (ae (pv 1)) (ab (ae (pv 5)) ag)) rfl))⟩
def u7(B:Bl K mg base cv cA Cp)(fL:ak P w K mg base cv 5 "letters" 1 cb)(cW:ak P w K mg base cv 6 "paints_over" 3 bF){cR:Value}{A:Y7}{outer:List Env}{s:Yc}{H:Hp}{E:XK}(hr:Room 7 (A.deeper (ZU "law" (ah av) s.heap.objs.size f cR))):
 Box (iQ (d9 (lH P w cv) P w K mg base aZ "law" (ah av) f cR A outer s H E) (λn H'=>E (cv n) ω H') ((ba av).getD 15 (.Pass ⟨0,0,0,0⟩)) nX):=
 ⟨(bY (lV hr.units (cg rfl B.len (ab (aM fL (mR hr) rfl aG (ab (aM cW (mR hr) rfl aG (ab (ae (pv 1)) (ab (ae (pv 5)) (ab (ae (pv 11)) ag))) rfl) ag) rfl) ag)) ax) (ar (aB fI)) br)⟩
def u9(B:Bl K mg base cv cA Cp)(jV:ak P w K mg base cv 7 "_law_reach" 3 eM){cR:Value}{A:Y7}{outer:List Env}{s:Yc}{H:Hp}{E:XK}(hr:Room 7 (A.deeper (ZU "law" (ah av) s.heap.objs.size f cR))):
 Box (iQ (d9 (lH P w cv) P w K mg base aZ "law" (ah av) f cR A outer s H E) (λn H'=>E (cv n) ω H') ((ba av).getD 16 (.Pass ⟨0,0,0,0⟩)) nY):=
 ⟨(aB (QL (Ah hr.units (ae (pv 11)) (fe ag)) (xT (Ig (aM jV (mR hr) rfl aG (ab (ae (pv 1)) (ab (ae (pv 5)) (ab (o4 (cg rfl B.len (ab (ae (pv 11)) ag)) ax) ag))) rfl)))))⟩
def z5{fd:aat}(B:Bl K mg base cv cA Cp)(wL:ak P w K mg base cv 5 "cells" 1 mO)(l7:ak P w K mg base cv 5 "patch_of" 3 g0)(fM:ak P w K mg base cv 6 "painted" 4 eN)(dE:ak P w K mg base cv 5 "letter_at" 2 b7)(gw:ak P w K mg base cv 6 "fewest_paints" 2 di)(bu:ak P w K mg base cv 2 "_law_drawn" 3 aX)(jl:ak P w K mg base cv 6 "how_many" 2 fR)(eU:ak P w K mg base cv 6 "change" 4 el)(oj:ak P w K mg base cv 6 "cuts" 2 jY)(fL:ak P w K mg base cv 5 "letters" 1 cb)(jV:ak P w K mg base cv 7 "_law_reach" 3 eM)(cW:ak P w K mg base cv 6 "paints_over" 3 bF)(jU:ak P w K mg base cv 3 "_law_board" 3 eL)(og:ak P w K mg base cv 6 "are_one" 4 fQ)(Fn:Fun K "law" "law" av f fd):FnOk P w K mg base (lH P w cv) 8 f fd oZ (OS K cv 1 k_):=
 Po (N:=aZ) (ps:=oZ) (τ:=pG) Fn cj λcR A outer s H E hr=>by
  obtain⟨XR⟩:Box (PSDs (d9 (lH P w cv) P w K mg base aZ "law" (ah av) f cR A outer s H E) (λn H'=>E (cv n) ω H') (ba av) pG):=(d7 (yq B jU hr) (d7 (yr B wL hr) (d7 (yt B bu hr) (d7 (yu B bu hr) (d7 (yw B bu hr) (d7 (yx B l7 hr) (d7 (yy B fM hr) (d7 (yz B dE hr) (d7 (yA B og hr) (d7 (yB B dE hr) (d7 (uZ B fM hr) (d7 (u0 B jl eU hr) (d7 (u4 B eU oj hr) (d7 (u5 B eU oj hr) (d7 (u6 B gw hr) (d7 (u7 B fL cW hr) (MC (u9 B jV hr))))))))))))))))))
  assumption
end
end K1
namespace K1
open PySem L2 L3
def Hx{ds:List D}(h:ds.length<=lim):dm ds=aa (.lst ds):=aef h
def ck:lim=4096:=rfl
def gP{i:Nat}{x:α}(h:xs[i]? =θ x):L2.atI xs (i:Int)=θ x:=by
 obtain⟨hi,e⟩:=Yk.mp h;unfold L2.atI JD;rw[aef (Int.natCast_nonneg i),aef (by exact Int.ofNat_lt.mpr hi)];exact h
def ao{δs:DA}(h:δs ρ=aa ds)(hl:ds.length=m):aq m g δs ρ=g ds:=by
 unfold aq;rw[h];exact aef hl
def aO{ρ:bQ}(h1:a ρ=aa x)(h2:r ρ=aa xs):aC a r ρ=aa (x::xs):=by
 unfold aC;rw[h1,aw,h2];rfl
def aR{ρ:bQ}{x y:D}(h1:a ρ=aa x)(h2:b ρ=aa y):d2 g a b ρ=g x y:=by
 unfold d2;rw[h1,aw,h2];rfl
def cf{ρ:bQ}{xs:List D}(h:a ρ=aa xs):dA g a ρ=g xs:=by
 unfold dA;rw[h];rfl
def iY{i j:Int}(h:0<j):mT (.int i) (.int j)=aa (.int (i % j)):=by
 show (if decide (0<j)=ψ then _ else _)=_;rw[aef (aeg h)]
def mQ{i j:Int}(h:0<j)(h2:j<1073741824):uE (.int i) (.int j)=aa (.int (i / j)):=by
 show (if decide (0<j/\j<1073741824)=ψ then _ else _)=_;rw[aef (aeg ⟨h,h2⟩)]
def iZ{i j:Int}(h:(-(2 ^ 64)<i/\i<2 ^ 64)\/(-(2 ^ 64)<j/\j<2 ^ 64)):lI (.int i) (.int j)=aa (.int (i*j)):=by
 show (if decide _=ψ then _ else _)=_;rw[aef (aeg h)]
def j2{i j:Int}:gk (.int i) (.int j)=aa (.int (i+j)):=rfl
def GO{i j:Int}:rU (.int i) (.int j)=aa (.int (i - j)):=rfl
def Gj(ns:List Int)(hl:ns.length<=63)(k:Nat):∃v,gZ [.scr ns, .int (k:Int)]=aa (.int v):=by
 cases ns with
 |nil=>
  refine⟨7*(k:Int),?_⟩;rfl
 |cons n r=>
  have hp:0<(n::r).length:=Nat.succ_pos _;generalize e:(n::r)=ns at*;have he:ma 6 (.scr ns) (.lst [])=θ μ:=by subst e;rfl
  obtain⟨y,hy⟩:∃y,ns[k % ns.length]? =θ y:=⟨_,X7 (ade _ hp)⟩
  have U4:(0:Int)<(ns.length:Int):=by omega
  have h1:mT (.int (k:Int)) (.int (ns.length:Int))=aa (.int ((k % ns.length:Nat):Int)):=iY U4;have h2:uE (.int (k:Int)) (.int (ns.length:Int))=aa (.int ((k:Int) / (ns.length:Int))):=mQ U4 (by omega);have h3:GL (.scr ns) (.int ((k % ns.length:Nat):Int))=aa (.int y):=by
   show (match L2.atI ns ((k % ns.length:Nat):Int) with | some n=>aa (D.int n) | none=>af)=_;rw[gP hy]
  have h4:lI (.int 6553) (.int ((k:Int) / (ns.length:Int)))=aa (.int (6553*((k:Int) / (ns.length:Int)))):=iZ (.inl ⟨by decide,by decide⟩);refine⟨y+6553*((k:Int) / (ns.length:Int)),?_⟩;simp only[gZ,uq,b_,aA,jQ,bI,eg,cT,d2,dV,dC,dA,aC,aN,dm,bG,Er,mS,he,aw,h1,h2,h3,h4,X9,aaj,aaG,Zg,Yh,ZT,YQ,Za,ck,Nat.reduceAdd,YH,if_true,Y0,if_false,gk,gI]
def fP(ns:List Int)(hl:ns.length<=63)(k m:Nat)(hm:0<m):∃v:Nat,v<m/\aX [.scr ns, .int (k:Int), .int (m:Int)]=aa (.int (v:Int)):=by
 obtain⟨c,hc⟩:=Gj ns hl k;have b1:=acU (c % 2147483563*69069+104723*((k:Int)+1)) (b:=2147483563) (by decide);have b2:=acj (c % 2147483563*69069+104723*((k:Int)+1)) (b:=2147483563) (by decide);generalize hx:(c % 2147483563*69069+104723*((k:Int)+1)) % 2147483563=x at b1 b2;have b3:=acU (x*x+x / 3) (b:=2147483399) (by decide);have b4:=acj (x*x+x / 3) (b:=2147483399) (by decide);generalize hy:(x*x+x / 3) % 2147483399=y at b3 b4;have m1:lI (.int (c % 2147483563)) (.int 69069)=_:=iZ (.inr ⟨by decide,by decide⟩);have m2:lI (.int 104723) (.int ((k:Int)+1))=_:=iZ (.inl ⟨by decide,by decide⟩);have m3:lI (.int x) (.int x)=_:=iZ (.inl ⟨by omega,by omega⟩);have m4:lI (.int y) (.int y)=_:=iZ (.inl ⟨by omega,by omega⟩);have hM:(0:Int)<(m:Int):=Int.ofNat_lt.mpr hm;have n1:=acU ((y*y+y / 7) % 2147483647 / 11) (b:=(m:Int)) (by omega);have n2:=acj ((y*y+y / 7) % 2147483647 / 11) hM;have q1:mT (.int c) (.int 2147483563)=_:=iY (by decide);have q2:mT (.int (c % 2147483563*69069+104723*((k:Int)+1))) (.int 2147483563)=_:=iY (by decide);have q3:uE (.int x) (.int 3)=_:=mQ (by decide) (by decide);have q4:mT (.int (x*x+x / 3)) (.int 2147483399)=_:=iY (by decide);have q5:uE (.int y) (.int 7)=_:=mQ (by decide) (by decide);have q6:mT (.int (y*y+y / 7)) (.int 2147483647)=_:=iY (by decide);have q7:uE (.int ((y*y+y / 7) % 2147483647)) (.int 11)=_:=mQ (by decide) (by decide);have q8:mT (.int ((y*y+y / 7) % 2147483647 / 11)) (.int (m:Int))=_:=iY hM;refine⟨((y*y+y / 7) % 2147483647 / 11 % (m:Int)).toNat,by omega,?_⟩;rw[Int.toNat_of_nonneg n1];rw[hx] at q2;rw[hy] at q4;simp only[aX,qq,b_,aA,bN,bI,aq,d2,dV,dC,dA,aC,aN,aw,hc,X9,aaj,aaG,Zg,Yh,ZT,YQ,Za,Y4,acd,ace,Nat.reduceAdd,Nat.reduceSub,if_true,j2,m1,m2,m3,m4,q1,q2,q3,q4,q5,q6,q7,q8]
def HF{α:Type}(a:α):noex (aa a)=aa a:=rfl
theorem zr{I:Nat->bQ->Prop}:∀(ds:List D) (i:Nat) (ρ:bQ),I i ρ->
 (∀j d,ds[j]? =θ d->∀ρ,I (i+j) ρ->∃ρ1 ρ2,put d ρ=θ ρ1/\body ρ1=aa (.nx ρ2)/\I (i+j+1) ρ2)->∃ρ',forL put body ds ρ=aa (.nx ρ')/\I (i+ds.length) ρ'
 |[],i,ρ,h,_=>⟨ρ,rfl,h⟩
 |d::ds,i,ρ,h,step=>by
  obtain⟨ρ1,ρ2,e1,e2,h2⟩:=step 0 d rfl ρ h;obtain⟨ρ',e3,h3⟩:=zr (I:=I) ds (i+1) ρ2 h2 λj d' hd ρ hI=>by
   have:=step (j+1) d' hd ρ (by rw[show i+(j+1)=i+1+j by omega];exact hI);rw[show i+(j+1)+1=i+1+j+1 by omega] at this;exact this
  refine⟨ρ',?_,?_⟩
  ·show (match put d ρ with | none=>af | some ρ1=>body ρ1>>=λo=>match o with | .nx ρ2=>forL put body ds ρ2 | .rt v=>aa (.rt v))=_;rw[e1];show (body ρ1>>=λo=>match o with | .nx ρ2=>forL put body ds ρ2 | .rt v=>aa (.rt v))=_;rw[e2];exact e3
  ·rw[show i+(d::ds).length=i+1+ds.length by simp;omega];exact h3
theorem vj{Pr:D->Prop}:∀(ds:List D),(∀d∈ds,∃y,f d=aa (θ y)/\Pr y)->∃ys,ej f ds=aa ys/\ys.length=ds.length/\∀y∈ys,Pr y
 |[],_=>⟨[],rfl,rfl,λ_ h=>by cases h⟩
 |d::ds,h=>by
  obtain⟨y,e,hy⟩:=h d (X5 ..);obtain⟨ys,e2,hl,hp⟩:=vj ds λd' hd=>h d' (X4 _ hd);refine⟨y::ys,?_,by simp[hl],λz hz=>?_⟩
  ·rw[fN,e,aw,e2];rfl
  ·cases hz with
   |head=>exact hy
   |tail _ hz=>exact hp z hz
theorem iV{g:D->D}:∀(ds:List D),(∀d∈ds,f d=aa (θ (g d)))->ej f ds=aa (ds.map g)
 |[],_=>rfl
 |d::ds,h=>by
  rw[fN,h d (X5 ..),aw,iV ds λd' hd=>h d' (X4 _ hd)];rfl
def G5(x:Str):Bool:=!(Ze ("abcdef":Str) x 0 ("abcdef":Str).length 1).isEmpty
structure Row (W:Nat) (r:Str):Prop where
 len:r.length=W
 let':∀c∈r.cps.toList,G5 ⟨#[c]⟩=ψ
structure Good (bd:List Str) (W:Nat):Prop where
 r1:1<=bd.length
 r5:bd.length<=5
 w1:1<=W
 w5:W<=5
 rows:∀r∈bd,Row W r
abbrev lE(al:Str)(c:Nat):Prop:=G5 ⟨#[c]⟩=ψ/\c≠101/\c≠100/\c∈al.cps.toList
def O1(al r:Str):Prop:=∀c∈r.cps.toList,c≠101/\c≠100/\c∈al.cps.toList
theorem AW{al:Str}:∀(ys:List D),(∀y∈ys,∃c,y= .str ⟨#[c]⟩/\lE al c)->∃xs,mH ys=θ xs/\xs.length=ys.length/\(xs.map (·.length)).sum=ys.length/\Row ys.length (d8 xs)/\O1 al (d8 xs)
 |[],_=>⟨[],rfl,rfl,rfl,⟨rfl,λc h=>by cases h⟩,λc h=>by cases h⟩
 |y::ys,h=>by
  obtain⟨c,e,hc⟩:=h y (X5 ..);obtain⟨xs,e1,e2,e3,e4,e5⟩:=AW ys λz hz=>h z (X4 _ hz);subst e;have De:∀z,z∈((⟨#[c]⟩:Str)++d8 xs).cps.toList->z=c\/z∈(d8 xs).cps.toList:=λz hz=>by
   have:((⟨#[c]⟩:Str)++d8 xs).cps= #[c]++(d8 xs).cps:=rfl;rw[this] at hz;simpa using hz
  refine⟨⟨#[c]⟩::xs,?_,by simp[e2],?_,⟨?_,λz hz=>?_⟩,λz hz=>?_⟩
  ·show (mH ys).map _=_;rw[e1];rfl
  ·rw[X9,abd,e3];show 1+ys.length=_;simp;omega
  ·show ((⟨#[c]⟩:Str)++d8 xs).length=_;rw[kR,e4.len];show 1+ys.length=_;simp;omega
  ·rcases De z hz with rfl | q
   ·exact hc.1
   ·exact e4.let' z q
  ·rcases De z hz with rfl | q
   ·exact hc.2
   ·exact e5 z q
def IS{n:Nat}{d:D}(h:d∈jh lo n):∃i:Nat,i<n/\d= .int (lo+(i:Int)):=by
 unfold jh at h;obtain⟨i,hi,e⟩:=Yo.mp h;exact⟨i,YJ.mp hi,e.symm⟩
def Lh{n j:Nat}{d:D}(h:(jh lo n)[j]? =θ d):j<n/\d= .int (lo+(j:Int)):=by
 unfold jh at h;rw[Yl] at h;by_cases hj:j<n
 ·rw[Z1 hj] at h;cases h;exact⟨hj,rfl⟩
 ·rw[ZP (by simpa using hj)] at h;cases h
def kF(lo:Int)(n:Nat):(jh lo n).length=n:=by simp[jh]
abbrev iW(w:Nat):D:= .int w
abbrev fz(d:D):Option Sl:=θ (.fz d)
def jW{ρ:bQ}{d:D}:jO 0 c6 δe ρ d=(δe (fz d::ρ)>>=λy=>aa (θ y)):=rfl
def l_{ρ:bQ}{d:D}:jO 0 δt δe ρ d=(δt (fz d::ρ)>>=λb=>if b then δe (fz d::ρ)>>=λy=>aa (θ y) else aa ω):=rfl
def aj{ρ ρ':bQ}{o:M Out}(h:a ρ=aa (.nx ρ'))(h2:b ρ'=o):aA a b ρ=o:=by
 unfold aA;rw[h];exact h2
def fj{ρ:bQ}{d:D}(h:a ρ=aa (.rt d)):aA a b ρ=aa (.rt d):=by
 unfold aA;rw[h];rfl
def aJ{ρ:bQ}{d:D}(h:δ ρ=aa d):bN i δ ρ=aa (.nx (ρ.set i (fz d))):=by
 unfold bN;rw[h];rfl
def fJ{ρ:bQ}{o:M Out}(h:c ρ=aa ψ)(h2:a ρ=o):jQ c a b ρ=o:=by
 unfold jQ;rw[h];exact h2
def dr{ρ:bQ}{o:M Out}(h:c ρ=aa μ)(h2:b ρ=o):jQ c a b ρ=o:=by
 unfold jQ;rw[h];exact h2
def aP{ρ:bQ}{d:D}(h:δ ρ=aa d):bI δ ρ=aa (.rt d):=by
 unfold bI;rw[h];rfl
def a8{ρ:bQ}{d:D}(h:δ ρ=aa d):eK δ ρ=aa (.nx ρ):=by
 unfold eK;rw[h];rfl
def aT{ds:List D}{d:D}(h:τ (ds.map (λd=>θ (Sl.fz d))++Y4 (n - ds.length) ω)=aa (.rt d)):b_ n τ ds=aa d:=by
 unfold b_;rw[h];rfl
def lA{ds:List D}{ρ:bQ}(h:τ (ds.map (λd=>θ (Sl.fz d))++Y4 (n - ds.length) ω)=aa (.nx ρ)):b_ n τ ds=aa .non:=by
 unfold b_;rw[h];rfl
def IT{ρ:bQ}(h:δi ρ=aa ds)(h2:forL put b ds ρ=aa o):noex (dN put δi b ρ)=aa o:=by
 unfold dN;rw[h,aw,h2];rfl
def aU{τ:DS}{ρ ρ':bQ}(h:τ ρ=aa (.nx ρ')):cM is τ ρ=aa (.nx (fgt is ρ')):=by
 unfold cM;rw[h];rfl
def bP{δe:DE}(h:δi ρ=aa ds)(h2:ej (jO n δt δe ρ) ds=aa ys)(h3:ys.length<=lim):bw n δi δt δe ρ=aa (.lst ys):=by
 unfold bw;rw[h,aw,h2,HF,aw,Hx h3]
def ph{n:Nat}(h:n<=4096):lW [.int (n:Int)]=aa (jh 0 n):=by
 show (if -4096<=(n:Int)/\(n:Int)<=4096 then aa (jh 0 (n:Int).toNat) else af)=_;rw[aef ⟨by omega,by omega⟩];rfl
structure Alpha (al:Str):Prop where
 pos:0<al.length
 ok:∀c∈al.cps.toList,lE al c
def Mu:Alpha "ab"/\Alpha "abc"/\Alpha "aab"/\Alpha "fa":=by
 refine⟨⟨by decide+kernel,?_⟩,⟨by decide+kernel,?_⟩,⟨by decide+kernel,?_⟩,⟨by decide+kernel,?_⟩⟩<;>decide+kernel
def GN{i:Nat}(h:i<x.length):∃c,c∈x.cps.toList/\x.cps.toList[i]? =θ c/\uG (.str x) (.int (i:Int))=aa (.str ⟨#[c]⟩):=by
 have h:i<x.cps.toList.length:=by rw[Yd];exact h
 refine⟨x.cps.toList[i],ZM h,X7 h,?_⟩;show (match L2.atI x.cps.toList (i:Int) with | some c=>aa (D.str ⟨#[c]⟩) | none=>af)=_;rw[gP (X7 h)]
abbrev brd(bd:List Str):D:= .tup (bd.map D.str)
abbrev sgn(at' mo:Nat)(ns:List Int)(W:Nat)(al:Str)(bd:List Str)(R:Nat)(x7 x8:Option Sl):bQ:=[fz (.scr ns),fz (.int (at':Int)),fz (.int (mo:Int)),fz (.int (R:Int)),fz (.int (W:Int)),fz (.str al),fz (brd bd),x7,x8]
def FE(at' mo:Nat)(ns:List Int)(hl:ns.length<=63)(al:Str)(ha:Alpha al)(j W R:Nat)(hW:W<=5)(bd:List Str)(x8:Option Sl):
 ∃ys,Ud (sgn at' mo ns W al bd R (fz (.int (0+(j:Int)))) x8)=aa (.lst ys)/\ys.length=W/\∀y∈ys,∃c,y= .str ⟨#[c]⟩/\lE al c:=by
 obtain⟨ys,e,Jw,hp⟩:=vj (f:=jO 0 c6 (d2 uG (dV 6) (aq 3 aX (aC (dV 1) (aC (d2 gk (d2 gk (d2 gk (dV 2) (dC (.int 3))) (d2 lI (dC (.int 7)) (dV 8))) (dV 0)) (aC (dA bG (aC (dV 6) aN)) aN)))))
  (sgn at' mo ns W al bd R (fz (.int (0+(j:Int)))) x8)) (Pr:=λy=>∃c,y= .str ⟨#[c]⟩/\lE al c) (jh 0 W) λd hd=>by
  obtain⟨i,hi,rfl⟩:=IS hd;obtain⟨v,hv,e⟩:=fP ns hl (at'+3+7*j+i) al.length ha.pos;obtain⟨c,hc,_,e2⟩:=GN hv;refine⟨.str ⟨#[c]⟩,?_,c,rfl,ha.ok c hc⟩;rw[jW];have k:(at':Int)+3+7*(0+(j:Int))+(0+(i:Int))=((at'+3+7*j+i:Nat):Int):=by omega
  have m1:lI (.int 7) (.int (0+(j:Int)))=aa (.int (7*(0+(j:Int)))):=iZ (.inl ⟨by decide,by decide⟩);simp only[aq,d2,dV,dC,dA,aC,aN,aw,Yh,ZT,YQ,Za,Nat.reduceAdd,if_true,j2,m1,k,bG,e,e2]
 refine⟨ys,bP (ph (n:=W) (by omega)) e (by rw[Jw,kF,ck];omega),by rw[Jw,kF],hp⟩
def JI(at' mo:Nat)(ns:List Int)(W:Nat)(al:Str)(bd:List Str)(R:Nat)(x7:Option Sl)(ys:List D)(hb:bd.length<=5)(hy:ys.length<=5)(s3:∀y∈ys,∃c,y= .str ⟨#[c]⟩/\lE al c):
 ∃r,(Row ys.length r/\O1 al r)/\Ue (sgn at' mo ns W al bd R x7 (fz (.lst ys)))=aa (.nx (sgn at' mo ns W al (bd++[r]) R x7 (fz (.lst ys)))):=by
 obtain⟨xs,t1,t2,t3,t4⟩:=AW ys s3;refine⟨d8 xs,t4,?_⟩;have jn:joinM (.str "") [.lst ys]=aa (.str (d8 xs)):=by
  show (match mH ys with | some (xs:List Str)=>if ("":Str).length=0/\(xs.map (λx:Str=>x.length)).sum<=lim then aa (D.str (d8 xs)) else af | none=>af)=_;rw[t1];show (if ("":Str).length=0/\(xs.map (λx:Str=>x.length)).sum<=lim then aa (D.str (d8 xs)) else af)=_;rw[aef ⟨rfl,by rw[t3,ck];omega⟩]
 have ct:C8 (brd bd) (.tup [.str (d8 xs)])=aa (brd (bd++[d8 xs])):=by
  show (if (bd.map D.str).length+1<=lim then aa (D.tup (bd.map D.str++[.str (d8 xs)])) else af)=_;rw[aef (by rw[X3,ck];omega)];simp[brd]
 refine(aJ (d:=brd (bd++[d8 xs])) ?_).trans rfl;simp only[d2,dV,dC,dA,aC,aN,dM,yP,aw,YQ,Za,if_true,jn,e7,Yh,ZT,ck,Nat.reduceAdd,Nat.reduceLeDiff,ct]
def Bg(ns:List Int)(hl:ns.length<=63)(at' mo:Nat)(m0:0<mo)(m5:mo<=5):∃(al:Str) (bd:List Str) (W:Nat),(al="ab"\/al="abc"\/al="aab"\/al="fa")/\Good bd W/\(∀r∈bd,O1 al r)/\bd.length<=mo/\W<=mo/\eL [.scr ns, .int (at':Int), .int (mo:Int)]=aa (brd bd):=by
 obtain⟨r,hr,e1⟩:=fP ns hl at' mo m0;obtain⟨c,hc,e2⟩:=fP ns hl (at'+1) mo m0;obtain⟨a,ha,e3⟩:=fP ns hl (at'+2) 4 (by decide);obtain⟨al,zw,SD,e4⟩:∃al,Alpha al/\(al="ab"\/al="abc"\/al="aab"\/al="fa")/\j3 (.lst [.str "ab", .str "abc", .str "aab", .str "fa"]) (.int (a:Int))=aa (.str al):=by
  obtain⟨a1,a2,a3,a4⟩:=Mu
  match a,ha with
  |0,_=>exact⟨_,a1, .inl rfl,rfl⟩
  |1,_=>exact⟨_,a2, .inr (.inl rfl),rfl⟩
  |2,_=>exact⟨_,a3, .inr (.inr (.inl rfl)),rfl⟩
  |3,_=>exact⟨_,a4, .inr (.inr (.inr rfl)),rfl⟩
 have k1:(1:Int)+(r:Int)=((r+1:Nat):Int):=by omega
 have k2:(1:Int)+(c:Int)=((c+1:Nat):Int):=by omega
 have zk:aX [.scr ns, .int (at':Int), .int (mo:Int)]=aa (.int (r:Int)):=e1;have GF:aX [.scr ns, .int ((at':Int)+1), .int (mo:Int)]=aa (.int (c:Int)):=e2;have Ru:aX [.scr ns, .int ((at':Int)+2), .int 4]=aa (.int (a:Int)):=e3;obtain⟨ρ',f1,bd,f2,f3,f4⟩:=zr (put:=putN 7) (body:=cM [7,8] (aA (bN 8 Ud) Ue))
  (I:=λi ρ=>∃bd,ρ=sgn at' mo ns (c+1) al bd (r+1) ω ω/\bd.length=i/\∀z∈bd,Row (c+1) z/\O1 al z)
  (jh 0 (r+1)) 0 (sgn at' mo ns (c+1) al [] (r+1) ω ω) ⟨[],rfl,rfl,λ_ h=>by cases h⟩ λj d hd ρ ⟨bd,hρ,hb,hw⟩=>by
   obtain⟨hj,rfl⟩:=Lh hd;subst hρ;obtain⟨ys,s1,s2,s3⟩:=FE at' mo ns hl al zw j (c+1) (r+1) (by omega) bd ω;obtain⟨Eb,t1,t2⟩:=JI at' mo ns (c+1) al bd (r+1) (fz (.int (0+(j:Int)))) ys (by omega) (by omega) s3;refine⟨_,_,rfl,aU (aj (aJ s1) t2),bd++[Eb],rfl,by simp[hb],λz hz=>?_⟩;rcases YA.mp hz with h | h
   ·exact hw z h
   ·have h:z=Eb:=by simpa using h
    subst h;rw[s2] at t1;exact t1
 refine⟨al,bd,c+1,SD,⟨by rw[f3,kF];omega,by rw[f3,kF];omega,by omega,by omega,λr q=>(f4 r q).1⟩,λr q=>(f4 r q).2,by rw[f3,kF];omega,by omega,?_⟩;subst f2;refine aT ?_;refine aj (aJ (d:= .int ((r+1:Nat):Int)) ?_) ?_
 ·simp only[aq,d2,dV,dC,aC,aN,aw,X9,aaj,aaG,Zg,Yh,ZT,YQ,Za,Nat.reduceAdd,if_true,j2,zk,k1]
 refine aj (aJ (d:= .int ((c+1:Nat):Int)) ?_) ?_
 ·simp only[aq,d2,dV,dC,aC,aN,aw,X9,aaj,aaG,Zg,Yh,ZT,Y4,acd,ace,Nat.reduceSub,YQ,Za,Nat.reduceAdd,if_true,j2,GF,k2]
 refine aj (aJ (d:= .str al) ?_) ?_
 ·simp only[aq,d2,dV,dC,dA,aC,aN,aw,X9,aaj,aaG,Zg,Yh,ZT,Y4,acd,ace,Nat.reduceSub,YQ,Za,Nat.reduceAdd,if_true,j2,Ru,dm,ck,Nat.reduceLeDiff,e4]
 refine aj (aJ rfl) ?_;refine aj (IT (ph (by omega)) f1) ?_;exact aP rfl
def Plain:D->Prop
 | .non | .bl _ | .int _ | .str _ | .tup _ | .lst _=>True
 |_=>False
def isStr:D->Bool
 | .str _=>ψ
 |_=>μ
def isTup:D->Bool
 | .tup _=>ψ
 |_=>μ
def iw{d:D}(h:Plain d):jw [d, .raw (.ty "str")]=aa (.bl (isStr d)):=by
 cases d<;>first | rfl | exact h.elim
def qW{d:D}(h:Plain d):jw [d, .raw (.ty "tuple")]=aa (.bl (isTup d)):=by
 cases d<;>first | rfl | exact h.elim
def xj:D->Bool
 | .str x=>(x.length==1)&&G5 x
 |_=>μ
def jr{i:Nat}{d:D}(h:ρ[i]? =θ (fz d)):dV i ρ=aa d:=by
 unfold dV;rw[h]
def eq_int(i j:Int):mS (.int i) (.int j)=aa (.bl (i==j)):=rfl
def ne_int(i j:Int):qF (.int i) (.int j)=aa (.bl (!(i==j))):=rfl
def len_str(x:Str):bG [.str x]=aa (.int (x.length:Int)):=rfl
def in_str(x:Str):uF μ (.str x) (.str "abcdef")=aa (.bl (G5 x)):=rfl
def nh(a b:Nat):((a:Int)==(b:Int))=(a==b):=by
 by_cases h:a=b
 ·subst h;simp
 ·have h2:¬(a:Int)=(b:Int):=by omega
  rw[aen.mpr h,aen.mpr h2]
def Kr(h:Plain d){i:Nat}{ρ:bQ}(hρ:ρ[i]? =θ (fz d)):
 gT (dA jw (aC (dV i) (aC (dC (.raw (.ty "str"))) aN))) (gT (d2 mS (dA bG (aC (dV i) aN)) (dC (.int 1))) (d2 (uF μ) (dV i) (dC (.str "abcdef")))) ρ=aa (.bl (xj d)):=by
 have hv:=jr hρ;have e1:=nh;cases d with
 |str x=>
  have k:((x.length:Int)==1)=(x.length==1):=nh x.length 1;simp only[gT,dA,aC,aN,dC,d2,hv,aw,iw h,isStr,Er,if_true,len_str,eq_int,k,in_str,xj];cases x.length==1<;>rfl
 |non=>simp only[gT,dA,aC,aN,dC,d2,hv,aw,iw h,isStr,Er,if_false,Y0,xj]
 |bl b=>simp only[gT,dA,aC,aN,dC,d2,hv,aw,iw h,isStr,Er,if_false,Y0,xj]
 |int b=>simp only[gT,dA,aC,aN,dC,d2,hv,aw,iw h,isStr,Er,if_false,Y0,xj]
 |tup b=>simp only[gT,dA,aC,aN,dC,d2,hv,aw,iw h,isStr,Er,if_false,Y0,xj]
 |lst b=>simp only[gT,dA,aC,aN,dC,d2,hv,aw,iw h,isStr,Er,if_false,Y0,xj]
 |raw _=>exact h.elim
 |exc _=>exact h.elim
 |scr _=>exact h.elim
 |dct _ _=>exact h.elim
 |dci _ _=>exact h.elim
def iI{d:D}(h:Plain d):b6 [d]=aa (.bl (xj d)):=aT (aP (Kr h rfl))
def lq(x:Str):Bool:=x.cps.toList.all λc=>G5 ⟨#[c]⟩
def qN:D->Bool
 | .str x=>(decide (1<=x.length)&&decide (x.length<=8))&&lq x
 |_=>μ
def Es(l:List Bool):bools (l.map D.bl)=θ l:=by
 induction l with
 |nil=>rfl
 |cons b r ih=>show (bools (r.map D.bl)).map _=_;rw[ih];rfl
def all_map(l:List Bool):allM [.lst (l.map D.bl)]=aa (.bl (l.all id)):=by
 show (match bools (l.map D.bl) with | some bs=>aa (D.bl (bs.all id)) | none=>af)=_;rw[Es]
def Gk{ρ:bQ}{n:Nat}(h:δ ρ=aa (.int (n:Int))):
 cT (Bq (λi j=>decide (i<=j)) (λi j=>decide (i<=j)) (dC (.int 1)) δ (dC (.int 8))) ρ=aa (decide (1<=n)&&decide (n<=8)):=by
 have k1:decide ((1:Int)<=(n:Int))=decide (1<=n):=by by_cases h:1<=n<;>simp[h]<;>omega
 have k2:decide ((n:Int)<=8)=decide (n<=8):=by by_cases h:n<=8<;>simp[h]<;>omega
 simp only[cT,Bq,dC,h,aw,k1,k2,gI,Er];cases decide (1<=n)<;>rfl
def BN(h:Plain d):gY [d]=aa (.bl (qN d)):=by
 refine aT ?_;have hρ:([d].map (λd=>θ (Sl.fz d))++Y4 (1 - [d].length) ω)=[fz d]:=rfl;rw[hρ];have hv:dV 0 [fz d]=aa d:=rfl;have no:isStr d=μ->A2 [fz d]=aa (.rt (.bl μ)):=λhs=>by
  refine fj (fJ ?_ (aP rfl));simp only[qS,cZ,cq,dA,aC,aN,dC,hv,aw,iw h,hs,AV,abS,if_true]
 cases d with
 |str x=>
  have hi:cq (dA jw (aC (dV 0) (aC (dC (.raw (.ty "str"))) aN))) [fz (.str x)]=aa ψ:=by
   simp only[cq,dA,aC,aN,dC,hv,aw,iw h,isStr,AV]
  have hl:dA bG (aC (dV 0) aN) [fz (.str x)]=aa (.int (x.length:Int)):=rfl;have hc:=Gk hl;by_cases hr:(decide (1<=x.length)&&decide (x.length<=8))=ψ
  ·rw[hr] at hc;refine aj (dr ?_ rfl) (aP ?_)
   ·unfold qS cZ;rw[hi,aw,aw,hc];rfl
   ·have hb:x.length<=8:=by simp only[Yq,aej] at hr;exact hr.2
    have cm:bw 0 (λρ=>(dV 0) ρ>>=I8) c6 (aq 1 b6 (aC (dV 0) aN)) [fz (.str x)]=aa (.lst ((x.cps.toList.map λc=>G5 ⟨#[c]⟩).map D.bl)):=by
     refine bP rfl ?_ ?_
     ·have:=iV (f:=jO 0 c6 (aq 1 b6 (aC (dV 0) aN)) [fz (.str x)]) (g:=λd=>D.bl (xj d)) (signs x) λd hd=>by
       rw[jW];obtain⟨c,_,rfl⟩:=Yo.mp hd;show (b6 [.str ⟨#[c]⟩]>>=λy=>aa (θ y))=_;rw[iI (d:= .str ⟨#[c]⟩) trivial];rfl
      rw[this];unfold signs;rw[YD,YD];congr 1
     ·rw[X3,X3,Yd,ck];exact Yz hb (by decide)
    rw[cf (aO cm rfl),all_map];show aa (D.bl ((x.cps.toList.map λc=>G5 ⟨#[c]⟩).all id))=aa (D.bl ((decide (1<=x.length)&&decide (x.length<=8))&&lq x));rw[hr];unfold lq;rw[aak];rfl
  ·have hr:(decide (1<=x.length)&&decide (x.length<=8))=μ:=by simpa using hr
   rw[hr] at hc;have:qN (.str x)=μ:=by
    show ((decide (1<=x.length)&&decide (x.length<=8))&&lq x)=μ;rw[hr];rfl
   rw[this];refine fj (fJ ?_ (aP rfl));unfold qS cZ;rw[hi,aw,aw,hc];rfl
 |non=>exact no rfl
 |bl b=>exact no rfl
 |int b=>exact no rfl
 |tup b=>exact no rfl
 |lst b=>exact no rfl
 |raw _=>exact h.elim
 |exc _=>exact h.elim
 |scr _=>exact h.elim
 |dct _ _=>exact h.elim
 |dci _ _=>exact h.elim
def mf:D->Nat
 | .str x=>x.length
 |_=>0
def ro:D->Bool
 | .tup ds=>(decide (1<=ds.length)&&decide (ds.length<=8))&&(ds.all qN&&ds.all λd=>mf d==mf (ds.headD .non))
 |_=>μ
def Plain2:D->Prop
 | .tup ds=>∀d∈ds,Plain d
 |d=>Plain d
def Plain2.plain{d:D}(h:Plain2 d):Plain d:=by
 cases d<;>first | exact h | exact trivial
def Kq{ds:List D}:bG [.tup ds]=aa (.int (ds.length:Int)):=rfl
def Ts{r:List D}(h:ds=d::r):cu (.tup ds) (.int 0)=aa d:=by
 subst h;show (match L2.atI (d::r) ((0:Nat):Int) with | some d=>aa d | none=>af)=_;rw[gP (x:=d) rfl]
def Lj{d:D}(h:qN d=ψ):∃x,d= .str x:=by
 cases d<;>first | exact⟨_,rfl⟩ | cases h
def EI{d:D}(h:Plain d):qS (cZ (cq (dA jw (aC (dV 0) (aC (dC (.raw (.ty "tuple"))) aN))))) (cZ (cT (Bq (λi j=>decide (i<=j)) (λi j=>decide (i<=j)) (dC (.int 1)) (dA bG (aC (dV 0) aN)) (dC (.int 8))))) [fz d]=
 aa (match d with | .tup ds=>!(decide (1<=ds.length)&&decide (ds.length<=8)) | _=>ψ):=by
 have hv:dV 0 [fz d]=aa d:=rfl;have no:isTup d=μ->qS (cZ (cq (dA jw (aC (dV 0) (aC (dC (.raw (.ty "tuple"))) aN))))) (cZ (cT (Bq (λi j=>decide (i<=j)) (λi j=>decide (i<=j)) (dC (.int 1)) (dA bG (aC (dV 0) aN)) (dC (.int 8))))) [fz d]=aa ψ:=λhs=>by
  simp only[qS,cZ,cq,dA,aC,aN,dC,hv,aw,qW h,hs,AV,abS,if_true]
 cases d with
 |tup ds=>
  have hi:cq (dA jw (aC (dV 0) (aC (dC (.raw (.ty "tuple"))) aN))) [fz (.tup ds)]=aa ψ:=by
   simp only[cq,dA,aC,aN,dC,hv,aw,qW h,isTup,AV]
  have hl:dA bG (aC (dV 0) aN) [fz (.tup ds)]=aa (.int (ds.length:Int)):=rfl;unfold qS cZ;rw[hi,aw,aw,Gk hl];rfl
 |non=>exact no rfl
 |bl b=>exact no rfl
 |int b=>exact no rfl
 |str b=>exact no rfl
 |lst b=>exact no rfl
 |raw _=>exact h.elim
 |exc _=>exact h.elim
 |scr _=>exact h.elim
 |dct _ _=>exact h.elim
 |dci _ _=>exact h.elim
def all_rows(h:∀d∈ds,Plain d)(hl:ds.length<=8):dA allM (aC (bw 0 (rE (dV 0)) c6 (aq 1 gY (aC (dV 0) aN))) aN) [fz (.tup ds)]=aa (.bl (ds.all qN)):=by
 have cm:bw 0 (rE (dV 0)) c6 (aq 1 gY (aC (dV 0) aN)) [fz (.tup ds)]=aa (.lst ((ds.map qN).map D.bl)):=by
  refine bP (ds:=ds) rfl ?_ (by rw[X3,X3,ck];omega);rw[YD];refine iV (g:=D.bl∘qN) ds λd hd=>?_;rw[jW];show (gY [d]>>=λy=>aa (θ y))=_;rw[BN (h d hd)];rfl
 rw[cf (aO cm rfl),all_map,aak];rfl
def all_lens(hs:∀d∈ds,∃x,d= .str x)(h0:1<=ds.length)(hl:ds.length<=8):
 dA allM (aC (bw 0 (rE (dV 0)) c6 (d2 mS (dA bG (aC (dV 0) aN)) (dA bG (aC (d2 cu (dV 1) (dC (.int 0))) aN)))) aN) [fz (.tup ds)]=aa (.bl (ds.all λd=>mf d==mf (ds.headD .non))):=by
 obtain⟨d0,r,e0⟩:∃d0 r,ds=d0::r:=by
  cases ds with
  |nil=>simp at h0
  |cons a r=>exact⟨a,r,rfl⟩
 have hh:ds.headD .non=d0:=by rw[e0];rfl
 obtain⟨x0,Va⟩:=hs d0 (by rw[e0];exact X5 ..);have cm:bw 0 (rE (dV 0)) c6 (d2 mS (dA bG (aC (dV 0) aN)) (dA bG (aC (d2 cu (dV 1) (dC (.int 0))) aN))) [fz (.tup ds)]=aa (.lst ((ds.map λd=>mf d==mf (ds.headD .non)).map D.bl)):=by
  refine bP (ds:=ds) rfl ?_ (by rw[X3,X3,ck];omega);rw[YD];refine iV (g:=D.bl∘λd=>mf d==mf (ds.headD .non)) ds λd hd=>?_;rw[jW];obtain⟨x,rfl⟩:=hs d hd;have k:((x.length:Int)==(x0.length:Int))=(x.length==x0.length):=nh _ _;have i0:cu (.tup ds) (.int 0)=aa (.str x0):=by rw[Ts e0,Va]
  have Wi:ds.headD .non= .str x0:=by rw[hh,Va]
  simp only[d2,dA,aC,aN,dC,dV,aw,YQ,Za,len_str,i0,eq_int,k,acL,mf,Wi]
 rw[cf (aO cm rfl),all_map,aak];rfl
def xh{d:D}(h:Plain2 d):js [d]=aa (.bl (ro d)):=by
 refine aT ?_;have hρ:([d].map (λd=>θ (Sl.fz d))++Y4 (1 - [d].length) ω)=[fz d]:=rfl;rw[hρ];have hf:=EI h.plain;have no:(∀ds,d≠ .tup ds)->uo [fz d]=aa (.rt (.bl (ro d))):=λhn=>by
  cases d<;>first | exact ael rfl (hn _) | exact fj (fJ hf (aP rfl))
 cases d with
 |tup ds=>
  have hf:_=aa (!(decide (1<=ds.length)&&decide (ds.length<=8))):=hf;by_cases hr:(decide (1<=ds.length)&&decide (ds.length<=8))=ψ
  ·rw[hr] at hf;have hb:=hr;simp only[Yq,aej] at hb;have e:ro (.tup ds)=(ds.all qN&&ds.all λd=>mf d==mf (ds.headD .non)):=by
    show ((decide (1<=ds.length)&&decide (ds.length<=8))&&_)=_;rw[hr,acg]
   rw[e];have a1:=all_rows h hb.2;refine aj (dr hf rfl) ?_;cases hc:ds.all qN with
   |false=>
    rw[hc] at a1;refine fj (fJ ?_ (aP rfl));unfold cZ cq;rw[a1];rfl
   |true=>
    rw[hc] at a1;refine aj (dr ?_ rfl) (aP ?_)
    ·unfold cZ cq;rw[a1];rfl
    ·rw[acg];exact all_lens (λd hd=>Lj (Yu.mp hc d hd)) hb.1 hb.2
  ·have hr:(decide (1<=ds.length)&&decide (ds.length<=8))=μ:=by simpa using hr
   rw[hr] at hf;have e:ro (.tup ds)=μ:=by
    show ((decide (1<=ds.length)&&decide (ds.length<=8))&&_)=_;rw[hr];rfl
   rw[e];exact fj (fJ hf (aP rfl))
 |non=>exact no λ_ z=>by cases z
 |bl b=>exact no λ_ z=>by cases z
 |int b=>exact no λ_ z=>by cases z
 |str b=>exact no λ_ z=>by cases z
 |lst b=>exact no λ_ z=>by cases z
 |raw _=>exact h.elim
 |exc _=>exact h.elim
 |scr _=>exact h.elim
 |dct _ _=>exact h.elim
 |dci _ _=>exact h.elim
structure Brd (ob:List Str) (V:Nat):Prop where
 r1:1<=ob.length
 r8:ob.length<=8
 w1:1<=V
 w8:V<=8
 rows:∀r∈ob,Row V r
def Good.brd(hg:Good bd W):Brd bd W:=⟨hg.r1,by have:=hg.r5;omega,hg.w1,by have:=hg.w5;omega,hg.rows⟩
def Brd.board{V:Nat}(h:Brd ob V):ro (brd ob)=ψ:=by
 have S9:∀r∈ob,qN (.str r)=ψ:=λr hr=>by
  have q:=h.rows r hr;show ((decide (1<=r.length)&&decide (r.length<=8))&&lq r)=ψ;rw[q.len];have a:decide (1<=V)=ψ:=aeg h.w1;have b:decide (V<=8)=ψ:=aeg h.w8;rw[a,b];show lq r=ψ;exact Yu.mpr λc hc=>q.let' c hc
 have h0:mf ((ob.map D.str).headD .non)=V:=by
  have:=h.r1;have hr:=h.rows;cases ob with
  |nil=>simp at this
  |cons x l=>exact(hr x (X5 ..)).len
 show ((decide (1<=(ob.map D.str).length)&&decide ((ob.map D.str).length<=8))&&((ob.map D.str).all qN&&(ob.map D.str).all λd=>mf d==mf ((ob.map D.str).headD .non)))=ψ;rw[h0,X3,aeg h.r1,aeg h.r8];have a:(ob.map D.str).all qN=ψ:=Yu.mpr λd hd=>by
  obtain⟨r,hr,rfl⟩:=Yo.mp hd;exact S9 r hr
 have b:((ob.map D.str).all λd=>mf d==V)=ψ:=Yu.mpr λd hd=>by
  obtain⟨r,hr,rfl⟩:=Yo.mp hd;show (r.length==V)=ψ;rw[(h.rows r hr).len];simp
 rw[a,b];rfl
def Et:Plain2 (brd bd):=λd hd=>by
 obtain⟨r,_,rfl⟩:=Yo.mp hd;trivial
def jX(h:δ ρ=aa (.bl b)):cq δ ρ=aa b:=by
 unfold cq;rw[h];rfl
def fH(h:δ ρ=aa (.bl b)):cT δ ρ=aa b:=by
 unfold cT;rw[h];rfl
def oz(h:τ ρ=aa b):cZ τ ρ=aa (!b):=by
 unfold cZ;rw[h];rfl
def Gw(h1:a ρ=aa p)(h2:c ρ=aa q):qS a c ρ=aa (p||q):=by
 unfold qS;rw[h1,aw];cases p
 ·exact h2
 ·rfl
def Gu(h1:a ρ=aa p)(h2:c ρ=aa q):Gs a c ρ=aa (p&&q):=by
 unfold Gs;rw[h1,aw];cases p
 ·rfl
 ·exact h2
def ME(h1:a ρ=aa (.bl p))(h2:c ρ=aa (.bl q)):EF a c ρ=aa (.bl (p||q)):=by
 unfold EF;rw[h1,aw];cases p
 ·exact h2
 ·rfl
def LM(h:c ρ=aa p):Gv c a b ρ=if p then a ρ else b ρ:=by
 unfold Gv;rw[h];rfl
def Brd.nb{V:Nat}(h:Brd ob V):aH [brd ob]=aa .non:=by
 refine lA (dr (oz (jX (b:=ψ) ?_)) rfl);refine(ao (ds:=[brd ob]) rfl rfl).trans ?_;rw[xh Et,h.board]
structure Ln (V:Nat) (r:Str):Prop where
 len:r.length=V
structure Wd (ob:List Str) (V:Nat):Prop where
 r1:1<=ob.length
 r8:ob.length<=8
 w1:1<=V
 w8:V<=8
 rows:∀r∈ob,Ln V r
def Brd.wd{V:Nat}(h:Brd ob V):Wd ob V:=⟨h.r1,h.r8,h.w1,h.w8,λr hr=>⟨(h.rows r hr).len⟩⟩
def Wd.len0{V:Nat}(h:Wd ob V)(hρ:ρ[i]? =θ (fz (brd ob))):dA bG (aC (d2 cu (dV i) (dC (.int 0))) aN) ρ=aa (.int (V:Int)):=by
 have h1:=h.r1;have hr:=h.rows;obtain⟨x,l,e⟩:∃x l,ob=x::l:=by
  cases ob with
  |nil=>simp at h1
  |cons x l=>exact⟨x,l,rfl⟩
 have hx:x.length=V:=(hr x (by rw[e];exact X5 ..)).len;have i0:cu (brd ob) (.int 0)=aa (.str x):=Ts (show ob.map D.str=D.str x::l.map D.str by rw[e];rfl);have k:=aR (g:=cu) (jr hρ) (show dC (.int 0) ρ=aa (.int 0) from rfl);rw[i0] at k;rw[cf (aO k rfl)];show aa (D.int (x.length:Int))=_;rw[hx]
theorem Brd.len0{V:Nat}(h:Brd ob V)(hρ:ρ[i]? =θ (fz (brd ob))):dA bG (aC (d2 cu (dV i) (dC (.int 0))) aN) ρ=aa (.int (V:Int)):=h.wd.len0 hρ
def Nu(hρ:ρ[i]? =θ (fz (brd bd))):dA bG (aC (dV i) aN) ρ=aa (.int (bd.length:Int)):=by
 have:bG [brd bd]=aa (.int (bd.length:Int)):=by
  show aa (D.int ((bd.map D.str).length:Int))=_;rw[X3]
 simp only[dA,aC,aN,jr hρ,aw,this]
def jM:D->Bool
 | .int _=>ψ
 |_=>μ
def wF(h:Plain d):bX [d]=aa (.bl (jM d)):=by
 cases d<;>first | rfl | exact h.elim
def O6(R W:Nat):D->D->Bool
 | .int a, .int b=>(decide (0<=a)&&decide (a<(R:Int)))&&(decide (0<=b)&&decide (b<(W:Int)))
 |_,_=>μ
def LK(R W:Nat):D->Bool
 | .tup [u,v]=>O6 R W u v
 |_=>μ
def O8(h:δ ρ=aa (.int i))(h2:ε ρ=aa (.int n)):
 Bq (λi j=>decide (i<=j)) (λi j=>decide (i<j)) (dC (.int 0)) δ ε ρ=aa (.bl (decide (0<=i)&&decide (i<n))):=by
 simp only[Bq,dC,h,h2,aw,gI];cases decide (0<=i)<;>rfl
def zE(hg:Brd bd W)(h:Plain2 d):k9 [brd bd,d]=aa (.bl (LK bd.length W d)):=by
 refine aT ?_;have hρ:([brd bd,d].map (λd=>θ (Sl.fz d))++Y4 (2 - [brd bd,d].length) ω)=[fz (brd bd),fz d]:=rfl;rw[hρ];have hv:dV 1 [fz (brd bd),fz d]=aa d:=rfl;have no:isTup d=μ->wG [fz (brd bd),fz d]=aa (.rt (.bl μ)):=λhs=>by
  refine fj (fJ ?_ (aP rfl));simp only[qS,cZ,cq,dA,aC,aN,dC,hv,aw,qW h.plain,hs,AV,abS,if_true]
 cases d with
 |tup ds=>
  have hi:cZ (cq (dA jw (aC (dV 1) (aC (dC (.raw (.ty "tuple"))) aN)))) [fz (brd bd),fz (.tup ds)]=aa μ:=by
   simp only[cZ,cq,dA,aC,aN,dC,hv,aw,qW h.plain,isTup,AV,Bool.not_true]
  have k:((ds.length:Int)==2)=(ds.length==2):=nh ds.length 2;have hl:qS (cZ (cq (dA jw (aC (dV 1) (aC (dC (.raw (.ty "tuple"))) aN))))) (cT (d2 qF (dA bG (aC (dV 1) aN)) (dC (.int 2)))) [fz (brd bd),fz (.tup ds)]=aa (!(ds.length==2)):=by
   unfold qS;rw[hi];simp only[cT,d2,dA,aC,aN,dC,hv,aw,Kq,ne_int,k,Er,Y0,if_false]
  match ds,h,hl with
  |[],h,hl=>exact fj (fJ hl (aP rfl))
  |[_],h,hl=>exact fj (fJ hl (aP rfl))
  |_::_::_::_,h,hl=>
   refine fj (fJ (hl.trans ?_) (aP rfl));simp
  |[u,v],h,hl=>
   refine aj (dr hl rfl) ?_;have pu:Plain u:=h u (by simp);have pv:Plain v:=h v (by simp);have w1:aq 1 bX (aC (d2 cu (dV 1) (dC (.int 0))) aN) [fz (brd bd),fz (.tup [u,v])]=aa (.bl (jM u)):=wF pu;have w2:aq 1 bX (aC (d2 cu (dV 1) (dC (.int 1))) aN) [fz (brd bd),fz (.tup [u,v])]=aa (.bl (jM v)):=wF pv;have hw:qS (cZ (cq (aq 1 bX (aC (d2 cu (dV 1) (dC (.int 0))) aN)))) (cZ (cq (aq 1 bX (aC (d2 cu (dV 1) (dC (.int 1))) aN)))) [fz (brd bd),fz (.tup [u,v])]=aa (!(jM u&&jM v)):=by
    unfold qS cZ cq;rw[w1,w2];simp only[aw,AV];cases jM u<;>cases jM v<;>rfl
   have bad:(jM u&&jM v)=μ->aA (jQ (qS (cZ (cq (aq 1 bX (aC (d2 cu (dV 1) (dC (.int 0))) aN)))) (cZ (cq (aq 1 bX (aC (d2 cu (dV 1) (dC (.int 1))) aN))))) (bI (dC (.bl μ))) eg) (bI (gT (Bq (λi j=>decide (i<=j)) (λi j=>decide (i<j)) (dC (.int 0)) (d2 cu (dV 1) (dC (.int 0))) (dA bG (aC (dV 0) aN))) (Bq (λi j=>decide (i<=j)) (λi j=>decide (i<j)) (dC (.int 0)) (d2 cu (dV 1) (dC (.int 1))) (dA bG (aC (d2 cu (dV 0) (dC (.int 0))) aN))))) [fz (brd bd),fz (.tup [u,v])]=aa (.rt (.bl μ)):=λhz=>by
    rw[hz] at hw;exact fj (fJ hw (aP rfl))
   match u,v,hw,bad with
   | .int a, .int b,hw,bad=>
     refine aj (dr hw rfl) (aP ?_);obtain⟨x0,r,e0⟩:∃x0 r,bd=x0::r:=by
      have:=hg.r1;cases bd with
      |nil=>simp at this
      |cons x r=>exact⟨x,r,rfl⟩
     have hx:x0.length=W:=(hg.rows x0 (by rw[e0];simp)).len;have l0:dA bG (aC (dV 0) aN) [fz (brd bd),fz (.tup [.int a, .int b])]=aa (.int (bd.length:Int)):=by
      show aa (D.int ((bd.map D.str).length:Int))=_;rw[X3]
     have l1:dA bG (aC (d2 cu (dV 0) (dC (.int 0))) aN) [fz (brd bd),fz (.tup [.int a, .int b])]=aa (.int (W:Int)):=by
      have i0:cu (brd bd) (.int 0)=aa (.str x0):=Ts (by rw[e0];rfl);simp only[dA,aC,aN,d2,dC,dV,YQ,aw,i0,len_str,hx]
     have c1:=O8 (δ:=d2 cu (dV 1) (dC (.int 0))) rfl l0;have c2:=O8 (δ:=d2 cu (dV 1) (dC (.int 1))) rfl l1;unfold gT;rw[c1,aw];show (if (decide (0<=a)&&decide (a<(bd.length:Int)))=ψ then _ else _)=aa (D.bl ((decide (0<=a)&&decide (a<(bd.length:Int)))&&(decide (0<=b)&&decide (b<(W:Int)))));cases (decide (0<=a)&&decide (a<(bd.length:Int)))
     ·rfl
     ·rw[aef rfl,c2,acg]
   | .non,_,_,bad=>exact bad rfl
   | .bl _,_,_,bad=>exact bad rfl
   | .str _,_,_,bad=>exact bad rfl
   | .tup _,_,_,bad=>exact bad rfl
   | .lst _,_,_,bad=>exact bad rfl
   | .raw _,_,_,_=>exact pu.elim
   | .exc _,_,_,_=>exact pu.elim
   | .scr _,_,_,_=>exact pu.elim
   | .int a, .non,_,bad=>exact bad rfl
   | .int a, .bl _,_,bad=>exact bad rfl
   | .int a, .str _,_,bad=>exact bad rfl
   | .int a, .tup _,_,bad=>exact bad rfl
   | .int a, .lst _,_,bad=>exact bad rfl
   | .int a, .raw _,_,_=>exact pv.elim
   | .int a, .exc _,_,_=>exact pv.elim
   | .int a, .scr _,_,_=>exact pv.elim
 |non=>exact no rfl
 |bl b=>exact no rfl
 |int b=>exact no rfl
 |str b=>exact no rfl
 |lst b=>exact no rfl
 |raw _=>exact h.elim
 |exc _=>exact h.elim
 |scr _=>exact h.elim
 |dct _ _=>exact h.elim
 |dci _ _=>exact h.elim
abbrev Cell:=Nat×Nat
def cD(c:Cell):D:= .tup [.int (c.1:Int), .int (c.2:Int)]
def On(R W:Nat)(c:Cell):Prop:=c.1<R/\c.2<W
instance {R W:Nat}{c:Cell}:Decidable (On R W c):=by unfold On;infer_instance
def Ge:Plain2 (cD c):=λd hd=>by
 have:d= .int (c.1:Int)\/d= .int (c.2:Int):=by simpa[cD] using hd
 rcases this with rfl | rfl<;>trivial
def JJ(h:On R W c):LK R W (cD c)=ψ:=by
 show ((decide ((0:Int)<=(c.1:Int))&&decide ((c.1:Int)<(R:Int)))&&(decide ((0:Int)<=(c.2:Int))&&decide ((c.2:Int)<(W:Int))))=ψ;obtain⟨h1,h2⟩:=h;simp;omega
def Brd.nc(hg:Brd bd W)(h:On bd.length W c):b8 [brd bd,cD c]=aa .non:=by
 refine lA (dr (oz (jX (b:=ψ) ?_)) rfl);refine(ao (ds:=[brd bd,cD c]) rfl rfl).trans ?_;rw[zE hg Ge,JJ h]
def Ways(w:Nat):Prop:=w=4\/w=8
def Ways.nw(h:Ways w):bg [iW w]=aa .non:=by
 rcases h with rfl | rfl<;>rfl
def ch(x:Str)(j:Nat):Nat:=x.cps.toList.getD j 0
def at2(bd:List Str)(i j:Nat):Nat:=ch (bd.getD i ⟨#[]⟩) j
abbrev lt(bd:List Str)(c:Cell):Nat:=at2 bd c.1 c.2
def sg(n:Nat):D:= .str ⟨#[n]⟩
def Lo{c:Nat}(h:c<x.length):uG (.str x) (.int (c:Int))=aa (sg (ch x c)):=by
 have h':c<x.cps.toList.length:=by rw[Yd];exact h
 show (match L2.atI x.cps.toList (c:Int) with | some c=>aa (D.str ⟨#[c]⟩) | none=>af)=_;rw[gP (X7 h')];unfold sg ch;rw[Yp,X7 h'];rfl
def getD_mem{bd:List Str}(h:i<bd.length):bd.getD i ⟨#[]⟩∈bd:=by
 rw[Yp,X7 h];exact ZM h
def Nd{i:Nat}(h:i<bd.length):cu (brd bd) (.int (i:Int))=aa (.str (bd.getD i ⟨#[]⟩)):=by
 show (match L2.atI (bd.map D.str) (i:Int) with | some d=>aa d | none=>af)=_;rw[gP ?_];rw[Yl,X7 h,Yp,X7 h];rfl
def eo(hg:Brd bd W)(h:On bd.length W c):a7 [brd bd,cD c]=aa (sg (lt bd c)):=by
 refine aT (aP ?_);refine(aR ((aR rfl rfl).trans (Nd h.1)) rfl).trans ?_;exact Lo (by rw[(hg.rows _ (getD_mem h.1)).len];exact h.2)
def LO(a b:Nat):mS (sg a) (sg b)=aa (.bl (decide (a=b))):=by
 show aa (D.bl (decide ((⟨#[a]⟩:Str)=⟨#[b]⟩)))=_;congr 2;by_cases h:a=b
 ·subst h;simp
 ·have:¬((⟨#[a]⟩:Str)=⟨#[b]⟩):=λz=>by
   injection z with z
   exact h (by simpa using z)
  rw[aek h,aek this]
def cB(a b:Nat):Nat:=max a b - min a b
def lR(w:Nat)(a b:Cell):Bool:=if w=4 then decide (cB a.1 b.1+cB a.2 b.2=1) else decide (max (cB a.1 b.1) (cB a.2 b.2)=1)
def CJ(a b:Nat):F7 [.int ((a:Int) - (b:Int))]=aa (.int (cB a b:Int)):=by
 show aa (D.int _)=_;congr 2;unfold cB;omega
def wI(hw:Ways w)(a b:Cell):eG [cD a,cD b,iW w]=aa (.bl (lR w a b)):=by
 refine aT ?_;refine aj ((aJ (CJ a.1 b.1)).trans rfl) ?_;refine aj ((aJ (CJ a.2 b.2)).trans rfl) ?_;rcases hw with rfl | rfl
 ·refine fj (fJ (fH rfl) (aP ?_));show aa (D.bl (((cB a.1 b.1:Int)+(cB a.2 b.2:Int))==1))=_;unfold lR;rw[aef rfl];congr 2;have:((cB a.1 b.1:Int)+(cB a.2 b.2:Int))=((cB a.1 b.1+cB a.2 b.2:Nat):Int):=by omega
  rw[this];have e:=nh (cB a.1 b.1+cB a.2 b.2) 1;exact e.trans rfl
 ·refine aj (dr (fH rfl) rfl) (aP ?_);show aa (D.bl ((if (cB a.1 b.1:Int)<(cB a.2 b.2:Int) then(cB a.2 b.2:Int) else(cB a.1 b.1:Int))==1))=_;have hn:lR 8 a b=decide (max (cB a.1 b.1) (cB a.2 b.2)=1):=rfl;rw[hn];congr 2;have:(if (cB a.1 b.1:Int)<(cB a.2 b.2:Int) then(cB a.2 b.2:Int) else(cB a.1 b.1:Int))=((max (cB a.1 b.1) (cB a.2 b.2):Nat):Int):=by split<;>omega
  rw[this];have e:=nh (max (cB a.1 b.1) (cB a.2 b.2)) 1;exact e.trans rfl
def zY(w:Nat)(a b:Cell):lR w a b=lR w b a:=by
 have e:∀x y:Nat,cB x y=cB y x:=λx y=>by unfold cB;rw[Nat.max_comm,Nat.min_comm]
 unfold lR;rw[e a.1,e a.2]
def cX(h1:put d ρ=θ ρ1)(h2:body ρ1=aa (.nx ρ2)):forL put body (d::ds) ρ=forL put body ds ρ2:=by
 show (match put d ρ with | none=>af | some ρ1=>body ρ1>>=λo=>match o with | .nx ρ2=>forL put body ds ρ2 | .rt v=>aa (.rt v))=_;rw[h1];show (body ρ1>>=λo=>match o with | .nx ρ2=>forL put body ds ρ2 | .rt v=>aa (.rt v))=_;rw[h2];rfl
section
variable{α σ:Type}{put:D->bQ->Option bQ}{body:DS}
theorem fS(enc:α->D)(mk:σ->bQ)(step:σ->α->σ)(I:σ->Prop):∀(xs:List α) (s:σ),I s->(∀s,I s->∀x∈xs,I (step s x)/\∃ρ1,put (enc x) (mk s)=θ ρ1/\body ρ1=aa (.nx (mk (step s x))))->
 I (xs.foldl step s)/\forL put body (xs.map enc) (mk s)=aa (.nx (mk (xs.foldl step s)))
 |[],s,h,_=>⟨h,rfl⟩
 |x::xs,s,h,st=>by
  obtain⟨h2,ρ1,e1,e2⟩:=st s h x (X5 ..);obtain⟨h3,e3⟩:=fS enc mk step I xs (step s x) h2 λs hs y hy=>st s hs y (X4 _ hy);exact⟨h3,(cX e1 e2).trans e3⟩
theorem iX(enc:α->D)(mk:List D->bQ)(g:α->List D):∀(xs:List α) (v4:List D),(v4++xs.flatMap g).length<=B->(∀x∈xs,∀v4,(v4++g x).length<=B->∃ρ1,put (enc x) (mk v4)=θ ρ1/\body ρ1=aa (.nx (mk (v4++g x))))->
 forL put body (xs.map enc) (mk v4)=aa (.nx (mk (v4++xs.flatMap g)))
 |[],v4,_,_=>by simp;rfl
 |x::xs,v4,hB,st=>by
  have UD:((v4++g x)++xs.flatMap g).length<=B:=by simpa[Zd,ZC] using hB
  obtain⟨ρ1,e1,e2⟩:=st x (X5 ..) v4 (Yz (by simp only[Yg];omega) UD);have e3:=iX enc mk g xs (v4++g x) UD λy hy=>st y (X4 _ hy);rw[X9,cX e1 e2,e3,Zd,ZC]
end
def dq(h:δi ρ=aa ds)(h2:forL put b ds ρ=m):dN put δi b ρ=m:=by
 unfold dN;rw[h];exact h2
def cF{τ:DS}(h:τ ρ=aa o):(λρ=>noex (τ ρ)) ρ=aa o:=by
 show noex (τ ρ)=_;rw[h];rfl
def Az(lo n:Nat):jh (lo:Int) n=(YO lo n).map λ(k:Nat)=>D.int (k:Int):=by
 unfold jh;rw[aaI];have:∀(n a:Nat),(YO a n).map (λ(i:Nat)=>D.int ((lo:Int)+(i:Int)))=(YO (lo+a) n).map λ(k:Nat)=>D.int (k:Int):=by
  intro n;induction n with
  |zero=>intro a;rfl
  |succ n ih=>
   intro a;rw[Z2,Z2,X9,X9,ih (a+1)];rfl
 exact this n 0
def Lg(h:δ ρ=aa (.int (n:Int)))(hn:n<=4096):(aC δ aN ρ>>=lW)=aa ((Yr n).map λ(k:Nat)=>D.int (k:Int)):=by
 rw[aO h rfl,aw,ph hn,show jh 0 n=jh ((0:Nat):Int) n from rfl,Az,aaI]
def Q3(h:δ ρ=aa (.int (i:Int)))(h2:ε ρ=aa (.int (j:Int)))(hi:i<=4096)(hj:j<=4096):(aC δ (aC ε aN) ρ>>=wk)=aa ((YO i (j - i)).map λ(k:Nat)=>D.int (k:Int)):=by
 rw[aO h (aO h2 rfl),aw];show (if (-4096<=(i:Int)/\(i:Int)<=4096)/\(-4096<=(j:Int)/\(j:Int)<=4096) then aa (jh (i:Int) ((j:Int) - (i:Int)).toNat) else af)=_;rw[aef ⟨⟨by omega,by omega⟩,by omega,by omega⟩,show ((j:Int) - (i:Int)).toNat=j - i by omega,Az]
def dB(W r:Nat):List Cell:=(Yr W).map λk=>(r,k)
def aE(R W:Nat):List Cell:=(Yr R).flatMap (dB W)
def aI:c∈aE R W↔On R W c:=by
 unfold aE dB On;simp only[Zz,YJ,Yo];constructor
 ·rintro⟨r,hr,k,hk,rfl⟩;exact⟨hr,hk⟩
 ·rintro⟨h1,h2⟩;exact⟨c.1,h1,c.2,h2,rfl⟩
def c9(R W:Nat):(aE R W).length=R*W:=by
 unfold aE;have:∀l:List Nat,(l.flatMap (dB W)).length=l.length*W:=by
  intro l;induction l with
  |nil=>simp
  |cons a l ih=>rw[Zd,Yg,ih,Yh,Nat.succ_mul];simp[dB];omega
 rw[this,ZS]
def iT(hg:Brd bd W)(r:Nat):bK [brd bd, .int (r:Int)]=aa (.lst ((dB W r).map cD)):=by
 have:=hg.w8;refine aT (aP (bP (Lg (hg.len0 rfl) (by omega)) ?_ (by simp[dB,ck];omega)));rw[show (dB W r).map cD=((Yr W).map λ(k:Nat)=>D.int (k:Int)).map (λe=> .tup [.int (r:Int),e]) by simp[dB,YD];intro a _;rfl];exact iV _ λe _=>rfl
def iH(hg:Brd bd W):c7 [brd bd]=aa (.lst ((aE bd.length W).map cD)):=by
 have h8:=hg.r8;have w8:=hg.w8;have hm:bd.length*W<=64:=Z4 h8 w8;have RD:(Yr bd.length).flatMap (λr=>(dB W r).map cD)=(aE bd.length W).map cD:=by
  unfold aE;rw[List.map_flatMap]
 have e:=iX (put:=putN 2) (body:=cM [2] (Fz 1 (aq 2 bK (aC (dV 0) (aC (dV 2) aN))))) (λ(k:Nat)=>D.int (k:Int)) (λv4=>[fz (brd bd),θ (.ow (.lst v4)),ω]) (λr=>(dB W r).map cD) (Yr bd.length) []
  (by rw[Zg,RD,X3,c9];exact hm) λr hr v4 hB=>by
   refine⟨[fz (brd bd),θ (.ow (.lst v4)),fz (.int (r:Int))],rfl,?_⟩;refine(aU (ρ':=[fz (brd bd),θ (.ow (.lst (v4++(dB W r).map cD))),fz (.int (r:Int))]) ?_).trans rfl;show (bK [brd bd, .int (r:Int)]>>=λd=>lstM d>>=λes=>if v4.length+es.length<=lim then aa (Out.nx (List.set [fz (brd bd),θ (.ow (.lst v4)),fz (.int (r:Int))] 1 (θ (.ow (.lst (v4++es)))))) else af)=_;rw[iT hg,aw];show (if v4.length+((dB W r).map cD).length<=lim then aa (Out.nx [fz (brd bd),θ (.ow (.lst (v4++(dB W r).map cD))),fz (.int (r:Int))]) else af)=_;rw[aef (by rw[Yg] at hB;rw[ck];omega)]
 rw[Zg,RD] at e;refine aT (aj rfl (aj (cF (dq (Lg (Nu rfl) (by omega)) e)) ?_));rfl
def kh(R W w:Nat)(c:Cell):List Cell:=
 (YO (c.1 - 1) (min (c.1+2) R - (c.1 - 1))).flatMap λr=>((YO (c.2 - 1) (min (c.2+2) W - (c.2 - 1))).map λk=>(r,k)).filter (lR w c)
def gK(hw:Ways w):x∈kh R W w c↔On R W x/\lR w c x=ψ:=by
 unfold kh On;simp only[Zz,YE,Yo,aec];constructor
 ·rintro⟨r,⟨h1,h2⟩,⟨k,⟨h3,h4⟩,rfl⟩,h5⟩;refine⟨⟨?_,?_⟩,h5⟩
  ·show r<R;omega
  ·show k<W;omega
 ·rintro⟨⟨h1,h2⟩,h5⟩;have h6:cB c.1 x.1<=1/\cB c.2 x.2<=1:=by
   unfold lR at h5;rcases hw with rfl | rfl
   ·have h5:=aei h5;exact⟨h5▸Nat.le_add_right ..,h5▸Nat.le_add_left ..⟩
   ·have h5:=aei h5;exact⟨h5▸abL ..,h5▸abl ..⟩
  have g:∀{a b B:Nat},cB a b<=1->b<B->a - 1<=b/\b<a - 1+(min (a+2) B - (a - 1)):=λ{a b B} h k=>by
   have h1:b<=a+1/\a<=b+1:=by unfold cB at h;omega
   have h2:min (a+2) B=a+2\/min (a+2) B=B:=by omega
   omega
  exact⟨x.1,g h6.1 h1,⟨x.2,g h6.2 h2,rfl⟩,h5⟩
def oJ(R W w:Nat)(c:Cell):(kh R W w c).length<=9:=by
 unfold kh;rw[adS];have h:∀r,(((YO (c.2 - 1) (min (c.2+2) W - (c.2 - 1))).map λk=>(r,k)).filter (lR w c)).length<=3:=λr=>by
  refine Yz (Zh ..) ?_;rw[X3,acf];omega
 have:∀(l:List Nat),(l.map λr=>(((YO (c.2 - 1) (min (c.2+2) W - (c.2 - 1))).map λk=>(r,k)).filter (lR w c)).length).sum<=3*l.length:=by
  intro l;induction l with
  |nil=>simp
  |cons a l ih=>rw[X9,abd,Yh];have:=h a;omega
 refine Yz (this _) ?_;rw[acf];omega
abbrev nc(b c w:D)(v4:List D)(x4 x5:Option Sl):bQ:=[fz b,fz c,fz w,θ (.ow (.lst v4)),x4,x5]
def g8(hg:Brd bd W)(hw:Ways w)(hc:On bd.length W c):bL [brd bd,cD c,iW w]=aa (.lst ((kh bd.length W w c).map cD)):=by
 have h8:=hg.r8;have w8:=hg.w8;obtain⟨c1,c2⟩:=hc;have P4:∀n:Nat,BU [.int ((n:Int) - 1), .int 0]=aa (.int ((n - 1:Nat):Int)):=λn=>by
  show aa (D.int (if (0:Int)>(n:Int) - 1 then 0 else(n:Int) - 1))=_;congr 2;split<;>omega
 have GZ:∀n m:Nat,E7 [.int ((n:Int)+2), .int (m:Int)]=aa (.int ((min (n+2) m:Nat):Int)):=λn m=>by
  show aa (D.int (if (m:Int)<(n:Int)+2 then(m:Int) else(n:Int)+2))=_;congr 2;split<;>omega
 have inner:∀(r:Nat) (v4:List D),v4.length<=16->forL (putN 5) (cM [5] (jQ (cq (aq 3 eG (aC (dV 1) (aC (dA e7 (aC (dV 4) (aC (dV 5) aN))) (aC (dV 2) aN))))) (pj 3 (dA e7 (aC (dV 4) (aC (dV 5) aN)))) eg))
  ((YO (c.2 - 1) (min (c.2+2) W - (c.2 - 1))).map λ(k:Nat)=>D.int (k:Int)) (nc (brd bd) (cD c) (iW w) v4 (fz (.int (r:Int))) ω)=
  aa (.nx (nc (brd bd) (cD c) (iW w) (v4++(YO (c.2 - 1) (min (c.2+2) W - (c.2 - 1))).flatMap λk=>if lR w c (r,k) then [cD (r,k)] else []) (fz (.int (r:Int))) ω)):=λr v4 g6=>by
  refine iX (λ(k:Nat)=>D.int (k:Int)) (λv4=>nc (brd bd) (cD c) (iW w) v4 (fz (.int (r:Int))) ω) (λk=>if lR w c (r,k) then [cD (r,k)] else []) (B:=64) _ v4 ?_ λk hk v4 hB=>?_
  ·rw[Yg,adS];have:∀l:List Nat,(l.map λk=>(if lR w c (r,k) then [cD (r,k)] else []).length).sum<=l.length:=by
    intro l;induction l with
    |nil=>simp
    |cons a l ih=>rw[X9,abd,Yh];split<;>simp<;>omega
   have h2:=this (YO (c.2 - 1) (min (c.2+2) W - (c.2 - 1)));rw[acf] at h2;omega
  ·refine⟨nc (brd bd) (cD c) (iW w) v4 (fz (.int (r:Int))) (fz (.int (k:Int))),rfl,?_⟩;have ht:cq (aq 3 eG (aC (dV 1) (aC (dA e7 (aC (dV 4) (aC (dV 5) aN))) (aC (dV 2) aN)))) (nc (brd bd) (cD c) (iW w) v4 (fz (.int (r:Int))) (fz (.int (k:Int))))=aa (lR w c (r,k)):=
    jX ((ao rfl rfl).trans (wI hw c (r,k)))
   cases hn:lR w c (r,k) with
   |true=>
    rw[hn] at ht;rw[hn,aef rfl,Yg] at hB;refine(aU (ρ':=nc (brd bd) (cD c) (iW w) (v4++[cD (r,k)]) (fz (.int (r:Int))) (fz (.int (k:Int)))) (fJ ht ?_)).trans rfl;show (if v4.length<lim then aa (Out.nx (nc (brd bd) (cD c) (iW w) (v4++[cD (r,k)]) (fz (.int (r:Int))) (fz (.int (k:Int))))) else af)=_;rw[aef (by rw[ck];simp at hB;omega)]
   |false=>
    rw[hn] at ht;refine(aU (dr ht rfl)).trans ?_;simp;rfl
 have flt:∀r,((YO (c.2 - 1) (min (c.2+2) W - (c.2 - 1))).flatMap λk=>if lR w c (r,k) then [cD (r,k)] else [])=(((YO (c.2 - 1) (min (c.2+2) W - (c.2 - 1))).map λk=>(r,k)).filter (lR w c)).map cD:=λr=>by
  generalize YO (c.2 - 1) (min (c.2+2) W - (c.2 - 1))=l;induction l with
  |nil=>rfl
  |cons a l ih=>
   rw[Zd,ih,X9,ZN];cases lR w c (r,a)<;>rfl
 have tot:(YO (c.1 - 1) (min (c.1+2) bd.length - (c.1 - 1))).flatMap (λr=>(((YO (c.2 - 1) (min (c.2+2) W - (c.2 - 1))).map λk=>(r,k)).filter (lR w c)).map cD)=(kh bd.length W w c).map cD:=by
  unfold kh;rw[List.map_flatMap]
 have outer:=iX (put:=putN 4) (body:=cM [4,5] (dN (putN 5) (λρ=>(aC (dA BU (aC (d2 rU (d2 cu (dV 1) (dC (.int 1))) (dC (.int 1))) (aC (dC (.int 0)) aN))) (aC (dA E7 (aC (d2 gk (d2 cu (dV 1) (dC (.int 1))) (dC (.int 2))) (aC (dA bG (aC (d2 cu (dV 0) (dC (.int 0))) aN)) aN))) aN)) ρ>>=wk) (cM [5] (jQ (cq (aq 3 eG (aC (dV 1) (aC (dA e7 (aC (dV 4) (aC (dV 5) aN))) (aC (dV 2) aN))))) (pj 3 (dA e7 (aC (dV 4) (aC (dV 5) aN)))) eg))))
  (λ(k:Nat)=>D.int (k:Int)) (λv4=>nc (brd bd) (cD c) (iW w) v4 ω ω) (λr=>(((YO (c.2 - 1) (min (c.2+2) W - (c.2 - 1))).map λk=>(r,k)).filter (lR w c)).map cD) (YO (c.1 - 1) (min (c.1+2) bd.length - (c.1 - 1))) []
  (by rw[Zg,tot,X3];have:=oJ bd.length W w c;omega) λr hr v4 hB=>by
   refine⟨nc (brd bd) (cD c) (iW w) v4 (fz (.int (r:Int))) ω,rfl,?_⟩;have e:=inner r v4 (by rw[Yg] at hB;omega);rw[flt r] at e;refine(aU (dq (Q3 ?_ ?_ (by omega) (by omega)) e)).trans rfl
   ·exact(cf rfl).trans (P4 c.2)
   ·refine(cf ?_).trans (GZ c.2 W);exact aO (show d2 gk (d2 cu (dV 1) (dC (.int 1))) (dC (.int 2)) (nc (brd bd) (cD c) (iW w) v4 (fz (.int (r:Int))) ω)=aa (.int ((c.2:Int)+2)) from rfl) (aO (hg.len0 rfl) rfl)
 rw[Zg,tot] at outer;refine aT (aj rfl (aj (cF (dq (Q3 ?_ ?_ (by omega) (by omega)) outer)) ?_))
 ·exact(cf rfl).trans (P4 c.1)
 ·refine(cf ?_).trans (GZ c.1 bd.length);exact aO (show d2 gk (d2 cu (dV 1) (dC (.int 0))) (dC (.int 2)) (nc (brd bd) (cD c) (iW w) [] ω ω)=aa (.int ((c.1:Int)+2)) from rfl) (aO (Nu rfl) rfl)
 ·rfl
def bc(bd:List Str)(W w:Nat)(c:Cell):List Cell:=(kh bd.length W w c).filter λx=>decide (lt bd x=lt bd c)
def bf(hw:Ways w):x∈bc bd W w c↔On bd.length W x/\lR w c x=ψ/\lt bd x=lt bd c:=by
 unfold bc;rw[YE,gK hw,aej,and_assoc]
def E4(bd:List Str)(W w:Nat)(c:Cell):(bc bd W w c).length<=9:=Yz (Zh ..) (oJ ..)
theorem iU(enc:α->D)(p:α->Bool):∀(xs:List α),(∀x∈xs,f (enc x)=aa (if p x then θ (enc x) else ω))->ej f (xs.map enc)=aa ((xs.filter p).map enc)
 |[],_=>rfl
 |x::xs,h=>by
  rw[X9,fN,h x (X5 ..),aw,iU enc p xs λy hy=>h y (X4 _ hy),ZN];cases p x<;>rfl
def sx(hg:Brd bd W)(hw:Ways w)(hc:On bd.length W c):c8 [brd bd,cD c,iW w]=aa (.lst ((bc bd W w c).map cD)):=by
 refine aT (aj (ρ':=[fz (brd bd),fz (cD c),fz (iW w),fz (sg (lt bd c))]) ((aJ ((ao rfl rfl).trans (eo hg hc))).trans rfl) (aP ?_));refine bP ?_ (iU cD _ _ λx hx=>?_) (by rw[X3,ck];exact Yz (E4 bd W w c) (by decide))
 ·show (aq 3 bL _ _>>=lstM)=_;have e:aq 3 bL (aC (dV 0) (aC (dV 1) (aC (dV 2) aN))) [fz (brd bd),fz (cD c),fz (iW w),fz (sg (lt bd c))]=aa (.lst ((kh bd.length W w c).map cD)):=g8 hg hw hc;rw[e];rfl
 ·have L5:=(gK hw).mp hx;rw[l_];have e:cT (d2 mS (aq 2 a7 (aC (dV 1) (aC (dV 0) aN))) (dV 4)) (fz (cD x)::[fz (brd bd),fz (cD c),fz (iW w),fz (sg (lt bd c))])=aa (decide (lt bd x=lt bd c)):=by
   refine fH ?_;exact(aR ((ao rfl rfl).trans (eo hg L5.1)) rfl).trans (LO _ _)
  rw[e,aw];cases decide (lt bd x=lt bd c)<;>rfl
end K1
namespace K1
section
variable{α:Type}[DecidableEq α]
structure Bk (α:Type) where
 ks:List α
 ps:List (Option α)
 fu:List α
def b5(c:α)(s:Bk α)(x:α):Bk α:=if x∈s.ks then s else⟨s.ks++[x],s.ps++[θ c],s.fu++[x]⟩
variable(nb:α->List α)
def d5(s:Bk α)(c:α):Bk α:=(nb c).foldl (b5 c) s
def bz(s:Bk α)(v1:List α):Bk α:=v1.foldl (d5 nb) s
def Rb(a:α):Nat->α->Prop
 |0,x=>x=a
 |k+1,x=>Rb a k x\/∃y,Rb a k y/\x∈nb y
variable{nb}{a:α}
def Rb.mono(h:i<=j)(r:Rb nb a i x):Rb nb a j x:=by
 induction h with
 |refl=>exact r
 |step _ ih=>exact .inl ih
structure Grown (P:α->α->Prop) (s t:Bk α):Prop where
 ex:∃fs:List (α×α),t.ks=s.ks++fs.map (·.1)/\t.ps=s.ps++fs.map (λp=>θ p.2)/\t.fu=s.fu++fs.map (·.1)/\(∀p∈fs,P p.2 p.1)
 nd:s.ks.Nodup->t.ks.Nodup
def Grown.refl(s:Bk α):Grown P s s:=⟨⟨[],by simp,by simp,by simp,λ_ h=>by cases h⟩,id⟩
def Grown.trans(h1:Grown P s t)(h2:Grown P t u):Grown P s u:=by
 obtain⟨fs,a1,a2,a3,a4⟩:=h1.ex;obtain⟨gs,b1,b2,b3,b4⟩:=h2.ex;refine⟨⟨fs++gs,by rw[b1,a1];simp,by rw[b2,a2];simp,by rw[b3,a3];simp,λp hp=>?_⟩,λh=>h2.nd (h1.nd h)⟩;rcases YA.mp hp with h | h
 ·exact a4 p h
 ·exact b4 p h
def yX(s:Bk α)(h:P c x):Grown P s (b5 c s x):=by
 unfold b5;split
 ·exact Grown.refl s
 ·rename_i hx;refine⟨⟨[(x,c)],rfl,rfl,rfl,λp hp=>?_⟩,λhn=>?_⟩
  ·have:p=(x,c):=by simpa using hp
   subst this;exact h
  ·refine YN.mpr ⟨hn,by simp,λy hy z hz e=>?_⟩;have hz:z=x:=by simpa using hz
   rw[e,hz] at hy;exact hx hy
def k7(s:Bk α):y∈(b5 c s x).ks↔y∈s.ks\/y=x:=by
 unfold b5;split
 ·rename_i hx;exact⟨.inl,λh=>h.elim id λe=>by rw[e];exact hx⟩
 ·simp
theorem foldStep:∀(l:List α) (s:Bk α),(∀x∈l,P c x)->Grown P s (l.foldl (b5 c) s)/\∀y,y∈(l.foldl (b5 c) s).ks↔y∈s.ks\/y∈l
 |[],s,_=>⟨Grown.refl s,λy=>by simp⟩
 |x::l,s,h=>by
  obtain⟨h1,h2⟩:=foldStep l (b5 c s x) λy hy=>h y (X4 _ hy);refine⟨(yX s (h x (X5 ..))).trans h1,λy=>?_⟩;rw[aap,h2 y,k7];simp[or_assoc]
theorem zp:∀(l:List α) (s:Bk α),(∀c∈l,∀x∈nb c,P c x)->Grown P s (bz nb s l)/\∀y,y∈(bz nb s l).ks↔y∈s.ks\/∃c∈l,y∈nb c
 |[],s,_=>⟨Grown.refl s,λy=>by simp[bz]⟩
 |c::l,s,h=>by
  obtain⟨g1,m1⟩:=foldStep (nb c) s (h c (X5 ..));obtain⟨g2,m2⟩:=zp l (d5 nb s c) λc' hc=>h c' (X4 _ hc);refine⟨g1.trans g2,λy=>?_⟩;show y∈(bz nb (d5 nb s c) l).ks↔_;rw[m2 y];show (y∈((nb c).foldl (b5 c) s).ks\/_)↔_;rw[m1 y];simp[or_assoc]
structure Rng (nb:α->List α) (a:α) (k:Nat) (ks:List α) (ps:List (Option α)) (v1:List α):Prop where
 len:ks.length=ps.length
 nd:ks.Nodup
 mem:∀x,x∈ks↔Rb nb a k x
 rg:∀x,x∈v1↔Rb nb a k x/\∀j,Rb nb a j x->k<=j
 par:∀x p,(x,θ p)∈ks.zip ps->x∈nb p/\p∈ks/\∀j,Rb nb a j x->∃i,j=i+1/\Rb nb a i p
 non:∀x,(x,ω)∈ks.zip ps->x=a
 sz:k<=ks.length/\(v1≠[]->k+1<=ks.length)
def Rng.zero(nb:α->List α)(a:α):Rng nb a 0 [a] [ω] [a] where
 len:=rfl
 nd:=by simp
 mem:=λx=>by simp[Rb]
 rg:=λx=>by simp[Rb]
 par:=λx p h=>by simp at h
 non:=λx h=>by simpa using h
 sz:=⟨by simp,λ_=>by simp⟩
def Rng.next(h:Rng nb a k ks ps v1)(hr:v1≠[]):Rng nb a (k+1) (bz nb ⟨ks,ps,[]⟩ v1).ks (bz nb ⟨ks,ps,[]⟩ v1).ps (bz nb ⟨ks,ps,[]⟩ v1).fu:=by
 obtain⟨g,m⟩:=zp (P:=λc x=>c∈v1/\x∈nb c) v1 ⟨ks,ps,[]⟩ λc hc x hx=>⟨hc,hx⟩
 obtain⟨fs,e1,e2,e3,e4⟩:=g.ex;have Jx:=g.nd h.nd;have hm:∀x,x∈(bz nb ⟨ks,ps,[]⟩ v1).ks↔Rb nb a (k+1) x:=λx=>by
  rw[m x];show (x∈ks\/_)↔(Rb nb a k x\/_);constructor
  ·rintro(q | ⟨c,hc,hx⟩)
   ·exact .inl ((h.mem x).mp q)
   ·exact .inr ⟨c,((h.rg c).mp hc).1,hx⟩
  ·rintro(q | ⟨y,hy,hx⟩)
   ·exact .inl ((h.mem x).mpr q)
   ·by_cases hk:∀j,Rb nb a j y->k<=j
    ·exact .inr ⟨y,(h.rg y).mpr ⟨hy,hk⟩,hx⟩
    ·refine .inl ((h.mem x).mpr ?_);obtain⟨j,hj⟩:=ac6.mp hk;obtain⟨SU,Wl⟩:=adv.mp hj;exact Rb.mono (i:=j+1) (by omega) (.inr ⟨y,SU,hx⟩)
 have zk:(bz nb ⟨ks,ps,[]⟩ v1).ks=ks++fs.map (·.1):=e1;have GF:(bz nb ⟨ks,ps,[]⟩ v1).ps=ps++fs.map (λp=>θ p.2):=e2;have Ru:(bz nb ⟨ks,ps,[]⟩ v1).fu=fs.map (·.1):=e3;have new:∀x,x∈fs.map (·.1)->¬Rb nb a k x:=λx hx hk=>by
  rw[zk] at Jx;exact(YN.mp Jx).2.2 x ((h.mem x).mpr hk) x hx rfl
 have Qu:∀x,¬Rb nb a k x->∀j,Rb nb a j x->k+1<=j:=λx hx j hj=>by
  by_cases Wm:k+1<=j
  ·exact Wm
  ·exact ael (Rb.mono (by omega) hj) hx
 have Qe:(bz nb ⟨ks,ps,[]⟩ v1).ks.zip (bz nb ⟨ks,ps,[]⟩ v1).ps=ks.zip ps++fs.map λp=>(p.1,θ p.2):=by
  rw[zk,GF,abu h.len];congr 1;rw[adf]
 refine⟨?_,Jx,hm,λx=>?_,λx p hp=>?_,λx hx=>?_,?_⟩
 ·rw[zk,GF,Yg,Yg,X3,X3,h.len]
 ·rw[Ru];constructor
  ·intro hx;exact⟨(hm x).mp (by rw[zk];exact YU _ hx),Qu x (new x hx)⟩
  ·rintro⟨h1,h2⟩;have h3:=(hm x).mpr h1;rw[zk] at h3;rcases YA.mp h3 with q | q
   ·have:=h2 k ((h.mem x).mp q);omega
   ·exact q
 ·rw[Qe] at hp;rcases YA.mp hp with q | q
  ·obtain⟨q1,q2,q3⟩:=h.par x p q;exact⟨q1,by rw[zk];exact ZA _ q2,q3⟩
  ·obtain⟨f,hf,e⟩:=Yo.mp q;cases e;obtain⟨f1,f2⟩:=e4 f hf;have hc:=(h.rg f.2).mp f1;refine⟨f2,by rw[zk];exact ZA _ ((h.mem _).mpr hc.1),λj hj=>?_⟩;have:=Qu f.1 (new f.1 (Yo.mpr ⟨f,hf,rfl⟩)) j hj;exact⟨j - 1,by omega,Rb.mono (by omega) hc.1⟩
 ·rw[Qe] at hx;rcases YA.mp hx with q | q
  ·exact h.non x q
  ·obtain⟨f,hf,e⟩:=Yo.mp q;cases e
 ·have hs:=h.sz.2 hr;rw[zk,Yg,X3];refine⟨by omega,λfE=>?_⟩;have:fs≠[]:=λz=>fE (by rw[Ru,z];rfl);have:=adR.mpr this;omega
def Rng.last(h:Rng nb a k ks ps []):∀x,x∈ks↔∃j,Rb nb a j x:=by
 have ω:∀x,¬(Rb nb a k x/\∀j,Rb nb a j x->k<=j):=λx q=>by
  have:=(h.rg x).mpr q;cases this
 have hk:∀x,Rb nb a k x->∃i,i<k/\Rb nb a i x:=λx hx=>by
  by_cases q:∀j,Rb nb a j x->k<=j
  ·exact ael ⟨hx,q⟩ (ω x)
  ·obtain⟨j,hj⟩:=ac6.mp q;obtain⟨SU,Wl⟩:=adv.mp hj;exact⟨j,by omega,SU⟩
 have all:∀j x,Rb nb a j x->Rb nb a k x:=by
  intro j;induction j with
  |zero=>intro x hx;exact Rb.mono (YH _) hx
  |succ j ih=>
   rintro x (q | ⟨y,hy,hx⟩)
   ·exact ih x q
   ·obtain⟨i,hi,hr⟩:=hk y (ih y hy);exact Rb.mono (i:=i+1) (by omega) (.inr ⟨y,hr,hx⟩)
 exact λx=>⟨λq=>⟨k,(h.mem x).mp q⟩,λ⟨j,hj⟩=>(h.mem x).mpr (all j x hj)⟩
def bV{l U:List α}(hn:l.Nodup)(h:∀x∈l,x∈U):l.length<=U.length:=by
 induction l generalizing U with
 |nil=>simp
 |cons a l ih=>
  rw[YZ] at hn;have hl:∀x∈l,x∈U.erase a:=λx hx=>by
   have fE:x≠a:=λz=>hn.1 (by rw[<-z];exact hx);exact(List.mem_erase_of_ne fE).mpr (h x (X4 _ hx))
  have h1:=ih hn.2 hl;have h2:=ada (h a (X5 ..));have h3:=abn (h a (X5 ..));rw[Yh];omega
end
end K1
namespace K1
open PySem L2 L3
def keyOf(c:Cell):List Key:=[.inl (c.1:Int), .inl (c.2:Int)]
def i3(h:keyOf a=keyOf b):a=b:=by
 unfold keyOf at h;injection h with h1 h2
 injection h1 with h1
 injection h2 with h2 _
 injection h2 with h2
 exact aba (aaS h1) (aaS h2)
def jx(c:Cell):eJ (cD c)=θ (keyOf c):=rfl
theorem jj:∀{ks:List Cell}{ds:List D},c∉ks->eh (ks.map keyOf) ds (keyOf c)=ω
 |[],_,_=>by simp[eh]
 |k::ks,[],_=>by simp[eh]
 |k::ks,d::ds,h=>by
  rw[X9];unfold eh;rw[aeh (λz=>h (by rw[i3 z];exact X5 ..))];exact jj λz=>h (X4 _ z)
theorem lD:∀{ks:List Cell}{ds:List D},ks.length=ds.length->c∈ks->∃d,eh (ks.map keyOf) ds (keyOf c)=θ d/\(c,d)∈ks.zip ds
 |[],_,_,h=>by cases h
 |k::ks,[],hl,_=>by simp at hl
 |k::ks,d::ds,hl,h=>by
  rw[X9];unfold eh;by_cases hk:k=c
  ·subst hk;rw[aef rfl];exact⟨d,rfl,by simp⟩
  ·rw[aeh (λz=>hk (i3 z))];have hc:c∈ks:=by
    rcases Ye.mp h with q | q
    ·exact ael q.symm hk
    ·exact q
   obtain⟨d',e1,e2⟩:=lD (by simpa using hl) hc;exact⟨d',e1,by simp[e2]⟩
def ju{ks:List Cell}(hl:ks.length=ds.length):eI neg (cD c) (.dct (ks.map keyOf) ds)=aa (.bl (if neg then !decide (c∈ks) else decide (c∈ks))):=by
 show (match (eJ (cD c)).map (eh (ks.map keyOf) ds) with | some o=>aa (D.bl (if neg then !o.isSome else o.isSome)) | none=>af)=_;rw[jx];show aa (D.bl (if neg then !(eh (ks.map keyOf) ds (keyOf c)).isSome else(eh (ks.map keyOf) ds (keyOf c)).isSome))=_;by_cases h:c∈ks
 ·obtain⟨d,e,_⟩:=lD hl h;rw[e,aeg h];rfl
 ·rw[jj h,aek h];rfl
def tN(h:c∉ks)(hl:ds.length<lim):gD (.dct (ks.map keyOf) ds) (cD c) d=θ (.dct ((ks++[c]).map keyOf) (ds++[d])):=by
 show (match eJ (cD c) with | some kk=>if ds.length<lim then θ (C.dct (cC (ks.map keyOf) ds kk) (bZ (ks.map keyOf) ds kk d)) else ω | none=>ω)=_;rw[jx];show (if ds.length<lim then θ (C.dct (cC (ks.map keyOf) ds (keyOf c)) (bZ (ks.map keyOf) ds (keyOf c) d)) else ω)=_;rw[aef hl];unfold cC bZ;rw[jj h];simp
def wz(h:τ (yN ρ)=aa b):Ct τ ρ=aa b:=by
 unfold Ct;rw[h];rfl
def Pb(h:δ (yN ρ)=aa d)(hf:C3 d=ψ):Se δ ρ=aa d:=by
 unfold Se;rw[h];show rP d=_;unfold rP;rw[hf];rfl
def uk(h1:c ρ=aa ψ)(h2:body ρ=aa (.nx ρ'))(h3:fC c body n ρ'=m):fC c body (n+1) ρ=m:=by
 show (c ρ>>=λb=>if b then body ρ>>=λo=>match o with | .nx ρ'=>fC c body n ρ' | .rt d=>aa (.rt d) else aa (.nx ρ))=_;rw[h1,aw,aef rfl,h2];exact h3
def uh(h1:c ρ=aa μ):fC c body (n+1) ρ=aa (.nx ρ):=by
 show (c ρ>>=λb=>if b then body ρ>>=λo=>match o with | .nx ρ'=>fC c body n ρ' | .rt d=>aa (.rt d) else aa (.nx ρ))=_;rw[h1];rfl
def H_:Option Cell->D
 |none=> .non
 |some c=>cD c
abbrev LJ(ks:List Cell)(ps:List (Option Cell)):C:= .dct (ks.map keyOf) (ps.map H_)
abbrev iS(ks:List Cell)(ps:List (Option Cell)):D:= .dct (ks.map keyOf) (ps.map H_)
abbrev sb(b s w:D)(ks:List Cell)(ps:List (Option Cell))(x4 x5 x6 x7:Option Sl):bQ:=[fz b,fz s,fz w,θ (.ow (LJ ks ps)),x4,x5,x6,x7]
structure Bok (R W:Nat) (s:Bk Cell):Prop where
 len:s.ks.length=s.ps.length
 nd:s.ks.Nodup
 on:∀x∈s.ks,On R W x
 fu:s.fu.length<=s.ks.length
def Bok.le(h:Bok R W s):s.ks.length<=R*W:=by
 rw[<-c9 R W];exact bV h.nd λx hx=>aI.mpr (h.on x hx)
def Bok.step(h:Bok R W s)(hx:On R W x):Bok R W (b5 c s x):=by
 unfold b5;split
 ·exact h
 ·rename_i hn;refine⟨by simp[h.len],?_,λy hy=>?_,by simp;exact h.fu⟩
  ·refine YN.mpr ⟨h.nd,by simp,λy hy z hz e=>?_⟩;have hz:z=x:=by simpa using hz
   rw[e,hz] at hy;exact hn hy
  ·rcases YA.mp hy with q | q
   ·exact h.on y q
   ·have:y=x:=by simpa using q
    rw[this];exact hx
def Ll(hg:Brd bd W)(h:Bok bd.length W s):
 Oo (sb (brd bd) (cD a) w s.ks s.ps r (θ (.ow (.lst (s.fu.map cD)))) (fz (cD c)) (fz (cD x)))=aa (.nx (sb (brd bd) (cD a) w (b5 c s x).ks (b5 c s x).ps r (θ (.ow (.lst ((b5 c s x).fu.map cD)))) (fz (cD c)) ω)):=by
 have hle:=h.le;have hm:bd.length*W<=64:=Z4 hg.r8 hg.w8;have ht:Ct (cT (d2 (eI ψ) (dV 7) (dV 3))) (sb (brd bd) (cD a) w s.ks s.ps r (θ (.ow (.lst (s.fu.map cD)))) (fz (cD c)) (fz (cD x)))=aa (!decide (x∈s.ks)):=
  wz (fH ((aR rfl rfl).trans (ju (by rw[X3];exact h.len))))
 by_cases hx:x∈s.ks
 ·rw[aeg hx] at ht;have e:b5 c s x=s:=aef hx;rw[e];exact(aU (dr ht rfl)).trans rfl
 ·rw[aek hx] at ht;have e:b5 c s x=⟨s.ks++[x],s.ps++[θ c],s.fu++[x]⟩:=aeh hx;rw[e];refine(aU (ρ':=sb (brd bd) (cD a) w (s.ks++[x]) (s.ps++[θ c]) r (θ (.ow (.lst ((s.fu++[x]).map cD)))) (fz (cD c)) (fz (cD x))) (fJ ht (aj (ρ':=sb (brd bd) (cD a) w (s.ks++[x]) (s.ps++[θ c]) r (θ (.ow (.lst (s.fu.map cD)))) (fz (cD c)) (fz (cD x))) ?_ ?_))).trans rfl
  ·show (match gD (LJ s.ks s.ps) (cD x) (cD c) with | some c'=>aa (Out.nx (List.set (sb (brd bd) (cD a) w s.ks s.ps r (θ (.ow (.lst (s.fu.map cD)))) (fz (cD c)) (fz (cD x))) 3 (θ (.ow c')))) | none=>af)=_;rw[tN hx (by rw[X3,<-h.len,ck];omega)];rw[show s.ps.map H_++[cD c]=(s.ps++[θ c]).map H_ by simp[H_]];rfl
  ·show (if (s.fu.map cD).length<lim then aa (Out.nx (sb (brd bd) (cD a) w (s.ks++[x]) (s.ps++[θ c]) r (θ (.ow (.lst (s.fu.map cD++[cD x])))) (fz (cD c)) (fz (cD x)))) else af)=_;have:=h.fu;rw[aef (by rw[X3,ck];omega)];rw[show s.fu.map cD++[cD x]=(s.fu++[x]).map cD by simp]
def Q6:DS:=cM [6,7] (dN (putN 7) (cE (aq 3 c8 (aC (dV 0) (aC (dV 6) (aC (dV 2) aN))))) Oo)
def Ec(hg:Brd bd W)(hw:Ways w)(hc:On bd.length W c)(h:Bok bd.length W s):
 Bok bd.length W (d5 (bc bd W w) s c)/\Q6 (sb (brd bd) (cD a) (iW w) s.ks s.ps r (θ (.ow (.lst (s.fu.map cD)))) (fz (cD c)) ω)=
  aa (.nx (sb (brd bd) (cD a) (iW w) (d5 (bc bd W w) s c).ks (d5 (bc bd W w) s c).ps r (θ (.ow (.lst ((d5 (bc bd W w) s c).fu.map cD)))) ω ω)):=by
 obtain⟨h1,e⟩:=fS (put:=putN 7) cD (λs:Bk Cell=>sb (brd bd) (cD a) (iW w) s.ks s.ps r (θ (.ow (.lst (s.fu.map cD)))) (fz (cD c)) ω) (b5 c) (Bok bd.length W) (bc bd W w c) s h λs hs x hx=>
  ⟨hs.step ((bf hw).mp hx).1,_,rfl,Ll hg hs⟩
 refine⟨h1,(aU (dq ?_ e)).trans rfl⟩;show (aq 3 c8 (aC (dV 0) (aC (dV 6) (aC (dV 2) aN))) (sb (brd bd) (cD a) (iW w) s.ks s.ps r (θ (.ow (.lst (s.fu.map cD)))) (fz (cD c)) ω)>>=lstM)=_;have e2:aq 3 c8 (aC (dV 0) (aC (dV 6) (aC (dV 2) aN))) (sb (brd bd) (cD a) (iW w) s.ks s.ps r (θ (.ow (.lst (s.fu.map cD)))) (fz (cD c)) ω)=aa (.lst ((bc bd W w c).map cD)):=sx hg hw hc;rw[e2];rfl
def Q5:DS:=cM [5,6,7] (aA (tV 5) (aA (dN (putN 6) (cE (dV 4)) Q6) (uT 5 (bN 4 (dV 5)))))
def Lk(hg:Brd bd W)(hw:Ways w)(hr:∀c∈v1,On bd.length W c)(h:Bok bd.length W s)(hf:s.fu=[]):
 Bok bd.length W (bz (bc bd W w) s v1)/\Q5 (sb (brd bd) (cD a) (iW w) s.ks s.ps (fz (.lst (v1.map cD))) ω ω ω)=
  aa (.nx (sb (brd bd) (cD a) (iW w) (bz (bc bd W w) s v1).ks (bz (bc bd W w) s v1).ps (fz (.lst ((bz (bc bd W w) s v1).fu.map cD))) ω ω ω)):=by
 obtain⟨h1,e⟩:=fS (put:=putN 6) cD (λs:Bk Cell=>sb (brd bd) (cD a) (iW w) s.ks s.ps (fz (.lst (v1.map cD))) (θ (.ow (.lst (s.fu.map cD)))) ω ω) (d5 (bc bd W w)) (Bok bd.length W) v1 s h λs hs c hc=>
  ⟨(Ec (a:=a) (r:=fz (.lst (v1.map cD))) hg hw (hr c hc) hs).1,_,rfl,(Ec hg hw (hr c hc) hs).2⟩
 refine⟨h1,(aU (ρ':=sb (brd bd) (cD a) (iW w) (bz (bc bd W w) s v1).ks (bz (bc bd W w) s v1).ps (fz (.lst ((bz (bc bd W w) s v1).fu.map cD))) (fz (.lst ((bz (bc bd W w) s v1).fu.map cD))) ω ω) ?_).trans rfl⟩;refine aj rfl (aj (ρ':=sb (brd bd) (cD a) (iW w) (bz (bc bd W w) s v1).ks (bz (bc bd W w) s v1).ps (fz (.lst (v1.map cD))) (θ (.ow (.lst ((bz (bc bd W w) s v1).fu.map cD)))) ω ω) ?_ rfl);rw[hf] at e;exact dq rfl e
theorem AD(hg:Brd bd W)(hw:Ways w)(ha:On bd.length W a):∀(fuel k:Nat) (ks:List Cell) (ps:List (Option Cell)) (v1:List Cell),bd.length*W+2<=fuel+k->Rng (bc bd W w) a k ks ps v1->(∀x∈ks,On bd.length W x)->
 ∃k' ks' jS,Rng (bc bd W w) a k' ks' jS []/\(∀x∈ks',On bd.length W x)/\fC (cq (dV 4)) Q5 fuel (sb (brd bd) (cD a) (iW w) ks ps (fz (.lst (v1.map cD))) ω ω ω)=aa (.nx (sb (brd bd) (cD a) (iW w) ks' jS (fz (.lst [])) ω ω ω))
 |0,k,ks,ps,v1,hf,hR,fF=>by
  have h1:ks.length<=bd.length*W:=by
   rw[<-c9 bd.length W];exact bV hR.nd λx hx=>aI.mpr (fF x hx)
  have:=hR.sz.1;omega
 |fuel+1,k,ks,ps,[],hf,hR,fF=>⟨k,ks,ps,hR,fF,uh rfl⟩
 |fuel+1,k,ks,ps,c::v1,hf,hR,fF=>by
  have fE:c::v1≠[]:=by simp
  have hN:=hR.next fE;have M8:∀x∈c::v1,On bd.length W x:=λx hx=>fF x ((hR.mem x).mpr ((hR.rg x).mp hx).1);obtain⟨hb,e⟩:=Lk hg hw M8 (s:=⟨ks,ps,[]⟩) ⟨hR.len,hR.nd,fF,YH _⟩ rfl;obtain⟨k',ks',jS,q1,q2,q3⟩:=AD hg hw ha fuel (k+1) _ _ _ (by omega) hN hb.on;exact⟨k',ks',jS,q1,q2,uk rfl e q3⟩
def ft(hg:Brd bd W)(hw:Ways w)(ha:On bd.length W a):
 ∃k ks ps,Rng (bc bd W w) a k ks ps []/\(∀x∈ks,On bd.length W x)/\aK [brd bd,cD a,iW w]=aa (iS ks ps):=by
 have hm:bd.length*W<=64:=Z4 hg.r8 hg.w8;obtain⟨k,ks,ps,h1,h2,h3⟩:=AD hg hw ha lim 0 [a] [ω] [a] (by rw[ck];omega) (Rng.zero _ _) (λx hx=>(show x=a by simpa using hx)▸ha);refine⟨k,ks,ps,h1,h2,aT (aj rfl (aj rfl (aj (cF h3) rfl)))⟩
def mJ[DecidableEq α](n:Nat)(enc:α->D):Prop:=∀k x y,ma (n+k) (enc x) (enc y)=θ (decide (x=y))
def CZ(n:Nat)(i j:Int):ma n (.int i) (.int j)=θ (i==j):=by cases n<;>rfl
def JY(n:Nat)(i j:Str):ma n (.str i) (.str j)=θ (i==j):=by cases n<;>rfl
theorem wX[DecidableEq α](h:∀x y,f (enc x) (enc y)=θ (decide (x=y))):∀(xs ys:List α),rO f (xs.map enc) (ys.map enc)=θ (decide (xs=ys))
 |[],[]=>rfl
 |[],_::_=>by simp[rO]
 |_::_,[]=>by simp[rO]
 |x::xs,y::ys=>by
  rw[X9,X9];show (match f (enc x) (enc y),rO f (xs.map enc) (ys.map enc) with | some b,θ r=>θ (b&&r) | _,_=>ω)=_;rw[h,wX h xs ys];show θ (decide (x=y)&&decide (xs=ys))=_;congr 1;by_cases h1:x=y<;>by_cases h2:xs=ys<;>simp[h1,h2]
def MG:mJ 1 cD:=λk a b=>by
 rw[adI];show (match ma k (.int (a.1:Int)) (.int (b.1:Int)),rO (ma k) [.int (a.2:Int)] [.int (b.2:Int)] with | some b,θ r=>θ (b&&r) | _,_=>ω)=_;rw[CZ];show (match θ ((a.1:Int)==(b.1:Int)),(match ma k (.int (a.2:Int)) (.int (b.2:Int)),rO (ma k) [] [] with | some b,θ r=>θ (b&&r) | _,_=>ω) with | some b,θ r=>θ (b&&r) | _,_=>ω)=_;rw[CZ];show θ (((a.1:Int)==(b.1:Int))&&(((a.2:Int)==(b.2:Int))&&ψ))=_;rw[nh,nh,adh];congr 1;obtain⟨a1,a2⟩:=a;obtain⟨b1,b2⟩:=b;by_cases h1:a1=b1<;>by_cases h2:a2=b2<;>simp[h1,h2]
def Rv[DecidableEq α](h:mJ n enc):mJ (n+1) (λl:List α=> .lst (l.map enc)):=λk x y=>by
 rw[show n+1+k=(n+k)+1 by omega];exact wX (h k) x y
def JW[DecidableEq α](h:mJ n enc):mJ (n+1) (λl:List α=> .tup (l.map enc)):=λk x y=>by
 rw[show n+1+k=(n+k)+1 by omega];exact wX (h k) x y
def JV:mJ 0 D.str:=λk x y=>by
 rw[JY];congr 1
def JU:mJ 1 brd:=JW JV
def Sj[DecidableEq α](h:mJ n enc)(hn:n<=6)(x y:α):mS (enc x) (enc y)=aa (.bl (decide (x=y))):=by
 have:=h (6 - n) x y;rw[show n+(6 - n)=6 by omega] at this;unfold mS;rw[this]
def GG[DecidableEq α](h:mJ n enc)(hn:n<=6)(x y:α):qF (enc x) (enc y)=aa (.bl (!decide (x=y))):=by
 have:=h (6 - n) x y;rw[show n+(6 - n)=6 by omega] at this;unfold qF;rw[this]
abbrev cL(l:List Cell):D:= .lst (l.map cD)
def QA(a b:Cell):qF (cD a) (cD b)=aa (.bl (!decide (a=b))):=GG MG (by decide) a b
def ic(c:Cell):List Int:=[(c.1:Int),(c.2:Int)]
def Gn(a b:Cell):Bool:=if a.1=b.1 then decide (a.2<b.2) else decide (a.1<b.1)
def Kg(k:Cell):List Cell->List Cell
 |[]=>[k]
 |x::r=>if Gn k x then k::x::r else x::Kg k r
def lY:List Cell->List Cell
 |[]=>[]
 |k::r=>Kg k (lY r)
def BR(a b:Cell):fG (ic a) (ic b)=Gn a b:=by
 show (if (a.1:Int)=(b.1:Int) then(if (a.2:Int)=(b.2:Int) then μ else decide ((a.2:Int)<(b.2:Int))) else decide ((a.1:Int)<(b.1:Int)))=_;unfold Gn;by_cases h:a.1=b.1
 ·rw[aef h,aef (by omega)];by_cases h2:a.2=b.2
  ·rw[aef (by omega),h2];simp
  ·rw[aeh (by omega)];by_cases h3:a.2<b.2
   ·rw[aeg h3,aeg (by omega)]
   ·rw[aek h3,aek (by omega)]
 ·rw[aeh h,aeh (by omega)];by_cases h3:a.1<b.1
  ·rw[aeg h3,aeg (by omega)]
  ·rw[aek h3,aek (by omega)]
theorem G8(k:Cell):∀l:List Cell,insI (ic k) (l.map ic)=(Kg k l).map ic
 |[]=>rfl
 |x::r=>by
  rw[X9];unfold insI Kg;rw[BR];cases Gn k x with
  |true=>rfl
  |false=>rw[aeh (by decide),aeh (by decide),X9,G8 k r]
theorem nP:∀l:List Cell,sortI (l.map ic)=(lY l).map ic
 |[]=>rfl
 |k::r=>by
  rw[X9];unfold sortI lY;rw[nP r,G8]
def xf(h:ic a=ic b):a=b:=by
 unfold ic at h;injection h with h1 h2
 injection h2 with h2 _
 exact aba (aaS h1) (aaS h2)
def oO:x∈lY l↔x∈l:=by
 have h:=gO (x:=ic x) (l:=l.map ic);rw[nP] at h;constructor
 ·intro hx;obtain⟨y,hy,e⟩:=Yo.mp (h.mp (Yo.mpr ⟨x,hx,rfl⟩));rw[<-xf e];exact hy
 ·intro hx;obtain⟨y,hy,e⟩:=Yo.mp (h.mpr (Yo.mpr ⟨x,hx,rfl⟩));rw[<-xf e];exact hy
def RiseC(l:List Cell):Prop:=l.Pairwise λa b=>Gn a b=ψ
def yc:Be (l.map ic)↔RiseC l:=by
 unfold Be RiseC;rw[aay];constructor<;>intro h<;>refine abr ?_ h<;>intro a b q
 ·rw[<-BR];exact q
 ·rw[BR];exact q
def zW{l:List Cell}(h:l.Nodup):(l.map ic).Nodup:=by
 unfold Zq at h⊢;rw[aay];exact abr (λh z=>h (xf z)) h
def mD{l:List Cell}(h:l.Nodup):RiseC (lY l):=by
 have:=mE (zW h);rw[nP] at this;exact yc.mp this
def jg(ha:RiseC a)(hb:RiseC b)(h:∀x,x∈a↔x∈b):a=b:=by
 have e:=h7 (yc.mpr ha) (yc.mpr hb) λx=>by
  constructor
  ·intro hx;obtain⟨y,hy,rfl⟩:=Yo.mp hx;exact Yo.mpr ⟨y,(h y).mp hy,rfl⟩
  ·intro hx;obtain⟨y,hy,rfl⟩:=Yo.mp hx;exact Yo.mpr ⟨y,(h y).mpr hy,rfl⟩
 have inj:∀(a b:List Cell),a.map ic=b.map ic->a=b:=by
  intro a;induction a with
  |nil=>intro b h;cases b with
   |nil=>rfl
   |cons=>simp at h
  |cons x a ih=>intro b h;cases b with
   |nil=>simp at h
   |cons y b=>
    rw[X9,X9] at h;injection h with h1 h2
    rw[xf h1,ih b h2]
 exact inj a b e
def RiseC.nodup(h:RiseC l):l.Nodup:=by
 refine abr ?_ h;intro a b q z;subst z;unfold Gn at q;rw[aef rfl] at q;have:=aei q;omega
theorem lh:∀ks:List Cell,fT (ks.map keyOf)=θ (ks.map ic)
 |[]=>rfl
 |k::r=>by
  show (match lN (keyOf k),fT (r.map keyOf) with | some x,θ xs=>θ (x::xs) | _,_=>ω)=_;rw[lh r];rfl
def Ma{ks:List Cell}(h:ks.Nodup)(hl:ks.length<64):gx (ks.map ic)=ψ:=by
 unfold gx;rw[X3,aeg (zW h),aeg hl];simp;intro a b _ z;cases z
def AM(h:ks.Nodup)(hl:ks.length<64):lZ [.dct (ks.map keyOf) ds]=aa (cL (lY ks)):=by
 show (match fT (ks.map keyOf) with | some ks=>if gx ks&&ks.all (λk=>decide (k.length<=lim)) then aa (D.lst ((sortI ks).map tupI)) else af | none=>af)=_;rw[lh];show (if gx (ks.map ic)&&(ks.map ic).all (λk=>decide (k.length<=lim)) then aa (D.lst ((sortI (ks.map ic)).map tupI)) else af)=_;rw[Ma h hl];have:(ks.map ic).all (λk=>decide (k.length<=lim))=ψ:=by
  simp;intro a b _;show 2<=lim
  decide
 rw[this,adh,aef rfl,nP,YD];rfl
def Cn(bd:List Str)(W w:Nat)(a b:Cell):Prop:=∃j,Rb (bc bd W w) a j b
def Cn.refl:Cn bd W w a a:=⟨0,rfl⟩
def mh(hw:Ways w)(ha:On bd.length W a)(h:b∈bc bd W w a):a∈bc bd W w b:=by
 obtain⟨h1,h2,h3⟩:=(bf hw).mp h;exact(bf hw).mpr ⟨ha,by rw[zY];exact h2,h3.symm⟩
theorem v7(hw:Ways w)(ha:On bd.length W a):∀{j:Nat},Rb (bc bd W w) a j b->On bd.length W b
 |0,h=>by rw[show b=a from h];exact ha
 |j+1, .inl h=>v7 hw ha h
 |j+1, .inr ⟨y,_,hy⟩=>((bf hw).mp hy).1
theorem tO(h:c∈bc bd W w a):∀{j:Nat},Rb (bc bd W w) c j b->Rb (bc bd W w) a (j+1) b
 |0,q=> .inr ⟨a,rfl,by rw[show b=c from q];exact h⟩
 |j+1, .inl q=> .inl (tO h q)
 |j+1, .inr ⟨y,q,hy⟩=> .inr ⟨y,tO h q,hy⟩
theorem xZ(hw:Ways w)(ha:On bd.length W a):∀{j:Nat},Rb (bc bd W w) a j b->Rb (bc bd W w) b j a
 |0,h=>show a=b from(show b=a from h).symm
 |j+1, .inl h=> .inl (xZ hw ha h)
 |j+1, .inr ⟨y,q,hy⟩=>tO (mh hw (v7 hw ha q) hy) (xZ hw ha q)
theorem tP(h:Rb (bc bd W w) a i b):∀{j:Nat},Rb (bc bd W w) b j c->Rb (bc bd W w) a (i+j) c
 |0,q=>by rw[show c=b from q];exact h
 |j+1, .inl q=> .inl (tP h q)
 |j+1, .inr ⟨y,q,hy⟩=> .inr ⟨y,tP h q,hy⟩
theorem o_(hw:Ways w):∀{j:Nat},Rb (bc bd W w) a j b->lt bd b=lt bd a
 |0,h=>by rw[show b=a from h]
 |j+1, .inl h=>o_ hw h
 |j+1, .inr ⟨y,q,hy⟩=>((bf hw).mp hy).2.2.trans (o_ hw q)
section
variable{bd:List Str}{W w:Nat}{a b c:Cell}
def Cn.on(hw:Ways w)(ha:On bd.length W a)(h:Cn bd W w a b):On bd.length W b:=let ⟨_,q⟩:=h;v7 hw ha q
def Cn.symm(hw:Ways w)(ha:On bd.length W a)(h:Cn bd W w a b):Cn bd W w b a:=let ⟨j,q⟩:=h;⟨j,xZ hw ha q⟩
def Cn.trans(h:Cn bd W w a b)(h2:Cn bd W w b c):Cn bd W w a c:=let ⟨i,q⟩:=h;let ⟨j,r⟩:=h2;⟨i+j,tP q r⟩
def Cn.letter(hw:Ways w)(h:Cn bd W w a b):lt bd b=lt bd a:=let ⟨_,q⟩:=h;o_ hw q
def Cn.step(h:Cn bd W w a b)(h2:c∈bc bd W w b):Cn bd W w a c:=let ⟨j,q⟩:=h;⟨j+1, .inr ⟨b,q,h2⟩⟩
end
structure IsPatch (bd:List Str) (W w:Nat) (a:Cell) (P:List Cell):Prop where
 rise:RiseC P
 mem:∀x,x∈P↔Cn bd W w a x
def IsPatch.one(h:IsPatch bd W w a P)(h2:IsPatch bd W w a Q):P=Q:=jg h.rise h2.rise λx=>(h.mem x).trans (h2.mem x).symm
def iq{bd:List Str}{ks:List Cell}(hn:ks.Nodup)(fF:∀x∈ks,On bd.length W x):ks.length<=bd.length*W:=by
 rw[<-c9 bd.length W];exact bV hn λx hx=>aI.mpr (fF x hx)
def Jd{W w:Nat}(hg:Brd bd W)(hs:bd.length*W<64)(hw:Ways w)(ha:On bd.length W a):∃P,IsPatch bd W w a P/\(aK [brd bd,cD a,iW w]>>=λd=>lZ [d])=aa (cL P):=by
 obtain⟨k,ks,ps,h1,h2,h3⟩:=ft hg hw ha;refine⟨lY ks,⟨mD h1.nd,λx=>oO.trans (h1.last x)⟩,?_⟩;rw[h3,aw];exact AM h1.nd (Z8 (iq h1.nd h2) hs)
def xN(hg:Brd bd W)(hs:bd.length*W<64)(hw:Ways w)(ha:On bd.length W a):∃P,IsPatch bd W w a P/\g0 [brd bd,cD a,iW w]=aa (cL P):=by
 obtain⟨P,h1,h2⟩:=Jd hg hs hw ha;refine⟨P,h1,aT (aj (a8 ((ao rfl rfl).trans hg.nb)) (aj (a8 ((ao rfl rfl).trans (hg.nc ha))) (aj (a8 ((ao rfl rfl).trans hw.nw)) (aP ?_))))⟩;have e:(dA lZ (aC (aq 3 aK (aC (dV 0) (aC (dV 1) (aC (dV 2) aN)))) aN)) [fz (brd bd),fz (cD a),fz (iW w)]=(aK [brd bd,cD a,iW w]>>=λd=>lZ [d]):=by
  show ((aK [brd bd,cD a,iW w]>>=λx=>aa [x])>>=lZ)=_
  match aK [brd bd,cD a,iW w] with
  |none=>rfl
  |some (.ok a)=>rfl
  |some (.ex n)=>rfl
 exact e.trans h2
def FP(hg:Brd bd W)(hw:Ways w)(ha:On bd.length W a)(hb:On bd.length W b):dU [brd bd,iW w,cD a,cD b]=aa .non:=
 lA (aj (a8 ((ao rfl rfl).trans hg.nb)) (aj (a8 ((ao rfl rfl).trans hw.nw)) (aj (a8 ((ao rfl rfl).trans (hg.nc ha))) (a8 ((ao rfl rfl).trans (hg.nc hb))))))
def yU(hg:Brd bd W)(hw:Ways w)(ha:On bd.length W a)(hb:On bd.length W b):∃r:Bool,(r=ψ↔Cn bd W w a b)/\fQ [brd bd,iW w,cD a,cD b]=aa (.bl r):=by
 obtain⟨k,ks,ps,h1,h2,h3⟩:=ft hg hw ha;refine⟨decide (b∈ks),by rw[aej];exact h1.last b,aT (aj (a8 ((ao rfl rfl).trans (FP hg hw ha hb))) (aP ?_))⟩;exact(aR rfl ((ao rfl rfl).trans h3)).trans (ju (by rw[X3];exact h1.len))
def Mt(w:Nat):List Cell->Bool
 |a::b::r=>lR w a b&&Mt w (b::r)
 |_=>ψ
def yW:L2.atI (l++[x]) (-1)=θ x:=by
 unfold L2.atI JD;rw[aeh (by decide)];have: -((l++[x]).length:Int)<= -1:=by simp;omega
 rw[aef this];have e:((-1:Int)+((l++[x]).length:Int)).toNat=l.length:=by simp;omega
 show (l++[x])[((-1:Int)+((l++[x]).length:Int)).toNat]? =θ x;rw[e];simp
def Qm:j3 (cL (l++[x])) (.int (-1))=aa (cD x):=by
 show (match L2.atI ((l++[x]).map cD) (-1) with | some d=>aa d | none=>af)=_;rw[YC,show [x].map cD=[cD x] from rfl,yW]
def Hf{i:Nat}(h:l[i]? =θ x):j3 (cL l) (.int (i:Int))=aa (cD x):=by
 show (match L2.atI (l.map cD) (i:Int) with | some d=>aa d | none=>af)=_;rw[gP (by rw[Yl,h];rfl)]
abbrev wr(bd w a b k t:D):bQ:=[fz bd,fz w,fz a,fz b,fz k,fz t]
theorem gR(enc:α->D)(g:α->D):∀(xs:List α),(∀x∈xs,f (enc x)=aa (θ (g x)))->ej f (xs.map enc)=aa (xs.map g)
 |[],_=>rfl
 |x::xs,h=>by
  rw[X9,fN,h x (X5 ..),aw,gR enc g xs λy hy=>h y (X4 _ hy)];rfl
def Gb{xs:List α}(h:δi ρ=aa (xs.map enc))(h2:∀x∈xs,δe (fz (enc x)::ρ)=aa (.bl (g x)))(h3:xs.length<=4096):dA allM (aC (bw 0 δi c6 δe) aN) ρ=aa (.bl (xs.all g)):=by
 have cm:bw 0 δi c6 δe ρ=aa (.lst ((xs.map g).map D.bl)):=by
  refine bP h ?_ (by rw[X3,X3,ck];exact h3);rw[YD];exact gR enc _ xs λx hx=>by rw[jW,h2 x hx];rfl
 rw[cf (aO cm rfl),all_map,aak];rfl
def OQ(h:ρ[i]? =θ (fz (.lst ds))):cE (dV i) ρ=aa ds:=by
 unfold cE;rw[jr h];rfl
theorem Em:∀(p:List Cell) (c:Cell),(YO 1 (p.length - 1)).all (λi=>lR w (p.getD (i - 1) c) (p.getD i c))=Mt w p
 |[],_=>rfl
 |[_],_=>rfl
 |a::b::r,c=>by
  have ih:=Em (w:=w) (b::r) c;unfold Mt;rw[<-ih];show (YO 1 (r.length+1)).all _=(_&&(YO 1 r.length).all _)
  rw[Z2,aas];congr 1;rw[show YO (1+1) r.length=(YO 1 r.length).map (1+ ·) from(List.map_add_range' 1 r.length 1).symm,aak];refine abC.mpr ?_;simp only[Yu,aec,acL];constructor
  ·intro h i hi;have:=h i hi;rw[show 1+i - 1=(i - 1)+1 by omega,adI 1 i] at this;exact this
  ·intro h i hi;have:=h i hi;rw[show 1+i - 1=(i - 1)+1 by omega,adI 1 i];exact this
def GU(h:p=x::r):j3 (cL p) (.int 0)=aa (cD x):=by
 subst h;exact Hf rfl
def bR(ks:List Cell)(c:Cell):List Cell:=if c∈ks then ks else ks++[c]
def bS(l:List Cell):List Cell:=l.foldl bR []
def trues(ks:List Cell):List D:=ks.map λ_=> .bl ψ
def iR:x∈bR ks c↔x∈ks\/x=c:=by
 unfold bR;split
 ·rename_i h;exact⟨.inl,λq=>q.elim id λe=>by rw[e];exact h⟩
 ·simp
theorem jZ:∀(l ks:List Cell),(ks.Nodup->(l.foldl bR ks).Nodup)/\(∀x,x∈l.foldl bR ks↔x∈ks\/x∈l)/\(l.foldl bR ks).length<=ks.length+l.length
 |[],ks=>⟨id,λx=>by simp,by simp⟩
 |c::l,ks=>by
  obtain⟨h1,h2,h3⟩:=jZ l (bR ks c);refine⟨λhn=>h1 ?_,λx=>?_,?_⟩
  ·unfold bR;split
   ·exact hn
   ·rename_i hc;refine YN.mpr ⟨hn,by simp,λy hy z hz e=>?_⟩;have hz:z=c:=by simpa using hz
    rw[e,hz] at hy;exact hc hy
  ·rw[aap,h2 x,iR];simp[or_assoc]
  ·rw[aap,Yh];have:(bR ks c).length<=ks.length+1:=by unfold bR;split<;>simp
   omega
def dX:x∈bS l↔x∈l:=by
 unfold bS;rw[(jZ l []).2.1 x];simp
def zT(l:List Cell):(bS l).Nodup:=(jZ l []).1 Zv
def E3(l:List Cell):(bS l).length<=l.length:=by have:=(jZ l []).2.2;simpa[bS] using this
theorem wg:∀{ks:List (List Key)}{l:List Cell},ks.length=l.length->jD ks (trues l) k (.bl ψ)=trues l
 |[],[],_=>rfl
 |k'::ks,c::l,h=>by
  show (if k'=k then D.bl ψ else D.bl ψ)::jD ks (trues l) k (.bl ψ)=_;rw[wg (by simpa using h)];split<;>rfl
 |[],_::_,h=>by simp at h
 |_::_,[],h=>by simp at h
def Aq(hl:ks.length<lim):gD (.dct (ks.map keyOf) (trues ks)) (cD c) (.bl ψ)=θ (.dct ((bR ks c).map keyOf) (trues (bR ks c))):=by
 have v6:(trues ks).length=ks.length:=by simp[trues]
 unfold bR;by_cases h:c∈ks
 ·rw[aef h];show (match eJ (cD c) with | some kk=>if (trues ks).length<lim then θ (C.dct (cC (ks.map keyOf) (trues ks) kk) (bZ (ks.map keyOf) (trues ks) kk (.bl ψ))) else ω | none=>ω)=_;rw[jx];show (if (trues ks).length<lim then θ (C.dct (cC (ks.map keyOf) (trues ks) (keyOf c)) (bZ (ks.map keyOf) (trues ks) (keyOf c) (.bl ψ))) else ω)=_;rw[aef (by rw[v6];exact hl)];obtain⟨d,e,_⟩:=lD v6.symm h;unfold cC bZ;rw[e];show θ (C.dct (ks.map keyOf) (jD (ks.map keyOf) (trues ks) (keyOf c) (.bl ψ)))=_;rw[wg (by simp)]
 ·rw[aeh h,tN h (by rw[v6];exact hl)];simp[trues]
abbrev oH(l:List Cell):D:= .dct ((bS l).map keyOf) (trues (bS l))
def lj(hl:l.length<4000):eD [cL l]=aa (oH l):=by
 have e:∀(xs ks:List Cell),ks.length+xs.length<4000->forL (putN 2) (cM [2] (dO 1 (dV 2) (dC (.bl ψ)))) (xs.map cD) [fz (cL l),θ (.ow (.dct (ks.map keyOf) (trues ks))),ω]=aa (.nx [fz (cL l),θ (.ow (.dct ((xs.foldl bR ks).map keyOf) (trues (xs.foldl bR ks)))),ω]):=by
  intro xs;induction xs with
  |nil=>intro ks _;rfl
  |cons x xs ih=>
   intro ks hk;rw[Yh] at hk;have hle:(bR ks x).length<=ks.length+1:=by unfold bR;split<;>simp
   refine(cX rfl ?_).trans (ih (bR ks x) (by omega));refine(aU (ρ':=[fz (cL l),θ (.ow (.dct ((bR ks x).map keyOf) (trues (bR ks x)))),fz (cD x)]) ?_).trans rfl;show (match gD (.dct (ks.map keyOf) (trues ks)) (cD x) (.bl ψ) with | some c'=>aa (Out.nx [fz (cL l),θ (.ow c'),fz (cD x)]) | none=>af)=_;rw[Aq (by rw[ck];omega)]
 refine aT (aj rfl (aj (cF (dq rfl (e l [] (by simpa using hl)))) rfl))
def E0{ks:List Cell}:g7 (.dct (ks.map keyOf) ds)=aa (ks.map cD):=by
 show (if (ks.map keyOf).all (λk=>decide (k.length<=lim)&&k.all sW) then aa ((ks.map keyOf).map tupK) else af)=_;have:(ks.map keyOf).all (λk=>decide (k.length<=lim)&&k.all sW)=ψ:=by
  simp only[Yu,Yo];rintro k ⟨c,_,rfl⟩;rfl
 rw[aef this,YD];rfl
theorem zO:∀{l:List Cell},oM (keyOf x) (l.map keyOf)=decide (x∈l)
 |[]=>rfl
 |y::l=>by
  show (decide (keyOf y=keyOf x)||oM (keyOf x) (l.map keyOf))=_;rw[zO];by_cases h:y=x
  ·subst h;simp
  ·have h2:¬keyOf y=keyOf x:=λz=>h (i3 z);rw[aek h2,Bool.false_or,aem];constructor
   ·exact λq=>X4 _ q
   ·intro q;rcases Ye.mp q with q | q
    ·exact ael q.symm h
    ·exact q
theorem vH:∀{l:List Cell},mX (l.map cD)=θ (l.map keyOf)
 |[]=>rfl
 |y::l=>by
  show (match eJ (cD y),mX (l.map cD) with | some k,θ ks=>θ (k::ks) | _,_=>ω)=_;rw[vH];rfl
def Dh:qE neg (cD x) (cL l)=aa (.bl (if neg then !decide (x∈l) else decide (x∈l))):=by
 show (match eJ (cD x),mX (l.map cD) with | some k,θ ks=>aa (D.bl (if neg then !oM k ks else oM k ks)) | _,_=>af)=_;rw[vH,jx];show aa (D.bl (if neg then !oM (keyOf x) (l.map keyOf) else oM (keyOf x) (l.map keyOf)))=_;rw[zO]
def Nv(l:List Cell):bG [cL l]=aa (.int (l.length:Int)):=by
 show aa (D.int ((l.map cD).length:Int))=_;rw[X3]
def EB(hg:Brd bd W):mO [brd bd]=aa (cL (aE bd.length W)):=
 aT (aj (a8 ((ao rfl rfl).trans hg.nb)) (aP ((ao rfl rfl).trans (iH hg))))
def Qx(a b:Nat):qF (.int (a:Int)) (.int (b:Int))=aa (.bl (!(a==b))):=by
 rw[ne_int,nh]
def Qw(a b:Nat):MO (.int (a:Int)) (.int (b:Int))=aa (.bl (decide (b<a))):=by
 show aa (D.bl (decide ((b:Int)<(a:Int))))=_;congr 2;rw[aem];omega
def MD(h1:a ρ=aa (.bl ψ)):EF a c ρ=aa (.bl ψ):=by
 unfold EF;rw[h1,aw];rfl
def Jq(ks:List Cell)(f:Cell->D):C:= .dct (ks.map keyOf) (ks.map f)
def JQ(ks:List Cell)(f:Cell->D):D:= .dct (ks.map keyOf) (ks.map f)
def gH(f:Cell->D)(x:Cell)(d:D):Cell->D:=λy=>if y=x then d else f y
theorem rf:∀{ks:List Cell},x∈ks->eh (ks.map keyOf) (ks.map f) (keyOf x)=θ (f x)
 |y::ks,h=>by
  show (if keyOf y=keyOf x then θ (f y) else eh (ks.map keyOf) (ks.map f) (keyOf x))=_;by_cases e:y=x
  ·subst e;rw[aef rfl]
  ·rw[aeh (λz=>e (i3 z))];rcases Ye.mp h with q | q
   ·exact ael q.symm e
   ·exact rf q
def He(h:x∈ks):eZ (JQ ks f) (cD x)=aa (f x):=by
 show (match ((eJ (cD x)).map λk=>eh (ks.map keyOf) (ks.map f) k) with | some (θ v)=>aa v | _=>af)=_;rw[jx];show (match θ (eh (ks.map keyOf) (ks.map f) (keyOf x)) with | some (θ v)=>aa v | _=>af)=_;rw[rf h]
theorem yb:∀{ks:List Cell},jD (ks.map keyOf) (ks.map f) (keyOf x) d=ks.map (gH f x d)
 |[]=>rfl
 |y::ks=>by
  show (if keyOf y=keyOf x then d else f y)::jD (ks.map keyOf) (ks.map f) (keyOf x) d=_;rw[yb,X9];congr 1;unfold gH;by_cases e:y=x
  ·subst e;rw[aef rfl,aef rfl]
  ·rw[aeh (λz=>e (i3 z)),aeh e]
def Lc(hl:ks.length<lim):gD (Jq ks f) (cD x) d=θ (Jq (bR ks x) (gH f x d)):=by
 show (match eJ (cD x) with | some kk=>if (ks.map f).length<lim then θ (C.dct (cC (ks.map keyOf) (ks.map f) kk) (bZ (ks.map keyOf) (ks.map f) kk d)) else ω | none=>ω)=_;rw[jx];show (if (ks.map f).length<lim then θ (C.dct (cC (ks.map keyOf) (ks.map f) (keyOf x)) (bZ (ks.map keyOf) (ks.map f) (keyOf x) d)) else ω)=_;rw[aef (by rw[X3];exact hl)];unfold Jq bR cC bZ;by_cases h:x∈ks
 ·rw[rf h,aef h];show θ (C.dct (ks.map keyOf) (jD (ks.map keyOf) (ks.map f) (keyOf x) d))=_;rw[yb]
 ·rw[jj h,aeh h];show θ (C.dct (ks.map keyOf++[keyOf x]) (ks.map f++[d]))=_;have e1:ks.map f=ks.map (gH f x d):=ZE λy hy=>by
   unfold gH;rw[aeh (λz:y=x=>h (z▸hy))]
  have e2:(ks++[x]).map (gH f x d)=ks.map (gH f x d)++[d]:=by
   rw[YC];congr 1;show [gH f x d x]=[d]
   unfold gH;rw[aef rfl]
  rw[YC,e1,e2];rfl
def D6(h0:ρ[i]? =θ (θ (.ow (Jq ks f))))(hv:δv ρ=aa d)(hk:δk ρ=aa (cD x))(hl:ks.length<lim):
 dO i δk δv ρ=aa (.nx (ρ.set i (θ (.ow (Jq (bR ks x) (gH f x d)))))):=by
 unfold dO qM;rw[h0];show (δv ρ>>=λv=>δk ρ>>=λk=>match gD (Jq ks f) k v with | some c'=>aa (Out.nx (ρ.set i (θ (.ow c')))) | none=>af)=_;rw[hv,aw,hk,aw,Lc hl]
section
variable{α:Type}[DecidableEq α]
theorem ik[DecidableEq β]{g:α->β}(hg:∀a b,g a=g b->a=b):∀{ks:List α}{ds:List D},eh (ks.map g) ds (g x)=eh ks ds x
 |[],ds=>by cases ds<;>rfl
 |k::ks,[]=>rfl
 |k::ks,d::ds=>by
  show (if g k=g x then θ d else eh (ks.map g) ds (g x))=if k=x then θ d else eh ks ds x
  by_cases e:k=x
  ·rw[aef (by rw[e]),aef e]
  ·rw[aeh (λz=>e (hg _ _ z)),aeh e,ik hg]
theorem jL{x:α}:∀{ks:List α}{ds:List D},x∉ks->eh ks ds x=ω
 |[],ds,_=>by cases ds<;>rfl
 |k::ks,[],_=>rfl
 |k::ks,d::ds,h=>by
  show (if k=x then θ d else eh ks ds x)=ω;rw[aeh (λz:k=x=>h (z▸X5)),jL λz=>h (X4 _ z)]
theorem jk:∀{ks:List α}{ds:List D},ks.length=ds.length->x∈ks->∃d,eh ks ds x=θ d/\(x,d)∈ks.zip ds
 |k::ks,d::ds,hl,h=>by
  by_cases e:k=x
  ·exact⟨d,by show (if k=x then θ d else _)=_;rw[aef e],by rw[e];exact X5⟩
  ·obtain⟨d',h1,h2⟩:=jk (ks:=ks) (by simpa using hl) ((Ye.mp h).resolve_left λz=>e z.symm);exact⟨d',by show (if k=x then θ d else _)=_;rw[aeh e,h1],X4 _ h2⟩
 |k::ks,[],hl,h=>by simp at hl
structure KOk (enc:α->D) (mk:List α->List D->C):Prop where
 at':∀ks ds x,FU (mk ks ds).d (enc x)=θ (eh ks ds x)
 put:∀ks ds x d,x∉ks->ds.length<lim->gD (mk ks ds) (enc x) d=θ (mk (ks++[x]) (ds++[d]))
 XZ:∀x,orM (lL (enc x) (.int 0)) (rK (enc x) (.int 0))=aa (mk [x] [.int 0])
def kN(n:Nat):Key:= .inl (n:Int)
def oE(a b:Nat)(h:kN a=kN b):a=b:=aaS (Sum.inl.inj h)
def nI(n:Nat):D:= .int (n:Int)
abbrev Vj(ks:List Nat)(ds:List D):C:= .dci (ks.map kN) ds
def Qn:KOk nI Vj:=
 ⟨λks ds x=>aeo θ (ik oE),λks ds x d h hl=>by
  show (if ds.length<lim then θ (C.dci (cC (ks.map kN) ds (kN x)) (bZ (ks.map kN) ds (kN x) d)) else ω)=_;rw[aef hl];unfold cC bZ;rw[ik oE,jL h];show θ (C.dci (ks.map kN++[kN x]) (ds++[d]))=θ (C.dci ((ks++[x]).map kN) (ds++[d]));rw[YC];rfl,λx=>rfl⟩
variable{enc:α->D}{mk:List α->List D->C}
def KOk.inn(k:KOk enc mk){x:α}(hl:ks.length=ds.length):eI neg (enc x) (mk ks ds).d=aa (.bl (if neg then !decide (x∈ks) else decide (x∈ks))):=by
 unfold eI;rw[k.at'];by_cases h:x∈ks
 ·obtain⟨d,e,_⟩:=jk hl h;rw[e,aeg h];rfl
 ·rw[jL h,aek h];rfl
def KOk.ix(k:KOk enc mk){ds:List D}(hl:ks.length=ds.length)(h:x∈ks):∃d,(x,d)∈ks.zip ds/\eZ (mk ks ds).d (enc x)=aa d:=by
 obtain⟨d,e,h2⟩:=jk hl h;refine⟨d,h2,?_⟩;unfold eZ;rw[k.at',e]
def KOk.get(k:KOk enc mk){x:α}(hl:ks.length=ds.length):(x∈ks->∃d,(x,d)∈ks.zip ds/\getM (mk ks ds).d (enc x) v=aa d)/\(x∉ks->getM (mk ks ds).d (enc x) v=aa v):=by
 unfold getM;rw[k.at'];constructor
 ·intro h;obtain⟨d,e,h2⟩:=jk hl h;exact⟨d,h2,by rw[e]⟩
 ·intro h;rw[jL h]
def Ds(nb:α->List α)(a x:α)(n:Nat):Prop:=Rb nb a n x/\∀j,Rb nb a j x->n<=j
def D7{ρ:bQ}(h0:ρ[i]? =θ (θ (.ow c)))(hv:δv ρ=aa d)(hk:δk ρ=aa k)(hp:gD c k d=θ c'):dO i δk δv ρ=aa (.nx (ρ.set i (θ (.ow c')))):=by
 unfold dO qM;rw[h0];show (δv ρ>>=λv=>δk ρ>>=λk=>match gD c k v with | some c'=>aa (Out.nx (ρ.set i (θ (.ow c')))) | none=>af)=_;rw[hv,aw,hk,aw,hp]
def Mp(enc:α->D)(S:List α)(nb:α->List α)(nr:D):Prop:=∀c∈S,∃d,eZ nr (enc c)=aa d/\orM (lstM d) (g7 d)=aa ((nb c).map enc)
theorem rS{put:D->bQ->Option bQ}(enc:β->D)(I:σ->bQ->Prop)(step:σ->β->σ):∀(xs:List β) (s:σ) (ρ:bQ),I s ρ->(∀s ρ,I s ρ->∀x∈xs,∃ρ1 ρ2,put (enc x) ρ=θ ρ1/\body ρ1=aa (.nx ρ2)/\I (step s x) ρ2)->
 ∃ρ',forL put body (xs.map enc) ρ=aa (.nx ρ')/\I (xs.foldl step s) ρ'
 |[],s,ρ,h,_=>⟨ρ,rfl,h⟩
 |x::xs,s,ρ,h,st=>by
  obtain⟨ρ1,ρ2,e1,e2,h2⟩:=st s ρ h x (X5 ..);obtain⟨ρ',e3,h3⟩:=rS enc I step xs (step s x) ρ2 h2 λs ρ h y hy=>st s ρ h y (X4 _ hy);exact⟨ρ',by rw[X9,cX e1 e2,e3],h3⟩
end
def rank(W:Nat)(x:Cell):Nat:=x.1*W+x.2
def gj(ha:On R W a)(hb:On R W b):Gn a b=ψ↔rank W a<rank W b:=by
 unfold Gn rank;have h1:=ha.2;have h2:=hb.2;by_cases h:a.1=b.1
 ·rw[aef h,aej,h];omega
 ·rw[aeh h,aej];constructor
  ·intro q;have:(a.1+1)*W<=b.1*W:=adQ _ q;rw[ad3,Nat.one_mul] at this;omega
  ·intro q;refine Zc λz=>?_;have:(b.1+1)*W<=a.1*W:=adQ _ (by omega);rw[ad3,Nat.one_mul] at this;omega
def Au(ha:On R W a)(hb:On R W b)(h:rank W a=rank W b):a=b:=by
 have n1:¬Gn a b=ψ:=λz=>by have:=(gj ha hb).mp z;omega
 have n2:¬Gn b a=ψ:=λz=>by have:=(gj hb ha).mp z;omega
 unfold Gn at n1 n2;obtain⟨a1,a2⟩:=a;obtain⟨b1,b2⟩:=b;simp only at n1 n2;by_cases h1:a1=b1
 ·rw[aef h1,aej] at n1;rw[aef h1.symm,aej] at n2;rw[Prod.mk.injEq];exact⟨h1,by omega⟩
 ·rw[aeh h1,aej] at n1;rw[aeh (Y9 h1),aej] at n2;omega
section
variable{W:Nat}
def mu(R W:Nat)(L:Cell->Cell):Nat:=((aE R W).map λx=>rank W (L x)).sum
end
def Ki(h:δ ρ=aa (cL l)):cE δ ρ=aa (l.map cD):=by
 show (δ ρ>>=lstM)=_;rw[h];rfl
def dG(R W:Nat):RiseC (aE R W):=by
 unfold RiseC aE dB;rw[List.pairwise_flatMap];constructor
 ·intro r _;rw[aay];exact List.pairwise_lt_range.imp λh=>by show (if _ then _ else _)=ψ;rw[aef rfl,aej];exact h
 ·refine List.pairwise_lt_range.imp λ{a b} h x hx y hy=>?_;obtain⟨i,_,rfl⟩:=Yo.mp hx;obtain⟨j,_,rfl⟩:=Yo.mp hy;show (if a=b then _ else decide (a<b))=ψ;rw[aeh (by omega),aej];exact h
section
variable{bd:List Str}{W w:Nat}
def Least(bd:List Str)(W w:Nat)(x m:Cell):Prop:=Cn bd W w x m/\∀z,Cn bd W w x z->rank W m<=rank W z
end
def PB:((aE 8 8).map λc=>iu (ic c)).Nodup:=by decide+kernel
theorem oR:∀{l:List α},(l.map f).Nodup->∀a∈l,∀b∈l,f a=f b->a=b
 |x::l,h,a,ha,b,hb,e=>by
  rw[X9,YZ] at h;by_cases h1:a=x
  ·by_cases h2:b=x
   ·rw[h1,h2]
   ·have hb:b∈l:=(Ye.mp hb).resolve_left h2;exact ael (Yo.mpr ⟨b,hb,by rw[<-h1];exact e.symm⟩) h.1
  ·have ha:a∈l:=(Ye.mp ha).resolve_left h1;by_cases h2:b=x
   ·exact ael (Yo.mpr ⟨a,ha,by rw[<-h2];exact e⟩) h.1
   ·exact oR h.2 a ha b ((Ye.mp hb).resolve_left h2) e
def Dc(hR:R<=8)(hW:W<=8){l:List Cell}(hn:l.Nodup)(fF:∀x∈l,On R W x):(l.map λc=>iu (ic c)).Nodup:=by
 have h8:∀x∈l,x∈aE 8 8:=λx hx=>aI.mpr ⟨by have:=(fF x hx).1;omega,by have:=(fF x hx).2;omega⟩;rw[Zq,aay];refine List.Pairwise.imp_of_mem (λ{a b} ha hb h z=>h ?_) hn;exact oR PB a (h8 a ha) b (h8 b hb) z
theorem zD:∀l:List Cell,jv (l.map cD)=θ (l.map ic)
 |[]=>rfl
 |c::l=>by
  show (match L6 (cD c),jv (l.map cD) with | some k,θ ks=>θ (k::ks) | _,_=>ω)=_;rw[zD l];rfl
def Lv(h:l.Nodup)(hl:l.length<64):Ls [cL l]=aa (cL (lY l)):=by
 show (match jv (l.map cD) with | some ks=>if gx ks then aa (D.lst ((sortI ks).map tupI)) else af | none=>af)=_;rw[zD];refine(aef (Ma h hl)).trans ?_;rw[nP,YD];rfl
def Od{ks:List Cell}{f:Cell->D}{x:Cell}{d:D}:cC (ks.map keyOf) (ks.map f) (keyOf x)=(bR ks x).map keyOf/\bZ (ks.map keyOf) (ks.map f) (keyOf x) d=(bR ks x).map (gH f x d):=by
 unfold bR cC bZ;by_cases h:x∈ks
 ·rw[rf h,aef h];exact⟨rfl,yb⟩
 ·rw[jj h,aeh h];have e1:ks.map f=ks.map (gH f x d):=ZE λy hy=>by
   unfold gH;rw[aeh (λz:y=x=>h (z▸hy))]
  have e2:(ks++[x]).map (gH f x d)=ks.map (gH f x d)++[d]:=by
   rw[YC];congr 1;show [gH f x d x]=[d]
   unfold gH;rw[aef rfl]
  exact⟨by rw[YC];rfl,by rw[e2,<-e1];rfl⟩
theorem sI:∀(l ks:List Cell),da (ks.map keyOf) (trues ks) (l.map keyOf) (trues l)=((l.foldl bR ks).map keyOf,trues (l.foldl bR ks))
 |[],ks=>rfl
 |x::l,ks=>by
  show da (cC (ks.map keyOf) (trues ks) (keyOf x)) (bZ (ks.map keyOf) (trues ks) (keyOf x) (.bl ψ)) (l.map keyOf) (trues l)=_;have h:=Od (ks:=ks) (f:=λ_=>D.bl ψ) (x:=x) (d:= .bl ψ);have e:gH (λ_=>D.bl ψ) x (.bl ψ)=λ_=>D.bl ψ:=by
   funext y;unfold gH;split<;>rfl
  rw[e] at h;rw[show trues ks=ks.map (λ_=>D.bl ψ) from rfl,h.1,h.2];exact sI l (bR ks x)
def zq{l ks:List Cell}(h:ks.Nodup):(l.foldl bR ks).Nodup:=(jZ l ks).1 h
section
open Classical
variable{bd:List Str}{W w:Nat}
noncomputable def au(bd:List Str)(W w:Nat)(m:Cell):List Cell:=(aE bd.length W).filter λx=>decide (Cn bd W w m x)
noncomputable def bT(bd:List Str)(W w:Nat)(l:List Cell):List Cell:=l.filter λx=>decide (Least bd W w x x)
def bp(hw:Ways w){m:Cell}(hm:On bd.length W m):IsPatch bd W w m (au bd W w m):=by
 refine⟨(dG _ _).filter _,λx=>?_⟩;unfold au;rw[YE,aI,aej];exact⟨λh=>h.2,λh=>⟨h.on hw hm,h⟩⟩
theorem Least.on(hw:Ways w){x m:Cell}(hx:On bd.length W x)(h:Least bd W w x m):On bd.length W m:=h.1.on hw hx
def Least.move(hw:Ways w){x y m:Cell}(hx:On bd.length W x)(h:Least bd W w x m)(hy:Cn bd W w x y):Least bd W w y m:=
 ⟨(hy.symm hw hx).trans h.1,λz hz=>h.2 z (hy.trans hz)⟩
def Least.one(hw:Ways w){x m n:Cell}(hx:On bd.length W x)(h:Least bd W w x m)(h2:Least bd W w x n):m=n:=
 Au (h.on hw hx) (h2.on hw hx) (abM (h.2 n h2.1) (h2.2 m h.1))
def Least.self(hw:Ways w){x m:Cell}(hx:On bd.length W x)(h:Least bd W w x m):Least bd W w m m:=h.move hw hx h.1
variable(L:Cell->Cell)
def ll(hw:Ways w):∃L:Cell->Cell,∀x,On bd.length W x->Least bd W w x (L x):=by
 have h:∀x,∃m,On bd.length W x->Least bd W w x m:=λx=>by
  by_cases hx:On bd.length W x
  ·have hP:=bp hw hx;cases hp:au bd W w x with
   |nil=>have:=(hP.mem x).mpr Cn.refl;rw[hp] at this;cases this
   |cons m r=>
    rw[hp] at hP;have hm:=(hP.mem m).mp (X5 ..);refine⟨m,λ_=>⟨hm,λz hz=>?_⟩⟩;rcases Ye.mp ((hP.mem z).mpr hz) with rfl | Xc
    ·exact X_ _
    ·exact Zm ((gj (hm.on hw hx) (hz.on hw hx)).mp ((YK.mp hP.rise).1 z Xc))
  ·exact⟨x,λz=>ael z hx⟩
 exact⟨λx=>Classical.choose (h x),λx=>Classical.choose_spec (h x)⟩
noncomputable def nJ(bd:List Str)(W w:Nat):D:= .lst ((bT bd W w (aE bd.length W)).map λm=>cL (au bd W w m))
end
section
open Classical
variable{bd:List Str}{W w:Nat}
noncomputable def En(bd:List Str)(W w:Nat)(s:List Cell):List D:=(bT bd W w s).map λm=>cL (au bd W w m)
noncomputable def Mv(bd:List Str)(W w:Nat)(s ks:List Cell)(x4 x5:Option Sl):bQ:=[fz (brd bd),fz (iW w),θ (.ow (.lst (En bd W w s))),θ (.ow (.dct (ks.map keyOf) (trues ks))),x4,x5]
structure Seen (bd:List Str) (W w:Nat) (s ks:List Cell):Prop where
 nd:ks.Nodup
 on:∀y∈ks,On bd.length W y
 mem:∀y,y∈ks↔∃m∈bT bd W w s,Cn bd W w m y
def AX(h0:ρ[i]? =θ (θ (.ow (.dct (ks.map keyOf) (trues ks)))))(hd:δ ρ=aa (oH l))(hz:ks.length+l.length<=4096)(hh:ks=[]->((bS l).map λc=>iu (ic c)).Nodup):
 FC i δ ρ=aa (.nx (ρ.set i (θ (.ow (.dct (((bS l).foldl bR ks).map keyOf) (trues ((bS l).foldl bR ks))))))):=by
 unfold FC qM;rw[h0];show (δ ρ>>=λd=>match Jm (ks.map keyOf) (trues ks) d with | some c'=>aa (Out.nx (ρ.set i (θ (.ow c')))) | none=>af)=_;rw[hd,aw];have:Jm (ks.map keyOf) (trues ks) (oH l)=θ (.dct (((bS l).foldl bR ks).map keyOf) (trues ((bS l).foldl bR ks))):=by
  show (match fT ((bS l).map keyOf) with | some ns=>if (trues ks).length+(trues (bS l)).length<=lim/\((ks.map keyOf).isEmpty=ψ->(ns.map iu).Nodup) then θ (C.dct (da (ks.map keyOf) (trues ks) ((bS l).map keyOf) (trues (bS l))).1 (da (ks.map keyOf) (trues ks) ((bS l).map keyOf) (trues (bS l))).2) else ω | none=>ω)=_;rw[lh];show (if (trues ks).length+(trues (bS l)).length<=lim/\((ks.map keyOf).isEmpty=ψ->(((bS l).map ic).map iu).Nodup) then θ (C.dct (da (ks.map keyOf) (trues ks) ((bS l).map keyOf) (trues (bS l))).1 (da (ks.map keyOf) (trues ks) ((bS l).map keyOf) (trues (bS l))).2) else ω)=_;have c1:(trues ks).length+(trues (bS l)).length<=lim:=by
   have:=E3 l;unfold trues;rw[X3,X3,ck];omega
  have c2:(ks.map keyOf).isEmpty=ψ->(((bS l).map ic).map iu).Nodup:=λz=>by
   rw[YD];exact hh (by cases ks with | nil=>rfl | cons _ _=>cases z)
  rw[aef ⟨c1,c2⟩,sI]
 rw[this]
def AK(hg:Brd bd W)(hs:bd.length*W<64)(hw:Ways w)(hx:On bd.length W x)(h0:dV 0 ρ=aa (brd bd))(h1:dV 1 ρ=aa (iW w))(h4:dV 4 ρ=aa (cD x)):
 dA lZ (aC (aq 3 aK (aC (dV 0) (aC (dV 4) (aC (dV 1) aN)))) aN) ρ=aa (cL (au bd W w x)):=by
 obtain⟨k,ks,ps,q1,q2,q3⟩:=ft hg hw hx;have e1:aq 3 aK (aC (dV 0) (aC (dV 4) (aC (dV 1) aN))) ρ=aa (iS ks ps):=(ao (aO h0 (aO h4 (aO h1 rfl))) rfl).trans q3;refine(cf (aO e1 rfl)).trans ((AM q1.nd (Z8 (iq q1.nd q2) hs)).trans ?_);have:lY ks=au bd W w x:=IsPatch.one ⟨mD q1.nd,λx=>oO.trans (q1.last x)⟩ (bp hw hx);rw[this]
def jA(s:List Cell)(x:Cell):bT bd W w (s++[x])=if Least bd W w x x then bT bd W w s++[x] else bT bd W w s:=by
 unfold bT;rw[ad5];by_cases h:Least bd W w x x
 ·rw[aef h,abe (by rw[aej];exact h),abz]
 ·rw[aeh h,adg (by rw[aej];exact h),abz,Zk]
def JG(hg:Brd bd W)(hs:bd.length*W<64)(hw:Ways w){L:Cell->Cell}(hL:∀x,On bd.length W x->Least bd W w x (L x))(e:s++x::r=aE bd.length W)(h:Seen bd W w s ks):
 ∃ks',Seen bd W w (s++[x]) ks'/\Sa (Mv bd W w s ks (fz (cD x)) ω)=aa (.nx (Mv bd W w (s++[x]) ks' ω ω)):=by
 have hx:On bd.length W x:=aI.mp (by rw[<-e];simp);have r6:=dG bd.length W;rw[<-e] at r6;have Jy:∀y∈s,On bd.length W y:=λy hy=>aI.mp (by rw[<-e];simp[hy]);have M8:∀y∈r,On bd.length W y:=λy hy=>aI.mp (by rw[<-e];simp[hy]);have w_:∀y∈s,rank W y<rank W x:=λy hy=>(gj (Jy y hy) hx).mp ((aac.mp r6).2.2 y hy x (X5 ..));have BC:∀y∈r,rank W x<rank W y:=λy hy=>(gj hx (M8 y hy)).mp ((YK.mp (aac.mp r6).2.1).1 y hy);have SX:ks.length<=64:=by have:=iq h.nd h.on;omega
 have pM:s.length<64:=by
  have:=aeo adT e;rw[c9,Yg,Yh] at this;omega
 have ht:Ct (cT (d2 (eI ψ) (dV 4) (dV 3))) (Mv bd W w s ks (fz (cD x)) ω)=aa (!decide (x∈ks)):=
  wz (fH ((aR rfl rfl).trans (ju (by simp[trues]))))
 by_cases hl:Least bd W w x x
 ·have JB:x∉ks:=λz=>by
   obtain⟨m,hm,hc⟩:=(h.mem x).mp z;unfold bT at hm;rw[YE,aej] at hm;have h1:=w_ m hm.1;have h2:=hl.2 m (hc.symm hw (Jy m hm.1));omega
  rw[aek JB] at ht;have hP:=bp hw hx;have MQ:∀y∈au bd W w x,On bd.length W y:=λy hy=>((hP.mem y).mp hy).on hw hx;have Jt:(au bd W w x).length<=64:=by have:=iq hP.rise.nodup MQ;omega
  have RD:(En bd W w s).length<lim:=by
   unfold En;rw[X3,ck];have:=Zh (λx=>decide (Least bd W w x x)) s;unfold bT;omega
  refine⟨(bS (au bd W w x)).foldl bR ks,⟨zq h.nd,λy hy=>?_,λy=>?_⟩,?_⟩
  ·rcases((jZ (bS (au bd W w x)) ks).2.1 y).mp hy with q | q
   ·exact h.on y q
   ·exact MQ y (dX.mp q)
  ·rw[(jZ (bS (au bd W w x)) ks).2.1 y,dX,h.mem y,jA,aef hl,hP.mem y];constructor
   ·rintro(⟨m,hm,hc⟩ | hc)
    ·exact⟨m,YA.mpr (.inl hm),hc⟩
    ·exact⟨x,by simp,hc⟩
   ·rintro⟨m,hm,hc⟩;rcases YA.mp hm with hm | hm
    ·exact .inl ⟨m,hm,hc⟩
    ·rw[Yi.mp hm] at hc;exact .inr hc
  ·have ef:En bd W w (s++[x])=En bd W w s++[cL (au bd W w x)]:=by
    unfold En;rw[jA,aef hl,YC];rfl
   refine(aU (ρ':=[fz (brd bd),fz (iW w),θ (.ow (.lst (En bd W w s++[cL (au bd W w x)]))),θ (.ow (.dct (((bS (au bd W w x)).foldl bR ks).map keyOf) (trues ((bS (au bd W w x)).foldl bR ks)))),fz (cD x),fz (cL (au bd W w x))]) (fJ ht (aj ((aJ (AK hg hs hw hx rfl rfl rfl)).trans rfl) (aj (ρ':=[fz (brd bd),fz (iW w),θ (.ow (.lst (En bd W w s++[cL (au bd W w x)]))),θ (.ow (.dct (ks.map keyOf) (trues ks))),fz (cD x),fz (cL (au bd W w x))]) ?_ ?_)))).trans ?_
   ·show (if (En bd W w s).length<lim then aa (Out.nx [fz (brd bd),fz (iW w),θ (.ow (.lst (En bd W w s++[cL (au bd W w x)]))),θ (.ow (.dct (ks.map keyOf) (trues ks))),fz (cD x),fz (cL (au bd W w x))]) else af)=_;rw[aef RD]
   ·exact(AX rfl ((ao rfl rfl).trans (lj (by omega))) (by omega) (λ_=>Dc hg.r8 hg.w8 (zT _) λy hy=>MQ y (dX.mp hy))).trans rfl
   ·unfold Mv;rw[ef];rfl
 ·have hm:=hL x hx;have fE:L x≠x:=λz=>hl (by rw[z] at hm;exact hm);have il:rank W (L x)<rank W x:=by
   have h1:=hm.2 x Cn.refl;have h2:rank W (L x)≠rank W x:=λz=>fE (Au (hm.on hw hx) hx z);omega
  have Wv:L x∈s:=by
   have:L x∈s++x::r:=by rw[e];exact aI.mpr (hm.on hw hx)
   rcases YA.mp this with q | q
   ·exact q
   ·rcases Ye.mp q with q | q
    ·exact ael q fE
    ·have:=BC _ q;omega
  have JB:x∈ks:=(h.mem x).mpr ⟨L x,by unfold bT;rw[YE,aej];exact⟨Wv,hm.self hw hx⟩,hm.1.symm hw hx⟩;rw[aeg JB] at ht;refine⟨ks,⟨h.nd,h.on,λy=>by rw[jA,aeh hl];exact h.mem y⟩,?_⟩;have ef:En bd W w (s++[x])=En bd W w s:=by
   unfold En;rw[jA,aeh hl]
  refine(aU (dr ht rfl)).trans ?_;unfold Mv;rw[ef];rfl
theorem CK(hg:Brd bd W)(hs:bd.length*W<64)(hw:Ways w){L:Cell->Cell}(hL:∀x,On bd.length W x->Least bd W w x (L x)):∀(r s ks:List Cell),s++r=aE bd.length W->Seen bd W w s ks->
 ∃ks',forL (putN 4) Sa (r.map cD) (Mv bd W w s ks ω ω)=aa (.nx (Mv bd W w (aE bd.length W) ks' ω ω))
 |[],s,ks,e,h=>by
  rw[Zk] at e;exact⟨ks,by rw[e];rfl⟩
 |x::r,s,ks,e,h=>by
  obtain⟨Qp,h1,e1⟩:=JG hg hs hw hL e h;obtain⟨Qq,e2⟩:=CK hg hs hw hL r (s++[x]) Qp (by rw[ZC];exact e) h1;exact⟨Qq,(cX rfl e1).trans e2⟩
def eB(hg:Brd bd W)(hs:bd.length*W<64)(hw:Ways w):a9 [brd bd,iW w]=aa (nJ bd W w):=by
 obtain⟨L,hL⟩:=ll hw;obtain⟨ks,e⟩:=CK hg hs hw hL (aE bd.length W) [] [] rfl ⟨Zv,(λy hy=>(by cases hy)),(λy=>⟨λz=>(by cases z),λ⟨m,hm,_⟩=>(by cases hm)⟩)⟩;refine aT (aj rfl (aj rfl (aj (cF (dq (Ki ((ao rfl rfl).trans (iH hg))) e)) rfl)))
end
structure NumOk (R W:Nat) (Ps:List (List Cell)) (ks:List Cell) (f:Cell->Nat):Prop where
 nd:ks.Nodup
 on:∀y∈ks,On R W y
 num:∀y∈ks,∃P,Ps[f y]? =θ P/\y∈P
def Vn:DS:=cM [4] (dO 1 (dV 4) (dV 2))
def RP(Ps:List (List Cell))(ks:List Cell)(f:Cell->Nat)(x2 x3 x4:Option Sl):bQ:=[fz (.lst (Ps.map cL)),θ (.ow (Jq ks λy=> .int (f y:Int))),x2,x3,x4]
def El:x∈bR ks x:=iR.mpr (.inr rfl)
theorem L_(hm:R*W<=64){i:Nat}(hP:Ps[i]? =θ P)(fF:∀y∈P,On R W y):∀(l ks:List Cell) (f:Cell->Nat),(∀y∈l,y∈P)->NumOk R W Ps ks f->
 ∃ks' f',NumOk R W Ps ks' f'/\(∀y∈ks,y∈ks')/\(∀y∈l,y∈ks')/\forL (putN 4) Vn (l.map cD) (RP Ps ks f (fz (.int (i:Int))) x3 ω)=aa (.nx (RP Ps ks' f' (fz (.int (i:Int))) x3 ω))
 |[],ks,f,_,h=>⟨ks,f,h,λy hy=>hy,(λy hy=>(by cases hy)),rfl⟩
 |x::l,ks,f,hl,h=>by
  have hx:=hl x (X5 ..);have SX:ks.length<=64:=by
   have h1:=bV h.nd λy hy=>aI.mpr (h.on y hy);rw[c9] at h1;omega
  have h1:NumOk R W Ps (bR ks x) (λy=>if y=x then i else f y):=by
   refine⟨(jZ [x] ks).1 h.nd,λy hy=>?_,λy hy=>?_⟩
   ·rcases iR.mp hy with q | q
    ·exact h.on y q
    ·rw[q];exact fF x hx
   ·by_cases e:y=x
    ·refine⟨P,?_,by rw[e];exact hx⟩;show Ps[if y=x then i else f y]? =_;rw[aef e];exact hP
    ·rcases iR.mp hy with q | q
     ·obtain⟨Q,q1,q2⟩:=h.num y q;refine⟨Q,?_,q2⟩;show Ps[if y=x then i else f y]? =_;rw[aeh e];exact q1
     ·exact ael q e
  obtain⟨ks',f',a1,a2,a3,a4⟩:=L_ hm hP fF l (bR ks x) _ (λy hy=>hl y (X4 _ hy)) h1;refine⟨ks',f',a1,λy hy=>a2 y (iR.mpr (.inl hy)),λy hy=>?_,?_⟩
  ·rcases Ye.mp hy with rfl | hy
   ·exact a2 _ El
   ·exact a3 y hy
  ·refine(cX rfl ?_).trans a4;refine(aU ((D6 rfl rfl rfl (by rw[ck];omega)).trans rfl)).trans ?_;have ef:gH (λy=>D.int (f y:Int)) x (.int (i:Int))=λy=>D.int ((if y=x then i else f y:Nat):Int):=by
    funext y;unfold gH;by_cases e:y=x
    ·rw[aef e,aef e]
    ·rw[aeh e,aeh e]
   show aa (Out.nx [fz (.lst (Ps.map cL)),θ (.ow (Jq (bR ks x) (gH (λy=>D.int (f y:Int)) x (.int (i:Int))))),fz (.int (i:Int)),x3,ω])=_;rw[ef];rfl
def Si(q:Nat×List Cell):D:= .tup [.int (q.1:Int),cL q.2]
theorem HD(hm:R*W<=64){Ps:List (List Cell)}(fF:∀P∈Ps,∀y∈P,On R W y):∀(qs:List (Nat×List Cell)) (ks:List Cell) (f:Cell->Nat),(∀q∈qs,Ps[q.1]? =θ q.2)->NumOk R W Ps ks f->
 ∃ks' f',NumOk R W Ps ks' f'/\(∀y∈ks,y∈ks')/\(∀q∈qs,∀y∈q.2,y∈ks')/\forL (v5 [2,3]) (cM [2,3,4] (dN (putN 4) (cE (dV 3)) Vn)) (qs.map Si) (RP Ps ks f ω ω ω)=aa (.nx (RP Ps ks' f' ω ω ω))
 |[],ks,f,_,h=>⟨ks,f,h,λy hy=>hy,(λq hq=>(by cases hq)),rfl⟩
 |q::qs,ks,f,hq,h=>by
  have hP:=hq q (X5 ..);obtain⟨Qp,f1,a1,a2,a3,a4⟩:=L_ hm hP (fF q.2 (YB hP)) q.2 ks f (λy hy=>hy) h;obtain⟨Qq,f2,b1,b2,b3,b4⟩:=HD hm fF qs Qp f1 (λq' P_=>hq q' (X4 _ P_)) a1;refine⟨Qq,f2,b1,λy hy=>b2 y (a2 y hy),λq' P_ y hy=>?_,?_⟩
  ·rcases Ye.mp P_ with rfl | P_
   ·exact b2 y (a3 y hy)
   ·exact b3 q' P_ y hy
  ·exact(cX rfl ((aU (dq (OQ rfl) a4)).trans rfl)).trans b4
def E6(Ps:List (List Cell)):(Ps.map cL).mapIdx (λi d=>D.tup [.int (i:Int),d])=(Ps.zipIdx.map λq:List Cell×Nat=>(q.2,q.1)).map Si:=by
 apply acp;intro i;simp only[adJ,Yl,List.getElem?_zipIdx,Option.map_map,aaT];cases Ps[i]? <;>simp[Si]
def sS(hm:R*W<=64)(fF:∀P∈Ps,∀y∈P,On R W y):∃ks f,NumOk R W Ps ks f/\(∀P∈Ps,∀y∈P,y∈ks)/\eY [.lst (Ps.map cL)]=aa (JQ ks λy=> .int (f y:Int)):=by
 have hq:∀q∈Ps.zipIdx.map (λq:List Cell×Nat=>(q.2,q.1)),Ps[q.1]? =θ q.2:=λq hq=>by
  obtain⟨⟨P,i⟩,h1,rfl⟩:=Yo.mp hq;exact acH.mp h1
 obtain⟨ks,f,a1,a2,a3,a4⟩:=HD hm fF (Ps.zipIdx.map λq:List Cell×Nat=>(q.2,q.1)) [] (λ_=>0) hq ⟨Zv,(λy hy=>(by cases hy)),(λy hy=>(by cases hy))⟩;refine⟨ks,f,a1,λP hP y hy=>?_,?_⟩
 ·obtain⟨i,hi,rfl⟩:=ZZ hP;refine a3 (i,Ps[i]) (Yo.mpr ⟨(Ps[i],i),acH.mpr (by rw[X7 hi]),rfl⟩) y hy
 ·refine aT (aj rfl (aj (cF (dq ?_ a4)) rfl));show aa ((Ps.map cL).mapIdx λi d=>D.tup [.int (i:Int),d])=_;rw[E6]
section
open Classical
variable{bd:List Str}{W w:Nat}
noncomputable def aF(bd:List Str)(W w:Nat):List (List Cell):=(bT bd W w (aE bd.length W)).map (au bd W w)
def mn:nJ bd W w= .lst ((aF bd W w).map cL):=by
 unfold nJ aF;rw[YD];rfl
def bU(h:m∈bT bd W w (aE bd.length W)):On bd.length W m:=by
 unfold bT at h;exact aI.mp (YE.mp h).1
def Fo(hw:Ways w):∀P∈aF bd W w,∀y∈P,On bd.length W y:=λP hP y hy=>by
 unfold aF at hP;obtain⟨m,hm,rfl⟩:=Yo.mp hP;exact(((bp hw (bU hm)).mem y).mp hy).on hw (bU hm)
def tu(hg:Brd bd W)(hw:Ways w)(hx:On bd.length W x):∃P∈aF bd W w,x∈P:=by
 obtain⟨L,hL⟩:=ll hw;have hm:=hL x hx;have L0:=hm.on hw hx;refine⟨au bd W w (L x),Yo.mpr ⟨L x,?_,rfl⟩,((bp hw L0).mem x).mpr (hm.1.symm hw hx)⟩;unfold bT;rw[YE,aej];exact⟨aI.mpr L0,hm.self hw hx⟩
def su:(aF bd W w).length<=bd.length*W:=by
 unfold aF bT;rw[X3,<-c9 bd.length W];exact Zh ..
def mV(hg:Brd bd W)(hs:bd.length*W<64)(hw:Ways w):fR [brd bd,iW w]=aa (.int ((aF bd W w).length:Int)):=by
 refine aT (aj (a8 ((ao rfl rfl).trans hg.nb)) (aj (a8 ((ao rfl rfl).trans hw.nw)) (aP ((cf (aO ((ao rfl rfl).trans (eB hg hs hw)) rfl)).trans ?_))));rw[mn];show aa (D.int (((aF bd W w).map cL).length:Int))=_;rw[X3]
end
end K1
namespace K1
open PySem L2 L3 HT
def kr(l:List Nat):Str:=⟨l.toArray⟩
def dh(l:List Nat):(kr l).cps.toList=l:=by simp[kr]
def Du(l:List Nat):(kr l).length=l.length:=by simp[kr,acu]
def rl(x y:Str):(x++y).cps.toList=x.cps.toList++y.cps.toList:=by
 show (x.cps++y.cps).toList=_;simp
end K1
namespace K1
open PySem PySem.Spec L2 L3
open PyProof.Rows hiding St
section
open Classical
variable{bd:List Str}{W w:Nat}
def DC:(bT bd W w (aE bd.length W)).Nodup:=by
 unfold bT;exact(RiseC.nodup (dG _ _)).filter _
def sE:m∈bT bd W w l↔m∈l/\Least bd W w m m:=by
 unfold bT;rw[YE,aej]
def j9(hw:Ways w){m x:Cell}(hm:m∈bT bd W w (aE bd.length W))(hx:x∈au bd W w m):Least bd W w x m:=
 (sE.mp hm).2.move hw (bU hm) (((bp hw (bU hm)).mem x).mp hx)
def eQ{i:Nat}(h:(aF bd W w)[i]? =θ P):∃m,(bT bd W w (aE bd.length W))[i]? =θ m/\P=au bd W w m:=by
 unfold aF at h;rw[Yl] at h;cases q:(bT bd W w (aE bd.length W))[i]? with
 |none=>rw[q] at h;cases h
 |some m=>rw[q] at h;cases h;exact⟨m,rfl,rfl⟩
def zP{i j:Nat}(h:(bT bd W w (aE bd.length W))[i]? =θ m)(h2:(bT bd W w (aE bd.length W))[j]? =θ m):i=j:=
 (aco (Yk.mp h).1 DC).mp (h.trans h2.symm)
def j_{l:List α}{i:Nat}(h:l[i]? =θ x):x∈l:=YB h
def xg(hw:Ways w){i j:Nat}(hi:(aF bd W w)[i]? =θ P)(hj:(aF bd W w)[j]? =θ Q)(hx:x∈P)(hy:x∈Q):i=j:=by
 obtain⟨m,e1,rfl⟩:=eQ hi;obtain⟨n,e2,rfl⟩:=eQ hj;have hm:=j_ e1;have hn:=j_ e2;have fF:On bd.length W x:=(((bp hw (bU hm)).mem x).mp hx).on hw (bU hm);have:=(j9 hw hm hx).one hw fF (j9 hw hn hy);subst this;exact zP e1 e2
def mm(hw:Ways w){m:Cell}(hm:m∈bT bd W w (aE bd.length W)):∃r,au bd W w m=m::r:=by
 have ho:=bU hm;have hP:=bp hw ho;cases hp:au bd W w m with
 |nil=>have:=(hP.mem m).mpr Cn.refl;rw[hp] at this;cases this
 |cons a r=>
  refine⟨r,?_⟩;rw[hp] at hP;by_cases e:a=m
  ·rw[e]
  ·have De:m∈a::r:=(hP.mem m).mpr Cn.refl;have De:m∈r:=by
    cases De with
    |head=>exact ael rfl e
    |tail _ q=>exact q
   have hc:=(hP.mem a).mp (X5 ..);have h1:=(gj (hc.on hw ho) ho).mp ((YK.mp hP.rise).1 m De);have:=(sE.mp hm).2.2 a hc;omega
theorem C6{f:Cell->List Cell}:∀l:List Cell,l.Nodup->(∀a∈l,(f a).Nodup)->(∀a∈l,∀b∈l,∀x,x∈f a->x∈f b->a=b)->(l.flatMap f).Nodup
 |[],_,_,_=>Zv
 |a::l,h1,h2,h3=>by
  rw[Zd,YN];obtain⟨g1,g2⟩:=YZ.mp h1;refine⟨h2 a (X5 ..),C6 l g2 (λb hb=>h2 b (X4 _ hb)) λb hb c hc=>h3 b (X4 _ hb) c (X4 _ hc),λx hx y hy e=>?_⟩;subst e;obtain⟨b,hb,q⟩:=Zz.mp hy;have:=h3 a (X5 ..) b (X4 _ hb) x hx q;subst this;exact g1 hb
end
end K1
namespace K1
open PySem L2 L3
abbrev NT:=List (Nat×List Nat)
def bE(p:Nat×List Nat):Key×List Key:=(kN p.1,p.2.map kN)
def IW(l:NT)(n:Nat):NT:=if n∈l.map (·.1) then l else l++[(n,[])]
def F9(l:NT)(n m:Nat):NT:=l.map λp=>if p.1=n then(p.1,if m∈p.2 then p.2 else p.2++[m]) else p
def C_(ks:List Nat)(n:Nat):uH (ks.map kN) (kN n)=decide (n∈ks):=by
 rw[abC,mU,aej,Yo];exact⟨λ⟨a,h,e⟩=>oE _ _ e▸h,λh=>⟨n,h,rfl⟩⟩
def C7(l:NT):(l.map bE).map (·.1)=(l.map (·.1)).map kN:=by rw[YD,YD];rfl
def IY(l:NT)(n:Nat):yn (l.map bE) (kN n)=(IW l n).map bE:=by
 unfold yn IW;rw[C7,C_];by_cases h:n∈l.map (·.1)
 ·rw[aef h,aef (aeg h)]
 ·rw[aeh h,aeh (λz=>h (aei z)),YC];rfl
def F_(l:NT)(n m:Nat):rj (l.map bE) (kN n) (kN m)=(F9 l n m).map bE:=by
 unfold rj F9;rw[YD,YD];refine ZE λp _=>?_;show (if kN p.1=kN n then(kN p.1,if uH (p.2.map kN) (kN m) then p.2.map kN else p.2.map kN++[kN m]) else bE p)=bE (if p.1=n then(p.1,if m∈p.2 then p.2 else p.2++[m]) else p);by_cases h:p.1=n
 ·rw[aef (by rw[h]),aef h,C_];by_cases q:m∈p.2
  ·rw[aef (aeg q),aef q];rfl
  ·rw[aeh (λz=>q (aei z)),aeh q];show _=(kN p.1,(p.2++[m]).map kN)
   rw[YC];rfl
 ·rw[aeh (λz=>h (oE _ _ z)),aeh h]
structure NrS (T:Nat->Prop) (E:Nat->Nat->Prop) (l:NT):Prop where
 nd:(l.map (·.1)).Nodup
 key:∀n,n∈l.map (·.1)↔T n
 nb:∀p∈l,p.2.Nodup/\∀m,m∈p.2↔E p.1 m
 hT:∀n,T n->n<64
 hE:∀n m,E n m->m<64
def le64{l:List Nat}(hn:l.Nodup)(h:∀n∈l,n<64):l.length<=64:=by
 have:=bV (U:=Yr 64) hn λx hx=>YJ.mpr (h x hx);simpa using this
section
variable{T:Nat->Prop}{E:Nat->Nat->Prop}{l:NT}
def NrS.ok(h:NrS T E l):yQ (l.map bE)=ψ:=by
 unfold yQ;rw[ZQ,aej,Yu];have:=le64 h.nd λn hn=>h.hT n ((h.key n).mp hn);refine⟨by rw[X3] at this⊢;rw[ck];omega,λp hp=>?_⟩;obtain⟨q,hq,rfl⟩:=Yo.mp hp;have:=le64 (h.nb q hq).1 λm hm=>h.hE q.1 m (((h.nb q hq).2 m).mp hm);show decide ((q.2.map kN).length<lim)=ψ;rw[aej,X3,ck];omega
def NrS.cong{T':Nat->Prop}{E':Nat->Nat->Prop}(h:NrS T E l)(h1:∀n,T n↔T' n)(h2:∀n m,E n m↔E' n m):NrS T' E' l:=
 ⟨h.nd,λn=>(h.key n).trans (h1 n),λp hp=>⟨(h.nb p hp).1,λm=>((h.nb p hp).2 m).trans (h2 _ _)⟩,λn hn=>h.hT n ((h1 n).mpr hn),λn m hm=>h.hE n m ((h2 n m).mpr hm)⟩
def NrS.set(h:NrS T E l){n:Nat}(hn:n<64)(hE:∀m,E n m->T n):NrS (λk=>T k\/k=n) E (IW l n):=by
 unfold IW;split
 ·rename_i q;have hq:=(h.key n).mp q;exact h.cong (λk=>⟨.inl,λz=>z.elim id λe=>e▸hq⟩) λ_ _=>abi
 ·rename_i q;refine⟨?_,λk=>?_,λp hp=>?_,λk hk=>hk.elim (h.hT k) λe=>e▸hn,h.hE⟩
  ·rw[YC,YN];exact⟨h.nd,by simp,λx hx y hy z=>q (by rw[z] at hx;cases Yi.mp hy;exact hx)⟩
  ·rw[YC,YA,h.key];exact or_congr abi (by simp)
  ·rcases YA.mp hp with z | z
   ·exact h.nb p z
   ·cases Yi.mp z;exact⟨Zv,λm=>⟨λz=>(nomatch z),λz=>ael ((h.key n).mpr (hE m z)) q⟩⟩
def yS(l:NT)(n m:Nat):(F9 l n m).map (·.1)=l.map (·.1):=by
 unfold F9;rw[YD];refine ZE λp _=>?_;show (if p.1=n then(p.1,_) else p).1=p.1;split<;>rfl
def NrS.add(h:NrS T E l){n m:Nat}(hm:m<64):NrS T (λa b=>E a b\/(a=n/\b=m)) (F9 l n m):=by
 refine⟨by rw[yS];exact h.nd,λk=>by rw[yS];exact h.key k,λp hp=>?_,h.hT,λa b q=>q.elim (h.hE a b) λe=>e.2▸hm⟩;obtain⟨q,hq,rfl⟩:=Yo.mp hp;have:=h.nb q hq;by_cases e:q.1=n
 ·rw[aef e];by_cases z:m∈q.2
  ·rw[aef z];exact⟨this.1,λb=>⟨λy=> .inl ((this.2 b).mp y),λy=>y.elim (λy=>(this.2 b).mpr y) λy=>y.2▸z⟩⟩
  ·rw[aeh z];refine⟨YN.mpr ⟨this.1,by simp,λx hx y hy e=>z (by rw[e] at hx;cases Yi.mp hy;exact hx)⟩,λb=>?_⟩;show b∈q.2++[m]↔E q.1 b\/(q.1=n/\b=m);rw[YA,this.2 b,Yi];exact or_congr abi ⟨λy=>⟨e,y⟩,λy=>y.2⟩
 ·rw[aeh e];exact⟨this.1,λb=>(this.2 b).trans ⟨.inl,λy=>y.elim id λy=>ael y.1 e⟩⟩
end
theorem HJ{oi:Nat}{tc:DT}{δk:DE}{ρ:bQ}{f:Cell->Nat}{n:Nat}(la:∀y,f y<64):∀(ys:List Cell) {T:Nat->Prop}{E:Nat->Nat->Prop}{l:NT},NrS T E l->
 (∀y∈ys,tc (ρ.set oi (fz (cD y)))=aa (!decide (f y=n))/\δk (ρ.set oi (fz (cD y)))=aa (nI (f y)))->
 ∃l',mj oi tc δk (kN n) ρ (ys.map cD) (l.map bE)=aa (l'.map bE)/\NrS T (λa b=>E a b\/(a=n/\b≠n/\∃y∈ys,f y=b)) l'
 |[],T,E,l,h,_=>⟨l,rfl,h.cong (λ_=>abi) λa b=>⟨.inl,λz=>z.elim id λ⟨_,_,y,hy,_⟩=>nomatch hy⟩⟩
 |y::ys,T,E,l,h,PR=>by
  obtain⟨h1,h2⟩:=PR y X5;have PU:=λz hz=>PR z (X4 _ hz);by_cases e:f y=n
  ·rw[aeg e] at h1;obtain⟨l',g1,g2⟩:=HJ (n:=n) la ys h PU;refine⟨l',?_,g2.cong (λ_=>abi) λa b=>or_congr abi (and_congr_right λ_=>and_congr_right λhb=>?_)⟩
   ·rw[X9];unfold mj;rw[show θ (Sl.fz (cD y))=fz (cD y) from rfl,h1];exact g1
   ·exact⟨λ⟨z,hz,q⟩=>⟨z,X4 _ hz,q⟩,λ⟨z,hz,q⟩=>(Ye.mp hz).elim (λx=>ael (q.symm.trans (by rw[x,e])) hb) λx=>⟨z,x,q⟩⟩
  ·rw[aek e] at h1;obtain⟨l',g1,g2⟩:=HJ (n:=n) la ys (h.add (n:=n) (la y)) PU;refine⟨l',?_,g2.cong (λ_=>abi) λa b=>?_⟩
   ·rw[X9];unfold mj;rw[show θ (Sl.fz (cD y))=fz (cD y) from rfl,h1,h2];show (if yQ (l.map bE) then mj oi tc δk (kN n) ρ (ys.map cD) (rj (l.map bE) (kN n) (kN (f y))) else af)=_;rw[aef h.ok,F_];exact g1
   ·constructor
    ·rintro((q | ⟨q1,q2⟩) | ⟨q1,q2,z,hz,q3⟩)
     ·exact .inl q
     ·exact .inr ⟨q1,λz=>e (q2.symm.trans z),y,X5,q2.symm⟩
     ·exact .inr ⟨q1,q2,z,X4 _ hz,q3⟩
    ·rintro(q | ⟨q1,q2,z,hz,q3⟩)
     ·exact .inl (.inl q)
     ·rcases Ye.mp hz with x | x
      ·exact .inl (.inr ⟨q1,by rw[<-q3,x]⟩)
      ·exact .inr ⟨q1,q2,z,x,q3⟩
theorem HK{ci oi:Nat}{δk:DE}{δj:DA}{tc:DT}{δk2:DE}{ρ:bQ}{f:Cell->Nat}{nx:Cell->List Cell}(la:∀y,f y<64):∀(xs:List Cell) {T:Nat->Prop}{E:Nat->Nat->Prop}{l:NT},NrS T E l->(∀n m,E n m->T n)->
 (∀x∈xs,δk (ρ.set ci (fz (cD x)))=aa (nI (f x))/\δj (ρ.set ci (fz (cD x)))=aa ((nx x).map cD)/\∀y∈nx x,tc ((ρ.set ci (fz (cD x))).set oi (fz (cD y)))=aa (!decide (f y=f x))/\δk2 ((ρ.set ci (fz (cD x))).set oi (fz (cD y)))=aa (nI (f y)))->
 ∃l',g_ ci oi δk δj tc δk2 ρ (xs.map cD) (l.map bE)=aa (l'.map bE)/\NrS (λn=>T n\/∃x∈xs,f x=n) (λa b=>E a b\/(a≠b/\∃x∈xs,f x=a/\∃y∈nx x,f y=b)) l'
 |[],T,E,l,h,_,_=>⟨l,rfl,h.cong (λn=>⟨.inl,λz=>z.elim id λ⟨_,hx,_⟩=>nomatch hx⟩) λa b=>⟨.inl,λz=>z.elim id λ⟨_,_,hx,_⟩=>nomatch hx⟩⟩
 |x::xs,T,E,l,h,UG,PR=>by
  obtain⟨h1,h2,h3⟩:=PR x X5;obtain⟨l1,g1,g2⟩:=HJ (n:=f x) la (nx x) (h.set (la x) λm hm=>UG _ m hm) h3;obtain⟨l2,k1,k2⟩:=HK la xs g2 (λn m z=>z.elim (λz=> .inl (UG n m z)) λz=> .inr z.1) λz hz=>PR z (X4 _ hz);refine⟨l2,?_,k2.cong (λn=>?_) λa b=>?_⟩
  ·rw[X9];unfold g_;rw[show θ (Sl.fz (cD x))=fz (cD x) from rfl,h1];show (if yQ (l.map bE) then noex (δj (ρ.set ci (fz (cD x))))>>=λes=>mj oi tc δk2 (kN (f x)) (ρ.set ci (fz (cD x))) es (yn (l.map bE) (kN (f x)))>>=λjS=>g_ ci oi δk δj tc δk2 ρ (xs.map cD) jS else af)=_;rw[aef h.ok,h2,IY];show (mj oi tc δk2 (kN (f x)) (ρ.set ci (fz (cD x))) ((nx x).map cD) ((IW l (f x)).map bE)>>=λjS=>g_ ci oi δk δj tc δk2 ρ (xs.map cD) jS)=_;rw[g1];exact k1
  ·constructor
   ·rintro((q | q) | ⟨z,hz,q⟩)
    ·exact .inl q
    ·exact .inr ⟨x,X5,q.symm⟩
    ·exact .inr ⟨z,X4 _ hz,q⟩
   ·rintro(q | ⟨z,hz,q⟩)
    ·exact .inl (.inl q)
    ·rcases Ye.mp hz with e | e
     ·exact .inl (.inr (by rw[<-q,e]))
     ·exact .inr ⟨z,e,q⟩
  ·constructor
   ·rintro((q | ⟨q1,q2,y,hy,q3⟩) | ⟨q1,z,hz,q2⟩)
    ·exact .inl q
    ·exact .inr ⟨λe=>q2 (e.symm.trans q1),x,X5,q1.symm,y,hy,q3⟩
    ·exact .inr ⟨q1,z,X4 _ hz,q2⟩
   ·rintro(q | ⟨q1,z,hz,q2,y,hy,q3⟩)
    ·exact .inl (.inl q)
    ·rcases Ye.mp hz with e | e
     ·subst e;exact .inl (.inr ⟨q2.symm,λe=>q1 (q2.symm.trans e.symm),y,hy,q3⟩)
     ·exact .inr ⟨q1,z,e,q2,y,hy,q3⟩
def FA{ni ci mi oi:Nat}{δi:DA}{δk:DE}{δj:DA}{tc:DT}{δk2:DE}{ρ ρ0:bQ}{ds:List D}{ps:rh}(h0:qM ρ ni=θ (.dci [] []))(h1:fgt [ni,ci,mi,oi] ρ=ρ0)(h2:pJ ρ0=ψ)(h3:δi ρ0=aa ds)
 (h4:g_ ci oi δk δj tc δk2 ρ0 ds []=aa ps)(h5:yQ ps=ψ):AA ni ci mi oi δi δk δj tc δk2 ρ=aa (.nx (ρ0.set ni (fz (gm ps)))):=by
 unfold AA;rw[h0,h1];show (if pJ ρ0=ψ then noex (δi ρ0)>>=_ else af)=_;rw[aef h2,h3];show (noex (g_ ci oi δk δj tc δk2 ρ0 ds [])>>=_)=_;rw[h4];show (if yQ ps=ψ then _ else af)=_;rw[aef h5]
def oQ(l:NT)(n:Nat):List Nat:=match l.find? (λp=>p.1==n) with
 |some p=>p.2
 |none=>[]
def DI{l:NT}{p:Nat×List Nat}(hn:(l.map (·.1)).Nodup)(hp:p∈l):oQ l p.1=p.2:=by
 unfold oQ;cases q:l.find? (λr=>r.1==p.1) with
 |none=>have:=List.find?_eq_none.mp q p hp;simp at this
 |some r=>
  have h1:=List.find?_some q;have h2:=List.mem_of_find?_eq_some q;have h1:r.1=p.1:=by simpa using h1
  have:r=p:=oR (f:=(·.1)) hn r h2 p hp h1;rw[this]
def NrS.mem{T:Nat->Prop}{E:Nat->Nat->Prop}{l:NT}(h:NrS T E l){n m:Nat}(hn:T n):m∈oQ l n↔E n m:=by
 obtain⟨p,hp,rfl⟩:=Yo.mp ((h.key n).mpr hn);rw[DI h.nd hp];exact(h.nb p hp).2 m
def Iv(l:NT):gm (l.map bE)=(Vj (l.map (·.1)) (l.map λp=>inD (p.2.map kN))).d:=by
 unfold gm;rw[C7];exact aeo (D.dci _) (YD ..)
def Hj(ks:List Nat):g7 (inD (ks.map kN))=aa (ks.map nI):=by
 show (if (ks.map kN).all sW then aa ((ks.map kN).map Hg) else af)=_;rw[aef (Yu.mpr λk hk=>by obtain⟨n,_,rfl⟩:=Yo.mp hk;rfl),YD];rfl
def NrS.near{T:Nat->Prop}{E:Nat->Nat->Prop}{l:NT}(h:NrS T E l):Mp nI (l.map (·.1)) (oQ l) (gm (l.map bE)):=λn hn=>by
 rw[Iv];obtain⟨d,h1,h2⟩:=Qn.ix (ds:=l.map λp=>inD (p.2.map kN)) (by simp) hn;refine⟨d,h2,?_⟩;rw[adf] at h1;obtain⟨p,hp,e⟩:=Yo.mp h1;cases e;rw[DI h.nd hp];exact Hj p.2
section
variable{α:Type}{E:α->α->Prop}{a b x:α}
def Rr(E:α->α->Prop)(a:α):Nat->α->Prop
 |0,x=>x=a
 |k+1,x=>Rr E a k x\/∃y,Rr E a k y/\E y x
def Dr(E:α->α->Prop)(a x:α)(n:Nat):Prop:=Rr E a n x/\∀j,Rr E a j x->n<=j
def Rr.mono{i j:Nat}(h:i<=j)(r:Rr E a i x):Rr E a j x:=by
 induction h with
 |refl=>exact r
 |step _ ih=>exact .inl ih
theorem Rr.trans{i:Nat}(h:Rr E a i b):∀{j:Nat}{x:α},Rr E b j x->Rr E a (i+j) x
 |0,_,r=>by cases r;exact h
 |_+1,_, .inl r=> .inl (Rr.trans h r)
 |_+1,_, .inr ⟨y,r,e⟩=> .inr ⟨y,Rr.trans h r,e⟩
end
def gd(w:Nat)(a b:Cell):Nat:=if w=4 then cB a.1 b.1+cB a.2 b.2 else max (cB a.1 b.1) (cB a.2 b.2)
def Nx(R W w:Nat)(y x:Cell):Prop:=On R W y/\On R W x/\lR w y x=ψ
def gW(a:Nat):cB a a=0:=by unfold cB;rw[Nat.max_self,adH,Nat.sub_self]
def gV{a b:Nat}(h:a<=b):cB a b=b - a:=by unfold cB;rw[Nat.max_eq_right h,aaO h]
def gU{a b:Nat}(h:b<=a):cB a b=a - b:=by unfold cB;rw[Nat.max_eq_left h,Nat.min_eq_right h]
def CV(a b c:Nat):cB a c<=cB a b+cB b c:=by
 rcases abK a b with h | h<;>rcases abK b c with h2 | h2
 ·rw[gV h,gV h2,gV (Yz h h2)];omega
 ·rw[gV h,gU h2];rcases abK a c with h3 | h3
  ·rw[gV h3];omega
  ·rw[gU h3];omega
 ·rw[gU h,gV h2];rcases abK a c with h3 | h3
  ·rw[gV h3];omega
  ·rw[gU h3];omega
 ·rw[gU h,gU h2,gU (Yz h2 h)];omega
theorem GP{R W w:Nat}(hw:Ways w){a:Cell}:∀{j:Nat}{x:Cell},Rr (Nx R W w) a j x->gd w a x<=j
 |0,x,r=>by
  cases (show x=a from r);rcases hw with rfl | rfl
  ·show cB a.1 a.1+cB a.2 a.2<=0;rw[gW,gW];exact X_ _
  ·show max (cB a.1 a.1) (cB a.2 a.2)<=0;rw[gW,gW];exact X_ _
 |j+1,x, .inl r=>Nat.le_succ_of_le (GP hw r)
 |j+1,x, .inr ⟨y,r,e⟩=>by
  have h:=GP hw r;have e:=e.2.2;have t1:=CV a.1 y.1 x.1;have t2:=CV a.2 y.2 x.2;rcases hw with rfl | rfl
  ·have e:cB y.1 x.1+cB y.2 x.2=1:=aei e;show cB a.1 x.1+cB a.2 x.2<=j+1;have h:cB a.1 y.1+cB a.2 y.2<=j:=h;omega
  ·have e:max (cB y.1 x.1) (cB y.2 x.2)=1:=aei e;have h:max (cB a.1 y.1) (cB a.2 y.2)<=j:=h;have e1:=abL (cB y.1 x.1) (cB y.2 x.2);have e2:=abl (cB y.1 x.1) (cB y.2 x.2);have e3:=Yz (abL ..) h;have e4:=Yz (abl ..) h;rw[e] at e1 e2;exact Nat.max_le.mpr ⟨Yz t1 (Nat.add_le_add e3 e1),Yz t2 (Nat.add_le_add e4 e2)⟩
def toward(a b:Nat):Nat:=if b<a then b+1 else if a<b then b - 1 else b
def pD(a b:Nat):(toward a b<=max a b)/\cB a (toward a b)=cB a b - 1/\cB (toward a b) b=min 1 (cB a b):=by
 unfold toward;by_cases h:b<a
 ·rw[aef h,gU h,gU (Zm h),gU (acS b),Nat.max_eq_left (Zm h),aaO (by omega)];omega
 ·rw[aeh h];by_cases h2:a<b
  ·rw[aef h2,gV (show a<=b - 1 by omega),gV (Zm h2),gV (Nat.sub_le b 1),Nat.max_eq_right (Zm h2),aaO (by omega)];omega
  ·rw[aeh h2];have:a=b:=by omega
   subst this;rw[gW,Nat.max_self];exact⟨X_ _,rfl,rfl⟩
def lC{a b R:Nat}(ha:a<R)(hb:b<R):toward a b<R:=Z8 (pD a b).1 (Nat.max_lt.mpr ⟨ha,hb⟩)
def J5{R W w:Nat}(hw:Ways w){a b:Cell}(ha:On R W a)(hb:On R W b){n:Nat}(h:gd w a b=n+1):∃c,Nx R W w c b/\gd w a c=n:=by
 obtain⟨a1,a2⟩:=a;obtain⟨b1,b2⟩:=b;obtain⟨_,t2,t3⟩:=pD a1 b1;obtain⟨_,u2,u3⟩:=pD a2 b2;rcases hw with rfl | rfl
 ·have h:cB a1 b1+cB a2 b2=n+1:=h;by_cases e:cB a1 b1=0
  ·refine⟨(b1,toward a2 b2),⟨⟨hb.1,lC ha.2 hb.2⟩,hb,aeg (show cB b1 b1+cB (toward a2 b2) b2=1 from ?_)⟩,show cB a1 b1+cB a2 (toward a2 b2)=n from ?_⟩
   ·rw[gW,u3,aaO (by omega)]
   ·rw[u2];omega
  ·refine⟨(toward a1 b1,b2),⟨⟨lC ha.1 hb.1,hb.2⟩,hb,aeg (show cB (toward a1 b1) b1+cB b2 b2=1 from ?_)⟩,show cB a1 (toward a1 b1)+cB a2 b2=n from ?_⟩
   ·rw[gW,t3,aaO (by omega)]
   ·rw[t2];omega
 ·have h:max (cB a1 b1) (cB a2 b2)=n+1:=h;refine⟨(toward a1 b1,toward a2 b2),⟨⟨lC ha.1 hb.1,lC ha.2 hb.2⟩,hb,aeg (show max (cB (toward a1 b1) b1) (cB (toward a2 b2) b2)=1 from ?_)⟩,show max (cB a1 (toward a1 b1)) (cB a2 (toward a2 b2))=n from ?_⟩
  ·rw[t3,u3];generalize cB a1 b1=p at*;generalize cB a2 b2=q at*;omega
  ·rw[t2,u2];generalize cB a1 b1=p at*;generalize cB a2 b2=q at*;omega
def zf{a b:Nat}(h:cB a b=0):b=a:=by
 rcases abK a b with q | q
 ·rw[gV q] at h;omega
 ·rw[gU q] at h;omega
def J6{w:Nat}(hw:Ways w){a b:Cell}(h:gd w a b=0):b=a:=by
 have:cB a.1 b.1=0/\cB a.2 b.2=0:=by
  rcases hw with rfl | rfl
  ·exact Nat.add_eq_zero_iff.mp h
  ·have h:max (cB a.1 b.1) (cB a.2 b.2)=0:=h;exact⟨Nat.le_zero.mp (h▸abL ..),Nat.le_zero.mp (h▸abl ..)⟩
 exact aba (zf this.1) (zf this.2)
theorem LS{R W w:Nat}(hw:Ways w){a:Cell}(ha:On R W a):∀(n:Nat) {b:Cell},On R W b->gd w a b=n->Rr (Nx R W w) a n b
 |0,b,_,h=>J6 hw h
 |n+1,b,hb,h=>by
  obtain⟨c,e,h2⟩:=J5 hw ha hb h;exact .inr ⟨c,LS hw ha n e.1 h2,e⟩
def LR{R W w:Nat}(hw:Ways w){a b:Cell}(ha:On R W a)(hb:On R W b):Dr (Nx R W w) a b (gd w a b):=⟨LS hw ha _ hb rfl,λj r=>GP hw r⟩
section
variable{bd:List Str}{W w v:Nat}{f g:Cell->Nat}
def NumF(bd:List Str)(W w:Nat)(f:Cell->Nat):Prop:=∀x,On bd.length W x->∃P,(aF bd W w)[f x]? =θ P/\x∈P
def NumF.eq(hw:Ways w)(hf:NumF bd W w f)(hg:NumF bd W w g){x:Cell}(hx:On bd.length W x):f x=g x:=by
 obtain⟨P,h1,h2⟩:=hf x hx;obtain⟨Q,h3,h4⟩:=hg x hx;exact xg hw h1 h3 h2 h4
def NumF.lt(hf:NumF bd W w f){x:Cell}(hx:On bd.length W x):f x<(aF bd W w).length:=by
 obtain⟨P,h1,_⟩:=hf x hx;exact(Yk.mp h1).1
def NumF.cn(hw:Ways w)(hf:NumF bd W w f){x y:Cell}(hx:On bd.length W x)(hy:On bd.length W y):f x=f y↔Cn bd W w x y:=by
 obtain⟨P,h1,h2⟩:=hf x hx;obtain⟨Q,h3,h4⟩:=hf y hy;obtain⟨m,e1,rfl⟩:=eQ h1;obtain⟨n,e2,rfl⟩:=eQ h3;have om:=bU (j_ e1);have on:=bU (j_ e2);constructor
 ·intro e;rw[e,h3] at h1;have h1:au bd W w n=au bd W w m:=YS h1;rw[h1] at h4;exact((((bp hw om).mem x).mp h2).symm hw om).trans (((bp hw om).mem y).mp h4)
 ·intro e;have:y∈au bd W w m:=((bp hw om).mem y).mpr ((((bp hw om).mem x).mp h2).trans e);exact xg hw h1 h3 this h4
def Ad(R W v:Nat)(f:Cell->Nat)(n m:Nat):Prop:=n≠m/\∃x y,Nx R W v x y/\f x=n/\f y=m
end
section
variable{bd:List Str}{W w v:Nat}{f:Cell->Nat}
def ki(hg:Brd bd W)(hs:bd.length*W<64)(hw:Ways w):∃ks f,NumF bd W w f/\(∀x,On bd.length W x->x∈ks)/\eY [.lst ((aF bd W w).map cL)]=aa (JQ ks λy=>nI (f y)):=by
 obtain⟨ks,f,a1,a2,a3⟩:=sS (R:=bd.length) (W:=W) (by omega) (Fo (bd:=bd) hw);have zA:∀x,On bd.length W x->x∈ks:=λx hx=>by
  obtain⟨P,hP,h⟩:=tu hg hw hx;exact a2 P hP x h
 exact⟨ks,f,λx hx=>a1.num x (zA x hx),zA,a3⟩
def i7(hg:Brd bd W)(hs:bd.length*W<64)(hw:Ways w)(hv:Ways v)(hf:NumF bd W w f):
 ∃l,NrS (λn=>∃x,On bd.length W x/\f x=n) (Ad bd.length W v f) l/\eW [brd bd, .int (v:Int), .lst ((aF bd W w).map cL)]=aa (gm (l.map bE)):=by
 obtain⟨ks,g,UW,zA,e0⟩:=ki hg hs hw;have UU:∀x,On bd.length W x->f x % 64=g x:=λx hx=>by
  have:=hf.lt hx;have:=su (bd:=bd) (W:=W) (w:=w);rw[Nat.mod_eq_of_lt (by omega)];exact hf.eq hw UW hx
 have OO:∀x,On bd.length W x->f x % 64=f x:=λx hx=>(UU x hx).trans (UW.eq hw hf hx);have ev:∀{ρ:bQ}{i:Nat}{x:Cell},ρ[3]? =θ (fz (JQ ks λy=>nI (g y)))->ρ[i]? =θ (fz (cD x))->On bd.length W x->d2 eZ (dV 3) (dV i) ρ=aa (nI (f x % 64)):=λh3 hi hx=>by
  rw[UU _ hx];exact(aR (jr h3) (jr hi)).trans (He (f:=λy=>nI (g y)) (zA _ hx))
 obtain⟨l,k1,k2⟩:=HK (ci:=5) (oi:=7) (δk:=d2 eZ (dV 3) (dV 5)) (δj:=cE (aq 3 bL (aC (dV 0) (aC (dV 5) (aC (dV 1) aN))))) (tc:=cT (d2 qF (d2 eZ (dV 3) (dV 7)) (d2 eZ (dV 3) (dV 5)))) (δk2:=d2 eZ (dV 3) (dV 7))
  (ρ:=[fz (brd bd),fz (.int (v:Int)),fz (.lst ((aF bd W w).map cL)),fz (JQ ks λy=>nI (g y)),ω,ω,ω,ω]) (f:=λx=>f x % 64) (nx:=kh bd.length W v) (λy=>ade _ (by decide)) (aE bd.length W) (T:=λ_=>False) (E:=λ_ _=>False) (l:=[])
  ⟨Zv,λn=>by simp,λp hp=>(nomatch hp),λn h=>h.elim,λn m h=>h.elim⟩ (λ_ _ h=>h.elim) λx hx=>by
   have hx:=aI.mp hx;refine⟨ev rfl rfl hx,?_,λy hy=>?_⟩
   ·exact Ki ((ao (ds:=[brd bd,cD x, .int (v:Int)]) rfl rfl).trans (g8 hg hv hx))
   ·have hy:=((gK hv).mp hy).1;refine⟨fH ((aR (ev rfl rfl hy) (ev rfl rfl hx)).trans ((Qx _ _).trans ?_)),ev rfl rfl hy⟩;by_cases e:f y % 64=f x % 64
    ·rw[e];simp
    ·rw[aek e,aen.mpr e]
 refine⟨l,k2.cong (λn=>?_) (λn m=>?_),aT (aj (ρ':=[fz (brd bd),fz (.int (v:Int)),fz (.lst ((aF bd W w).map cL)),fz (JQ ks λy=>nI (g y)),ω,ω,ω,ω]) ((aJ ((ao (ds:=[.lst ((aF bd W w).map cL)]) rfl rfl).trans e0)).trans rfl) (aj (ρ':=[fz (brd bd),fz (.int (v:Int)),fz (.lst ((aF bd W w).map cL)),fz (JQ ks λy=>nI (g y)),θ (.ow (.dci [] [])),ω,ω,ω]) rfl (aj (ρ':=[fz (brd bd),fz (.int (v:Int)),fz (.lst ((aF bd W w).map cL)),fz (JQ ks λy=>nI (g y)),fz (gm (l.map bE)),ω,ω,ω]) (cF ?_) rfl)))⟩
 ·constructor
  ·rintro(z | ⟨x,hx,e⟩)
   ·exact z.elim
   ·have hx:=aI.mp hx;exact⟨x,hx,(OO x hx).symm.trans e⟩
  ·rintro⟨x,hx,e⟩;exact .inr ⟨x,aI.mpr hx,(OO x hx).trans e⟩
 ·constructor
  ·rintro(z | ⟨fE,x,hx,e,y,hy,e2⟩)
   ·exact z.elim
   ·have hx:=aI.mp hx;have hy:=(gK hv).mp hy;exact⟨fE,x,y,⟨hx,hy.1,hy.2⟩,(OO x hx).symm.trans e,(OO y hy.1).symm.trans e2⟩
  ·rintro⟨fE,x,y,⟨hx,hy,q⟩,e,e2⟩;exact .inr ⟨fE,x,aI.mpr hx,(OO x hx).trans e,y,(gK hv).mpr ⟨hy,q⟩,(OO y hy).trans e2⟩
 ·exact FA rfl rfl rfl (Ki ((ao (ds:=[brd bd]) rfl rfl).trans (iH hg))) k1 k2.ok
end
def n_(ks:List Nat)(n:Nat):List Nat:=if n∈ks then ks else ks++[n]
def AU(ks:List Nat):List D:=ks.map λ_=> .bl ψ
def sA{ks:List Nat}{n m:Nat}:m∈n_ ks n↔m∈ks\/m=n:=by
 unfold n_;split
 ·rename_i h;exact⟨.inl,λq=>q.elim id λq=>q▸h⟩
 ·rw[YA,Yi]
def Kw{ks:List Nat}(h:ks.Nodup)(n:Nat):(n_ ks n).Nodup:=by
 unfold n_;split
 ·exact h
 ·rename_i q;exact YN.mpr ⟨h,by simp,λx hx y hy z=>q (by rw[z] at hx;cases Yi.mp hy;exact hx)⟩
theorem Ay{κ:Type}[DecidableEq κ]{k:κ}:∀{ks:List κ}{l:List Nat},ks.length=l.length->jD ks (AU l) k (.bl ψ)=AU l
 |[],[],_=>rfl
 |a::ks,b::l,h=>by
  show (if a=k then D.bl ψ else .bl ψ)::jD ks (AU l) k (.bl ψ)=_;rw[Ay (by simpa using h)];split<;>rfl
 |[],_::_,h=>by simp at h
 |_::_,[],h=>by simp at h
def IG{ks:List Nat}{n:Nat}(hl:ks.length<lim):gD (.dci (ks.map kN) (AU ks)) (nI n) (.bl ψ)=θ (.dci ((n_ ks n).map kN) (AU (n_ ks n))):=by
 show (if (AU ks).length<lim then θ (C.dci (cC (ks.map kN) (AU ks) (kN n)) (bZ (ks.map kN) (AU ks) (kN n) (.bl ψ))) else ω)=_;rw[aef (by unfold AU;rw[X3];exact hl)];unfold cC bZ n_;rw[ik oE];by_cases h:n∈ks
 ·obtain⟨d,e,_⟩:=jk (ks:=ks) (ds:=AU ks) (by simp[AU]) h;rw[e,aef h];show θ (C.dci (ks.map kN) (jD (ks.map kN) (AU ks) (kN n) (.bl ψ)))=_;rw[Ay (by simp)]
 ·rw[jL h,aeh h];show θ (C.dci (ks.map kN++[kN n]) (AU ks++[.bl ψ]))=_;unfold AU;rw[YC,YC];rfl
section
variable{l:NT}{aW:List Nat}{c:Nat}
def ua(aW:List Nat)(c:Nat)(ks:List Nat)(m:Nat):List Nat:=if aW.getD m 0=c then n_ ks m else ks
def ql(l:NT)(aW:List Nat)(c:Nat)(ks:List Nat)(n:Nat):List Nat:=(oQ l n).foldl (ua aW c) (n_ ks n)
theorem vL{m:Nat}:∀{ms ks:List Nat},m∈ms.foldl (ua aW c) ks↔m∈ks\/(m∈ms/\aW.getD m 0=c)
 |[],ks=>⟨.inl,λh=>h.elim id λh=>(nomatch h.1)⟩
 |a::ms,ks=>by
  rw[aap,vL (ms:=ms)];unfold ua;split
  ·rename_i q;rw[sA];constructor
   ·rintro((h | rfl) | h)
    ·exact .inl h
    ·exact .inr ⟨X5,q⟩
    ·exact .inr ⟨X4 _ h.1,h.2⟩
   ·rintro(h | ⟨h,h2⟩)
    ·exact .inl (.inl h)
    ·exact(Ye.mp h).elim (λh=> .inl (.inr h)) λh=> .inr ⟨h,h2⟩
  ·rename_i q;exact or_congr abi ⟨λh=>⟨X4 _ h.1,h.2⟩,λh=>⟨(Ye.mp h.1).resolve_left λz=>q (z▸h.2),h.2⟩⟩
theorem oP{m:Nat}:∀{T ks:List Nat},m∈T.foldl (ql l aW c) ks↔m∈ks\/m∈T\/∃n∈T,m∈oQ l n/\aW.getD m 0=c
 |[],ks=>⟨.inl,λh=>h.elim id λh=>h.elim (λh=>(nomatch h)) λ⟨_,h,_⟩=>(nomatch h)⟩
 |a::T,ks=>by
  rw[aap,oP (T:=T)];unfold ql;rw[vL,sA];constructor
  ·rintro(((h | rfl) | h) | h | ⟨n,h,h2⟩)
   ·exact .inl h
   ·exact .inr (.inl X5)
   ·exact .inr (.inr ⟨a,X5,h⟩)
   ·exact .inr (.inl (X4 _ h))
   ·exact .inr (.inr ⟨n,X4 _ h,h2⟩)
  ·rintro(h | h | ⟨n,h,h2⟩)
   ·exact .inl (.inl (.inl h))
   ·exact(Ye.mp h).elim (λh=> .inl (.inl (.inr h))) λh=> .inr (.inl h)
   ·exact(Ye.mp h).elim (λh=> .inl (.inr (h▸h2))) λh=> .inr (.inr ⟨n,h,h2⟩)
def rM(l:NT)(aW:List Nat)(c:Nat)(T:List Nat):List Nat:=(Yr aW.length).filter λm=>decide (m∈T\/∃n∈T,m∈oQ l n/\aW.getD m 0=c)
def dW{T:List Nat}{m:Nat}:m∈rM l aW c T↔m<aW.length/\(m∈T\/∃n∈T,m∈oQ l n/\aW.getD m 0=c):=by
 unfold rM;rw[YE,YJ,aej]
def nT(T:List Nat):D:= .tup (T.map nI)
def Jr(t nr:D)(aW:List Nat)(c:Nat)(ks:List Nat)(x5 x6:Option Sl):bQ:=[fz t,fz nr,fz (.lst (aW.map sg)),fz (sg c),θ (.ow (.dci (ks.map kN) (AU ks))),x5,x6]
def pB{ks:List Nat}{T:List Nat}(h1:ks.Nodup)(h2:T.Pairwise (· < ·))(h:∀m,m∈ks↔m∈T):kQ (ks.map λn:Nat=>(n:Int))=T.map λn:Nat=>(n:Int):=by
 have nd:T.Nodup:=h2.imp λil=>YF il;refine xJ ((ig _).trans (((acT h1 nd).mpr h).map _)) (pC _) ?_;rw[aay];exact h2.imp λh=>by omega
theorem zC:∀ks:List Nat,lN (ks.map kN)=θ (ks.map λn:Nat=>(n:Int))
 |[]=>rfl
 |k::ks=>by
  show (lN (ks.map kN)).map _=_;rw[zC ks];rfl
def Ss{m:Nat}(h:m<aW.length):j3 (.lst (aW.map sg)) (nI m)=aa (sg (aW.getD m 0)):=by
 show (match L2.atI (aW.map sg) (m:Int) with | some d=>aa d | none=>af)=_;rw[gP (x:=sg (aW.getD m 0)) (by rw[Yl,X7 h,Yp,X7 h];rfl)]
def wV{Tp:Nat->Prop}{E:Nat->Nat->Prop}(hl:NrS Tp E l)(hn:aW.length<=63)(hb:∀n m,E n m->m<aW.length){T:List Nat}(hT:∀n∈T,Tp n/\n<aW.length):gX [nT T,gm (l.map bE), .lst (aW.map sg),sg c]=aa (nT (rM l aW c T)):=by
 let I:List Nat->Prop:=λks=>ks.Nodup/\∀m∈ks,m<aW.length
 have v6:∀ks,I ks->ks.length<=63:=λks h=>by
  have:=bV (U:=Yr aW.length) h.1 λx hx=>YJ.mpr (h.2 x hx);rw[ZS] at this;omega
 have add:∀ks n,I ks->n<aW.length->I (n_ ks n):=λks n h hn=>⟨Kw h.1 n,λm hm=>(sA.mp hm).elim (h.2 m) λe=>e▸hn⟩
 have put:∀{ks:List Nat}{n:Nat}{i:Nat}{x5 x6:Option Sl},I ks->(Jr (nT T) (gm (l.map bE)) aW c ks x5 x6)[i]? =θ (fz (nI n))->dO 4 (dV i) (dC (.bl ψ)) (Jr (nT T) (gm (l.map bE)) aW c ks x5 x6)=aa (.nx (Jr (nT T) (gm (l.map bE)) aW c (n_ ks n) x5 x6)):=λ{ks n i x5 x6} h hi=>
  (D7 (c:= .dci (ks.map kN) (AU ks)) (k:=nI n) (d:= .bl ψ) rfl rfl (jr hi) (IG (by have:=v6 ks h;rw[ck];omega))).trans rfl
 have Xj:∀(n:Nat),(∀m∈oQ l n,m<aW.length)->∀ks,I ks->I ((oQ l n).foldl (ua aW c) ks)/\forL (putN 6) Uq ((oQ l n).map nI) (Jr (nT T) (gm (l.map bE)) aW c ks (fz (nI n)) ω)=aa (.nx (Jr (nT T) (gm (l.map bE)) aW c ((oQ l n).foldl (ua aW c) ks) (fz (nI n)) ω)):=λn hm ks hI=>
  fS nI (λks=>Jr (nT T) (gm (l.map bE)) aW c ks (fz (nI n)) ω) (ua aW c) I (oQ l n) ks hI λks hI m Wu=>by
   have MY:=hm m Wu;have ht:cT (d2 mS (d2 j3 (dV 2) (dV 6)) (dV 3)) (Jr (nT T) (gm (l.map bE)) aW c ks (fz (nI n)) (fz (nI m)))=aa (decide (aW.getD m 0=c)):=fH ((aR (x:=sg (aW.getD m 0)) (y:=sg c) ((aR (x:= .lst (aW.map sg)) (y:=nI m) rfl rfl).trans (Ss MY)) rfl).trans (LO _ _));unfold ua;by_cases e:aW.getD m 0=c
   ·rw[aeg e] at ht;rw[aef e];exact⟨add ks m hI MY,_,rfl,(aU (fJ ht (put hI rfl))).trans rfl⟩
   ·rw[aek e] at ht;rw[aeh e];exact⟨hI,_,rfl,(aU (dr ht rfl)).trans rfl⟩
 obtain⟨hI,e⟩:=fS (put:=putN 5) (body:=Up) nI (λks=>Jr (nT T) (gm (l.map bE)) aW c ks ω ω) (ql l aW c) I T [] ⟨Zv,λ_ h=>(nomatch h)⟩ λks hI n hn=>by
  have RA:=hT n hn;obtain⟨g1,g2⟩:=Xj n (λm hm=>hb n m ((hl.mem RA.1).mp hm)) (n_ ks n) (add ks n hI RA.2);refine⟨g1,_,rfl,(aU (aj (put hI rfl) (dq ?_ g2))).trans rfl⟩;obtain⟨d,h1,h2⟩:=hl.near n ((hl.key n).mpr RA.1);have e0:d2 eZ (dV 1) (dV 5) (Jr (nT T) (gm (l.map bE)) aW c (n_ ks n) (fz (nI n)) ω)=aa d:=(aR (x:=gm (l.map bE)) (y:=nI n) rfl rfl).trans h1;show (d2 eZ (dV 1) (dV 5) _>>=g7)=_;rw[e0];cases d with
  |lst ds=>exact(by
    rw[Iv] at h1;obtain⟨d',h3,h4⟩:=Qn.ix (ds:=l.map λp=>inD (p.2.map kN)) (by simp) ((hl.key n).mpr RA.1);rw[h1] at h4;have:=fi h4;subst this;rw[adf] at h3;obtain⟨p,_,e⟩:=Yo.mp h3;cases (Prod.mk.inj e).2)
  |_=>exact h2
 refine aT (aj (ρ':=Jr (nT T) (gm (l.map bE)) aW c [] ω ω) rfl (aj (cF (dq (ds:=T.map nI) rfl e)) (aP ((cf (xs:=[.lst ((rM l aW c T).map nI)]) (aO ((cf (xs:=[.dci ((T.foldl (ql l aW c) []).map kN) (AU (T.foldl (ql l aW c) []))]) rfl).trans ?_) rfl)).trans rfl))))
 ·show (match lN ((T.foldl (ql l aW c) []).map kN) with | some ns=>if ns.length<64 then aa (D.lst ((kQ ns).map D.int)) else af | none=>af)=_;rw[zC];show (if ((T.foldl (ql l aW c) []).map λn:Nat=>(n:Int)).length<64 then aa (D.lst ((kQ ((T.foldl (ql l aW c) []).map λn:Nat=>(n:Int))).map D.int)) else af)=_;rw[aef (by rw[X3];have:=v6 _ hI;omega),pB (T:=rM l aW c T) hI.1 (List.pairwise_lt_range.filter _) (λm=>?_),YD]
  ·rfl
  ·rw[dW];constructor
   ·intro h;refine⟨hI.2 m h,?_⟩;rcases oP.mp h with h | h
    ·cases h
    ·exact h
   ·exact λh=>oP.mpr (.inr h.2)
end
end K1
namespace K1
open PySem L2 L3 HT
theorem Eg:∀l:List Nat,mH (l.map sg)=θ (l.map λc=>(⟨#[c]⟩:Str))
 |[]=>rfl
 |c::r=>by
  show (mH (r.map sg)).map _=_;rw[Eg r];rfl
theorem CP:∀l:List Nat,d8 (l.map λc=>(⟨#[c]⟩:Str))=kr l
 |[]=>rfl
 |c::r=>by
  refine yC ?_;show ((⟨#[c]⟩:Str)++d8 (r.map λc=>(⟨#[c]⟩:Str))).cps.toList=_;rw[rl,CP r,dh,dh];rfl
theorem Je:∀l:List Nat,((l.map λc=>(⟨#[c]⟩:Str)).map (·.length)).sum=l.length
 |[]=>rfl
 |c::r=>by
  show 1+((r.map λc=>(⟨#[c]⟩:Str)).map (·.length)).sum=_;rw[Je r,Yh];omega
def Ko{l:List Nat}(h:l.length<=4096):joinM (.str "") [.lst (l.map sg)]=aa (.str (kr l)):=by
 show (match mH (l.map sg) with | some (xs:List Str)=>if ("":Str).length=0/\(xs.map λx:Str=>x.length).sum<=lim then aa (D.str (d8 xs)) else af | none=>af)=_;rw[Eg];show (if ("":Str).length=0/\((l.map λc=>(⟨#[c]⟩:Str)).map λx:Str=>x.length).sum<=lim then aa (D.str (d8 (l.map λc=>(⟨#[c]⟩:Str)))) else af)=_;rw[aef ⟨rfl,by have:=Je l;rw[ck];exact Yz (Nat.le_of_eq this) h⟩,CP]
def qV(c:Nat):G5 ⟨#[c]⟩=decide (c∈[97,98,99,100,101,102]):=adB "abcdef" c
def Nb(l:List Nat)(c:Nat)(neg:Bool):uF neg (sg c) (.str (kr l))=aa (.bl (if neg then !decide (c∈l) else decide (c∈l))):=by
 have:=adB (kr l) c;rw[dh] at this;show aa (D.bl (if neg then !(!(Ze (kr l) ⟨#[c]⟩ 0 (kr l).length 1).isEmpty) else !(Ze (kr l) ⟨#[c]⟩ 0 (kr l).length 1).isEmpty))=_;rw[this]
abbrev abc:List Nat:=[97,98,99,100,101,102]
def Li{W:Nat}{r:Str}(h:Row W r){c:Nat}(hc:c∈r.cps.toList):c∈[97,98,99,100,101,102]:=by
 have:=h.let' c hc;rw[qV] at this;exact aei this
def eT(bd:List Str):List Nat:=(bd.map (·.cps.toList)).flatten
def Kn{bd:List Str}{W:Nat}(hg:Brd bd W){i:Nat}{ρ:bQ}(h0:ρ[i]? =θ (fz (brd bd))):dM yP joinM (dC (.str "")) (aC (dV i) aN) ρ=aa (.str (kr (eT bd))):=by
 have h8:=hg.r8;have w8:=hg.w8;show (if yP (.str "") then((aC (dV i) aN) ρ>>=λds=>joinM (.str "") ds) else af)=_;rw[aef (show yP (.str "")=ψ from rfl),aO (jr h0) (xs:=[]) rfl,aw];show (match mH (bd.map D.str) with | some (xs:List Str)=>if ("":Str).length=0/\(xs.map λx:Str=>x.length).sum<=lim then aa (D.str (d8 xs)) else af | none=>af)=_;have e1:∀xs:List Str,mH (xs.map D.str)=θ xs:=by
  intro xs;induction xs with
  |nil=>rfl
  |cons x r ih=>show (mH (r.map D.str)).map _=_;rw[ih];rfl
 rw[e1];have e2:∀xs:List Str,(d8 xs).cps.toList=(xs.map (·.cps.toList)).flatten:=by
  intro xs;induction xs with
  |nil=>rfl
  |cons x r ih=>show (x++d8 r).cps.toList=_;rw[rl,ih];rfl
 have e3:∀xs:List Str,(∀x∈xs,x.length<=8)->(xs.map λx:Str=>x.length).sum<=xs.length*8:=by
  intro xs;induction xs with
  |nil=>exact λ_=>YH _
  |cons x r ih=>
   intro h;have:=ih λy hy=>h y (X4 _ hy);have:=h x (X5 ..);rw[X9,abd,Yh,ad3];omega
 have e4:=e3 bd λx hx=>by rw[(hg.rows x hx).len];exact w8
 show (if ("":Str).length=0/\(bd.map λx:Str=>x.length).sum<=lim then aa (D.str (d8 bd)) else af)=_;rw[aef ⟨rfl,by rw[ck];omega⟩];congr 2;refine yC ?_;rw[e2,dh];rfl
def sC{bd:List Str}{c:Nat}:c∈eT bd↔∃r∈bd,c∈r.cps.toList:=by
 unfold eT;rw[List.mem_flatten];constructor
 ·rintro⟨l,hl,h⟩;obtain⟨r,hr,rfl⟩:=Yo.mp hl;exact⟨r,hr,h⟩
 ·rintro⟨r,hr,h⟩;exact⟨_,Yo.mpr ⟨r,hr,rfl⟩,h⟩
def Ga{bd:List Str}{W:Nat}(hg:Brd bd W){c:Nat}(h:c∈eT bd):c∈abc:=by
 obtain⟨r,hr,h⟩:=sC.mp h;exact Li (hg.rows r hr) h
def Dw{bd:List Str}{W:Nat}(hg:Brd bd W){c:Cell}(hc:On bd.length W c):lt bd c∈eT bd:=by
 have h1:c.1<bd.length:=hc.1;have hr:(bd.getD c.1 ⟨#[]⟩).cps.toList.length=W:=(hg.rows _ (getD_mem h1)).len;have h2:c.2<(bd.getD c.1 ⟨#[]⟩).cps.toList.length:=by rw[hr];exact hc.2
 refine sC.mpr ⟨_,getD_mem h1,?_⟩;show ch (bd.getD c.1 ⟨#[]⟩) c.2∈_;generalize bd.getD c.1 ⟨#[]⟩=r at h2;unfold ch;rw[Yp,X7 h2];exact ZM h2
end K1
namespace K1
open PySem L2 L3
theorem Dm:∀T:List Nat,oF (T.map nI)=θ (T.map kN)
 |[]=>rfl
 |t::T=>by
  show (match me (nI t),oF (T.map nI) with | some k,θ ks=>θ (k::ks) | _,_=>ω)=_;rw[Dm T];rfl
def xi(T:List Nat):eJ (nT T)=θ (T.map kN):=Dm T
def kT(T:List Nat):List Key:=T.map kN
theorem BO:∀(a b:List Nat),kT a=kT b->a=b
 |[],[],_=>rfl
 |[],_::_,h=>by cases h
 |_::_,[],h=>by cases h
 |a::x,b::y,h=>by
  have h:kN a::kT x=kN b::kT y:=h;injection h with h1 h2
  rw[oE _ _ h1,BO x y h2]
def Kp:KOk nT (λks ds=> .dct (ks.map kT) ds):=
 ⟨λks ds T=>by
  show (eJ (nT T)).map (eh (ks.map kT) ds)=_;rw[xi];exact aeo θ (ik BO),λks ds x d h hl=>by
  show (match eJ (nT x) with | some kk=>if ds.length<lim then θ (C.dct (cC (ks.map kT) ds kk) (bZ (ks.map kT) ds kk d)) else ω | none=>ω)=_;rw[xi];show (if ds.length<lim then θ (C.dct (cC (ks.map kT) ds (kT x)) (bZ (ks.map kT) ds (kT x) d)) else ω)=_;rw[aef hl];unfold cC bZ;rw[ik BO,jL h];show θ (C.dct (ks.map kT++[kT x]) (ds++[d]))=θ (C.dct ((ks++[x]).map kT) (ds++[d]));rw[YC];rfl,λx=>by
  unfold lL;rw[xi];rfl⟩
def KOk.inn2{α:Type}[DecidableEq α]{enc:α->D}{mk:List α->List D->C}(k:KOk enc mk){ks:List α}{ds:List D}(hl:ks.length=ds.length)(x:α):∃bb:Bool,(bb=ψ↔x∈ks)/\eI ψ (enc x) (mk ks ds).d=aa (.bl (!bb)):=⟨decide (x∈ks),decide_eq_true_iff,k.inn (neg:=ψ) hl⟩
def kin{ks:List (List Nat)}{ds:List D}(hl:ks.length=ds.length)(T:List Nat):∃bb:Bool,(bb=ψ↔T∈ks)/\eI ψ (nT T) (.dct (ks.map kT) ds)=aa (.bl (!bb)):=Kp.inn2 hl T
def pw:Nat->List (List Nat)
 |0=>[[]]
 |n+1=>pw n++(pw n).map (· ++[n])
theorem Hm:∀n,(pw n).length=2 ^ n
 |0=>rfl
 |n+1=>by
  show (pw n++(pw n).map (· ++[n])).length=_;rw[Yg,X3,Hm n,abI];omega
theorem BV:∀{n:Nat}{T:List Nat},T.Pairwise (· < ·)->(∀m∈T,m<n)->T∈pw n
 |0,T,_,h=>by
  cases T with
  |nil=>exact Yi.mpr rfl
  |cons a T=>exact ael (h a X5) (Nat.not_lt_zero _)
 |n+1,T,hp,h=>by
  show T∈pw n++(pw n).map (· ++[n]);by_cases hn:n∈T
  ·obtain⟨l1,l2,rfl⟩:=List.append_of_mem hn;obtain⟨p1,p2,p3⟩:=aac.mp hp;have e:l2=[]:=by
    cases l2 with
    |nil=>rfl
    |cons a r=>
     have h1:=(YK.mp p2).1 a X5;have h2:=h a (by simp);omega
   subst e;exact YU _ (Yo.mpr ⟨l1,BV p1 λm hm=>p3 m hm n X5,rfl⟩)
  ·exact ZA _ (BV hp λm hm=>by
    have:=h m hm;have:m≠n:=λe=>hn (e▸hm);omega)
section
variable{l:NT}{aW:List Nat}
def lQ(l:NT)(aW:List Nat)(T:List Nat):List (List Nat):=abc.map λc=>rM l aW c T
def St(l:NT)(aW:List Nat)(s:List Nat):List Nat:=s.foldl (λT c=>rM l aW c T) [0]
def kZ(s:List Nat)(c:Nat):St l aW (s++[c])=rM l aW c (St l aW s):=by
 unfold St;rw[aed];rfl
def fY(s:List Nat):D:= .lst (s.map sg)
theorem zb:∀s:List Nat,rG (s.map sg)=ψ
 |[]=>rfl
 |x::l=>by
  show (vk (sg x)&&rG (l.map sg))=ψ;rw[zb l];rfl
def JN{δ:DE}{ρ:bQ}{s:List Nat}(h1:nv ρ=ψ)(h:δ (yN ρ)=aa (fY s)):Pa δ ρ=aa (fY s):=by
 unfold Pa;rw[aef h1,h];show (if vk (fY s) then aa (fY s) else af)=_;rw[aef (show vk (fY s)=ψ from zb s)]
def O2(aW:List Nat)(T:List Nat):Prop:=T.Pairwise (· < ·)/\∀m∈T,m<aW.length
def Ef(c:Nat)(T:List Nat):O2 aW (rM l aW c T):=⟨List.pairwise_lt_range.filter _,λm hm=>(dW.mp hm).1⟩
structure Sk (l:NT) (aW:List Nat) (s:Bk (List Nat)):Prop where
 len:s.ks.length=s.ps.length
 nd:s.ks.Nodup
 on:∀T∈s.ks,O2 aW T
 fu:s.fu.length<=s.ks.length
def Sk.le{s:Bk (List Nat)}(h:Sk l aW s)(h9:aW.length<=9):s.ks.length<=512:=by
 have:=bV (U:=pw 9) h.nd λT hT=>BV (h.on T hT).1 λm hm=>YL ((h.on T hT).2 m hm) h9;rw[Hm] at this;exact this
def Sk.step{s:Bk (List Nat)}(h:Sk l aW s){T x:List Nat}(hx:O2 aW x):Sk l aW (b5 T s x):=by
 unfold b5;split
 ·exact h
 ·rename_i hn;refine⟨by simp[h.len],?_,λy hy=>?_,by simp;exact h.fu⟩
  ·refine YN.mpr ⟨h.nd,by simp,λy hy z hz e=>?_⟩;have hz:z=x:=by simpa using hz
   rw[e,hz] at hy;exact hn hy
  ·rcases YA.mp hy with q | q
   ·exact h.on y q
   ·have:y=x:=by simpa using q
    rw[this];exact hx
def Vl(l:NT)(aW:List Nat)(ks vs:List (List Nat)):Prop:=ks.length=vs.length/\∀x s,(x,s)∈ks.zip vs->St l aW s=x/\Ds (lQ l aW) [0] x s.length/\∀c∈s,c∈abc
theorem yF{β:Type}{x:β}{d:D}:∀{ks:List β}{vs:List (List Nat)},(x,d)∈ks.zip (vs.map fY)->∃s,d=fY s/\(x,s)∈ks.zip vs
 |k::ks,v::vs,h=>by
  rw[X9,ZO] at h;rcases Ye.mp h with e | h
  ·cases e;exact⟨v,rfl,X5⟩
  ·obtain⟨n,h1,h2⟩:=yF h;exact⟨n,h1,X4 _ h2⟩
 |[],_,h=>by simp at h
 |_::_,[],h=>by simp at h
abbrev pR(b w fo nr:D)(aW:List Nat)(ks vs:List (List Nat))(x7 x8 x9 Ub Uc:Option Sl):bQ:=
 [fz b,fz w,fz fo,fz nr,fz (.lst (aW.map sg)),fz (nT (Yr aW.length)),θ (.ow (.dct (ks.map kT) (vs.map fY))),x7,x8,x9,Ub,Uc]
variable{Tp:Nat->Prop}{E:Nat->Nat->Prop}{b w fo:D}
def J3(hl:NrS Tp E l)(h9:aW.length<=9)(hb:∀n m,E n m->m<aW.length)(Ju:∀n,n<aW.length->Tp n){T:List Nat}{c:Nat}(hc:c∈abc){rg:D}{s:Bk (List Nat)}{k:Nat}(RF:k<=4000)(h:Sk l aW s)(hT:T∈s.ks)(hk:Ds (lQ l aW) [0] T k)(oC:∀y,Rb (lQ l aW) [0] k y->y∈s.ks){vs:List (List Nat)}(hv:Vl l aW s.ks vs):
 ∃ei,Vl l aW (b5 T s (rM l aW c T)).ks ei/\Sq (pR b w fo (gm (l.map bE)) aW s.ks vs (fz rg) (θ (.ow (.lst (s.fu.map nT)))) (fz (nT T)) (fz (sg c)) ω)=aa (.nx (pR b w fo (gm (l.map bE)) aW (b5 T s (rM l aW c T)).ks ei (fz rg) (θ (.ow (.lst ((b5 T s (rM l aW c T)).fu.map nT)))) (fz (nT T)) ω ω)):=by
 have hle:=h.le h9;have OL:=h.on T hT;have V6:=wV (c:=c) hl (by omega) hb (T:=T) λn hn=>⟨Ju n (OL.2 n hn),OL.2 n hn⟩
 have RG:s.ks.length=(vs.map fY).length:=by rw[X3];exact hv.1
 have Us:bN 11 (aq 4 gX (aC (dV 9) (aC (dV 3) (aC (dV 4) (aC (dV 10) aN))))) (pR b w fo (gm (l.map bE)) aW s.ks vs (fz rg) (θ (.ow (.lst (s.fu.map nT)))) (fz (nT T)) (fz (sg c)) ω)=aa (.nx (pR b w fo (gm (l.map bE)) aW s.ks vs (fz rg) (θ (.ow (.lst (s.fu.map nT)))) (fz (nT T)) (fz (sg c)) (fz (nT (rM l aW c T))))):=
  (aJ ((ao (ds:=[nT T,gm (l.map bE), .lst (aW.map sg),sg c]) rfl rfl).trans V6)).trans rfl
 obtain⟨bb,J7,Sg⟩:=kin RG (rM l aW c T);have ht:Ct (cT (d2 (eI ψ) (dV 11) (dV 6))) (pR b w fo (gm (l.map bE)) aW s.ks vs (fz rg) (θ (.ow (.lst (s.fu.map nT)))) (fz (nT T)) (fz (sg c)) (fz (nT (rM l aW c T))))=aa (!bb):=
  wz (fH ((aR (x:=nT (rM l aW c T)) (y:= .dct (s.ks.map kT) (vs.map fY)) rfl rfl).trans Sg))
 generalize hx:rM l aW c T=x at*;by_cases JB:x∈s.ks
 ·rw[J7.mpr JB] at ht;have e:b5 T s x=s:=aef JB;rw[e];exact⟨vs,hv,(aU (aj Us (dr ht rfl))).trans rfl⟩
 ·rw[aa5.mpr λz=>JB (J7.mp z)] at ht;have e:b5 T s x=⟨s.ks++[x],s.ps++[θ T],s.fu++[x]⟩:=aeh JB;rw[e];obtain⟨d,hd,hi⟩:=Kp.ix RG hT;obtain⟨q,rfl,hq⟩:=yF hd;obtain⟨q1,q2,q3⟩:=hv.2 T q hq;have U5:q.length=k:=abM (q2.2 k hk.1) (hk.2 _ q2.1);have SE:zu (fY q) (.lst [sg c])=aa (fY (q++[c])):=by
   show (if (q.map sg).length+1<=lim then aa (D.lst (q.map sg++[sg c])) else af)=_;rw[aef (by rw[X3,ck];omega)];unfold fY;rw[YC];rfl
  have hp:gD (.dct (s.ks.map kT) (vs.map fY)) (nT x) (fY (q++[c]))=θ (.dct ((s.ks++[x]).map kT) ((vs++[q++[c]]).map fY)):=by
   rw[Kp.put _ _ _ _ JB (by rw[X3,<-hv.1,ck];omega),YC (f:=fY)];rfl
  have Td:Sd [8] (Pa (d2 zu (d2 eZ (dV 6) (dV 9)) (dA dm (aC (dV 10) aN)))) (pR b w fo (gm (l.map bE)) aW s.ks vs (fz rg) (θ (.ow (.lst (s.fu.map nT)))) (fz (nT T)) (fz (sg c)) (fz (nT x)))=aa (fY (q++[c])):=
   JN (ρ:=pR b w fo (gm (l.map bE)) aW s.ks vs (fz rg) ω (fz (nT T)) (fz (sg c)) (fz (nT x))) rfl ((aR (x:=fY q) (y:= .lst [sg c]) ((aR (x:= .dct (s.ks.map kT) (vs.map fY)) (y:=nT T) rfl rfl).trans hi) rfl).trans SE)
  refine⟨vs++[q++[c]],⟨by simp[hv.1],λy m hy=>?_⟩,(aU (ρ':=pR b w fo (gm (l.map bE)) aW (s.ks++[x]) (vs++[q++[c]]) (fz rg) (θ (.ow (.lst ((s.fu++[x]).map nT)))) (fz (nT T)) (fz (sg c)) (fz (nT x))) (aj Us (fJ ht (aj (ρ':=pR b w fo (gm (l.map bE)) aW (s.ks++[x]) (vs++[q++[c]]) (fz rg) (θ (.ow (.lst (s.fu.map nT)))) (fz (nT T)) (fz (sg c)) (fz (nT x))) ((D7 (c:= .dct (s.ks.map kT) (vs.map fY)) (k:=nT x) (d:=fY (q++[c])) rfl Td rfl hp).trans rfl) ?_)))).trans rfl⟩
  ·rw[abu hv.1] at hy;rcases YA.mp hy with z | z
   ·exact hv.2 y m z
   ·cases Yi.mp z;refine⟨by rw[kZ,q1,hx],⟨?_,λj hj=>?_⟩,λc' BE=>?_⟩
    ·rw[Yg,U5];exact .inr ⟨T,hk.1,Yo.mpr ⟨c,hc,hx⟩⟩
    ·rw[Yg,U5];exact acG λz=>JB (oC _ (Rb.mono z hj))
    ·rcases YA.mp BE with z | z
     ·exact q3 c' z
     ·cases Yi.mp z;exact hc
  ·show (if (s.fu.map nT).length<lim then aa (Out.nx (pR b w fo (gm (l.map bE)) aW (s.ks++[x]) (vs++[q++[c]]) (fz rg) (θ (.ow (.lst (s.fu.map nT++[nT x])))) (fz (nT T)) (fz (sg c)) (fz (nT x)))) else af)=_;have:=h.fu;rw[aef (by rw[X3,ck];omega),show s.fu.map nT++[nT x]=(s.fu++[x]).map nT by simp]
def Hz(s:Bk (List Nat))(T:List Nat):abc.foldl (λs c=>b5 T s (rM l aW c T)) s=d5 (lQ l aW) s T:=by
 unfold d5 lQ;rw[List.foldl_map]
def J1(hl:NrS Tp E l)(h9:aW.length<=9)(hb:∀n m,E n m->m<aW.length)(Ju:∀n,n<aW.length->Tp n){T:List Nat}{rg:D}{s:Bk (List Nat)}{k:Nat}(RF:k<=4000)(h:Sk l aW s)(hT:T∈s.ks)(hk:Ds (lQ l aW) [0] T k)(oC:∀y,Rb (lQ l aW) [0] k y->y∈s.ks){vs:List (List Nat)}(hv:Vl l aW s.ks vs):
 Sk l aW (d5 (lQ l aW) s T)/\∃ei,Vl l aW (d5 (lQ l aW) s T).ks ei/\So (pR b w fo (gm (l.map bE)) aW s.ks vs (fz rg) (θ (.ow (.lst (s.fu.map nT)))) (fz (nT T)) ω ω)=aa (.nx (pR b w fo (gm (l.map bE)) aW (d5 (lQ l aW) s T).ks ei (fz rg) (θ (.ow (.lst ((d5 (lQ l aW) s T).fu.map nT)))) ω ω ω)):=by
 obtain⟨ρ',e,h1,h2,h4,ei,h3,rfl⟩:=rS (put:=putN 10) (body:=Sq) sg (λ(s:Bk (List Nat)) ρ=>Sk l aW s/\T∈s.ks/\(∀y,Rb (lQ l aW) [0] k y->y∈s.ks)/\∃vs:List (List Nat),Vl l aW s.ks vs/\ρ=pR b w fo (gm (l.map bE)) aW s.ks vs (fz rg) (θ (.ow (.lst (s.fu.map nT)))) (fz (nT T)) ω ω) (λs c=>b5 T s (rM l aW c T)) abc s _ ⟨h,hT,oC,vs,hv,rfl⟩ λs ρ ⟨h,hT,oC,vs,hv,e⟩ c hc=>by
  subst e;obtain⟨ei,h1,h2⟩:=J3 (b:=b) (w:=w) (fo:=fo) (rg:=rg) hl h9 hb Ju hc RF h hT hk oC hv;exact⟨_,_,rfl,h2,h.step (Ef c T),(k7 s).mpr (.inl hT),λy hy=>(k7 s).mpr (.inl (oC y hy)),ei,h1,rfl⟩
 rw[Hz] at h1 h3 e;exact⟨h1,ei,h3,(aU (dq (ds:=abc.map sg) rfl e)).trans rfl⟩
def C9{y T:List Nat}{s:Bk (List Nat)}(h:y∈s.ks):y∈(d5 (lQ l aW) s T).ks:=((foldStep (P:=λ_ _=>True) (lQ l aW T) s λ_ _=>trivial).2 y).mpr (.inl h)
def J2(hl:NrS Tp E l)(h9:aW.length<=9)(hb:∀n m,E n m->m<aW.length)(Ju:∀n,n<aW.length->Tp n){v1:List (List Nat)}{s:Bk (List Nat)}{k:Nat}(RF:k<=4000)(hr:∀T∈v1,T∈s.ks/\Ds (lQ l aW) [0] T k)(oC:∀y,Rb (lQ l aW) [0] k y->y∈s.ks)(h:Sk l aW s)(hf:s.fu=[]){vs:List (List Nat)}(hv:Vl l aW s.ks vs):
 Sk l aW (bz (lQ l aW) s v1)/\∃ei,Vl l aW (bz (lQ l aW) s v1).ks ei/\Sn (pR b w fo (gm (l.map bE)) aW s.ks vs (fz (.lst (v1.map nT))) ω ω ω ω)=aa (.nx (pR b w fo (gm (l.map bE)) aW (bz (lQ l aW) s v1).ks ei (fz (.lst ((bz (lQ l aW) s v1).fu.map nT))) ω ω ω ω)):=by
 obtain⟨ρ',e,h1,h2,h4,ei,h3,rfl⟩:=rS (put:=putN 9) (body:=So) nT (λ(s:Bk (List Nat)) ρ=>Sk l aW s/\(∀T∈v1,T∈s.ks/\Ds (lQ l aW) [0] T k)/\(∀y,Rb (lQ l aW) [0] k y->y∈s.ks)/\∃vs:List (List Nat),Vl l aW s.ks vs/\ρ=pR b w fo (gm (l.map bE)) aW s.ks vs (fz (.lst (v1.map nT))) (θ (.ow (.lst (s.fu.map nT)))) ω ω ω) (d5 (lQ l aW)) v1 s _ ⟨h,hr,oC,vs,hv,rfl⟩ λs ρ ⟨h,hr,oC,vs,hv,e⟩ T hT=>by
  subst e;obtain⟨g1,ei,g2,g3⟩:=J1 (b:=b) (w:=w) (fo:=fo) (rg:= .lst (v1.map nT)) hl h9 hb Ju RF h (hr T hT).1 (hr T hT).2 oC hv;exact⟨_,_,rfl,g3,g1,λc' BE=>⟨C9 (hr c' BE).1,(hr c' BE).2⟩,λy hy=>C9 (oC y hy),ei,g2,rfl⟩
 rw[hf] at e;refine⟨h1,ei,h3,(aU (ρ':=pR b w fo (gm (l.map bE)) aW (bz (lQ l aW) s v1).ks ei (fz (.lst ((bz (lQ l aW) s v1).fu.map nT))) (fz (.lst ((bz (lQ l aW) s v1).fu.map nT))) ω ω ω) ?_).trans rfl⟩;exact aj (ρ':=pR b w fo (gm (l.map bE)) aW s.ks vs (fz (.lst (v1.map nT))) (θ (.ow (.lst []))) ω ω ω) rfl (aj (ρ':=pR b w fo (gm (l.map bE)) aW (bz (lQ l aW) s v1).ks ei (fz (.lst (v1.map nT))) (θ (.ow (.lst ((bz (lQ l aW) s v1).fu.map nT)))) ω ω ω) (dq rfl e) rfl)
theorem zt(hl:NrS Tp E l)(h9:aW.length<=9)(hb:∀n m,E n m->m<aW.length)(Ju:∀n,n<aW.length->Tp n){d:Nat}(V5:d<=4000)(hd:Rb (lQ l aW) [0] d (Yr aW.length)):∀(fuel k:Nat) (ks:List (List Nat)) (ps:List (Option (List Nat))) (v1:List (List Nat)) (vs:List (List Nat)),d+1<=fuel+k->k<=d->Rng (lQ l aW) [0] k ks ps v1->(∀T∈ks,O2 aW T)->Vl l aW ks vs->
 ∃ks' ei x7,Yr aW.length∈ks'/\Vl l aW ks' ei/\fC (Ct (cT (d2 (eI ψ) (dV 5) (dV 6)))) Sn fuel (pR b w fo (gm (l.map bE)) aW ks vs (fz (.lst (v1.map nT))) ω ω ω ω)=aa (.nx (pR b w fo (gm (l.map bE)) aW ks' ei x7 ω ω ω ω))
 |fuel,k,ks,ps,v1,vs,hf,Jv,hR,fF,hv=>by
  have RG:ks.length=(vs.map fY).length:=(X3 (as:=vs) fY).symm▸hv.1;obtain⟨bb,J7,Sg⟩:=kin RG (Yr aW.length);have ht:Ct (cT (d2 (eI ψ) (dV 5) (dV 6))) (pR b w fo (gm (l.map bE)) aW ks vs (fz (.lst (v1.map nT))) ω ω ω ω)=aa (!bb):=
   wz (fH ((aR (x:=nT (Yr aW.length)) (y:= .dct (ks.map kT) (vs.map fY)) rfl rfl).trans Sg))
  match fuel,hf with
  |0,hf=>omega
  |fuel+1,hf=>
   by_cases hw:Yr aW.length∈ks
   ·rw[J7.mpr hw] at ht;exact⟨ks,vs,_,hw,hv,uh ht⟩
   ·rw[aa5.mpr λz=>hw (J7.mp z)] at ht;have SV:k<d:=acG λz=>hw ((hR.mem _).mpr (Rb.mono z hd));have WJ:v1≠[]:=λz=>by
     subst z;exact hw ((hR.last _).mpr ⟨d,hd⟩)
    have hN:=hR.next WJ;have M8:∀x∈v1,x∈ks/\Ds (lQ l aW) [0] x k:=λx hx=>⟨(hR.mem x).mpr ((hR.rg x).mp hx).1,(hR.rg x).mp hx⟩
    obtain⟨hs,Ua,Tc,e⟩:=J2 (b:=b) (w:=w) (fo:=fo) hl h9 hb Ju (by omega) (s:=⟨ks,ps,[]⟩) M8 (λy hy=>(hR.mem y).mpr hy) ⟨hR.len,hR.nd,fF,YH _⟩ rfl hv;obtain⟨ks',ei,x7,q1,q2,q3⟩:=zt hl h9 hb Ju V5 hd fuel (k+1) _ _ _ Ua (by omega) SV hN hs.on Tc;exact⟨ks',ei,x7,q1,q2,uk ht e q3⟩
theorem IL(l:NT)(aW:List Nat):∀(n:Nat) (t:List Nat),t.length=n->(∀c∈t,c∈abc)->Rb (lQ l aW) [0] n (St l aW t)
 |0,t,h,_=>by
  cases ZY.mp h;rfl
 |n+1,t,h,hc=>by
  rcases abA t with rfl | ⟨u,c,rfl⟩
  ·simp at h
  ·rw[abB] at*;rw[kZ];exact .inr ⟨_,IL l aW n u (by simpa using h) λz hz=>hc z (ZA _ hz),Yo.mpr ⟨c,hc c (by simp),rfl⟩⟩
end
end K1
namespace K1
open PySem L2 L3 HT
def JH{bd:List Str}{i j:Nat}(hi:i<bd.length)(hj:j<bd[i].cps.toList.length):at2 bd i j=bd[i].cps.toList[j]:=by
 unfold at2 ch;rw[Yp (l:=bd),X7 hi,aa7,Yp,X7 hj,aa7]
def GQ{α:Type}{l:List α}{i:Nat}{x:α}(h:l[i]? =θ x)(hi:i<l.length):l[i]=x:=by
 rw[X7 hi] at h;exact YS h
def E8(R W:Nat)(g:Nat->Nat->Nat):List Str:=(Yr R).map λi=>kr ((Yr W).map (g i))
def qY(R W:Nat)(g:Nat->Nat->Nat):(E8 R W g).length=R:=by simp[E8]
def Ks{R W:Nat}{g:Nat->Nat->Nat}:∀r∈E8 R W g,r.length=W:=λr hr=>by
 obtain⟨i,_,rfl⟩:=Yo.mp hr;rw[Du,X3,ZS]
def Ny{R W:Nat}{g:Nat->Nat->Nat}{i j:Nat}(hi:i<R)(hj:j<W):at2 (E8 R W g) i j=g i j:=by
 have h1:i<(E8 R W g).length:=by rw[qY];exact hi
 have e0:(E8 R W g)[i]? =θ (kr ((Yr W).map (g i))):=by
  unfold E8;rw[Yl,Z1 hi];rfl
 have e1:(E8 R W g)[i].cps.toList=(Yr W).map (g i):=by rw[GQ e0 h1,dh]
 have h2:j<(E8 R W g)[i].cps.toList.length:=by rw[e1,X3,ZS];exact hj
 rw[JH h1 h2];have:(E8 R W g)[i].cps.toList[j]? =θ (g i j):=by rw[e1,Yl,Z1 hj];rfl
 exact GQ this h2
def Hw{R W:Nat}{g:Nat->Nat->Nat}(r1:1<=R)(r5:R<=5)(w1:1<=W)(w5:W<=5)(h:∀i j,i<R->j<W->g i j∈abc):Good (E8 R W g) W:=by
 refine⟨by rw[qY];exact r1,by rw[qY];exact r5,w1,w5,λr hr=>⟨Ks r hr,λc hc=>?_⟩⟩;obtain⟨i,hi,rfl⟩:=Yo.mp hr;rw[dh] at hc;obtain⟨j,hj,rfl⟩:=Yo.mp hc;exact(qV _).trans (aeg (h i j (YJ.mp hi) (YJ.mp hj)))
def mK{bd:List Str}{W i j:Nat}(hg:Brd bd W)(hi:i<bd.length)(hj:j<W):at2 bd i j∈abc:=Ga hg (Dw (c:=(i,j)) hg ⟨hi,hj⟩)
def bC(bd:List Str)(W:Nat)(θ:List Cell)(c:Nat):List Str:=E8 bd.length W λi j=>if (i,j)∈θ then c else at2 bd i j
def jR{bd:List Str}{W:Nat}(hg:Brd bd W){so:D}{l ks:List Cell}{ds:List D}(hk:eD [so]=aa (.dct (ks.map keyOf) ds))(hl:ks.length=ds.length)(hm:∀x,x∈ks↔x∈l)(c:Nat):bh [brd bd,so,sg c]=aa (brd (bC bd W l c)):=by
 have h8:=hg.r8;have w8:=hg.w8;have row:∀{i:Nat},i<bd.length->∀{x4 x5:Option Sl},dM yP joinM (dC (.str "")) (aC (bw 0 (cE (dV 6)) c6 (Gv (cT (d2 (eI μ) (dV 0) (dV 4))) (dV 3) (aq 2 a7 (aC (dV 1) (aC (dV 0) aN))))) aN) [fz (brd bd),fz so,fz (sg c),fz (.dct (ks.map keyOf) ds),x4,x5,fz (.lst ((dB W i).map cD))]=aa (.str (kr ((Yr W).map λj=>if (i,j)∈l then c else at2 bd i j))):=by
  intro i hi x4 x5;have cm:bw 0 (cE (dV 6)) c6 (Gv (cT (d2 (eI μ) (dV 0) (dV 4))) (dV 3) (aq 2 a7 (aC (dV 1) (aC (dV 0) aN)))) [fz (brd bd),fz so,fz (sg c),fz (.dct (ks.map keyOf) ds),x4,x5,fz (.lst ((dB W i).map cD))]=aa (.lst (((Yr W).map λj=>if (i,j)∈l then c else at2 bd i j).map sg)):=by
   refine bP (ds:=(dB W i).map cD) rfl ?_ (by simp[ck];omega);unfold dB;rw[YD,YD];refine gR (cD∘λk=>(i,k)) _ _ λj hj=>?_;have hj:=YJ.mp hj;have hc:On bd.length W (i,j):=⟨hi,hj⟩
   rw[jW];have e1:cT (d2 (eI μ) (dV 0) (dV 4)) (fz (cD (i,j))::[fz (brd bd),fz so,fz (sg c),fz (.dct (ks.map keyOf) ds),x4,x5,fz (.lst ((dB W i).map cD))])=aa (decide ((i,j)∈ks)):=fH ((aR (x:=cD (i,j)) (y:= .dct (ks.map keyOf) ds) rfl rfl).trans (ju hl));have e2:Gv (cT (d2 (eI μ) (dV 0) (dV 4))) (dV 3) (aq 2 a7 (aC (dV 1) (aC (dV 0) aN))) (fz (cD (i,j))::[fz (brd bd),fz so,fz (sg c),fz (.dct (ks.map keyOf) ds),x4,x5,fz (.lst ((dB W i).map cD))])=aa (sg (if (i,j)∈l then c else at2 bd i j)):=by
    rw[LM e1];by_cases h:(i,j)∈l
    ·rw[aef h,aef (aeg ((hm _).mpr h))];rfl
    ·rw[aeh h,aeh (λz=>h ((hm _).mp (aei z)))];exact(ao (ds:=[brd bd,cD (i,j)]) rfl rfl).trans (eo hg hc)
   exact(aeo (· >>=λy=>aa (θ y)) e2).trans rfl
  show (if yP (.str "") then((aC _ aN) [fz (brd bd),fz so,fz (sg c),fz (.dct (ks.map keyOf) ds),x4,x5,fz (.lst ((dB W i).map cD))]>>=λds=>joinM (.str "") ds) else af)=_;rw[aef (show yP (.str "")=ψ from rfl),aO cm (xs:=[]) rfl,aw];exact Ko (by simp;omega)
 have lp:=iX (put:=putN 5) (body:=cM [5,6] (aA (bN 6 (aq 2 bK (aC (dV 0) (aC (dV 5) aN)))) (pj 4 (dM yP joinM (dC (.str "")) (aC (bw 0 (cE (dV 6)) c6 (Gv (cT (d2 (eI μ) (dV 0) (dV 4))) (dV 3) (aq 2 a7 (aC (dV 1) (aC (dV 0) aN))))) aN))))) (λ(k:Nat)=>D.int (k:Int)) (λv4=>[fz (brd bd),fz so,fz (sg c),fz (.dct (ks.map keyOf) ds),θ (.ow (.lst v4)),ω,ω]) (λi=>[.str (kr ((Yr W).map λj=>if (i,j)∈l then c else at2 bd i j))]) (B:=100) (Yr bd.length) [] (by
  have:∀l':List Nat,(l'.flatMap λi=>[D.str (kr ((Yr W).map λj=>if (i,j)∈l then c else at2 bd i j))]).length=l'.length:=by
   intro l';induction l' with
   |nil=>rfl
   |cons a l' ih=>rw[Zd,Yg,ih,Yh];simp;omega
  rw[Zg,this,ZS];omega) λi hi v4 ha=>by
  have hi:=YJ.mp hi;refine⟨[fz (brd bd),fz so,fz (sg c),fz (.dct (ks.map keyOf) ds),θ (.ow (.lst v4)),fz (.int (i:Int)),ω],rfl,?_⟩;refine(aU (ρ':=[fz (brd bd),fz so,fz (sg c),fz (.dct (ks.map keyOf) ds),θ (.ow (.lst (v4++[.str (kr ((Yr W).map λj=>if (i,j)∈l then c else at2 bd i j))]))),fz (.int (i:Int)),fz (.lst ((dB W i).map cD))]) (aj (ρ':=[fz (brd bd),fz so,fz (sg c),fz (.dct (ks.map keyOf) ds),θ (.ow (.lst v4)),fz (.int (i:Int)),fz (.lst ((dB W i).map cD))]) ((aJ ((ao (ds:=[brd bd, .int (i:Int)]) rfl rfl).trans (iT hg i))).trans rfl) ?_)).trans rfl;show (dM yP joinM _ _ _>>=λd=>if v4.length<lim then aa (Out.nx _) else af)=_;rw[row hi,aw,aef (by rw[ck];rw[Yg] at ha;simp at ha;omega)];rfl
 refine aT (aj (ρ':=[fz (brd bd),fz so,fz (sg c),fz (.dct (ks.map keyOf) ds),ω,ω,ω]) ((aJ ((ao (ds:=[so]) rfl rfl).trans hk)).trans rfl) (aj (ρ':=[fz (brd bd),fz so,fz (sg c),fz (.dct (ks.map keyOf) ds),θ (.ow (.lst [])),ω,ω]) rfl (aj (cF (dq (Lg (n:=bd.length) (Nu (i:=0) rfl) (by omega)) lp)) (aP ?_))));refine(cf (xs:=[.lst ((Yr bd.length).flatMap λi=>[.str (kr ((Yr W).map λj=>if (i,j)∈l then c else at2 bd i j))])]) rfl).trans ?_;show aa (D.tup _)=aa (D.tup ((bC bd W l c).map D.str));unfold bC E8;rw[YD];have:∀l':List Nat,(l'.flatMap λi=>[D.str (kr ((Yr W).map λj=>if (i,j)∈l then c else at2 bd i j))])=l'.map (D.str∘λi=>kr ((Yr W).map λj=>if (i,j)∈l then c else at2 bd i j)):=by
  intro l';induction l' with
  |nil=>rfl
  |cons a l' ih=>rw[Zd,ih];rfl
 rw[this]
def pE{bd:List Str}{W:Nat}(hg:Brd bd W){l:List Cell}(hl:l.length<4000)(c:Nat):bh [brd bd,cL l,sg c]=aa (brd (bC bd W l c)):=
 jR hg (lj hl) (by simp[trues]) (λx=>dX) c
def D5{bd:List Str}{W:Nat}{l:List Cell}{c i j:Nat}(hi:i<bd.length)(hj:j<W):at2 (bC bd W l c) i j=if (i,j)∈l then c else at2 bd i j:=Ny hi hj
def cY(bd:List Str)(W:Nat)(l:List Cell)(c:Nat):(bC bd W l c).length=bd.length:=qY ..
def eR{bd:List Str}{W:Nat}(hG:Good bd W){l:List Cell}{c:Nat}(hc:c∈abc):Good (bC bd W l c) W:=Hw hG.r1 hG.r5 hG.w1 hG.w5 λi j hi hj=>by
 split
 ·exact hc
 ·exact mK hG.brd hi hj
end K1
namespace K1
open PySem L2 L3
section
open Classical
variable{bd:List Str}{W w:Nat}
def bA(hw:Ways w){x y:Cell}(hx:On bd.length W x):y∈au bd W w x↔Cn bd W w x y:=(bp hw hx).mem y
def NA{p:Nat}(h:G5 ⟨#[p]⟩=ψ):f6 [sg p]=aa .non:=
 lA (dr (oz (b:=ψ) (jX ((ao (ds:=[sg p]) rfl rfl).trans ((iI (d:=sg p) trivial).trans (by show aa (D.bl (ψ&&G5 ⟨#[p]⟩))=_;rw[h];rfl))))) rfl)
def kg(hg:Brd bd W)(hw:Ways w){x:Cell}(hx:On bd.length W x){c:Nat}(hc:c∈abc):dS [brd bd,cD x,iW w,sg c]=aa .non:=
 lA (aj (a8 ((ao (ds:=[brd bd]) rfl rfl).trans hg.nb)) (aj (a8 ((ao (ds:=[brd bd,cD x]) rfl rfl).trans (hg.nc hx))) (aj (a8 ((ao (ds:=[iW w]) rfl rfl).trans hw.nw)) (a8 ((ao (ds:=[sg c]) rfl rfl).trans (NA ((qV c).trans (aeg hc))))))))
def BP{ks:List Cell}{ps:List (Option Cell)}(hl:ks.length<4000):eD [iS ks ps]=aa (oH ks):=by
 have e:∀(xs t:List Cell),t.length+xs.length<4000->forL (putN 2) (cM [2] (dO 1 (dV 2) (dC (.bl ψ)))) (xs.map cD) [fz (iS ks ps),θ (.ow (.dct (t.map keyOf) (trues t))),ω]=aa (.nx [fz (iS ks ps),θ (.ow (.dct ((xs.foldl bR t).map keyOf) (trues (xs.foldl bR t)))),ω]):=by
  intro xs;induction xs with
  |nil=>intro t _;rfl
  |cons x xs ih=>
   intro t hk;rw[Yh] at hk;have hle:(bR t x).length<=t.length+1:=by unfold bR;split<;>simp
   refine(cX (ρ1:=[fz (iS ks ps),θ (.ow (.dct (t.map keyOf) (trues t))),fz (cD x)]) (ρ2:=[fz (iS ks ps),θ (.ow (.dct ((bR t x).map keyOf) (trues (bR t x)))),ω]) rfl ?_).trans (ih (bR t x) (by omega));refine(aU (ρ':=[fz (iS ks ps),θ (.ow (.dct ((bR t x).map keyOf) (trues (bR t x)))),fz (cD x)]) ?_).trans rfl;show (match gD (.dct (t.map keyOf) (trues t)) (cD x) (.bl ψ) with | some c'=>aa (Out.nx [fz (iS ks ps),θ (.ow c'),fz (cD x)]) | none=>af)=_;rw[Aq (by rw[ck];omega)]
 refine aT (aj (ρ':=[fz (iS ks ps),θ (.ow (.dct [] [])),ω]) rfl (aj (ρ':=[fz (iS ks ps),θ (.ow (.dct ((bS ks).map keyOf) (trues (bS ks)))),ω]) (cF (dq (ds:=ks.map cD) ?_ (e ks [] (by simpa using hl)))) rfl));show g7 (iS ks ps)=_;exact E0
def Ej(hg:Brd bd W)(hw:Ways w){x:Cell}(hx:On bd.length W x){δ1 δ2 δ3 δ4:DE}{ρ:bQ}{c:Nat}(h1:δ1 ρ=aa (brd bd))(h2:δ2 ρ=aa (cD x))(h3:δ3 ρ=aa (iW w))(h4:δ4 ρ=aa (sg c)):
 aq 3 bh (aC δ1 (aC (aq 3 aK (aC δ1 (aC δ2 (aC δ3 aN)))) (aC δ4 aN))) ρ=aa (brd (bC bd W (au bd W w x) c)):=by
 have hm:bd.length*W<=64:=Z4 hg.r8 hg.w8;obtain⟨k,ks,ps,q1,q2,q3⟩:=ft hg hw hx;have SX:=iq q1.nd q2;refine(ao (ds:=[brd bd,iS ks ps,sg c]) (aO h1 (aO ((ao (ds:=[brd bd,cD x,iW w]) (aO h1 (aO h2 (aO h3 rfl))) rfl).trans q3) (aO h4 rfl))) rfl).trans ?_;exact jR hg (BP (by omega)) (by simp[trues]) (λy=>dX.trans ((q1.last y).trans (bA hw hx).symm)) c
def kA(hg:Brd bd W)(hw:Ways w){x:Cell}(hx:On bd.length W x){c:Nat}(hc:c∈abc):eN [brd bd,cD x,iW w,sg c]=aa (brd (bC bd W (au bd W w x) c)):=
 aT (aj (a8 ((ao (ds:=[brd bd,cD x,iW w,sg c]) rfl rfl).trans (kg hg hw hx hc))) (aP (Ej hg hw hx rfl rfl rfl rfl)))
noncomputable def bH(W w:Nat):List Str->List Nat->List Str
 |b,[]=>b
 |b,c::cs=>bH W w (bC b W (au b W w (0,0)) c) cs
def fO(hg:Brd bd W):On bd.length W (0,0):=⟨hg.r1,hg.w1⟩
def BQ{cs:List Nat}(h:∀c∈cs,c∈abc)(hl:cs.length<=4096):eX [.lst (cs.map sg)]=aa .non:=by
 refine lA (dr (Gw (p:=μ) (q:=μ) (oz (b:=ψ) (jX rfl)) (oz (b:=ψ) (jX ((Gb (enc:=sg) (xs:=cs) (g:=λ_=>ψ) (OQ rfl) (λc hc=>?_) hl).trans ?_)))) rfl)
 ·refine(ao (ds:=[sg c]) rfl rfl).trans ((iI (d:=sg c) trivial).trans ?_);show aa (D.bl (ψ&&G5 ⟨#[c]⟩))=_;rw[(qV c).trans (aeg (h c hc))];rfl
 ·rw[Yu.mpr λ_ _=>rfl]
def Ae(hG:Good bd W)(hw:Ways w){cs:List Nat}(h:∀c∈cs,c∈abc)(hl:cs.length<=4096):bF [brd bd,iW w, .lst (cs.map sg)]=aa (brd (bH W w bd cs)):=by
 have hg:=hG.brd;have lp:∀(l:List Nat) (b:List Str),Good b W->(∀c∈l,c∈abc)->forL (putN 4) (cM [4] (bN 3 (aq 3 bh (aC (dV 3) (aC (aq 3 aK (aC (dV 3) (aC (dA e7 (aC (dC (.int 0)) (aC (dC (.int 0)) aN))) (aC (dV 1) aN)))) (aC (dV 4) aN)))))) (l.map sg) [fz (brd bd),fz (iW w),fz (.lst (cs.map sg)),fz (brd b),ω]=aa (.nx [fz (brd bd),fz (iW w),fz (.lst (cs.map sg)),fz (brd (bH W w b l)),ω]):=by
  intro l;induction l with
  |nil=>intro b _ _;rfl
  |cons c l ih=>
   intro b hb hc;refine(cX (ρ1:=[fz (brd bd),fz (iW w),fz (.lst (cs.map sg)),fz (brd b),fz (sg c)]) (ρ2:=[fz (brd bd),fz (iW w),fz (.lst (cs.map sg)),fz (brd (bC b W (au b W w (0,0)) c)),ω]) rfl ((aU (aJ (Ej hb.brd hw (fO hb.brd) rfl rfl rfl rfl))).trans rfl)).trans (ih _ (eR hb (hc c (X5 ..))) λz hz=>hc z (X4 _ hz))
 refine aT (aj (a8 ((ao (ds:=[brd bd]) rfl rfl).trans hg.nb)) (aj (a8 ((ao (ds:=[iW w]) rfl rfl).trans hw.nw)) (aj (a8 ((ao (ds:=[.lst (cs.map sg)]) rfl rfl).trans (BQ h hl))) (aj (ρ':=[fz (brd bd),fz (iW w),fz (.lst (cs.map sg)),fz (brd bd),ω]) rfl (aj (cF (dq (OQ rfl) (lp cs bd hG h))) rfl)))))
end
def h7{A B:List Nat}(h1:A.Pairwise (· < ·))(h2:B.Pairwise (· < ·))(h:∀m,m∈A↔m∈B):A=B:=by
 have n1:A.Nodup:=h1.imp λil=>YF il;have e:=(pB n1 h1 λ_=>abi).symm.trans (pB n1 h2 h);exact(List.map_inj_right λa b h=>by omega).mp e
section
variable{bd:List Str}{W w:Nat}{f:Cell->Nat}{l:NT}
noncomputable def dQ(bd:List Str)(W w:Nat):List Nat:=(aF bd W w).map λP=>lt bd (P.headD (0,0))
def c_:(dQ bd W w).length=(aF bd W w).length:=by unfold dQ;rw[X3]
def t8(hw:Ways w)(hf:NumF bd W w f){x:Cell}(hx:On bd.length W x):(dQ bd W w).getD (f x) 0=lt bd x:=by
 obtain⟨P,h1,h2⟩:=hf x hx;obtain⟨m,e1,rfl⟩:=eQ h1;have hm:=j_ e1;obtain⟨r,hr⟩:=mm hw hm;unfold dQ;rw[Yp,Yl,h1,hr];show lt bd m=lt bd x;exact((((bp hw (bU hm)).mem x).mp h2).letter hw).symm
def sR(hw:Ways w)(hf:NumF bd W w f){n:Nat}(hn:n<(aF bd W w).length):∃x,On bd.length W x/\f x=n:=by
 obtain⟨m,e1,e2⟩:=eQ (X7 hn);have hm:=j_ e1;have ho:=bU hm;obtain⟨r,hr⟩:=mm hw hm;obtain⟨P,h1,h2⟩:=hf m ho;have h3:(aF bd W w)[n]? =θ (m::r):=by rw[X7 hn,e2,hr]
 exact⟨m,ho,xg hw h1 h3 h2 X5⟩
open Classical in
def DL(hg:Brd bd W)(hw:Ways w)(hf:NumF bd W w f):f (0,0)=0:=by
 have h0:=fO hg;have hl:Least bd W w (0,0) (0,0):=⟨Cn.refl,λz _=>by unfold rank;rw[Nat.zero_mul];exact YH _⟩
 obtain⟨P,h1,h2⟩:=hf _ h0;obtain⟨m,e1,rfl⟩:=eQ h1;have hm:=j_ e1;have SY:m=(0,0):=(j9 hw hm h2).one hw h0 hl;subst SY;have:(bT bd W w (aE bd.length W))[0]? =θ (0,0):=by
  have hc:∃r,aE bd.length W=(0,0)::r:=by
   obtain⟨R,hR⟩:∃R,bd.length=R+1:=⟨bd.length - 1,by have:=hg.r1;omega⟩
   obtain⟨V,hV⟩:∃V,W=V+1:=⟨W - 1,by have:=hg.w1;omega⟩
   rw[hR,hV];unfold aE dB;rw[Z5 (n:=R),Zd,Z5 (n:=V),X9];exact⟨_,rfl⟩
  obtain⟨r,hr⟩:=hc;rw[hr];unfold bT;rw[abe (by rw[aej];exact hl)];rfl
 exact zP e1 this
theorem tI(W w:Nat):∀(s:List Nat) (b:List Str) (c:Nat),bH W w b (s++[c])=bC (bH W w b s) W (au (bH W w b s) W w (0,0)) c
 |[],b,c=>rfl
 |x::s,b,c=>tI W w s _ c
theorem vZ(W w:Nat):∀(s t:List Nat) (b:List Str),bH W w b (s++t)=bH W w (bH W w b s) t
 |[],t,b=>rfl
 |x::s,t,b=>vZ W w s t _
def hX(hG:Good bd W):∀(s:List Nat),(∀c∈s,c∈abc)->Good (bH W w bd s) W/\(bH W w bd s).length=bd.length:=λs=>by
 revert hG bd;induction s with
 |nil=>exact λhG _=>⟨hG,rfl⟩
 |cons c s ih=>
  intro bd hG hc;obtain⟨h1,h2⟩:=ih (eR hG (hc c X5)) λz hz=>hc z (X4 _ hz);exact⟨h1,h2.trans (cY ..)⟩
def f_{P:List Cell}{c:Nat}{x:Cell}(hx:On bd.length W x):lt (bC bd W P c) x=if x∈P then c else lt bd x:=D5 hx.1 hx.2
abbrev Mr(bd:List Str)(W w:Nat)(f:Cell->Nat)(l:NT):Prop:=NrS (λn=>∃x,On bd.length W x/\f x=n) (Ad bd.length W w f) l
theorem jT(hg:Brd bd W)(hs:bd.length*W<64)(hw:Ways w)(s:List Nat):O2 (dQ bd W w) (St l (dQ bd W w) s)/\0∈St l (dQ bd W w) s:=by
 have h0:0<(dQ bd W w).length:=by
  rw[c_];obtain⟨P,hP,_⟩:=tu hg hw (fO hg);exact abn hP
 rcases abA s with rfl | ⟨u,c,rfl⟩
 ·exact⟨⟨aao ..,λm hm=>by cases Yi.mp hm;exact h0⟩,Yi.mpr rfl⟩
 ·rw[abB,kZ];exact⟨Ef c _,dW.mpr ⟨h0, .inl (jT hg hs hw u).2⟩⟩
termination_by s.length
decreasing_by all_goals simp_all
theorem F0(hG:Good bd W)(hs:bd.length*W<64)(hw:Ways w)(hf:NumF bd W w f)(hl:Mr bd W w f l):∀(n:Nat) (s:List Nat),s.length=n->(∀c∈s,c∈abc)->
 (∀x,On bd.length W x->(Cn (bH W w bd s) W w (0,0) x↔f x∈St l (dQ bd W w) s))/\∀x,On bd.length W x->f x∉St l (dQ bd W w) s->lt (bH W w bd s) x=lt bd x
 |0,s,hn,_=>by
  cases ZY.mp hn;have hg:=hG.brd;refine⟨λx hx=>?_,λx _ _=>rfl⟩;show Cn bd W w (0,0) x↔f x∈[0];rw[Yi,<-hf.cn hw (fO hg) hx,DL hg hw hf];exact eq_comm
 |n+1,s,hn,hc=>by
  rcases abA s with rfl | ⟨u,c,rfl⟩
  ·simp at hn
  rw[abB] at*;have hg:=hG.brd;have PL:∀z∈u,z∈abc:=λz hz=>hc z (ZA _ hz);obtain⟨Kf,Ql⟩:=F0 hG hs hw hf hl n u (by simpa using hn) PL;obtain⟨gb,lb⟩:=hX (w:=w) hG u PL;obtain⟨⟨_,uX⟩,uY⟩:=jT (l:=l) hg hs hw u;have UA:=(hX (w:=w) hG (u++[c]) hc)
  rw[tI] at UA⊢;rw[kZ];have EJ:=fO hg;have De:∀x,On bd.length W x->(x∈au (bH W w bd u) W w (0,0)↔f x∈St l (dQ bd W w) u):=λx hx=>(bA hw (by rw[lb];exact EJ)).trans (Kf x hx);have L1:∀x,On bd.length W x->f x∈St l (dQ bd W w) u->lt (bC (bH W w bd u) W (au (bH W w bd u) W w (0,0)) c) x=c:=λx hx h=>by
   rw[f_ (by rw[lb];exact hx),aef ((De x hx).mpr h)]
  have L2:∀x,On bd.length W x->f x∉St l (dQ bd W w) u->lt (bC (bH W w bd u) W (au (bH W w bd u) W w (0,0)) c) x=lt bd x:=λx hx h=>by
   rw[f_ (by rw[lb];exact hx),aeh λz=>h ((De x hx).mp z),Ql x hx h]
  generalize OM:bC (bH W w bd u) W (au (bH W w bd u) W w (0,0)) c=b' at*;have Xl:b'.length=bd.length:=UA.2;generalize hT:St l (dQ bd W w) u=T at*;have Vr:∀{x},On b'.length W x↔On bd.length W x:=λ{x}=>by rw[Xl]
  have fx:∀x,On bd.length W x->f x<(dQ bd W w).length:=λx hx=>by rw[c_];exact hf.lt hx
  have Hn:∀{x y},On bd.length W x->lR w y x=ψ->lt b' x=lt b' y->x∈bc b' W w y:=λhx h1 h2=>(bf hw).mpr ⟨Vr.mpr hx,h1,h2⟩;have keep:∀(j:Nat) (x:Cell),Rb (bc (bH W w bd u) W w) (0,0) j x->Cn b' W w (0,0) x:=by
   intro j;induction j with
   |zero=>exact λx r=>by cases (show x=_ from r);exact Cn.refl
   |succ j ih=>
    intro x r;rcases r with r | ⟨y,r,q⟩
    ·exact ih x r
    ·have hy:=(v7 hw (by rw[lb];exact EJ) r)
     rw[lb] at hy;obtain⟨q1,q2,q3⟩:=(bf hw).mp q;rw[lb] at q1;refine(ih y r).step (Hn q1 q2 ?_);rw[L1 y hy ((Kf y hy).mp ⟨j,r⟩),L1 x q1 ((Kf x q1).mp ⟨j+1, .inr ⟨y,r,q⟩⟩)]
  refine⟨λx hx=>⟨λ⟨j,r⟩=>?_,λh=>?_⟩,λx hx h=>L2 x hx λz=>h (dW.mpr ⟨fx x hx, .inl z⟩)⟩
  ·have:∀(j:Nat) (x:Cell),Rb (bc b' W w) (0,0) j x->On bd.length W x/\f x∈rM l (dQ bd W w) c T/\lt b' x=c:=by
    intro j;induction j with
    |zero=>
     intro x r;cases (show x=_ from r);have z:f (0,0)∈T:=by rw[DL hg hw hf];exact uY
     exact⟨EJ,dW.mpr ⟨fx _ EJ, .inl z⟩,L1 _ EJ z⟩
    |succ j ih=>
     intro x r;rcases r with r | ⟨y,r,q⟩
     ·exact ih x r
     ·obtain⟨hy,y1,y2⟩:=ih y r;obtain⟨q1,q2,q3⟩:=(bf hw).mp q;have q1:=Vr.mp q1;refine⟨q1,?_,q3.trans y2⟩;by_cases M9:f x∈T
      ·exact dW.mpr ⟨fx x q1, .inl M9⟩
      ·have lx:lt bd x=c:=(L2 x q1 M9).symm.trans (q3.trans y2);by_cases Th:f y∈T
       ·have fE:f y≠f x:=λz=>M9 (z▸Th);exact dW.mpr ⟨fx x q1, .inr ⟨f y,Th,(hl.mem ⟨y,hy,rfl⟩).mpr ⟨fE,y,x,⟨hy,q1,q2⟩,rfl,rfl⟩,(t8 hw hf q1).trans lx⟩⟩
       ·have ly:lt bd y=c:=(L2 y hy Th).symm.trans y2;have:f y=f x:=(hf.cn hw hy q1).mpr (Cn.refl.step ((bf hw).mpr ⟨q1,q2,lx.trans ly.symm⟩));rw[<-this];exact y1
   exact(this j x r).2.1
  ·obtain⟨_,h⟩:=dW.mp h;by_cases M9:f x∈T
   ·obtain⟨j,r⟩:=(Kf x hx).mpr M9;exact keep j x r
   ·obtain⟨n',MZ,h1,h2⟩:=h.resolve_left M9;obtain⟨y0,Xa,Tg⟩:∃y,On bd.length W y/\f y=n':=sR hw hf (by rw[<-c_];exact uX n' MZ);obtain⟨fE,y,z,⟨hy,hz,Xb⟩,e1,e2⟩:=(hl.mem ⟨y0,Xa,Tg⟩).mp h1;obtain⟨j,r⟩:=(Kf y hy).mpr (by rw[e1];exact MZ);have Tj:f z∉T:=by rw[e2];exact M9
    have lz:lt b' z=c:=by rw[L2 z hz Tj,<-t8 hw hf hz,e2];exact h2
    have cz:Cn b' W w (0,0) z:=(keep j y r).step (Hn hz Xb (by rw[lz,L1 y hy (by rw[e1];exact MZ)]));obtain⟨i,ri⟩:=(hf.cn hw hz hx).mp e2;have:∀(i:Nat) (x:Cell),Rb (bc bd W w) z i x->Cn b' W w z x:=by
     intro i;induction i with
     |zero=>exact λx r=>by cases (show x=_ from r);exact Cn.refl
     |succ i ih=>
      intro x r;rcases r with r | ⟨v,r,q⟩
      ·exact ih x r
      ·have hv:=v7 hw hz r;obtain⟨q1,q2,q3⟩:=(bf hw).mp q;have fv:f v∉T:=by rw[<-(hf.cn hw hz hv).mpr ⟨i,r⟩];exact Tj
       have VO:f x∉T:=by rw[<-(hf.cn hw hz q1).mpr ⟨i+1, .inr ⟨v,r,q⟩⟩];exact Tj
       exact(ih v r).step (Hn q1 q2 (by rw[L2 x q1 VO,L2 v hv fv];exact q3))
    exact cz.trans (this i x ri)
def Un(b:List Str)(W:Nat):Prop:=∀x y,On b.length W x->On b.length W y->lt b x=lt b y
theorem oB(hw:Ways w)(hu:Un bd W){a:Cell}(ha:On bd.length W a):∀{j:Nat}{x:Cell},Rr (Nx bd.length W w) a j x->Cn bd W w a x
 |0,x,r=>by cases (show x=_ from r);exact Cn.refl
 |j+1,x, .inl r=>oB hw hu ha r
 |j+1,x, .inr ⟨y,r,e⟩=>(oB hw hu ha r).step ((bf hw).mpr ⟨e.2.1,e.2.2,hu _ _ e.2.1 e.1⟩)
def Eh(hG:Good bd W)(hs:bd.length*W<64)(hw:Ways w)(hf:NumF bd W w f)(hl:Mr bd W w f l){s:List Nat}(hc:∀c∈s,c∈abc):Un (bH W w bd s) W↔St l (dQ bd W w) s=Yr (dQ bd W w).length:=by
 obtain⟨h1,h2⟩:=F0 hG hs hw hf hl _ s rfl hc;obtain⟨gb,lb⟩:=hX (w:=w) hG s hc;obtain⟨⟨Ow,uX⟩,uY⟩:=jT (l:=l) hG.brd hs hw s;have EJ:=fO hG.brd;constructor
 ·intro hu;refine h7 Ow abm λm=>⟨λhm=>YJ.mpr (uX m hm),λhm=>?_⟩
  obtain⟨x,hx,rfl⟩:=sR hw hf (by rw[<-c_];exact YJ.mp hm);exact(h1 x hx).mp (oB hw hu (by rw[lb];exact EJ) (LR hw (by rw[lb];exact EJ) (by rw[lb];exact hx)).1)
 ·intro e x y hx hy;rw[lb] at hx hy;have q:∀x,On bd.length W x->lt (bH W w bd s) x=lt (bH W w bd s) (0,0):=λx hx=>((h1 x hx).mpr (by rw[e,YJ,c_];exact hf.lt hx)).letter hw;rw[q x hx,q y hy]
theorem Gq{R:Nat}{p:Cell->Prop}{a:Cell}(ha:p a):∀{j:Nat}{x:Cell},Rr (Nx R W w) a j x->¬p x->∃y z,Nx R W w y z/\p y/\¬p z
 |0,x,r,h=>ael (by cases (show x=_ from r);exact ha) h
 |j+1,x, .inl r,h=>Gq ha r h
 |j+1,x, .inr ⟨y,r,e⟩,h=>by
  by_cases q:p y
  ·exact⟨y,x,e,q,h⟩
  ·exact Gq ha r q
def CI(hG:Good bd W)(hs:bd.length*W<64)(hw:Ways w)(hf:NumF bd W w f)(hl:Mr bd W w f l)(s:List Nat)(fE:St l (dQ bd W w) s≠Yr (dQ bd W w).length):∃c∈abc,(St l (dQ bd W w) s).length+1<=(St l (dQ bd W w) (s++[c])).length:=by
 obtain⟨⟨Ow,uX⟩,uY⟩:=jT (l:=l) hG.brd hs hw s;have EJ:=fO hG.brd;obtain⟨n,hn,Wx⟩:∃n,n<(dQ bd W w).length/\n∉St l (dQ bd W w) s:=by
  apply Zc;intro xc;exact fE (h7 Ow abm λm=>⟨λhm=>YJ.mpr (uX m hm),λhm=>Zc λz=>xc ⟨m,YJ.mp hm,z⟩⟩)
 obtain⟨x,hx,rfl⟩:=sR hw hf (by rw[<-c_];exact hn);obtain⟨y,z,e,hy,hz⟩:=Gq (p:=λv=>f v∈St l (dQ bd W w) s) (by rw[DL hG.brd hw hf];exact uY) (LR hw EJ hx).1 Wx;have Xe:f z<(dQ bd W w).length:=by rw[c_];exact hf.lt e.2.1
 refine⟨lt bd z,mK hG.brd e.2.1.1 e.2.1.2,?_⟩;rw[kZ];have nd:(f z::St l (dQ bd W w) s).Nodup:=YZ.mpr ⟨hz,Ow.imp λh=>YF h⟩;refine bV (U:=rM l (dQ bd W w) (lt bd z) (St l (dQ bd W w) s)) nd λm hm=>?_;rcases Ye.mp hm with rfl | hm
 ·exact dW.mpr ⟨Xe, .inr ⟨f y,hy,(hl.mem ⟨y,e.1,rfl⟩).mpr ⟨λq=>hz (q▸hy),y,z,e,rfl,rfl⟩,t8 hw hf e.2.1⟩⟩
 ·exact dW.mpr ⟨uX m hm, .inl hm⟩
theorem CH(hG:Good bd W)(hs:bd.length*W<64)(hw:Ways w)(hf:NumF bd W w f)(hl:Mr bd W w f l):∀(n:Nat) (s:List Nat),(∀c∈s,c∈abc)->(dQ bd W w).length<=(St l (dQ bd W w) s).length+n->∃t,(∀c∈t,c∈abc)/\St l (dQ bd W w) t=Yr (dQ bd W w).length/\t.length<=s.length+n
 |0,s,hc,h=>by
  obtain⟨⟨Ow,uX⟩,uY⟩:=jT (l:=l) hG.brd hs hw s;refine⟨s,hc,Zc λfE=>?_,X_ _⟩;obtain⟨c,hc,h2⟩:=CI hG hs hw hf hl s fE;obtain⟨⟨t0,t1⟩,_⟩:=jT (l:=l) hG.brd hs hw (s++[c]);have:=bV (U:=Yr (dQ bd W w).length) (t0.imp λh=>YF h) λm hm=>YJ.mpr (t1 m hm);rw[ZS] at this;omega
 |n+1,s,hc,h=>by
  by_cases fE:St l (dQ bd W w) s=Yr (dQ bd W w).length
  ·exact⟨s,hc,fE,by omega⟩
  ·obtain⟨c,PJ,h2⟩:=CI hG hs hw hf hl s fE;obtain⟨t,t1,t2,t3⟩:=CH hG hs hw hf hl n (s++[c]) (λz hz=>(YA.mp hz).elim (hc z) λq=>by cases Yi.mp q;exact PJ) (by omega);exact⟨t,t1,t2,by rw[Yg] at t3;simp at t3;omega⟩
end
end K1
namespace K1
open PySem L2 L3 HT
theorem oy(x:Str)(c:Nat):∀(n a:Nat) (st:Array Nat×Nat),a+n<=x.length+1->st.snd<=a->st.fst.size<=a->
 (forIn (YO a n) st (adY x ⟨#[c]⟩ x.length (x.length+1))).run.fst.size=st.fst.size+((YO a n).filter λi=>decide (x.cps.toList[i]? =θ c)).length
 |0,a,st,_,_,_=>rfl
 |n+1,a,st,h1,h2,h3=>by
  rw[Z2,aby,ZN];have key:=StrLaws.subAt_one x c a;unfold adY;by_cases hc:x.cps.toList[a]? =θ c
  ·have k:=key.mpr hc;rw[aef ⟨⟨⟨by omega,h2⟩,k.1⟩,k.2⟩,aef (aeg hc)];have ih:=oy x c n (a+1) (st.fst.push a,a+(⟨#[c]⟩:Str).length) (by omega) (X_ _) (by simp;omega);refine Eq.trans ih ?_;simp;omega
  ·rw[aeh (λz=>hc (key.mp ⟨z.1.2,z.2⟩)),aeh (by simpa using hc)];exact oy x c n (a+1) (st.fst,st.snd) (by omega) (by show st.snd<=a+1;omega) (by show st.fst.size<=a+1;omega)
theorem wU(c:Nat):∀l:List Nat,((Yr (l.length+1)).filter λi=>decide (l[i]? =θ c)).length=l.count c
 |[]=>by simp[List.range_succ]
 |a::l=>by
  rw[Yh,Z5,ZN,acK];have e:((λi=>decide ((a::l)[i]? =θ c))∘Nat.succ)=λi=>decide (l[i]? =θ c):=by
   funext i;simp
  rw[e];by_cases h:a=c
  ·subst h;simp only[YQ,decide_true,if_true,Yh,X3,wU a l,List.count_cons_self]
  ·have h':¬(a==c)=ψ:=by simpa using h
   simp only[YQ,Option.some.injEq,h,decide_false,Y0,if_false,X3,wU c l];rw[List.count_cons_of_ne h]
def JL(x:Str)(c:Nat):(Ze x ⟨#[c]⟩ 0 x.length (x.length+1)).length=x.cps.toList.count c:=by
 have k:=oy x c (x.length+1 - 0) 0 (#[],0) (by omega) (X_ _) (X_ _);rw[StrLaws.occ_eq,Yd,k,<-wU c x.cps.toList];show 0+_=_;rw[aaT,Yd,aaI];rfl
def zJ(s:List Nat):List Nat:=abc.filter λc=>decide (c∈s)
def OR(s:List Nat)(c:Nat):D:= .tup [sg c, .int (s.count c:Int)]
theorem mL{α:Type}{f:D->M (Option D)}(enc:α->D)(p:α->Bool)(g:α->D):∀(xs:List α),(∀x∈xs,f (enc x)=aa (if p x then θ (g x) else ω))->ej f (xs.map enc)=aa ((xs.filter p).map g)
 |[],_=>rfl
 |x::xs,h=>by
  rw[X9,fN,h x (X5 ..),aw,mL enc p g xs λy hy=>h y (X4 _ hy),ZN];cases p x<;>rfl
def zL{bd:List Str}{W:Nat}(hg:Brd bd W):cb [brd bd]=aa (.lst ((zJ (eT bd)).map (OR (eT bd)))):=by
 refine aT (aj (ρ':=[fz (brd bd),ω]) (a8 ((ao (ds:=[brd bd]) rfl rfl).trans hg.nb)) (aj (ρ':=[fz (brd bd),fz (.str (kr (eT bd)))]) ((aJ (Kn hg (i:=0) rfl)).trans rfl) (aP ?_)));refine bP (ds:=abc.map sg) rfl (mL sg (λc=>decide (c∈eT bd)) (OR (eT bd)) abc λc _=>?_) ?_
 ·rw[l_];have e1:cT (d2 (uF μ) (dV 0) (dV 2)) [fz (sg c),fz (brd bd),fz (.str (kr (eT bd)))]=aa (decide (c∈eT bd)):=fH ((aR (x:=sg c) (y:= .str (kr (eT bd))) rfl rfl).trans (Nb _ _ μ));have e2:dA e7 (aC (dV 0) (aC (dM yP y7 (dV 2) (aC (dV 0) aN)) aN)) [fz (sg c),fz (brd bd),fz (.str (kr (eT bd)))]=aa (OR (eT bd) c):=by
   have e3:dM yP y7 (dV 2) (aC (dV 0) aN) [fz (sg c),fz (brd bd),fz (.str (kr (eT bd)))]=aa (.int ((eT bd).count c:Int)):=by
    show aa (D.int ((Gp (kr (eT bd)) ⟨#[c]⟩:Nat):Int))=_;unfold Gp;rw[JL,dh]
   exact(cf (aO (x:=sg c) rfl (aO (xs:=[]) e3 rfl))).trans rfl
  rw[e1,e2];cases decide (c∈eT bd)<;>rfl
 ·rw[X3,ck];exact Yz (Zh ..) (by decide)
section
variable{bd:List Str}{W w:Nat}
def Lm(hg:Brd bd W)(hw:Ways w){ρ:bQ}(h0:ρ[0]? =θ (fz (brd bd)))(h2:ρ[2]? =θ (fz (.lst ((aF bd W w).map cL))))(hl:(aF bd W w).length<=64):
 bw 0 (cE (dV 2)) c6 (aq 2 a7 (aC (dV 1) (aC (d2 j3 (dV 0) (dC (.int 0))) aN))) ρ=aa (.lst ((dQ bd W w).map sg)):=by
 have e:(dQ bd W w).map sg=(aF bd W w).map λP=>sg (lt bd (P.headD (0,0))):=by unfold dQ;rw[YD];rfl
 rw[e];refine bP (ds:=(aF bd W w).map cL) (OQ h2) (gR cL (λP=>sg (lt bd (P.headD (0,0)))) _ λP hP=>?_) (by rw[X3,ck];omega);obtain⟨i,hi,rfl⟩:=ZZ hP;obtain⟨m,e1,e2⟩:=eQ (X7 hi);have hm:=j_ e1;obtain⟨r,hr⟩:=mm hw hm;rw[e2,hr,jW];have q:aq 2 a7 (aC (dV 1) (aC (d2 j3 (dV 0) (dC (.int 0))) aN)) (fz (cL (m::r))::ρ)=aa (sg (lt bd m)):=
  (ao (ds:=[brd bd,cD m]) (aO (jr (by rw[Za];exact h0)) (aO ((aR (x:=cL (m::r)) (y:= .int 0) rfl rfl).trans (GU rfl)) rfl)) rfl).trans (eo hg (bU hm))
 rw[q];rfl
def By(hG:Good bd W)(h3:bd.length<=3)(w3:W<=3)(hw:Ways w):∃s,(∀c∈s,c∈abc)/\Un (bH W w bd s) W/\(∀t,(∀c∈t,c∈abc)->Un (bH W w bd t) W->s.length<=t.length)/\s.length+1<=(aF bd W w).length/\di [brd bd,iW w]=aa (.lst (s.map sg)):=by
 have hg:=hG.brd;have h9:bd.length*W<=9:=Z4 h3 w3;have hs:bd.length*W<64:=by omega
 have uI:=su (bd:=bd) (W:=W) (w:=w);obtain⟨_,f,hf,_,_⟩:=ki hg hs hw;obtain⟨l,hl,en⟩:=i7 (v:=w) hg hs hw hw hf;have WL:(dQ bd W w).length<=9:=by rw[c_];omega
 have hP:1<=(dQ bd W w).length:=Z8 (YH _) ((jT (l:=l) hg hs hw []).1.2 0 (jT (l:=l) hg hs hw []).2);obtain⟨t0,t1,t2,t3⟩:=CH hG hs hw hf hl ((dQ bd W w).length - 1) [] (λ_ h=>(nomatch h)) (by show _<=1+_;omega);have G3:=IL l (dQ bd W w) _ t0 rfl t1;rw[t2] at G3;have hb:∀n m,Ad bd.length W w f n m->m<(dQ bd W w).length:=λn m ⟨_,x,y,h,_,e⟩=>by rw[c_,<-e];exact hf.lt h.2.1
 have Ju:∀n,n<(dQ bd W w).length->∃x,On bd.length W x/\f x=n:=λn hn=>sR hw hf (by rw[<-c_];exact hn);have X2:t0.length<=(dQ bd W w).length - 1:=by simpa using t3
 obtain⟨ks,vs,x7,k1,k2,k3⟩:=zt (b:=brd bd) (w:=iW w) (fo:= .lst ((aF bd W w).map cL)) hl WL hb Ju (d:=t0.length) (by omega) G3 lim 0 [[0]] [ω] [[0]] [[]] (by rw[ck];omega) (YH _) (Rng.zero _ _) (λT hT=>by cases Yi.mp hT;exact(jT (l:=l) hg hs hw []).1) ⟨rfl,λx s h=>by
  have h:x=[0]/\s=[]:=by simpa using h
  rw[h.1,h.2];exact⟨rfl,⟨rfl,λj _=>YH _⟩,λc hc=>(nomatch hc)⟩⟩
 obtain⟨d,d1,VF⟩:=Kp.ix (ds:=vs.map fY) (by rw[X3];exact k2.1) k1;obtain⟨s,rfl,WK⟩:=yF d1;obtain⟨q1,q2,q3⟩:=k2.2 _ _ WK;have GZ:∀t,(∀c∈t,c∈abc)->Un (bH W w bd t) W->s.length<=t.length:=λt ht hu=>by
  have:=IL l (dQ bd W w) _ t rfl ht;rw[(Eh hG hs hw hf hl ht).mp hu] at this;exact q2.2 _ this
 refine⟨s,q3,(Eh hG hs hw hf hl q3).mpr q1,GZ,?_,?_⟩
 ·have:=GZ t0 t1 ((Eh hG hs hw hf hl t1).mpr t2);rw[<-c_ (bd:=bd) (W:=W) (w:=w)];omega
 ·have Sh:dA bG (aC (dV 2) aN) [fz (brd bd),fz (iW w),fz (.lst ((aF bd W w).map cL)),fz (gm (l.map bE)),fz (.lst ((dQ bd W w).map sg)),ω,ω,ω,ω,ω,ω,ω]=aa (.int ((dQ bd W w).length:Int)):=by
   refine(cf (xs:=[.lst ((aF bd W w).map cL)]) rfl).trans ?_;show aa (D.int (((aF bd W w).map cL).length:Int))=_;rw[X3,c_]
  have Sm:wB (.int ((dQ bd W w).length:Int))=aa (nT (Yr (dQ bd W w).length)):=by
   show (if 0<=((dQ bd W w).length:Int)/\((dQ bd W w).length:Int)<=4096 then aa (D.tup ((Yr ((dQ bd W w).length:Int).toNat).map λ(i:Nat)=>D.int (i:Int))) else af)=_;rw[aef ⟨by omega,by omega⟩,aa8];rfl
  refine aT (aj (a8 ((ao (ds:=[brd bd]) rfl rfl).trans hg.nb)) (aj (a8 ((ao (ds:=[iW w]) rfl rfl).trans hw.nw)) (aj (ρ':=[fz (brd bd),fz (iW w),fz (.lst ((aF bd W w).map cL)),ω,ω,ω,ω,ω,ω,ω,ω,ω]) ((aJ ((ao (ds:=[brd bd,iW w]) rfl rfl).trans ((eB hg hs hw).trans (by rw[mn])))).trans rfl)
   (aj (ρ':=[fz (brd bd),fz (iW w),fz (.lst ((aF bd W w).map cL)),fz (gm (l.map bE)),ω,ω,ω,ω,ω,ω,ω,ω]) ((aJ ((ao (ds:=[brd bd,iW w, .lst ((aF bd W w).map cL)]) rfl rfl).trans en)).trans rfl)
   (aj (ρ':=[fz (brd bd),fz (iW w),fz (.lst ((aF bd W w).map cL)),fz (gm (l.map bE)),fz (.lst ((dQ bd W w).map sg)),ω,ω,ω,ω,ω,ω,ω]) ((aJ (Lm hg hw rfl rfl (by omega))).trans rfl)
   (aj (ρ':=[fz (brd bd),fz (iW w),fz (.lst ((aF bd W w).map cL)),fz (gm (l.map bE)),fz (.lst ((dQ bd W w).map sg)),fz (nT (Yr (dQ bd W w).length)),ω,ω,ω,ω,ω,ω]) ((aJ (show (dA bG (aC (dV 2) aN) _>>=wB)=aa (nT (Yr (dQ bd W w).length)) from ?_)).trans rfl)
   (aj (ρ':=pR (brd bd) (iW w) (.lst ((aF bd W w).map cL)) (gm (l.map bE)) (dQ bd W w) [[0]] [[]] ω ω ω ω ω) rfl
   (aj (ρ':=pR (brd bd) (iW w) (.lst ((aF bd W w).map cL)) (gm (l.map bE)) (dQ bd W w) [[0]] [[]] (fz (.lst [nT [0]])) ω ω ω ω) rfl
   (aj (cF k3) (aP ((aR (x:= .dct (ks.map kT) (vs.map fY)) (y:=nT (Yr (dQ bd W w).length)) rfl rfl).trans VF)))))))))))
  rw[Sh];exact Sm
noncomputable def nL(b:List Str):Nat:=(zJ (eT b)).length
def zK(hg:Brd bd W):cb [brd bd]=aa (.lst ((zJ (eT bd)).map (OR (eT bd)))):=zL hg
def JF(hg:Brd bd W){c:Nat}(h:c∈eT bd):∃x,On bd.length W x/\lt bd x=c:=by
 obtain⟨r,hr,hc⟩:=sC.mp h;obtain⟨i,hi,rfl⟩:=ZZ hr;obtain⟨j,hj,rfl⟩:=ZZ hc;have hl:(bd[i]).cps.toList.length=W:=by rw[Yd];exact(hg.rows _ (ZM hi)).len
 refine⟨(i,j),⟨hi,by omega⟩,?_⟩;show (bd.getD i ⟨#[]⟩).cps.toList.getD j 0=_;rw[Yp (l:=bd),X7 hi,aa7,Yp,X7 hj];rfl
def kc(hg:Brd bd W){c:Nat}:c∈zJ (eT bd)↔∃x,On bd.length W x/\lt bd x=c:=by
 unfold zJ;rw[YE,aej];exact⟨λh=>JF hg h.2,λ⟨x,hx,e⟩=>⟨e▸mK hg hx.1 hx.2,e▸Dw hg hx⟩⟩
def Kx(s:List Nat):(zJ s).Nodup:=List.Pairwise.filter _ (show abc.Nodup by decide)
def Hy(hg:Brd bd W):nL bd=1↔Un bd W:=by
 constructor
 ·intro h x y hx hy;obtain⟨c,hc⟩:=List.length_eq_one_iff.mp h;have h1:=(kc hg).mpr ⟨x,hx,rfl⟩;have h2:=(kc hg).mpr ⟨y,hy,rfl⟩;rw[hc] at h1 h2;rw[Yi.mp h1,Yi.mp h2]
 ·intro hu;have h0:=fO hg;have a1:=bV (U:=[lt bd (0,0)]) (Kx (eT bd)) λc hc=>by
   obtain⟨x,hx,rfl⟩:=(kc hg).mp hc;exact Yi.mpr (hu _ _ hx h0)
  have a2:=abn ((kc hg).mpr ⟨_,h0,rfl⟩);have a1:nL bd<=1:=a1;have a2:0<nL bd:=a2;omega
def BS{b b':List Str}(hb:Brd b W)(OM:Brd b' W)(hl:b.length=b'.length)(h:∀x,On b.length W x->lt b x=lt b' x):b=b':=by
 refine abg hl λi h1 h2=>yC ?_;have r1:(b[i]).cps.toList.length=W:=by rw[Yd];exact(hb.rows _ (ZM h1)).len
 have r2:(b'[i]).cps.toList.length=W:=by rw[Yd];exact(OM.rows _ (ZM h2)).len
 refine abg (r1.trans r2.symm) λj g1 g2=>?_;have:=h (i,j) ⟨h1,by omega⟩;have e:∀(c:List Str) (hi:i<c.length) (hj:j<(c[i]).cps.toList.length),lt c (i,j)=(c[i]).cps.toList[j]:=λc hi hj=>by
  show (c.getD i ⟨#[]⟩).cps.toList.getD j 0=_;rw[Yp (l:=c),X7 hi,aa7,Yp,X7 hj];rfl
 rw[<-e b h1 g1,<-e b' h2 g2];exact this
def Cd(hG:Good bd W)(hw:Ways w){c:Nat}(hc:c∈abc)(h:lt bd (0,0)=c):bC bd W (au bd W w (0,0)) c=bd:=by
 refine BS (eR hG hc).brd hG.brd (cY ..) λx hx=>?_;rw[cY] at hx;rw[f_ hx];split
 ·rename_i hp;rw[((bA hw (fO hG.brd)).mp hp).letter hw,h]
 ·rfl
end
end K1
namespace K1
open PySem L2 L3
def gr(R M:Nat):Nat:=R |||((((R<<<1) &&&438) |||((R>>>1) &&&219) |||(R<<<3) |||(R>>>3)) &&&M)
def grw(R M:Nat):Nat:=gr (gr (gr (gr R M) M) M) M
def OH:Nat->Nat->Nat->Nat->Nat->Bool
 |0,R,_,_,_=>Nat.beq R 511
 |f+1,R,A,B,C=>Nat.beq R 511||(OH f (grw R A) B C A||OH f (grw R B) A C B)
def OF:Nat->Nat->Nat->Nat->Bool
 |0,A,B,C=>OH 5 (grw 1 (2*A+1)) (2*B+0) (2*C+0) (2*A+1)
 |n+1,A,B,C=>OF n (2*A+0) (2*B+0) (2*C+1)&&(OF n (2*A+0) (2*B+1) (2*C+0)&&OF n (2*A+1) (2*B+0) (2*C+0))
def JK:OF 8 0 0 0=ψ:=by decide+kernel
def uJ(p:Nat->Bool):Nat->Nat->Nat
 |_,0=>0
 |n,k+1=>2*uJ p (n+1) k+(p n).toNat
theorem DD(p:Nat->Bool):∀(k n i:Nat),(uJ p n k).testBit i=(decide (i<k)&&p (n+i))
 |0,n,i=>by simp[uJ]
 |k+1,n,0=>by
  rw[uJ,Nat.testBit_zero,Nat.add_zero];cases p n<;>simp
 |k+1,n,i+1=>by
  have e:(2*uJ p (n+1) k+(p n).toNat) / 2=uJ p (n+1) k:=by cases p n<;>simp<;>omega
  rw[uJ,Nat.testBit_succ,e,DD p k (n+1) i,show n+1+i=n+(i+1) by omega];congr 1;rw[aem];omega
theorem y6(κ:Nat->Nat)(hκ:∀n,κ n<3)(h0:κ 0=0):∀n,n<=8->OF n (uJ (λm=>decide (κ m=0)) (n+1) (8 - n)) (uJ (λm=>decide (κ m=1)) (n+1) (8 - n)) (uJ (λm=>decide (κ m=2)) (n+1) (8 - n))=ψ->
 OH 5 (grw 1 (uJ (λm=>decide (κ m=0)) 0 9)) (uJ (λm=>decide (κ m=1)) 0 9) (uJ (λm=>decide (κ m=2)) 0 9) (uJ (λm=>decide (κ m=0)) 0 9)=ψ
 |0,_,h=>by
  have e:∀i,uJ (λm=>decide (κ m=i)) 0 9=2*uJ (λm=>decide (κ m=i)) 1 8+(decide (κ 0=i)).toNat:=λi=>rfl;rw[e 0,e 1,e 2,h0];exact h
 |n+1,hn,h=>by
  have e:∀i,uJ (λm=>decide (κ m=i)) (n+1) (8 - n)=2*uJ (λm=>decide (κ m=i)) (n+1+1) (8 - (n+1))+(decide (κ (n+1)=i)).toNat:=λi=>by
   rw[show 8 - n=8 - (n+1)+1 by omega];rfl
  refine y6 κ hκ h0 n (by omega) ?_;rw[e 0,e 1,e 2];unfold OF at h;rw[Yq,Yq] at h;have h3:=hκ (n+1)
  match q:κ (n+1),h3 with
  |0,_=>exact h.2.2
  |1,_=>exact h.2.1
  |2,_=>exact h.1
section
open Classical
variable{bd:List Str}{W w:Nat}{f:Cell->Nat}{l:NT}
def hZ(R W m:Nat):Cell:=(min (m / 3) (R - 1),min (m % 3) (W - 1))
def xW(hg:Brd bd W)(m:Nat):On bd.length W (hZ bd.length W m):=⟨by have:=hg.r1;show min _ _<_;omega,by have:=hg.w1;show min _ _<_;omega⟩
def N6{x:Cell}(h3:bd.length<=3)(w3:W<=3)(hx:On bd.length W x):hZ bd.length W (3*x.1+x.2)=x:=by
 have h1:=hx.1;have h2:=hx.2;refine aba ?_ ?_
 ·show min ((3*x.1+x.2) / 3) (bd.length - 1)=x.1;omega
 ·show min ((3*x.1+x.2) % 3) (W - 1)=x.2;omega
def Kz(hw:Ways w){a b:Cell}(h1:a.1=b.1)(h2:a.2=b.2+1\/b.2=a.2+1):lR w a b=ψ:=by
 unfold lR cB;rcases hw with rfl | rfl
 ·rw[aef rfl];exact aeg (by omega)
 ·rw[aeh (by decide)];exact aeg (by omega)
def Ky(hw:Ways w){a b:Cell}(h1:a.2=b.2)(h2:a.1=b.1+1\/b.1=a.1+1):lR w a b=ψ:=by
 unfold lR cB;rcases hw with rfl | rfl
 ·rw[aef rfl];exact aeg (by omega)
 ·rw[aeh (by decide)];exact aeg (by omega)
def R3(R W w k m:Nat):Prop:=hZ R W k=hZ R W m\/lR w (hZ R W k) (hZ R W m)=ψ
def HM(hw:Ways w){R k m:Nat}(h1:k / 3=m / 3)(h2:k % 3=m % 3+1\/m % 3=k % 3+1):R3 R W w k m:=by
 by_cases e:hZ R W k=hZ R W m
 ·exact .inl e
 ·refine .inr (Kz hw (by show min _ _=min _ _;rw[h1]) ?_);show min (k % 3) (W - 1)=min (m % 3) (W - 1)+1\/min (m % 3) (W - 1)=min (k % 3) (W - 1)+1;have:¬min (k % 3) (W - 1)=min (m % 3) (W - 1):=λz=>e (aba (by show min _ _=min _ _;rw[h1]) z);omega
def HI(hw:Ways w){R k m:Nat}(h1:k % 3=m % 3)(h2:k / 3=m / 3+1\/m / 3=k / 3+1):R3 R W w k m:=by
 by_cases e:hZ R W k=hZ R W m
 ·exact .inl e
 ·refine .inr (Ky hw (by show min _ _=min _ _;rw[h1]) ?_);show min (k / 3) (R - 1)=min (m / 3) (R - 1)+1\/min (m / 3) (R - 1)=min (k / 3) (R - 1)+1;have:¬min (k / 3) (R - 1)=min (m / 3) (R - 1):=λz=>e (aba z (by show min _ _=min _ _;rw[h1]));omega
def MP(hw:Ways w){R M m:Nat}(hR:∀k,R.testBit k=ψ->k<9)(hm:m<9)(h:(gr R M).testBit m=ψ):R.testBit m=ψ\/(M.testBit m=ψ/\∃k,R.testBit k=ψ/\R3 bd.length W w k m):=by
 unfold gr at h;rw[aa3,aab] at h;rcases h with h | h
 ·exact .inl h
 rw[abH,Yq] at h;refine .inr ⟨h.2,?_⟩;have h:=h.1;rw[aa3,aa3,aa3,abH,abH,adF,adx,adF,adx,aab,aab,aab] at h;have t1:∀m,m<9->ad2 438 m=ψ->1<=m % 3:=by decide
 have t2:∀m,m<9->ad2 219 m=ψ->m % 3<=1:=by decide
 rcases h with((h | h) | h) | h
 ·rw[Yq,Yq] at h;have:=t1 m hm h.2;exact⟨m - 1,h.1.2,HM hw (by omega) (by omega)⟩
 ·rw[Yq] at h;have:=t2 m hm h.2;exact⟨1+m,h.1,HM hw (by omega) (by omega)⟩
 ·rw[Yq] at h;have:m>=3:=aei h.1;exact⟨m - 3,h.2,HI hw (by omega) (by omega)⟩
 ·exact⟨3+m,h,HI hw (by omega) (by omega)⟩
def In3(bd:List Str)(W w:Nat)(f:Cell->Nat)(l:NT)(T:List Nat)(c R:Nat):Prop:=∀m,R.testBit m=ψ->m<9/\(f (hZ bd.length W m)∈T\/(f (hZ bd.length W m)∈rM l (dQ bd W w) c T/\lt bd (hZ bd.length W m)=c))
theorem In3.gr(hg:Brd bd W)(hw:Ways w)(hf:NumF bd W w f)(hl:Mr bd W w f l){T:List Nat}{c R M:Nat}(hM:∀m,M.testBit m=ψ->m<9/\lt bd (hZ bd.length W m)=c)(h:In3 bd W w f l T c R):In3 bd W w f l T c (gr R M):=λm hm=>by
 have h9:m<9:=by
  apply Zc;intro z;unfold K1.gr at hm;rw[aa3,aab,abH,Yq] at hm;rcases hm with q | q
  ·exact z (h m q).1
  ·exact z (hM m q.2).1
 refine⟨h9,?_⟩;rcases MP (bd:=bd) (W:=W) hw (λk q=>(h k q).1) h9 hm with q | ⟨q,k,hk,hn⟩
 ·exact(h m q).2
 have hc:=(hM m q).2;have om:=xW hg m;have ok:=xW hg k;have il:f (hZ bd.length W m)<(dQ bd W w).length:=by rw[c_];exact hf.lt om
 have same:lt bd (hZ bd.length W m)=lt bd (hZ bd.length W k)->f (hZ bd.length W k)=f (hZ bd.length W m):=λe=>by
  rcases hn with hn | hn
  ·rw[hn]
  ·exact(hf.cn hw ok om).mpr (Cn.refl.step ((bf hw).mpr ⟨om,hn,e⟩))
 rcases(h k hk).2 with hT | ⟨hT,V2⟩
 ·by_cases e:f (hZ bd.length W k)=f (hZ bd.length W m)
  ·exact .inl (e▸hT)
  ·refine .inr ⟨dW.mpr ⟨il, .inr ⟨_,hT,(hl.mem ⟨_,ok,rfl⟩).mpr ⟨e,_,_,⟨ok,om,?_⟩,rfl,rfl⟩,(t8 hw hf om).trans hc⟩⟩,hc⟩;rcases hn with hn | hn
   ·exact ael (by rw[hn]) e
   ·exact hn
 ·exact .inr ⟨(same (hc.trans V2.symm))▸hT,hc⟩
theorem In3.grw(hg:Brd bd W)(hw:Ways w)(hf:NumF bd W w f)(hl:Mr bd W w f l){T:List Nat}{c R M:Nat}(hT:∀n∈T,n<(dQ bd W w).length)(hM:∀m,M.testBit m=ψ->m<9/\lt bd (hZ bd.length W m)=c)(h:∀m,R.testBit m=ψ->m<9/\f (hZ bd.length W m)∈T):∀m,(grw R M).testBit m=ψ->m<9/\f (hZ bd.length W m)∈rM l (dQ bd W w) c T:=λm hm=>by
 have h0:In3 bd W w f l T c R:=λm hm=>⟨(h m hm).1, .inl (h m hm).2⟩
 have h4:=((((h0.gr hg hw hf hl hM).gr hg hw hf hl hM).gr hg hw hf hl hM).gr hg hw hf hl hM) m hm;refine⟨h4.1,h4.2.elim (λq=>dW.mpr ⟨hT _ q, .inl q⟩) λq=>q.1⟩
theorem rH(hG:Good bd W)(hs:bd.length*W<64)(hw:Ways w)(hf:NumF bd W w f)(hl:Mr bd W w f l):∀(n R A B C a b c:Nat) (s:List Nat),OH n R A B C=ψ->
 (∀m,A.testBit m=ψ->m<9/\lt bd (hZ bd.length W m)=a)->(∀m,B.testBit m=ψ->m<9/\lt bd (hZ bd.length W m)=b)->(∀m,C.testBit m=ψ->m<9/\lt bd (hZ bd.length W m)=c)->
 (∀m,R.testBit m=ψ->m<9/\f (hZ bd.length W m)∈St l (dQ bd W w) s)->∃t,(∀x∈t,x=a\/x=b\/x=c)/\t.length<=n/\∀m,m<9->f (hZ bd.length W m)∈St l (dQ bd W w) (s++t)
 |n,R,A,B,C,a,b,c,s,hd,hA,hB,hC,hR=>by
  have done:Nat.beq R 511=ψ->∃t:List Nat,(∀x∈t,x=a\/x=b\/x=c)/\t.length<=n/\∀m,m<9->f (hZ bd.length W m)∈St l (dQ bd W w) (s++t):=λe=>by
   refine⟨[],λ_ h=>(nomatch h),YH _,λm hm=>?_⟩;rw[Zk];refine(hR m ?_).2;rw[Nat.eq_of_beq_eq_true e];exact(show∀m,m<9->ad2 511 m=ψ by decide) m hm
  match n with
  |0=>exact done hd
  |n+1=>
   unfold OH at hd;rw[aab,aab] at hd;have hT:=(jT (l:=l) hG.brd hs hw s).1.2;have step:∀x M,(x=a\/x=b\/x=c)->(∀m,M.testBit m=ψ->m<9/\lt bd (hZ bd.length W m)=x)->(∀m,(grw R M).testBit m=ψ->m<9/\f (hZ bd.length W m)∈St l (dQ bd W w) (s++[x])):=λx M _ hM m hm=>by
    rw[kZ];exact In3.grw hG.brd hw hf hl hT hM hR m hm
   rcases hd with hd | hd | hd
   ·exact done hd
   ·obtain⟨t,t1,t2,t3⟩:=rH hG hs hw hf hl n _ _ _ _ b c a (s++[a]) hd hB hC hA (step a A (.inl rfl) hA);refine⟨a::t,λx hx=>?_,by rw[Yh];omega,λm hm=>?_⟩
    ·rcases Ye.mp hx with rfl | hx
     ·exact .inl rfl
     ·rcases t1 x hx with q | q | q<;>simp[q]
    ·have:=t3 m hm;rw[ZC] at this;exact this
   ·obtain⟨t,t1,t2,t3⟩:=rH hG hs hw hf hl n _ _ _ _ a c b (s++[b]) hd hA hC hB (step b B (.inr (.inl rfl)) hB);refine⟨b::t,λx hx=>?_,by rw[Yh];omega,λm hm=>?_⟩
    ·rcases Ye.mp hx with rfl | hx
     ·exact .inr (.inl rfl)
     ·rcases t1 x hx with q | q | q<;>simp[q]
    ·have:=t3 m hm;rw[ZC] at this;exact this
def Sr(hG:Good bd W)(h3:bd.length<=3)(w3:W<=3)(hw:Ways w){a b c:Nat}(ha:a∈abc)(hb:b∈abc)(hc:c∈abc)(h0:lt bd (0,0)=a)(Wq:∀x,On bd.length W x->lt bd x=a\/lt bd x=b\/lt bd x=c):∃t,(∀x∈t,x∈abc)/\t.length<=5/\Un (bH W w bd t) W:=by
 have hg:=hG.brd;have h9:bd.length*W<=9:=Z4 h3 w3;have hs:bd.length*W<64:=by omega
 obtain⟨_,f,hf,_,_⟩:=ki hg hs hw;obtain⟨l,hl,en⟩:=i7 (v:=w) hg hs hw hw hf
 let κ:Nat->Nat:=λm=>if lt bd (hZ bd.length W m)=a then 0 else if lt bd (hZ bd.length W m)=b then 1 else 2
 have κ3:∀m,κ m<3:=λm=>by
  show (if _ then 0 else if _ then 1 else 2)<3;split
  ·omega
  ·split<;>omega
 have p0:hZ bd.length W 0=(0,0):=aba (Nat.zero_min _) (Nat.zero_min _);have κ0:κ 0=0:=aef (by rw[p0];exact h0);have e0:∀m,κ m=0->lt bd (hZ bd.length W m)=a:=λm h=>by
  apply Zc;intro z;have h:(if lt bd (hZ bd.length W m)=a then 0 else if lt bd (hZ bd.length W m)=b then 1 else 2)=0:=h;rw[aeh z] at h;split at h<;>cases h
 have e1:∀m,κ m=1->lt bd (hZ bd.length W m)=b:=λm h=>by
  apply Zc;intro z;have h:(if lt bd (hZ bd.length W m)=a then 0 else if lt bd (hZ bd.length W m)=b then 1 else 2)=1:=h;rw[aeh z] at h;split at h<;>cases h
 have e2:∀m,κ m=2->lt bd (hZ bd.length W m)=c:=λm h=>by
  have h:(if lt bd (hZ bd.length W m)=a then 0 else if lt bd (hZ bd.length W m)=b then 1 else 2)=2:=h;rcases Wq _ (xW hg m) with q | q | q
  ·rw[aef q] at h;cases h
  ·by_cases q2:lt bd (hZ bd.length W m)=a
   ·rw[aef q2] at h;cases h
   ·rw[aeh q2,aef q] at h;cases h
  ·exact q
 have bit:∀i m,(uJ (λm=>decide (κ m=i)) 0 9).testBit m=ψ->m<9/\κ m=i:=λi m h=>by
  rw[DD,Yq,aaT] at h;exact⟨aei h.1,aei h.2⟩
 have hd:=y6 κ κ3 κ0 8 (X_ _) JK;have hA:∀m,(uJ (λm=>decide (κ m=0)) 0 9).testBit m=ψ->m<9/\lt bd (hZ bd.length W m)=a:=λm h=>⟨(bit 0 m h).1,e0 m (bit 0 m h).2⟩
 have f0:=DL hg hw hf;have hR:∀m,(grw 1 (uJ (λm=>decide (κ m=0)) 0 9)).testBit m=ψ->m<9/\f (hZ bd.length W m)∈St l (dQ bd W w) []:=λm hm=>by
  have g:=In3.grw hg hw hf hl (T:=[0]) (c:=a) (R:=1) (λn hn=>by rw[Yi.mp hn,c_,<-f0];exact hf.lt (fO hg)) hA (λm hm=>by
   have:m=0:=by
    apply Zc;intro z;obtain⟨k,rfl⟩:∃k,m=k+1:=⟨m - 1,by omega⟩
    rw[Nat.testBit_succ] at hm;simp at hm
   subst this;exact⟨by omega,by rw[p0,f0];exact Yi.mpr rfl⟩) m hm
  refine⟨g.1,?_⟩;obtain⟨_,q⟩:=dW.mp g.2;rcases q with q | ⟨n,hn,GY,J8⟩
  ·exact q
  ·exfalso
   cases Yi.mp hn;obtain⟨fE,x,y,JC,zk,GF⟩:=(hl.mem ⟨_,fO hg,f0⟩).mp GY;have om:=xW hg m;have ly:lt bd y=a:=by rw[<-t8 hw hf JC.2.1,GF];exact J8
   have lx:lt bd x=a:=by rw[<-h0];exact((hf.cn hw (fO hg) JC.1).mp (f0.trans zk.symm)).letter hw
   exact fE (zk.symm.trans (((hf.cn hw JC.1 JC.2.1).mpr (Cn.refl.step ((bf hw).mpr ⟨JC.2.1,JC.2.2,ly.trans lx.symm⟩))).trans GF))
 obtain⟨t,t1,t2,t3⟩:=rH hG hs hw hf hl 5 _ _ _ _ b c a [] hd (λm h=>⟨(bit 1 m h).1,e1 m (bit 1 m h).2⟩) (λm h=>⟨(bit 2 m h).1,e2 m (bit 2 m h).2⟩) hA hR;have tc:∀x∈t,x∈abc:=λx hx=>by
  rcases t1 x hx with q | q | q<;>rw[q]<;>assumption
 refine⟨t,tc,t2,(Eh hG hs hw hf hl tc).mpr ?_⟩;obtain⟨⟨Ow,uX⟩,_⟩:=jT (l:=l) hg hs hw t;refine h7 Ow abm λm=>⟨λhm=>YJ.mpr (uX m hm),λhm=>?_⟩
 obtain⟨x,hx,rfl⟩:=sR hw hf (by rw[<-c_];exact YJ.mp hm);have:=t3 (3*x.1+x.2) (by have:=hx.1;have:=hx.2;omega);rw[N6 h3 w3 hx] at this;exact this
end
section
open Classical
variable{bd b:List Str}{W w:Nat}{al:List Nat}
noncomputable def Nw(al:List Nat)(W w:Nat)(bd:List Str):Nat->List (List Str)
 |0=>[bd]
 |t+1=>(Nw al W w bd t).flatMap λb=>(al.filter λx=>!decide (x=lt b (0,0))).map λx=>bH W w b [x]
structure A3 (al:List Nat):Prop where
 len:al.length=3
 abc:∀x∈al,x∈K1.abc
structure B3 (al:List Nat) (R W:Nat) (b:List Str):Prop where
 good:Good b W
 len:b.length=R
 let':∀x,On R W x->lt b x∈al
def B3.paint{R:Nat}(ha:A3 al)(h:B3 al R W b){c:Nat}(hc:c∈al):B3 al R W (bH W w b [c]):=by
 obtain⟨g,l⟩:=hX (w:=w) h.good [c] λx hx=>by rw[Yi.mp hx];exact ha.abc c hc
 refine⟨g,l.trans h.len,λx hx=>?_⟩;have L5:On b.length W x:=by rw[h.len];exact hx
 show lt (bC b W (au b W w (0,0)) c) x∈al;rw[f_ L5];split
 ·exact hc
 ·exact h.let' x hx
theorem Dx{R:Nat}(ha:A3 al)(h:B3 al R W bd):∀(t:Nat) (b:List Str),b∈Nw al W w bd t->B3 al R W b/\∃u,u.length=t/\(∀x∈u,x∈al)/\b=bH W w bd u
 |0,b,hb=>by
  cases Yi.mp hb;exact⟨h,[],rfl,λ_ z=>(nomatch z),rfl⟩
 |t+1,b,hb=>by
  obtain⟨b',OM,hx⟩:=Zz.mp hb;obtain⟨x,L5,rfl⟩:=Yo.mp hx;have hx:=(YE.mp L5).1;obtain⟨h1,u,u1,u2,u3⟩:=Dx ha h t b' OM;refine⟨h1.paint ha hx,u++[x],by rw[Yg,u1];rfl,λy hy=>?_,by rw[vZ,u3]⟩;rcases YA.mp hy with q | q
  ·exact u2 y q
  ·rw[Yi.mp q];exact hx
theorem C5{α β:Type}{f:α->List β}{n:Nat}:∀{l:List α},(∀x∈l,(f x).length<=n)->(l.flatMap f).length<=n*l.length
 |[],_=>by simp
 |x::l,h=>by
  rw[Zd,Yg,Yh,Nat.mul_succ];have:=h x (X5 ..);have:=C5 (l:=l) λy hy=>h y (X4 _ hy);omega
theorem Dy{R:Nat}(ha:A3 al)(h:B3 al R W bd)(hR:0<R)(hW:0<W):∀t:Nat,(Nw al W w bd t).length<=2 ^ t
 |0=>X_ _
 |t+1=>by
  have ih:=Dy ha h hR hW t;have:=C5 (n:=2) (l:=Nw al W w bd t) (f:=λb=>(al.filter λx=>!decide (x=lt b (0,0))).map λx=>bH W w b [x]) λb hb=>by
   obtain⟨h1,_⟩:=Dx ha h t b hb;rw[X3];have hm:lt b (0,0)∈al:=h1.let' (0,0) ⟨hR,hW⟩;have h2:(al.filter λx=>!decide (x=lt b (0,0))).length<al.length:=by
    refine List.length_filter_lt_length_iff_exists.mpr ⟨_,hm,?_⟩;rw[aeg rfl];exact λz=>(nomatch z)
   rw[ha.len] at h2;omega
  rw[abI];show (List.flatMap _ _).length<=_;omega
noncomputable def zN(al:List Nat)(W w:Nat)(bd:List Str)(t:Nat):List (List Str):=(Yr (t+1)).flatMap (Nw al W w bd)
def lr{t:Nat}:b∈zN al W w bd t↔∃j,j<=t/\b∈Nw al W w bd j:=by
 unfold zN;rw[Zz];exact⟨λ⟨j,h1,h2⟩=>⟨j,by have:=YJ.mp h1;omega,h2⟩,λ⟨j,h1,h2⟩=>⟨j,YJ.mpr (by omega),h2⟩⟩
theorem Dz{R:Nat}(ha:A3 al)(h:B3 al R W bd)(hR:0<R)(hW:0<W):∀t:Nat,(zN al W w bd t).length+1<=2 ^ (t+1)
 |0=>by
  show ((Nw al W w bd 0)++[]).length+1<=2;exact X_ _
 |t+1=>by
  have ih:=Dz ha h hR hW t;have:=Dy (w:=w) ha h hR hW (t+1);unfold zN at ih⊢;rw[List.range_succ,List.flatMap_append,Yg];simp only[Zd,List.flatMap_nil,Zk];rw[abI] at this ih⊢;rw[abI];omega
theorem zG:∀b:List Str,oF (b.map D.str)=θ (dw b)
 |[]=>rfl
 |x::b=>by
  show (match me (.str x),oF (b.map D.str) with | some k,θ ks=>θ (k::ks) | _,_=>ω)=_;rw[zG b];rfl
def Hh(b:List Str):eJ (brd b)=θ (dw b):=zG b
theorem zH:∀(a b:List Str),dw a=dw b->a=b
 |[],[],_=>rfl
 |[],_::_,h=>by cases h
 |_::_,[],h=>by cases h
 |a::x,b::y,h=>by
  have h:abF a::dw x=(abF b::dw y:List Key):=h;injection h with h1 h2
  cases h1;rw[zH x y h2]
def uz(ks:List (List Str))(b:List Str):List (List Str):=if b∈ks then ks else ks++[b]
def ud(ks:List (List Str)):List D:=ks.map λ_=> .bl ψ
def Hv{ks:List (List Str)}{x:List Str}:x∈uz ks b↔x∈ks\/x=b:=by
 unfold uz;split
 ·rename_i h;exact⟨.inl,λq=>q.elim id λe=>e▸h⟩
 ·rw[YA,Yi]
def Kv{ks:List (List Str)}(h:ks.Nodup)(b:List Str):(uz ks b).Nodup:=by
 unfold uz;split
 ·exact h
 ·rename_i q;exact YN.mpr ⟨h,by simp,λx hx y hy z=>q (by rw[z] at hx;cases Yi.mp hy;exact hx)⟩
theorem Ax{κ:Type}[DecidableEq κ]{k:κ}:∀{ks:List κ}{l:List (List Str)},ks.length=l.length->jD ks (ud l) k (.bl ψ)=ud l
 |[],[],_=>rfl
 |a::ks,b::l,h=>by
  show (if a=k then D.bl ψ else .bl ψ)::jD ks (ud l) k (.bl ψ)=_;rw[Ax (by simpa using h)];split<;>rfl
 |[],_::_,h=>by simp at h
 |_::_,[],h=>by simp at h
def IE{ks:List (List Str)}(hl:ks.length<lim):gD (.dct (ks.map dw) (ud ks)) (brd b) (.bl ψ)=θ (.dct ((uz ks b).map dw) (ud (uz ks b))):=by
 show (match eJ (brd b) with | some kk=>if (ud ks).length<lim then θ (C.dct (cC (ks.map dw) (ud ks) kk) (bZ (ks.map dw) (ud ks) kk (.bl ψ))) else ω | none=>ω)=_;rw[Hh];show (if (ud ks).length<lim then θ (C.dct (cC (ks.map dw) (ud ks) (dw b)) (bZ (ks.map dw) (ud ks) (dw b) (.bl ψ))) else ω)=_;rw[aef (by unfold ud;rw[X3];exact hl)];unfold cC bZ uz;rw[ik zH];by_cases h:b∈ks
 ·obtain⟨d,e,_⟩:=jk (ks:=ks) (ds:=ud ks) (by simp[ud]) h;rw[e,aef h];show θ (C.dct (ks.map dw) (jD (ks.map dw) (ud ks) (dw b) (.bl ψ)))=_;rw[Ax (by simp)]
 ·rw[jL h,aeh h];show θ (C.dct (ks.map dw++[dw b]) (ud ks++[.bl ψ]))=_;unfold ud;rw[YC,YC];rfl
theorem Ee:∀b:List Str,qo (dw b)=θ b
 |[]=>rfl
 |x::b=>by
  show (qo (dw b)).map (x:: ·)=_;rw[Ee b];rfl
theorem AR:∀ks:List (List Str),mF (ks.map dw)=θ ks
 |[]=>rfl
 |b::ks=>by
  show (match qo (dw b),mF (ks.map dw) with | some x,θ xs=>θ (x::xs) | _,_=>ω)=_;rw[Ee,AR ks]
def Lu{ks:List (List Str)}(hd:ks.Nodup)(la:ks.length<64)(hb:∀b∈ks,∃W,Good b W):AL [.dct (ks.map dw) (ud ks)]=aa (.lst ((yp ks).map brd)):=by
 show (match mF (ks.map dw) with | some ks=>if ND ks then aa (D.lst ((yp ks).map tupS)) else af | none=>af)=_;rw[AR];show (if ND ks=ψ then aa (D.lst ((yp ks).map tupS)) else af)=_;rw[aef]
 ·rfl
 ·unfold ND;rw[aeg hd,aeg la,Bool.and_self,acg];refine Yu.mpr λb V0=>?_;obtain⟨W,hG⟩:=hb b V0;have hg:=hG.brd;have r1:=hg.r1;have r8:=hg.r8;have w8:=hg.w8;rw[aeg (show b.length<=lim by rw[ck];omega),Yu.mpr λx hx=>aeg (show x.length<=lim by rw[(hg.rows x hx).len,ck];omega)];cases b with
  |nil=>simp at r1
  |cons x b=>rfl
abbrev rR(bd:List Str)(w:Nat)(n:D)(Bs:List (List Str))(x4 x5 x6 x7 x8:Option Sl):bQ:=[fz (brd bd),fz (iW w),fz n,fz (.lst (Bs.map brd)),x4,x5,x6,x7,x8]
abbrev HZ(ks:List (List Str)):Option Sl:=θ (.ow (.dct (ks.map dw) (ud ks)))
def Oc{i:Nat}{δk δv:DE}{ρ:bQ}{c c':C}{k v:D}(h1:qM ρ i=θ c)(h2:δv ρ=aa v)(h3:δk ρ=aa k)(h4:gD c k v=θ c'):dO i δk δv ρ=aa (.nx (ρ.set i (θ (.ow c')))):=by
 unfold dO;rw[h1]
 dsimp only
 rw[h2,aw,h3,aw,h4]
def Qt(hG:Good b W)(hw:Ways w){n:D}{Bs ks:List (List Str)}{x4:Option Sl}{c:Nat}(hc:c∈abc){d:D}(hl:ks.length<100):
 Tw (rR bd w n Bs x4 (HZ ks) (fz (brd b)) (fz (sg c)) (fz d))=aa (.nx (rR bd w n Bs x4 (HZ (uz ks (bH W w b [c]))) (fz (brd b)) ω ω)):=by
 have e1:aq 3 bF (aC (dV 6) (aC (dV 1) (aC (dA dm (aC (dV 7) aN)) aN))) (rR bd w n Bs x4 (HZ ks) (fz (brd b)) (fz (sg c)) (fz d))=aa (brd (bH W w b [c])):=
  (ao (ds:=[brd b,iW w, .lst ([c].map sg)]) rfl rfl).trans (Ae hG hw (λx hx=>by rw[Yi.mp hx];exact hc) (show 1<=4096 by decide))
 refine(aU (ρ':=rR bd w n Bs x4 (HZ (uz ks (bH W w b [c]))) (fz (brd b)) (fz (sg c)) (fz d)) ?_).trans rfl;exact(Oc (c:= .dct (ks.map dw) (ud ks)) rfl rfl e1 (IE (by rw[ck];omega))).trans rfl
def Tq{δ:DE}{ρ:bQ}{ds:List D}(h:δ ρ=aa (.lst ds)):cE δ ρ=aa ds:=by
 unfold cE;rw[h];rfl
def j1{put:D->bQ->Option bQ}{body:DS}{d:D}{ds:List D}{ρ ρ1 ρ2:bQ}{r:M Out}(h1:put d ρ=θ ρ1)(h2:body ρ1=aa (.nx ρ2))(h3:forL put body ds ρ2=r):forL put body (d::ds) ρ=r:=by
 unfold forL;rw[h1];show (body ρ1>>=_)=_;rw[h2];exact h3
def Dt{V:Nat}(hb:Brd b V){δ:DE}{ρ:bQ}(h:δ ρ=aa (brd b)):dA bG (aC (aq 1 cb (aC δ aN)) aN) ρ=aa (.int (nL b:Int)):=by
 refine(cf (aO ((ao (ds:=[brd b]) (aO h rfl) rfl).trans (zK hb)) rfl)).trans ?_;show aa (D.int (((zJ (eT b)).map (OR (eT b))).length:Int))=_;rw[X3];rfl
def Pk(n:Nat):mS (.int (n:Int)) (.int 1)=aa (.bl (decide (n=1))):=by
 show aa (D.bl ((n:Int)==1))=_;congr 2;rw[abC,beq_iff_eq,aej];omega
def Qs{R:Nat}(ha:A3 al)(hB:B3 al R W b)(hw:Ways w){n:D}{Bs ks:List (List Str)}{x4:Option Sl}{t:Nat}(hr:0<R)(hW:0<W)(hU:(zN al W w bd (t+1)).length<64)(hb:b∈zN al W w bd t)(Jx:ks.Nodup)(zA:∀x∈ks,x∈zN al W w bd (t+1)):
 ∃ks',ks'.Nodup/\(∀x∈ks',x∈zN al W w bd (t+1))/\Tv (rR bd w n Bs x4 (HZ ks) (fz (brd b)) ω ω)=aa (.nx (rR bd w n Bs x4 (HZ ks') ω ω ω)):=by
 have hg:=hB.good.brd;have EJ:On b.length W (0,0):=⟨by rw[hB.len];exact hr,hW⟩
 obtain⟨hI,e⟩:=fS (put:=v5 [7,8]) (body:=Tw) (OR (eT b)) (λks:List (List Str)=>rR bd w n Bs x4 (HZ ks) (fz (brd b)) ω ω) (λks c=>uz ks (bH W w b [c])) (λks=>ks.Nodup/\∀x∈ks,x∈zN al W w bd (t+1)) (zJ (eT b)) ks ⟨Jx,zA⟩ λks ⟨h1,h2⟩ c hc=>by
  obtain⟨x,hx,W9⟩:=(kc hg).mp hc;have PJ:c∈al:=by rw[<-W9];exact hB.let' x (by rw[<-hB.len];exact hx)
  refine⟨⟨Kv h1 _,λy hy=>?_⟩,_,rfl,Qt hB.good hw (ha.abc c PJ) ?_⟩
  ·rcases Hv.mp hy with q | rfl
   ·exact h2 y q
   ·obtain⟨j,hj,UN⟩:=lr.mp hb;by_cases e:c=lt b (0,0)
    ·have:bH W w b [c]=b:=Cd hB.good hw (ha.abc c PJ) e.symm;rw[this];exact lr.mpr ⟨j,by omega,UN⟩
    ·refine lr.mpr ⟨j+1,by omega,Zz.mpr ⟨b,UN,Yo.mpr ⟨c,YE.mpr ⟨PJ,?_⟩,rfl⟩⟩⟩;rw[aek e];rfl
  ·have:=bV h1 h2;omega
 refine⟨_,hI.1,hI.2,(aU (dq (Tq ((ao (ds:=[brd b]) rfl rfl).trans (zK hg))) e)).trans rfl⟩
def Nt{R:Nat}(ha:A3 al)(hB:B3 al R W bd)(hw:Ways w){n:D}{Bs:List (List Str)}{t k:Nat}(hr:0<R)(hW:0<W)(h4:t<=4)(Su:∀b∈Bs,b∈zN al W w bd t)(hl:Bs.length<64)(xc:∀u:List Nat,u.length<=t->(∀x∈u,x∈abc)->¬Un (bH W w bd u) W):
 ∃Bs',Bs'.length<64/\(∀b∈Bs',b∈zN al W w bd (t+1))/\Tu (rR bd w n Bs (fz (.int (k:Int))) ω ω ω ω)=aa (.nx (rR bd w n Bs' ω ω ω ω ω)):=by
 have OJ:∀{s:Nat}{b:List Str},b∈zN al W w bd s->B3 al R W b:=λ{s b} h=>by
  obtain⟨j,_,q⟩:=lr.mp h;exact(Dx ha hB j b q).1
 have hU:(zN al W w bd (t+1)).length<64:=by
  have h1:=Dz (w:=w) ha hB hr hW (t+1);have h2:2 ^ (t+1+1)<=2 ^ 6:=Nat.pow_le_pow_right (by decide) (by omega);omega
 have S7:∀b∈Bs,nL b≠1:=λb hb z=>by
  obtain⟨j,hj,q⟩:=lr.mp (Su b hb);obtain⟨h1,u,u1,u2,u3⟩:=Dx ha hB j b q;have:=(Hy h1.good.brd).mp z;rw[u3] at this;exact xc u (by omega) (λx hx=>ha.abc x (u2 x hx)) this
 have ht:cT (d2 qF (bw 0 (cE (dV 3)) (cT (d2 mS (dA bG (aC (aq 1 cb (aC (dV 0) aN)) aN)) (dC (.int 1)))) (dV 0)) (dA dm aN)) (rR bd w n Bs (fz (.int (k:Int))) ω ω ω ω)=aa μ:=by
  have hc:bw 0 (cE (dV 3)) (cT (d2 mS (dA bG (aC (aq 1 cb (aC (dV 0) aN)) aN)) (dC (.int 1)))) (dV 0) (rR bd w n Bs (fz (.int (k:Int))) ω ω ω ω)=aa (.lst ((Bs.filter λb=>decide (nL b=1)).map brd)):=by
   refine bP (ds:=Bs.map brd) rfl (mL brd (λb=>decide (nL b=1)) brd Bs λb hb=>?_) (by rw[X3,ck];have:=Zh (λb=>decide (nL b=1)) Bs;omega);have Wf:=(OJ (Su b hb)).good.brd;rw[l_,show cT (d2 mS (dA bG (aC (aq 1 cb (aC (dV 0) aN)) aN)) (dC (.int 1))) (fz (brd b)::rR bd w n Bs (fz (.int (k:Int))) ω ω ω ω)=aa (decide (nL b=1)) from fH ((aR (x:= .int (nL b:Int)) (y:= .int 1) (Dt Wf rfl) rfl).trans (Pk _))];cases decide (nL b=1)<;>rfl
  have hf:(Bs.filter λb=>decide (nL b=1))=[]:=adt.mpr λb hb z=>S7 b hb (aei z);rw[hf] at hc;exact fH ((aR (x:= .lst []) (y:= .lst []) hc rfl).trans rfl)
 have lp:∀(r:List (List Str)) (ks:List (List Str)),(∀b∈r,b∈zN al W w bd t)->ks.Nodup->(∀x∈ks,x∈zN al W w bd (t+1))->∃ks',ks'.Nodup/\(∀x∈ks',x∈zN al W w bd (t+1))/\forL (putN 6) Tv (r.map brd) (rR bd w n Bs (fz (.int (k:Int))) (HZ ks) ω ω ω)=aa (.nx (rR bd w n Bs (fz (.int (k:Int))) (HZ ks') ω ω ω)):=λr=>by
  induction r with
  |nil=>exact λks _ h1 h2=>⟨ks,h1,h2,rfl⟩
  |cons b r ih=>
   intro ks U6 h1 h2;have hb:=U6 b (X5 ..);obtain⟨Qp,q1,q2,q3⟩:=Qs (n:=n) (Bs:=Bs) (x4:=fz (.int (k:Int))) ha (OJ hb) hw hr hW hU hb h1 h2;obtain⟨Qq,q4,q5,q6⟩:=ih Qp (λx hx=>U6 x (X4 _ hx)) q1 q2;exact⟨Qq,q4,q5,j1 rfl q3 q6⟩
 obtain⟨ks,k1,k2,k3⟩:=lp Bs [] Su Zv λx z=>(nomatch z)
 have kl:ks.length<64:=by have:=bV k1 k2;omega
 refine⟨yp ks,by rw[(ji ks).length_eq];exact kl,λb hb=>k2 b ((ji ks).mem_iff.mp hb),?_⟩;refine(aU (ρ':=rR bd w n (yp ks) (fz (.int (k:Int))) (fz (.dct (ks.map dw) (ud ks))) ω ω ω) ?_).trans rfl;refine aj (dr ht rfl) (aj (ρ':=rR bd w n Bs (fz (.int (k:Int))) (HZ []) ω ω ω) rfl (aj (ρ':=rR bd w n Bs (fz (.int (k:Int))) (HZ ks) ω ω ω) (dq rfl k3) ?_));show bN 3 (dA AL (aC (dV 5) aN)) (rR bd w n Bs (fz (.int (k:Int))) (fz (.dct (ks.map dw) (ud ks))) ω ω ω)=_;exact(aJ ((cf (xs:=[.dct (ks.map dw) (ud ks)]) rfl).trans (Lu k1 kl λb hb=>⟨W,(OJ (k2 b hb)).good⟩))).trans rfl
def IM{R:Nat}(ha:A3 al)(hB:B3 al R W bd)(hw:Ways w){T:Nat}(hr:0<R)(hW:0<W)(h5:T+1<=5)(xc:∀u:List Nat,u.length<=T->(∀x∈u,x∈abc)->¬Un (bH W w bd u) W):
 eM [brd bd,iW w, .int (T:Int)]=aa (.bl μ):=by
 have lp:∀(m t:Nat) (Bs:List (List Str)),t+m=T+1->Bs.length<64->(∀b∈Bs,b∈zN al W w bd t)->∃Bs',forL (putN 4) Tu ((YO t m).map λ(i:Nat)=>D.int (i:Int)) (rR bd w (.int (T:Int)) Bs ω ω ω ω ω)=aa (.nx (rR bd w (.int (T:Int)) Bs' ω ω ω ω ω)):=λm=>by
  induction m with
  |zero=>exact λt Bs _ _ _=>⟨Bs,rfl⟩
  |succ m ih=>
   intro t Bs ht h1 h2;obtain⟨Bs1,q1,q2,q3⟩:=Nt (n:= .int (T:Int)) (k:=t) ha hB hw hr hW (by omega) h2 h1 λu hu=>xc u (by omega);obtain⟨Bs2,q4⟩:=ih (t+1) Bs1 (by omega) q1 q2;exact⟨Bs2,by rw[Z2,X9];exact j1 rfl q3 q4⟩
 obtain⟨Bs',e⟩:=lp (T+1) 0 [bd] (by omega) (by simp) λb hb=>by
  rw[Yi.mp hb];exact lr.mpr ⟨0,X_ _,Yi.mpr rfl⟩
 rw[<-aaI] at e;refine aT (aj (ρ':=rR bd w (.int (T:Int)) [bd] ω ω ω ω ω) rfl (aj (cF (dq (Lg (n:=T+1) ((aR (x:= .int (T:Int)) (y:= .int 1) rfl rfl).trans rfl) (by omega)) e)) rfl))
end
theorem w6(enc:α->D)(I:σ->bQ->Prop)(step:σ->α->σ):∀(xs:List α) (s:σ) (ρ:bQ),I s ρ->(∀s ρ,I s ρ->∀x∈xs,∃ρ1 ρ2,put (enc x) ρ=θ ρ1/\body ρ1=aa (.nx ρ2)/\I (step s x) ρ2)->
 ∃ρ',forL put body (xs.map enc) ρ=aa (.nx ρ')/\I (xs.foldl step s) ρ'
 |[],s,ρ,h,_=>⟨ρ,rfl,h⟩
 |x::xs,s,ρ,h,st=>by
  obtain⟨ρ1,ρ2,e1,e2,h2⟩:=st s ρ h x (X5 ..);obtain⟨ρ',e3,h3⟩:=w6 enc I step xs (step s x) ρ2 h2 λs ρ h y hy=>st s ρ h y (X4 _ hy);exact⟨ρ',by rw[X9,cX e1 e2,e3],h3⟩
def IJ(h0:ρ[i]? =θ (θ (.ow c)))(hv:δv ρ=aa d)(hk:δk ρ=aa k)(hp:gD c k d=θ c'):dO i δk δv ρ=aa (.nx (ρ.set i (θ (.ow c')))):=by
 unfold dO qM;rw[h0];show (δv ρ>>=λv=>δk ρ>>=λk=>match gD c k v with | some c'=>aa (Out.nx (ρ.set i (θ (.ow c')))) | none=>af)=_;rw[hv,aw,hk,aw,hp]
def Kl{ks:List Cell}{vs:List Int}(hl:ks.length=vs.length)(h:c∈ks):∃i:Int,eZ (.dct (ks.map keyOf) (vs.map D.int)) (cD c)=aa (.int i):=by
 obtain⟨d,e1,e2⟩:=lD (ds:=vs.map D.int) (by rw[X3];exact hl) h;obtain⟨i,_,rfl⟩:=Yo.mp (abv e2).2;refine⟨i,?_⟩;show (match (eJ (cD c)).map (eh (ks.map keyOf) (vs.map D.int)) with | some (θ v)=>aa v | _=>af)=_;rw[jx];show (match θ (eh (ks.map keyOf) (vs.map D.int) (keyOf c)) with | some (θ v)=>aa v | _=>af)=_;rw[e1]
structure Sok (S:List Cell) (s:Bk Cell):Prop where
 len:s.ks.length=s.ps.length
 nd:s.ks.Nodup
 on:∀x∈s.ks,x∈S
 fu:s.fu.length<=s.ks.length
def Sok.step(h:Sok S s)(hx:x∈S):Sok S (b5 c s x):=by
 unfold b5;split
 ·exact h
 ·rename_i hn;refine⟨by simp[h.len],?_,λy hy=>?_,by simp;exact h.fu⟩
  ·refine YN.mpr ⟨h.nd,by simp,λy hy z hz e=>?_⟩;have hz:z=x:=by simpa using hz
   rw[e,hz] at hy;exact hn hy
  ·rcases YA.mp hy with q | q
   ·exact h.on y q
   ·have:y=x:=by simpa using q
    rw[this];exact hx
abbrev dR(nr a:D)(ks:List Cell)(vs:List Int)(x3 x4 x5 x6:Option Sl):bQ:=[fz nr,fz a,θ (.ow (.dct (ks.map keyOf) (vs.map D.int))),x3,x4,x5,x6]
def JT(la:S.length<=64)(h:Sok S s)(hc:c∈s.ks)(hv:s.ks.length=vs.length):
 ∃ei,(b5 c s x).ks.length=ei.length/\Pf (dR nr a s.ks vs r (θ (.ow (.lst (s.fu.map cD)))) (fz (cD c)) (fz (cD x)))=aa (.nx (dR nr a (b5 c s x).ks ei r (θ (.ow (.lst ((b5 c s x).fu.map cD)))) (fz (cD c)) ω)):=by
 have hle:s.ks.length<=S.length:=bV h.nd h.on;have ht:Ct (cT (d2 (eI ψ) (dV 6) (dV 2))) (dR nr a s.ks vs r (θ (.ow (.lst (s.fu.map cD)))) (fz (cD c)) (fz (cD x)))=aa (!decide (x∈s.ks)):=
  wz (fH ((aR rfl rfl).trans (ju (by rw[X3];exact hv))))
 by_cases hx:x∈s.ks
 ·rw[aeg hx] at ht;have e:b5 c s x=s:=aef hx;rw[e];exact⟨vs,hv,(aU (dr ht rfl)).trans rfl⟩
 ·rw[aek hx] at ht;have e:b5 c s x=⟨s.ks++[x],s.ps++[θ c],s.fu++[x]⟩:=aeh hx;rw[e];obtain⟨i,hi⟩:=Kl hv hc;have hp:gD (.dct (s.ks.map keyOf) (vs.map D.int)) (cD x) (.int (i+1))=θ (.dct ((s.ks++[x]).map keyOf) ((vs++[i+1]).map D.int)):=by
   rw[tN hx (by rw[X3,<-hv,ck];omega),YC (f:=D.int)];rfl
  refine⟨vs++[i+1],by simp[hv],(aU (ρ':=dR nr a (s.ks++[x]) (vs++[i+1]) r (θ (.ow (.lst ((s.fu++[x]).map cD)))) (fz (cD c)) (fz (cD x))) (fJ ht (aj ((IJ rfl (Pb ((aR ((aR rfl rfl).trans hi) rfl).trans rfl) rfl) rfl hp).trans rfl) ?_))).trans rfl⟩;show (if (s.fu.map cD).length<lim then aa (Out.nx (dR nr a (s.ks++[x]) (vs++[i+1]) r (θ (.ow (.lst (s.fu.map cD++[cD x])))) (fz (cD c)) (fz (cD x)))) else af)=_;have:=h.fu;rw[aef (by rw[X3,ck];omega),show s.fu.map cD++[cD x]=(s.fu++[x]).map cD by simp]
def et(S:List Cell)(nb:Cell->List Cell):D:=JQ S λy=>cL (nb y)
section
variable{S:List Cell}{nb:Cell->List Cell}
def Ep{s:Bk Cell}(h:y∈s.ks):y∈(b5 c s x).ks:=(k7 s).mpr (.inl h)
def Eo(h:y∈s.ks):y∈(d5 nb s c).ks:=((foldStep (P:=λ_ _=>True) (nb c) s λ_ _=>trivial).2 y).mpr (.inl h)
def JR(la:S.length<=64)(hS:∀y∈S,∀x∈nb y,x∈S)(h:Sok S s)(hc:c∈s.ks)(hv:s.ks.length=vs.length):
 Sok S (d5 nb s c)/\∃ei,(d5 nb s c).ks.length=ei.length/\Pe (dR (et S nb) a s.ks vs r (θ (.ow (.lst (s.fu.map cD)))) (fz (cD c)) ω)=aa (.nx (dR (et S nb) a (d5 nb s c).ks ei r (θ (.ow (.lst ((d5 nb s c).fu.map cD)))) ω ω)):=by
 have UO:=h.on c hc;obtain⟨ρ',e,h1,h2,ei,h3,rfl⟩:=w6 (put:=putN 6) cD (λ(s:Bk Cell) ρ=>Sok S s/\c∈s.ks/\∃vs:List Int,s.ks.length=vs.length/\ρ=dR (et S nb) a s.ks vs r (θ (.ow (.lst (s.fu.map cD)))) (fz (cD c)) ω) (b5 c) (nb c) s _ ⟨h,hc,vs,hv,rfl⟩ λs ρ ⟨h,hc,vs,hv,e⟩ x hx=>by
  subst e;obtain⟨ei,h1,h2⟩:=JT la h hc hv;exact⟨_,_,rfl,h2,h.step (hS c UO x hx),Ep hc,ei,h1,rfl⟩
 refine⟨h1,ei,h3,(aU (dq ?_ e)).trans rfl⟩;have e0:d2 eZ (dV 0) (dV 5) (dR (et S nb) a s.ks vs r (θ (.ow (.lst (s.fu.map cD)))) (fz (cD c)) ω)=aa (cL (nb c)):=(aR rfl rfl).trans (He UO);show orM (cE (d2 eZ (dV 0) (dV 5)) _) _=_;rw[show cE (d2 eZ (dV 0) (dV 5)) (dR (et S nb) a s.ks vs r (θ (.ow (.lst (s.fu.map cD)))) (fz (cD c)) ω)=aa ((nb c).map cD) by
  show (d2 eZ (dV 0) (dV 5) _>>=lstM)=_;rw[e0];rfl]
 rfl
def JS(la:S.length<=64)(hS:∀y∈S,∀x∈nb y,x∈S)(hr:∀c∈v1,c∈s.ks)(h:Sok S s)(hf:s.fu=[])(hv:s.ks.length=vs.length):
 Sok S (bz nb s v1)/\∃ei,(bz nb s v1).ks.length=ei.length/\MF (dR (et S nb) a s.ks vs (fz (.lst (v1.map cD))) ω ω ω)=aa (.nx (dR (et S nb) a (bz nb s v1).ks ei (fz (.lst ((bz nb s v1).fu.map cD))) ω ω ω)):=by
 obtain⟨ρ',e,h1,h2,ei,h3,rfl⟩:=w6 (put:=putN 5) cD (λ(s:Bk Cell) ρ=>Sok S s/\(∀c∈v1,c∈s.ks)/\∃vs:List Int,s.ks.length=vs.length/\ρ=dR (et S nb) a s.ks vs (fz (.lst (v1.map cD))) (θ (.ow (.lst (s.fu.map cD)))) ω ω) (d5 nb) v1 s _ ⟨h,hr,vs,hv,rfl⟩ λs ρ ⟨h,hr,vs,hv,e⟩ c hc=>by
  subst e;obtain⟨g1,ei,g2,g3⟩:=JR la hS h (hr c hc) hv;exact⟨_,_,rfl,g3,g1,λc' BE=>Eo (hr c' BE),ei,g2,rfl⟩
 rw[hf] at e;refine⟨h1,ei,h3,(aU (ρ':=dR (et S nb) a (bz nb s v1).ks ei (fz (.lst ((bz nb s v1).fu.map cD))) (fz (.lst ((bz nb s v1).fu.map cD))) ω ω) ?_).trans rfl⟩;refine aj rfl (aj (ρ':=dR (et S nb) a (bz nb s v1).ks ei (fz (.lst (v1.map cD))) (θ (.ow (.lst ((bz nb s v1).fu.map cD)))) ω ω) ?_ rfl);exact dq rfl e
theorem zi(la:S.length<=64)(hS:∀y∈S,∀x∈nb y,x∈S)(ha:a∈S):∀(fuel k:Nat) (ks:List Cell) (ps:List (Option Cell)) (v1:List Cell) (vs:List Int),S.length+2<=fuel+k->Rng nb a k ks ps v1->(∀x∈ks,x∈S)->ks.length=vs.length->
 ∃k' ks' jS ei,Rng nb a k' ks' jS []/\(∀x∈ks',x∈S)/\ks'.length=ei.length/\fC (cq (dV 3)) MF fuel (dR (et S nb) (cD a) ks vs (fz (.lst (v1.map cD))) ω ω ω)=aa (.nx (dR (et S nb) (cD a) ks' ei (fz (.lst [])) ω ω ω))
 |0,k,ks,ps,v1,vs,hf,hR,fF,hv=>by
  have h1:ks.length<=S.length:=bV hR.nd fF;have:=hR.sz.1;omega
 |fuel+1,k,ks,ps,[],vs,hf,hR,fF,hv=>⟨k,ks,ps,vs,hR,fF,hv,uh rfl⟩
 |fuel+1,k,ks,ps,c::v1,vs,hf,hR,fF,hv=>by
  have hN:=hR.next (by simp);have M8:∀x∈c::v1,x∈ks:=λx hx=>(hR.mem x).mpr ((hR.rg x).mp hx).1;obtain⟨hb,Ua,Tc,e⟩:=JS la hS (s:=⟨ks,ps,[]⟩) M8 ⟨hR.len,hR.nd,fF,YH _⟩ rfl hv;obtain⟨k',ks',jS,ei,q1,q2,q3,q4⟩:=zi la hS ha fuel (k+1) _ _ _ Ua (by omega) hN hb.on Tc;exact⟨k',ks',jS,ei,q1,q2,q3,uk rfl e q4⟩
def uD(la:S.length<=64)(hS:∀y∈S,∀x∈nb y,x∈S)(ha:a∈S):
 ∃(ks:List Cell) (vs:List Int),ks.Nodup/\(∀x∈ks,x∈S)/\(∀x,x∈ks↔∃j,Rb nb a j x)/\ks.length=vs.length/\ir [et S nb,cD a]=aa (.dct (ks.map keyOf) (vs.map D.int)):=by
 obtain⟨k,ks,ps,vs,h1,h2,h3,h4⟩:=zi la hS ha lim 0 [a] [ω] [a] [0] (by rw[ck];omega) (Rng.zero _ _) (λx hx=>(show x=a by simpa using hx)▸ha) rfl;refine⟨ks,vs,h1.nd,h2,h1.last,h3,aT (aj rfl (aj rfl (aj (cF h4) rfl)))⟩
end
end K1
namespace K1
open PySem PySem.Spec L2 L3
open PyProof.Rows hiding St
section
variable{nb:Cell->List Cell}
theorem rV(h:c∈nb a):∀{j:Nat},Rb nb c j b->Rb nb a (j+1) b
 |0,q=> .inr ⟨a,rfl,(show b=c from q)▸h⟩
 |j+1,q=>q.elim (λq=> .inl (rV h q)) λ⟨y,q1,q2⟩=> .inr ⟨y,rV h q1,q2⟩
theorem rW(h:Rb nb a i b):∀{j:Nat},Rb nb b j c->Rb nb a (i+j) c
 |0,q=>(show c=b from q)▸h
 |j+1,q=>q.elim (λq=> .inl (rW h q)) λ⟨y,q1,q2⟩=> .inr ⟨y,rW h q1,q2⟩
theorem vv{P:Cell->Prop}(hP:∀y,P y->∀x∈nb y,P x)(ha:P a):∀{j:Nat},Rb nb a j b->P b
 |0,q=>(show b=a from q)▸ha
 |j+1,q=>q.elim (λq=>vv hP ha q) λ⟨y,q1,q2⟩=>hP y (vv hP ha q1) b q2
theorem w9{P:Cell->Prop}(hP:∀y,P y->∀x∈nb y,P x)(hs:∀y,P y->∀x∈nb y,y∈nb x)(ha:P a):∀{j:Nat},Rb nb a j b->Rb nb b j a
 |0,q=>(show b=a from q).symm
 |j+1,q=>q.elim (λq=> .inl (w9 hP hs ha q)) λ⟨y,q1,q2⟩=>rV (hs y (vv hP ha q1) b q2) (w9 hP hs ha q1)
end
def uK(R W w:Nat)(S:List Cell)(y:Cell):List Cell:=(kh R W w y).filter λx=>decide (x∈S)
def mZ(hw:Ways w):x∈uK R W w S y↔On R W x/\lR w y x=ψ/\x∈S:=by
 unfold uK;rw[YE,gK hw,aej,and_assoc]
def CnS(R W w:Nat)(S:List Cell)(a b:Cell):Prop:=∃j,Rb (uK R W w S) a j b
section
open Classical
variable{bd:List Str}{W w:Nat}{S:List Cell}{R:Nat}
def BX(hw:Ways w):∀y,y∈S->∀x∈uK R W w S y,x∈S:=λy _ x hx=>((mZ hw).mp hx).2.2
def Nz(hw:Ways w)(fF:∀y∈S,On R W y):∀y,y∈S->∀x∈uK R W w S y,y∈uK R W w S x:=λy hy x hx=>(mZ hw).mpr ⟨fF y hy,by rw[zY];exact((mZ hw).mp hx).2.1,hy⟩
def CnS.trans(h:CnS R W w S a b)(h2:CnS R W w S b c):CnS R W w S a c:=let ⟨i,p⟩:=h;let ⟨j,q⟩:=h2;⟨i+j,rW p q⟩
def CnS.symm(hw:Ways w)(fF:∀y∈S,On R W y)(ha:a∈S)(h:CnS R W w S a b):CnS R W w S b a:=let ⟨j,q⟩:=h;⟨j,w9 (BX hw) (Nz hw fF) ha q⟩
def CnS.mem(hw:Ways w){a b:Cell}(ha:a∈S)(h:CnS R W w S a b):b∈S:=let ⟨_,q⟩:=h;vv (BX hw) ha q
def OW(R W w:Nat)(S:List Cell)(x:Cell):Prop:=∀y,CnS R W w S x y->rank W x<=rank W y
noncomputable def mP(R W w:Nat)(S t:List Cell):List Cell:=t.filter λx=>decide (OW R W w S x)
theorem foldl_addK:∀(l t:List Cell),(t++l).Nodup->l.foldl bR t=t++l
 |[],t,_=>by simp
 |x::l,t,h=>by
  have hx:x∉t:=λq=>(YN.mp h).2.2 x q x (X5 ..) rfl;rw[aap,show bR t x=t++[x] from aeh hx,foldl_addK l (t++[x]) (by rw[ZC];exact h),ZC];rfl
def HC(hg:Brd bd W)(hw:Ways w)(hn:S.Nodup)(fF:∀y∈S,On bd.length W y):gy [brd bd,cL S,iW w]=aa (et S (uK bd.length W w S)):=by
 have hm:bd.length*W<=64:=Z4 hg.r8 hg.w8;have la:S.length<=64:=by
  have:=bV hn λx hx=>aI.mpr (fF x hx);rw[c9] at this;omega
 obtain⟨_,e⟩:=fS (put:=putN 5) (body:=Vo) cD (λt:List Cell=>[fz (brd bd),fz (cL S),fz (iW w),fz (oH S),θ (.ow (Jq t λy=>cL (uK bd.length W w S y))),ω]) bR (λt=>t.Nodup/\∀y∈t,y∈S) S [] ⟨Zv,λ_ h=>by cases h⟩ λt ⟨h1,h2⟩ x hx=>by
  have hl:=bV h1 h2;refine⟨⟨(jZ [x] t).1 h1,λy hy=>(iR.mp hy).elim (h2 y) λq=>q▸hx⟩,_,rfl,?_⟩;refine(aU (ρ':=[fz (brd bd),fz (cL S),fz (iW w),fz (oH S),θ (.ow (Jq (bR t x) λy=>cL (uK bd.length W w S y))),fz (cD x)]) ?_).trans rfl;refine(D6 (d:=cL (uK bd.length W w S x)) rfl (bP (Ki ((ao rfl rfl).trans (g8 hg hw (fF x hx)))) (iU cD _ _ λy hy=>?_) ?_) rfl (by rw[ck];omega)).trans ?_
  ·rw[l_,fH (b:=decide (y∈S)) ((aR rfl rfl).trans ((ju (by simp[trues])).trans (by rw[aeh (by decide)];congr 2;rw[aem];exact dX))),aw];cases decide (y∈S)<;>rfl
  ·rw[X3,ck];exact Yz (Zh ..) (Yz (oJ ..) (by decide))
  ·have:gH (λy=>cL (uK bd.length W w S y)) x (cL (uK bd.length W w S x))=λy=>cL (uK bd.length W w S y):=by
    funext y;unfold gH;split
    ·rename_i q;rw[q]
    ·rfl
   rw[this];rfl
 rw[foldl_addK S [] (by simpa using hn),Zg] at e;exact aT (aj ((aJ ((ao rfl rfl).trans (lj (by omega)))).trans rfl) (aj rfl (aj (cF (dq rfl e)) rfl)))
def Hr(h:ks.length<=64):Dv [.dct (ks.map keyOf) ds]=aa (cL ks):=by
 show (match fT (ks.map keyOf) with | some ks=>if ks.length<=lim/\ks.all (λk=>decide (k.length<=lim)) then aa (D.lst (ks.map tupI)) else af | none=>af)=_;rw[lh];show (if (ks.map ic).length<=lim/\(ks.map ic).all (λk=>decide (k.length<=lim)) then aa (D.lst ((ks.map ic).map tupI)) else af)=_;rw[aef ⟨by rw[X3,ck];omega,Yu.mpr λk hk=>by obtain⟨c,_,rfl⟩:=Yo.mp hk;rfl⟩,YD];rfl
abbrev N_(b w nr:D)(S:List Cell)(v4:List D)(ks:List Cell)(x6 x7:Option Sl):bQ:=[fz b,fz (cL S),fz w,fz nr,θ (.ow (.lst v4)),θ (.ow (.dct (ks.map keyOf) (trues ks))),x6,x7]
structure SeenS (R W w:Nat) (S t ks:List Cell):Prop where
 nd:ks.Nodup
 on:∀y∈ks,y∈S
 mem:∀y,y∈ks↔∃m∈t,CnS R W w S m y
def vq(t:List Cell)(x:Cell):mP R W w S (t++[x])=if OW R W w S x then mP R W w S t++[x] else mP R W w S t:=by
 unfold mP;rw[ad5];by_cases h:OW R W w S x
 ·rw[aef h,abe (by rw[aej];exact h),abz]
 ·rw[aeh h,adg (by rw[aej];exact h),abz,Zk]
def Lb(hg:Brd bd W)(hs:bd.length*W<64)(hw:Ways w)(hS:RiseC S)(fF:∀y∈S,On bd.length W y)(e:t++x::r=S)(h:SeenS bd.length W w S t ks)(ha:v4.length=(mP bd.length W w S t).length):
 ∃cV ks',SeenS bd.length W w S (t++[x]) ks'/\cV.length=(mP bd.length W w S (t++[x])).length/\TL (N_ (brd bd) (iW w) (et S (uK bd.length W w S)) S v4 ks (fz (cD x)) ω)=aa (.nx (N_ (brd bd) (iW w) (et S (uK bd.length W w S)) S cV ks' ω ω)):=by
 have RL:x∈S:=by rw[<-e];simp
 have hx:=fF x RL;have hn:=RiseC.nodup hS;have hl:S.length<=bd.length*W:=iq hn fF;have la:S.length<=64:=by omega
 have r6:=hS;rw[<-e] at r6;have U8:∀y∈t,y∈S:=λy hy=>by rw[<-e];simp[hy]
 have w_:∀y∈t,rank W y<rank W x:=λy hy=>(gj (fF y (U8 y hy)) hx).mp ((aac.mp r6).2.2 y hy x (X5 ..));have BC:∀y∈r,rank W x<rank W y:=λy hy=>(gj hx (fF y (by rw[<-e];simp[hy]))).mp ((YK.mp (aac.mp r6).2.1).1 y hy);have SX:ks.length<=64:=by have:=bV h.nd h.on;omega
 have zw:v4.length<=64:=by
  rw[ha];have h1:(mP bd.length W w S t).length<=t.length:=by unfold mP;exact Zh ..
  have h2:t.length<=S.length:=by rw[<-e,Yg];omega
  omega
 have ht:Ct (cT (d2 (eI ψ) (dV 6) (dV 5))) (N_ (brd bd) (iW w) (et S (uK bd.length W w S)) S v4 ks (fz (cD x)) ω)=aa (!decide (x∈ks)):=
  wz (fH ((aR rfl rfl).trans (ju (by simp[trues]))))
 by_cases hk:x∈ks
 ·rw[aeg hk] at ht;obtain⟨m,hm,hc⟩:=(h.mem x).mp hk;have hf:¬OW bd.length W w S x:=λq=>by
   have:=q m (hc.symm hw fF (U8 m hm));have:=w_ m hm;omega
  refine⟨v4,ks,⟨h.nd,h.on,λy=>?_⟩,by rw[vq,aeh hf];exact ha,(aU (dr ht rfl)).trans rfl⟩;rw[h.mem y];constructor
  ·rintro⟨m,hm,q⟩;exact⟨m,by simp[hm],q⟩
  ·rintro⟨n,MZ,q⟩;rcases YA.mp MZ with z | z
   ·exact⟨n,z,q⟩
   ·rw[Yi.mp z] at q;exact⟨m,hm,hc.trans q⟩
 ·rw[aek hk] at ht;have hf:OW bd.length W w S x:=λy hy=>by
   have Vb:=hy.mem hw RL;rw[<-e] at Vb;rcases YA.mp Vb with q | q
   ·exact ael ((h.mem x).mpr ⟨y,q,hy.symm hw fF RL⟩) hk
   ·rcases Ye.mp q with q | q
    ·rw[q];exact X_ _
    ·exact Zm (BC y q)
  obtain⟨l,vs,l1,l2,l3,l4,l5⟩:=uD la (BX hw) RL;have Wt:l.length<=64:=by have:=bV l1 l2;omega
  refine⟨v4++[cL l],(bS l).foldl bR ks,⟨zq h.nd,λy hy=>?_,λy=>?_⟩,by rw[vq,aef hf,Yg,Yg,ha];rfl,?_⟩
  ·rcases((jZ (bS l) ks).2.1 y).mp hy with q | q
   ·exact h.on y q
   ·exact l2 y (dX.mp q)
  ·rw[(jZ (bS l) ks).2.1 y,dX,h.mem y,l3 y];constructor
   ·rintro(⟨m,hm,q⟩ | q)
    ·exact⟨m,by simp[hm],q⟩
    ·exact⟨x,by simp,q⟩
   ·rintro⟨m,hm,q⟩;rcases YA.mp hm with z | z
    ·exact .inl ⟨m,z,q⟩
    ·rw[Yi.mp z] at q;exact .inr q
  ·refine(aU (ρ':=N_ (brd bd) (iW w) (et S (uK bd.length W w S)) S (v4++[cL l]) ((bS l).foldl bR ks) (fz (cD x)) (fz (cL l))) (fJ ht (aj ((aJ ((cf (aO ((ao rfl rfl).trans l5) rfl)).trans (Hr Wt))).trans rfl) (aj (ρ':=N_ (brd bd) (iW w) (et S (uK bd.length W w S)) S (v4++[cL l]) ks (fz (cD x)) (fz (cL l))) ?_ ?_)))).trans rfl
   ·show (if v4.length<lim then aa (Out.nx _) else af)=_;rw[aef (by rw[ck];omega)];rfl
   ·exact(AX rfl ((ao rfl rfl).trans (lj (by omega))) (by omega) (λ_=>Dc hg.r8 hg.w8 (zT _) λy hy=>fF y (l2 y (dX.mp hy)))).trans rfl
theorem D4(hg:Brd bd W)(hs:bd.length*W<64)(hw:Ways w)(hS:RiseC S)(fF:∀y∈S,On bd.length W y):∀(r t ks:List Cell) (v4:List D),t++r=S->SeenS bd.length W w S t ks->v4.length=(mP bd.length W w S t).length->
 ∃cV ks',cV.length=(mP bd.length W w S S).length/\forL (putN 6) TL (r.map cD) (N_ (brd bd) (iW w) (et S (uK bd.length W w S)) S v4 ks ω ω)=aa (.nx (N_ (brd bd) (iW w) (et S (uK bd.length W w S)) S cV ks' ω ω))
 |[],t,ks,v4,e,h,ha=>by
  rw[Zk] at e;subst e;exact⟨v4,ks,ha,rfl⟩
 |x::r,t,ks,v4,e,h,ha=>by
  obtain⟨a1,k1,h1,h2,h3⟩:=Lb hg hs hw hS fF e h ha;obtain⟨a2,k2,g1,g2⟩:=D4 hg hs hw hS fF r (t++[x]) k1 a1 (by rw[ZC];exact e) h1 h2;exact⟨a2,k2,g1,(cX rfl h3).trans g2⟩
def Fm(hg:Brd bd W)(hs:bd.length*W<64)(hw:Ways w)(hS:RiseC S)(fF:∀y∈S,On bd.length W y):∃ds:List D,ds.length=(mP bd.length W w S S).length/\jt [brd bd,cL S,iW w]=aa (.lst ds):=by
 obtain⟨v4,ks,h1,h2⟩:=D4 hg hs hw hS fF S [] [] [] rfl ⟨Zv,(λ_ h=>by cases h),λy=>by simp⟩ rfl;exact⟨v4,h1,aT (aj ((aJ ((ao rfl rfl).trans (HC hg hw (RiseC.nodup hS) fF))).trans rfl) (aj rfl (aj rfl (aj (cF (dq rfl h2)) rfl))))⟩
end
section
open Classical
variable{bd:List Str}{W w:Nat}
theorem gp{n1 n2:Cell->List Cell}{Q:Cell->Prop}(hQ:∀u,Q u->∀z,z∈n1 u↔z∈n2 u)(hc:∀u,Q u->∀z∈n1 u,Q z){a:Cell}(ha:Q a):∀{j:Nat}{z:Cell},Rb n1 a j z↔Rb n2 a j z
 |0,z=>abi
 |j+1,z=>by
  constructor
  ·rintro(q | ⟨y,q1,q2⟩)
   ·exact .inl ((gp hQ hc ha).mp q)
   ·exact .inr ⟨y,(gp hQ hc ha).mp q1,(hQ y (vv hc ha q1) z).mp q2⟩
  ·rintro(q | ⟨y,q1,q2⟩)
   ·exact .inl ((gp hQ hc ha).mpr q)
   ·have:=(gp hQ hc ha).mpr q1;exact .inr ⟨y,this,(hQ y (vv hc ha this) z).mpr q2⟩
noncomputable def gq(bd:List Str)(W w:Nat)(x:Cell):List Cell:=(au bd W w x).filter λy=>!decide (y=x)
noncomputable def q9(bd:List Str)(W w:Nat)(x:Cell):Nat:=(mP bd.length W w (gq bd W w x) (gq bd W w x)).length
def gL(hw:Ways w){x y:Cell}(hx:On bd.length W x):y∈gq bd W w x↔Cn bd W w x y/\y≠x:=by
 unfold gq;rw[YE,bA hw hx];simp
def Lf(hw:Ways w){x:Cell}(hx:On bd.length W x):∀y∈gq bd W w x,On bd.length W y:=λy hy=>((gL hw hx).mp hy).1.on hw hx
def wj(hw:Ways w){x:Cell}(hx:On bd.length W x):RiseC (gq bd W w x):=(bp hw hx).rise.filter _
def Fp(hw:Ways w){m x:Cell}(hm:On bd.length W m)(h:Cn bd W w m x):au bd W w m=au bd W w x:=by
 unfold au;refine aee λy _=>?_;rw[aem];exact⟨λq=>(h.symm hw hm).trans q,λq=>h.trans q⟩
section
variable{nb:List Str}{x:Cell}{e:Nat}
structure Lone (e:Nat) (bd nb:List Str) (W:Nat) (x:Cell):Prop where
 len:nb.length=bd.length
 on:On bd.length W x
 at':∀y,On bd.length W y->lt nb y=if y=x then e else lt bd y
 ne:∀y,On bd.length W y->lt bd y≠e
def Lone.like(h:Lone e bd nb W x)(hw:Ways w){u z:Cell}(hu:On bd.length W u)(Tb:u≠x):z∈bc nb W w u↔z∈bc bd W w u/\z≠x:=by
 rw[bf hw,bf hw,h.len,h.at' u hu,aeh Tb];constructor
 ·rintro⟨h1,h2,h3⟩;rw[h.at' z h1] at h3;split at h3
  ·exact ael h3.symm (h.ne u hu)
  ·rename_i q;exact⟨⟨h1,h2,h3⟩,q⟩
 ·rintro⟨⟨h1,h2,h3⟩,h4⟩;exact⟨h1,h2,by rw[h.at' z h1,aeh h4];exact h3⟩
theorem Lone.self(h:Lone e bd nb W x)(hw:Ways w){z:Cell}:∀{j:Nat},Rb (bc nb W w) x j z->z=x
 |0,q=>q
 |j+1,q=>q.elim (λq=>h.self hw q) λ⟨y,q1,q2⟩=>by
  have e:=h.self hw q1;subst e;have:=(bf hw).mp q2;rw[h.len] at this;rw[h.at' y h.on,aef rfl,h.at' z this.1] at this;by_cases q:z=y
  ·exact q
  ·rw[aeh q] at this;exact ael this.2.2 (h.ne z this.1)
def Lone.cn_out(h:Lone e bd nb W x)(hw:Ways w){y z:Cell}(hy:On bd.length W y)(hn:¬Cn bd W w x y):Cn nb W w y z↔Cn bd W w y z:=by
 have hQ:∀u,(On bd.length W u/\¬Cn bd W w x u)->∀z,z∈bc nb W w u↔z∈bc bd W w u:=λu ⟨h1,h2⟩ z=>by
  have Tb:u≠x:=λq=>h2 (q▸Cn.refl);rw[h.like hw h1 Tb];refine⟨λq=>q.1,λq=>⟨q,λe=>h2 ?_⟩⟩;subst e;exact(Cn.refl:Cn bd W w z z).step (mh hw h1 q)
 have hc:∀u,(On bd.length W u/\¬Cn bd W w x u)->∀z∈bc nb W w u,On bd.length W z/\¬Cn bd W w x z:=λu hu z hz=>by
  have hz:=(hQ u hu z).mp hz;have Xf:=((bf hw).mp hz).1;exact⟨Xf,λq=>hu.2 (q.step (mh hw hu.1 hz))⟩
 exact⟨λ⟨j,q⟩=>⟨j,(gp hQ hc ⟨hy,hn⟩).mp q⟩,λ⟨j,q⟩=>⟨j,(gp hQ hc ⟨hy,hn⟩).mpr q⟩⟩
def Lone.cn_in(h:Lone e bd nb W x)(hw:Ways w){y z:Cell}(hy:y∈gq bd W w x):Cn nb W w y z↔CnS bd.length W w (gq bd W w x) y z:=by
 have hQ:∀u,u∈gq bd W w x->∀z,z∈bc nb W w u↔z∈uK bd.length W w (gq bd W w x) u:=λu hu z=>by
  have JA:=(gL hw h.on).mp hu;have WZ:=JA.1.on hw h.on;rw[h.like hw WZ JA.2,bf hw,mZ hw,gL hw h.on];constructor
  ·rintro⟨⟨h1,h2,h3⟩,h4⟩;exact⟨h1,h2,JA.1.step ((bf hw).mpr ⟨h1,h2,h3⟩),h4⟩
  ·rintro⟨h1,h2,h3,h4⟩;exact⟨⟨h1,h2,(h3.letter hw).trans (JA.1.letter hw).symm⟩,h4⟩
 have hc:∀u,u∈gq bd W w x->∀z∈bc nb W w u,z∈gq bd W w x:=λu hu z hz=>((mZ hw).mp ((hQ u hu z).mp hz)).2.2;exact⟨λ⟨j,q⟩=>⟨j,(gp hQ hc hy).mp q⟩,λ⟨j,q⟩=>⟨j,(gp hQ hc hy).mpr q⟩⟩
theorem split_len{α:Type}(p q:α->Bool):∀l:List α,(l.filter p).length=(l.filter λy=>p y&&q y).length+(l.filter λy=>p y&& !q y).length
 |[]=>rfl
 |a::l=>by
  have ih:=split_len p q l;rw[ZN,ZN,ZN];cases h1:p a<;>cases h2:q a<;>simp_all<;>omega
def Lone.many(h:Lone e bd nb W x)(hw:Ways w):(aF nb W w).length=(aF bd W w).length+q9 bd W w x:=by
 obtain⟨L,hL⟩:=ll (bd:=bd) (W:=W) hw;have hm:=hL x h.on;have L0:=hm.on hw h.on;unfold aF;rw[X3,X3,h.len];unfold bT;rw[split_len (λy=>decide (Least nb W w y y)) (λy=>decide (Cn bd W w x y)),split_len (λy=>decide (Least bd W w y y)) (λy=>decide (Cn bd W w x y))];have e1:(aE bd.length W).filter (λy=>decide (Least nb W w y y)&& !decide (Cn bd W w x y))=(aE bd.length W).filter (λy=>decide (Least bd W w y y)&& !decide (Cn bd W w x y)):=by
  refine aee λy hy=>?_;have hy:=aI.mp hy;by_cases q:Cn bd W w x y
  ·rw[aeg q];simp
  ·have:Least nb W w y y↔Least bd W w y y:=by
    unfold Least;exact⟨λ⟨_,g⟩=>⟨Cn.refl,λz hz=>g z ((h.cn_out hw hy q).mpr hz)⟩,λ⟨_,g⟩=>⟨Cn.refl,λz hz=>g z ((h.cn_out hw hy q).mp hz)⟩⟩
   rw[aem.mpr this]
 have e2:(aE bd.length W).filter (λy=>decide (Least bd W w y y)&&decide (Cn bd W w x y))=[L x]:=by
  refine jg ((dG _ _).filter _) (aao ..) λy=>?_;rw[YE,aI,Yi,Yq,aej,aej];constructor
  ·rintro⟨h1,h2,h3⟩;exact(h2.move hw h1 (h3.symm hw h.on)).one hw h.on hm
  ·rintro rfl;exact⟨L0,hm.self hw h.on,hm.1⟩
 have e3:((aE bd.length W).filter (λy=>decide (Least nb W w y y)&&decide (Cn bd W w x y))).length=1+q9 bd W w x:=by
  rw[split_len _ (λy=>decide (y=x))];have f1:(aE bd.length W).filter (λy=>(decide (Least nb W w y y)&&decide (Cn bd W w x y))&&decide (y=x))=[x]:=by
   refine jg ((dG _ _).filter _) (aao ..) λy=>?_;rw[YE,aI,Yi,Yq,aej];constructor
   ·rintro⟨_,_,q⟩;exact q
   ·rintro rfl;refine⟨h.on,?_,rfl⟩;rw[Yq,aej,aej];exact⟨⟨Cn.refl,λz ⟨j,q⟩=>by rw[h.self hw q];exact X_ _⟩,Cn.refl⟩
  have f2:(aE bd.length W).filter (λy=>(decide (Least nb W w y y)&&decide (Cn bd W w x y))&& !decide (y=x))=mP bd.length W w (gq bd W w x) (gq bd W w x):=by
   refine jg ((dG _ _).filter _) ((wj hw h.on).filter _) λy=>?_;unfold mP;rw[YE,YE,aI,gL hw h.on];simp only[Yq,aej,Bool.not_eq_true',decide_eq_false_iff_not];constructor
   ·rintro⟨h1,⟨h2,h3⟩,h4⟩;exact⟨⟨h3,h4⟩,λz hz=>h2.2 z ((h.cn_in hw ((gL hw h.on).mpr ⟨h3,h4⟩)).mpr hz)⟩
   ·rintro⟨⟨h3,h4⟩,h5⟩;exact⟨h3.on hw h.on,⟨⟨Cn.refl,λz hz=>h5 z ((h.cn_in hw ((gL hw h.on).mpr ⟨h3,h4⟩)).mp hz)⟩,h3⟩,h4⟩
  rw[f1,f2];rfl
 rw[e1,e2,e3];show 1+q9 bd W w x+_=1+_+q9 bd W w x;omega
end
end
section
open Classical
variable{bd:List Str}{W w:Nat}
def ER(hg:Brd bd W)(hs:bd.length*W<64)(hw:Ways w){x:Cell}(hx:On bd.length W x):bW [brd bd,iW w,cL (au bd W w x),cD x]=aa (.bl (decide (1<q9 bd W w x))):=by
 obtain⟨ds,h1,h2⟩:=Fm hg hs hw (wj hw hx) (Lf hw hx);have Jt:(au bd W w x).length<=bd.length*W:=iq (RiseC.nodup (bp hw hx).rise) λy hy=>((bA hw hx).mp hy).on hw hx;have cm:bw 0 (cE (dV 2)) (cT (d2 qF (dV 0) (dV 4))) (dV 0) [fz (brd bd),fz (iW w),fz (cL (au bd W w x)),fz (cD x),ω]=aa (cL (gq bd W w x)):=by
  refine bP (OQ (i:=2) (ds:=(au bd W w x).map cD) rfl) (iU cD _ _ λy _=>?_) ?_
  ·rw[l_,fH (b:=!decide (y=x)) ((aR (x:=cD y) (y:=cD x) rfl rfl).trans (QA y x)),aw];cases (!decide (y=x))<;>rfl
  ·rw[X3,ck];exact Yz (Zh ..) (by omega)
 refine aT (aj (ρ':=[fz (brd bd),fz (iW w),fz (cL (au bd W w x)),fz (cD x),fz (cL (gq bd W w x))]) ((aJ cm).trans rfl) (aP ((aR (x:= .int (ds.length:Int)) (y:= .int ((1:Nat):Int)) ((cf (xs:=[.lst ds]) (aO ((ao (ds:=[brd bd,cL (gq bd W w x),iW w]) rfl rfl).trans h2) rfl)).trans rfl) rfl).trans ((Qw _ _).trans ?_))));rw[h1];rfl
noncomputable def rD(bd:List Str)(W w:Nat):List Cell:=(aE bd.length W).filter λx=>decide (1<q9 bd W w x)
def EE:RiseC (rD bd W w):=(dG _ _).filter _
def vK{x:Cell}:x∈rD bd W w↔On bd.length W x/\1<q9 bd W w x:=by
 unfold rD;rw[YE,aI,aej]
theorem rQ{α:Type}(f:α->List Cell):∀l:List α,(l.flatMap λm=>(f m).map cD)=(l.flatMap f).map cD
 |[]=>rfl
 |a::l=>by rw[Zd,Zd,YC,rQ f l]
def Gr(hg:Brd bd W)(hs:bd.length*W<64)(hw:Ways w):jY [brd bd,iW w]=aa (cL (rD bd W w)):=by
 let f:Cell->List Cell:=λm=>(au bd W w m).filter λx=>decide (1<q9 bd W w x)
 have BJ:∀m∈bT bd W w (aE bd.length W),∀x,x∈f m->x∈au bd W w m:=λm _ x hx=>(YE.mp hx).1;have Jx:((bT bd W w (aE bd.length W)).flatMap f).Nodup:=by
  refine C6 _ DC (λa ha=>(RiseC.nodup (bp hw (bU ha)).rise).filter _) λa ha b hb x hx hy=>?_;exact(j9 hw ha (BJ a ha x hx)).one hw ((((bp hw (bU ha)).mem x).mp (BJ a ha x hx)).on hw (bU ha)) (j9 hw hb (BJ b hb x hy))
 have fF:∀x∈(bT bd W w (aE bd.length W)).flatMap f,On bd.length W x:=λx hx=>by
  obtain⟨m,hm,q⟩:=Zz.mp hx;exact((bA hw (bU hm)).mp (BJ m hm x q)).on hw (bU hm)
 have v6:((bT bd W w (aE bd.length W)).flatMap f).length<=bd.length*W:=iq Jx fF;have Jy:lY ((bT bd W w (aE bd.length W)).flatMap f)=rD bd W w:=by
  refine jg (mD Jx) EE λx=>?_;rw[oO,vK];constructor
  ·intro hx;obtain⟨m,hm,q⟩:=Zz.mp hx;exact⟨fF x hx,aei (YE.mp q).2⟩
  ·rintro⟨h1,h2⟩;obtain⟨L,hL⟩:=ll (bd:=bd) (W:=W) hw;have hm:=hL x h1;exact Zz.mpr ⟨L x,sE.mpr ⟨aI.mpr (hm.on hw h1),hm.self hw h1⟩,YE.mpr ⟨(bA hw (hm.on hw h1)).mpr (hm.1.symm hw h1),aeg h2⟩⟩
 have lp:=iX (put:=putN 3) (body:=Uo) (λm=>cL (au bd W w m)) (λv4=>[fz (brd bd),fz (iW w),θ (.ow (.lst v4)),ω]) (λm=>(f m).map cD) (B:=64) (bT bd W w (aE bd.length W)) [] (by rw[Zg,rQ,X3];omega) λm hm v4 ha=>by
  have L0:=bU hm;refine⟨[fz (brd bd),fz (iW w),θ (.ow (.lst v4)),fz (cL (au bd W w m))],rfl,?_⟩;have cm:bw 0 (cE (dV 3)) (cq (aq 4 bW (aC (dV 1) (aC (dV 2) (aC (dV 4) (aC (dV 0) aN)))))) (dV 0) [fz (brd bd),fz (iW w),θ (.ow (.lst v4)),fz (cL (au bd W w m))]=aa (cL (f m)):=by
   refine bP (OQ (i:=3) (ds:=(au bd W w m).map cD) rfl) (iU cD _ _ λy hy=>?_) ?_
   ·have hc:=(bA hw L0).mp hy;have e:=ER hg hs hw (hc.on hw L0);rw[<-Fp hw L0 hc] at e;have e2:cq (aq 4 bW (aC (dV 1) (aC (dV 2) (aC (dV 4) (aC (dV 0) aN))))) (fz (cD y)::[fz (brd bd),fz (iW w),θ (.ow (.lst v4)),fz (cL (au bd W w m))])=aa (decide (1<q9 bd W w y)):=jX ((ao (ds:=[brd bd,iW w,cL (au bd W w m),cD y]) rfl rfl).trans e);rw[l_,e2,aw];cases decide (1<q9 bd W w y)<;>rfl
   ·rw[Yg] at ha;rw[ck];omega
  refine(aU (ρ':=[fz (brd bd),fz (iW w),θ (.ow (.lst (v4++(f m).map cD))),fz (cL (au bd W w m))]) ?_).trans rfl;show (bw 0 (cE (dV 3)) (cq (aq 4 bW (aC (dV 1) (aC (dV 2) (aC (dV 4) (aC (dV 0) aN)))))) (dV 0) [fz (brd bd),fz (iW w),θ (.ow (.lst v4)),fz (cL (au bd W w m))]>>=λd=>lstM d>>=λes=>if v4.length+es.length<=lim then aa (Out.nx _) else af)=_;rw[cm,aw];show (if v4.length+((f m).map cD).length<=lim then aa (Out.nx _) else af)=_;rw[Yg] at ha;rw[aef (by rw[ck];omega)];rfl
 rw[Zg,rQ] at lp;refine aT (aj (a8 ((ao (ds:=[brd bd]) rfl rfl).trans hg.nb)) (aj (a8 ((ao (ds:=[iW w]) rfl rfl).trans hw.nw)) (aj (ρ':=[fz (brd bd),fz (iW w),θ (.ow (.lst [])),ω]) rfl (aj (cF (dq (ds:=(bT bd W w (aE bd.length W)).map λm=>cL (au bd W w m)) ?_ lp)) ?_))))
 ·show (aq 2 a9 (aC (dV 0) (aC (dV 1) aN)) _>>=lstM)=_;rw[(ao (ds:=[brd bd,iW w]) rfl rfl:aq 2 a9 (aC (dV 0) (aC (dV 1) aN)) _=_),eB hg hs hw];rfl
 ·refine aP ((cf (xs:=[cL ((bT bd W w (aE bd.length W)).flatMap f)]) rfl).trans ((Lv Jx (by omega)).trans ?_));rw[Jy]
def Dq(hg:Brd bd W)(hs:bd.length*W<64)(hw:Ways w){δ ε:DE}{ρ:bQ}(h1:δ ρ=aa (brd bd))(h2:ε ρ=aa (iW w)):dA bG (aC (aq 2 a9 (aC δ (aC ε aN))) aN) ρ=aa (.int ((aF bd W w).length:Int)):=by
 refine(cf (xs:=[nJ bd W w]) (aO ((ao (ds:=[brd bd,iW w]) (aO h1 (aO h2 rfl)) rfl).trans (eB hg hs hw)) rfl)).trans ?_;rw[mn];show aa (D.int (((aF bd W w).map cL).length:Int))=_;rw[X3]
def Br(hG:Good bd W)(hs:bd.length*W<64)(hw:Ways w){x:Cell}(hx:On bd.length W x){c:Nat}(hc:c∈abc):el [brd bd,cD x,iW w,sg c]=aa (.int (((aF (bC bd W [x] c) W w).length:Int) - ((aF bd W w).length:Int))):=by
 have hg:=hG.brd;have hn:=(eR hG (l:=[x]) hc).brd;have WQ:(bC bd W [x] c).length*W<64:=by rw[cY];exact hs
 exact aT (aj (a8 ((ao (ds:=[brd bd,cD x,iW w,sg c]) rfl rfl).trans (kg hg hw hx hc))) (aj (ρ':=[fz (brd bd),fz (cD x),fz (iW w),fz (sg c),fz (brd (bC bd W [x] c))]) ((aJ ((ao (ds:=[brd bd,cL [x],sg c]) rfl rfl).trans (pE hg (by simp) c))).trans rfl) (aP ((aR (Dq hn WQ hw rfl rfl) (Dq hg hs hw rfl rfl)).trans rfl))))
def Ho{x:Cell}{e:Nat}(hx:On bd.length W x)(fE:∀y,On bd.length W y->lt bd y≠e):Lone e bd (bC bd W [x] e) W x:=by
 refine⟨cY ..,hx,λy hy=>?_,fE⟩;have:=D5 (bd:=bd) (W:=W) (l:=[x]) (c:=e) hy.1 hy.2;rw[show lt (bC bd W [x] e) y=at2 (bC bd W [x] e) y.1 y.2 from rfl,this];by_cases h:y=x
 ·rw[aef h,aef (by simpa using h)]
 ·rw[aeh h,aeh (by simpa using h)]
end
end K1
namespace K1
open PySem L2 L3
section
variable{bd:List Str}{W w:Nat}{a:Cell}
def Mc(hw:Ways w)(ha:On bd.length W a){c:Nat}{x y:Cell}(hx:On bd.length W x)(h:Cn bd W w x y):Cn (bC bd W (au bd W w a) c) W w x y:=by
 obtain⟨j,r⟩:=h;revert y;induction j with
 |zero=>exact λr=>by cases (show _=x from r);exact Cn.refl
 |succ j ih=>
  intro y r;rcases r with r | ⟨z,r,q⟩
  ·exact ih r
  ·have hz:=v7 hw hx r;obtain⟨q1,q2,q3⟩:=(bf hw).mp q;refine(ih r).step ((bf hw).mpr ⟨by rw[cY];exact q1,q2,?_⟩);rw[f_ q1,f_ hz];by_cases hp:z∈au bd W w a
   ·rw[aef hp,aef ((bA hw ha).mpr (((bA hw ha).mp hp).step q))]
   ·rw[aeh hp,aeh λhy=>hp ((bA hw ha).mpr (((bA hw ha).mp hy).trans (Cn.symm hw hz (Cn.refl.step q)))),q3]
open Classical in
def N5(hw:Ways w)(ha:On bd.length W a){c:Nat}:(aF (bC bd W (au bd W w a) c) W w).length<=(aF bd W w).length:=by
 unfold aF;rw[X3,X3];unfold bT;rw[cY,<-aaM,<-aaM];refine List.countP_mono_left λx hx h=>?_;rw[aej] at h⊢;exact⟨Cn.refl,λz hz=>h.2 z (Mc hw ha (aI.mp hx) hz)⟩
def D0(hG:Good bd W)(hw:Ways w)(ha:On bd.length W a){c:Nat}(hc:c∈abc)(h:lt bd a=c):bC bd W (au bd W w a) c=bd:=by
 refine BS (eR hG hc).brd hG.brd (cY ..) λx hx=>?_;rw[cY] at hx;rw[f_ hx];split
 ·rename_i hp;rw[((bA hw ha).mp hp).letter hw,h]
 ·rfl
def QH(hG:Good bd W){x:Cell}(hx:On bd.length W x):bC bd W [x] (lt bd x)=bd:=by
 have hc:lt bd x∈abc:=mK hG.brd hx.1 hx.2;refine BS (eR hG hc).brd hG.brd (cY ..) λy hy=>?_;rw[cY] at hy;rw[f_ hy];split
 ·rename_i hp;rw[Yi.mp hp]
 ·rfl
def Hk(hG:Good bd W){c:Cell}(h:On bd.length W c):b7 [brd bd,cD c]=aa (sg (lt bd c)):=
 aT (aj (a8 ((ao (ds:=[brd bd]) rfl rfl).trans hG.brd.nb)) (aj (a8 ((ao (ds:=[brd bd,cD c]) rfl rfl).trans (hG.brd.nc h))) (aP ((ao (ds:=[brd bd,cD c]) rfl rfl).trans (eo hG.brd h)))))
def O9(ds:List D)(n:Nat):cutD ds ω (θ (n:Int))=ds.take n:=by
 unfold cutD;have e2:HT.sIx ds.length ds.length (θ (n:Int))=min n ds.length:=by
  show (if (n:Int)<0 then((n:Int)+(ds.length:Int)).toNat else min (n:Int).toNat ds.length)=_;rw[aeh (by omega),aa8]
 rw[e2,show HT.sIx ds.length 0 ω=0 from rfl,adG,ac3,List.take_eq_take_iff];omega
open PySem.Builtin PySem.Builtin.Str in
def Lr{x:Str}{n:Nat}:aci x ω (θ (n:Int))=kr (x.cps.toList.take n):=by
 by_cases h:n<=x.length
 ·have q:=eq_of_beq (abP (x:=x) (j:=(n:Int)) (by omega) (by omega));rw[q];simp[kr]
 ·have e:aci x ω (θ (n:Int))=aci x ω (θ (x.length:Int)):=by
   show ab4 x _ _=ab4 x _ _;have e:strSliceIndices ω (θ (n:Int)) 1 x.length=strSliceIndices ω (θ (x.length:Int)) 1 x.length:=by
    have a:¬((x.length:Int)<0):=by omega
    have b:¬((n:Int)<0):=by omega
    have c:min (n:Int) (x.length:Int)=(x.length:Int):=by omega
    simp[strSliceIndices,a,b,c]
   unfold ab4;rw[e]
  have q:=eq_of_beq (abP (x:=x) (j:=(x.length:Int)) (by omega) (by omega));have hx:x.cps.toList.length<=n:=by rw[Yd];exact Zm (acG h)
  have W8:x.cps.toList.length<=((x.length:Int) - 0).toNat:=by rw[Yd];unfold acu;omega
  rw[e,q,ads hx,show List.drop (0:Int).toNat x.cps.toList=x.cps.toList from rfl,ads W8];rfl
def fK(bd:List Str):List Str:=(bd.take 3).map λr=>kr (r.cps.toList.take 3)
def ub(hG:Good bd W):Good (fK bd) (min W 3)/\(fK bd).length<=3:=by
 have r1:=hG.r1;have w1:=hG.w1;have v6:(fK bd).length=min 3 bd.length:=by unfold fK;rw[X3,ZL]
 refine⟨⟨by omega,by omega,by omega,by omega,λr hr=>?_⟩,by omega⟩;obtain⟨q,hq,rfl⟩:=Yo.mp hr;have hR:=hG.rows q (aaJ hq);refine⟨?_,λc hc=>hR.let' c ?_⟩
 ·rw[Du,ZL,Yd];have:=hR.len;unfold acu at this;omega
 ·rw[dh] at hc;exact aaJ hc
def FH(bd:List Str){δ:DE}{ρ:bQ}(h5:bd.length<=5)(h1:δ ρ=aa (brd bd)):dA wA (aC (bw 0 (rE (JM δ oN (oS (dC (.int 3))))) c6 (JM (dV 0) oN (oS (dC (.int 3))))) aN) ρ=aa (brd (fK bd)):=by
 have e1:JM δ oN (oS (dC (.int 3))) ρ=aa (brd (bd.take 3)):=by
  show (δ ρ>>=λd=>Vu d ω (θ 3))=_;rw[h1];show aa (D.tup (cutD (bd.map D.str) ω (θ ((3:Nat):Int))))=_;rw[O9,<-List.map_take]
 have e2:bw 0 (rE (JM δ oN (oS (dC (.int 3))))) c6 (JM (dV 0) oN (oS (dC (.int 3)))) ρ=aa (.lst ((fK bd).map D.str)):=by
  have e:(fK bd).map D.str=(bd.take 3).map λr=>D.str (kr (r.cps.toList.take 3)):=by unfold fK;rw[YD];rfl
  rw[e];refine bP (ds:=(bd.take 3).map D.str) (by show (JM _ _ _ ρ>>=Rl)=_;rw[e1];rfl) (gR D.str (λr=>D.str (kr (r.cps.toList.take 3))) _ λr _=>?_) (by rw[X3,ZL,ck];omega);rw[jW];show (aa (D.str (aci r ω (θ ((3:Nat):Int))))>>=_)=_;rw[Lr];rfl
 exact(cf (xs:=[.lst ((fK bd).map D.str)]) (aO e2 rfl)).trans rfl
def Qv{v:Nat}(h:v<4):∃c∈abc,uG (.str "abcf") (.int (v:Int))=aa (sg c):=by
 match v,h with
 |0,_=>exact⟨97,by decide,rfl⟩
 |1,_=>exact⟨98,by decide,rfl⟩
 |2,_=>exact⟨99,by decide,rfl⟩
 |3,_=>exact⟨102,by decide,rfl⟩
def R_{al:Str}(zw:al="ab"\/al="abc"\/al="aab"\/al="fa"){x:Nat}(hx:x∈al.cps.toList):∃b c,A3 [x,b,c]/\∀y∈al.cps.toList,y∈[x,b,c]:=by
 have key:∀l:List Nat,(∀y∈l,y∈abc)->(l=[97,98]\/l=[97,98,99]\/l=[97,97,98]\/l=[102,97])->x∈l->∃b c,A3 [x,b,c]/\∀y∈l,y∈[x,b,c]:=λl hl h hx=>by
  rcases h with rfl | rfl | rfl | rfl<;>simp only[Ye,List.not_mem_nil,or_false] at hx
  ·rcases hx with rfl | rfl
   ·exact⟨98,98,⟨rfl,by decide⟩,by decide⟩
   ·exact⟨97,97,⟨rfl,by decide⟩,by decide⟩
  ·rcases hx with rfl | rfl | rfl
   ·exact⟨98,99,⟨rfl,by decide⟩,by decide⟩
   ·exact⟨97,99,⟨rfl,by decide⟩,by decide⟩
   ·exact⟨97,98,⟨rfl,by decide⟩,by decide⟩
  ·rcases hx with rfl | rfl | rfl
   ·exact⟨98,98,⟨rfl,by decide⟩,by decide⟩
   ·exact⟨98,98,⟨rfl,by decide⟩,by decide⟩
   ·exact⟨97,97,⟨rfl,by decide⟩,by decide⟩
  ·rcases hx with rfl | rfl
   ·exact⟨97,97,⟨rfl,by decide⟩,by decide⟩
   ·exact⟨102,102,⟨rfl,by decide⟩,by decide⟩
 rcases zw with rfl | rfl | rfl | rfl
 ·exact key _ (by decide+kernel) (.inl (by decide+kernel)) hx
 ·exact key _ (by decide+kernel) (.inr (.inl (by decide+kernel))) hx
 ·exact key _ (by decide+kernel) (.inr (.inr (.inl (by decide+kernel)))) hx
 ·exact key _ (by decide+kernel) (.inr (.inr (.inr (by decide+kernel)))) hx
def FG{al:Str}(hG:Good bd W)(h:∀r∈bd,O1 al r){x:Cell}(hx:On (fK bd).length (min W 3) x):lt (fK bd) x∈al.cps.toList/\lt (fK bd) x≠101:=by
 have hr:=getD_mem hx.1;obtain⟨q,hq,e⟩:=Yo.mp hr;have hb:=h q (aaJ hq);have hm:lt (fK bd) x∈q.cps.toList:=by
  have hl:=((ub hG).1.rows _ hr).len;show ((fK bd).getD x.1 ⟨#[]⟩).cps.toList.getD x.2 0∈_;rw[<-e] at hl⊢;have hl:(kr (q.cps.toList.take 3)).cps.toList.length=min W 3:=by rw[Yd];exact hl
  rw[Yp,X7 (by rw[hl];exact hx.2)];have BJ:∀z∈(kr (q.cps.toList.take 3)).cps.toList,z∈q.cps.toList:=λz hz=>by
   rw[dh] at hz;exact aaJ hz
  exact BJ _ (ZM (by rw[hl];exact hx.2))
 exact⟨(hb _ hm).2.2,(hb _ hm).1⟩
abbrev Ci(ns:List Int)(bd:List Str)(W:Nat)(a:Cell)(c w:Nat)(P:List Cell)(fr:List Str)(x8 x9 Ub Uc:Option Sl):bQ:=[fz (.scr ns),fz (brd bd),fz (cL (aE bd.length W)),fz (cD a),fz (sg c),fz (iW w),fz (cL P),fz (brd fr),x8,x9,Ub,Uc]
def Pu(m n:Nat):MO (.int (m:Int)) (.int (n:Int))=aa (.bl (decide (n<m))):=by
 show aa (D.bl (decide ((n:Int)<(m:Int))))=_;congr 2;rw[aem];omega
def Qy{a b:List Str}(h:a=b):qF (brd a) (brd b)=aa (.bl μ):=(GG JU (by decide) a b).trans (by rw[aeg h];rfl)
def TC{x y:Nat}(h:x=y):qF (sg x) (sg y)=aa (.bl μ):=by
 subst h;show (match ma 6 (sg x) (sg x) with | some b=>aa (D.bl (!b)) | none=>af)=_;have:ma 6 (sg x) (sg x)=θ ψ:=by
  show θ (decide ((⟨#[x]⟩:Str)=⟨#[x]⟩))=_;rw[aeg rfl]
 rw[this];rfl
theorem Hq(hG:Good bd W)(hw:Ways w)(ha:On bd.length W a){ns:List Int}{c:Nat}(hc:c∈abc):∀l:List Cell,(∀x∈l,On bd.length W x)->forL (putN 8) (cM [8,9] (aA (bN 9 (Gv (cT (d2 (qE μ) (dV 8) (dV 6))) (dV 4) (aq 2 b7 (aC (dV 1) (aC (dV 8) aN))))) (jQ (cT (d2 qF (aq 2 b7 (aC (dV 7) (aC (dV 8) aN))) (dV 9))) (bI (dC (.bl μ))) eg))) (l.map cD) (Ci ns bd W a c w (au bd W w a) (bC bd W (au bd W w a) c) ω ω ω ω)=aa (.nx (Ci ns bd W a c w (au bd W w a) (bC bd W (au bd W w a) c) ω ω ω ω))
 |[],_=>rfl
 |x::l,h=>by
  have hx:=h x (X5 ..);have gF:=eR hG hc (l:=au bd W w a);rw[X9];refine j1 (ρ1:=Ci ns bd W a c w (au bd W w a) (bC bd W (au bd W w a) c) (fz (cD x)) ω ω ω) rfl ?_ (Hq hG hw ha hc l λy hy=>h y (X4 _ hy));have ht:cT (d2 (qE μ) (dV 8) (dV 6)) (Ci ns bd W a c w (au bd W w a) (bC bd W (au bd W w a) c) (fz (cD x)) ω ω ω)=aa (decide (x∈au bd W w a)):=fH ((aR (x:=cD x) (y:=cL (au bd W w a)) rfl rfl).trans (Dh (neg:=μ)));have SI:Gv (cT (d2 (qE μ) (dV 8) (dV 6))) (dV 4) (aq 2 b7 (aC (dV 1) (aC (dV 8) aN))) (Ci ns bd W a c w (au bd W w a) (bC bd W (au bd W w a) c) (fz (cD x)) ω ω ω)=aa (sg (lt (bC bd W (au bd W w a) c) x)):=by
   rw[LM ht,f_ hx];by_cases hp:x∈au bd W w a
   ·rw[aeg hp,aef rfl,aef hp];rfl
   ·rw[aek hp,aeh (by decide),aeh hp];exact(ao (ds:=[brd bd,cD x]) rfl rfl).trans (Hk hG hx)
  refine(aU (ρ':=Ci ns bd W a c w (au bd W w a) (bC bd W (au bd W w a) c) (fz (cD x)) (fz (sg (lt (bC bd W (au bd W w a) c) x))) ω ω) (aj ((aJ SI).trans rfl) (dr (fH ((aR (x:=sg (lt (bC bd W (au bd W w a) c) x)) (y:=sg (lt (bC bd W (au bd W w a) c) x)) ((ao (ds:=[brd (bC bd W (au bd W w a) c),cD x]) rfl rfl).trans (Hk gF (by rw[cY];exact hx))) rfl).trans (TC rfl))) rfl))).trans rfl
def Hl(ns:List Int)(hl:ns.length<=63):k_ [.scr ns]=aa (.bl ψ):=by
 obtain⟨al,O4,W0,zw,UH,hD,l1,l2,eb⟩:=Bg ns hl 0 5 (by decide) (by decide);obtain⟨hG,lS⟩:=ub UH;have MV:∀x,On (fK O4).length (min W0 3) x->lt (fK O4) x∈al.cps.toList/\lt (fK O4) x≠101:=λx hx=>FG UH hD hx;have w3:min W0 3<=3:=Nat.min_le_right ..;have e0:=FH O4 (δ:=aq 3 eL (aC (dV 0) (aC (dC (.int 0)) (aC (dC (.int 5)) aN)))) (ρ:=[fz (.scr ns),ω,ω,ω,ω,ω,ω,ω,ω,ω,ω,ω]) l1 ((ao (ds:=[.scr ns, .int 0, .int 5]) rfl rfl).trans eb);generalize hS:fK O4=bd at*;generalize hV:min W0 3=W at*;have hg:=hG.brd;have h9:bd.length*W<=9:=Z4 lS w3;have hs:bd.length*W<64:=by omega
 have RB:0<(aE bd.length W).length:=by rw[c9];exact Nat.mul_pos hg.r1 hg.w1
 obtain⟨v,hv,ev⟩:=fP ns hl 50 (aE bd.length W).length RB;obtain⟨a,UL⟩:∃a,(aE bd.length W)[v]? =θ a:=⟨_,X7 hv⟩
 have ha:On bd.length W a:=aI.mp (YB UL);obtain⟨u,hu,eu⟩:=fP ns hl 51 4 (by decide);obtain⟨c,hc,ec⟩:=Qv hu;obtain⟨y,hy,ey⟩:=fP ns hl 52 2 (by decide);obtain⟨w,hw,ew⟩:∃w,Ways w/\j3 (.lst [.int 4, .int 8]) (.int (y:Int))=aa (iW w):=by
  match y,hy with
  |0,_=>exact⟨4, .inl rfl,rfl⟩
  |1,_=>exact⟨8, .inr rfl,rfl⟩
 obtain⟨P,hP,eP⟩:=xN hg hs hw ha;have VT:P=au bd W w a:=IsPatch.one hP (bp hw ha);subst VT;have gF:=eR hG hc (l:=au bd W w a);have lF:(bC bd W (au bd W w a) c).length=bd.length:=cY ..;have WM:(bC bd W (au bd W w a) c).length*W<64:=by rw[lF];exact hs
 have Sy:On (bC bd W (au bd W w a) c).length W a:=by rw[lF];exact ha
 have Xn:lt (bC bd W (au bd W w a) c) a=c:=by rw[f_ ha,aef ((bA hw ha).mpr Cn.refl)]
 have BH:lt bd a∈abc:=mK hg ha.1 ha.2;obtain⟨s,s1,s2,s3,s4,s5⟩:=By hG lS w3 hw;have EJ:=fO hg;obtain⟨b3,c3,Ry,SA⟩:=R_ zw (MV (0,0) EJ).1;have OJ:B3 [lt bd (0,0),b3,c3] bd.length W bd:=⟨hG,rfl,λx hx=>SA _ (MV x hx).1⟩
 obtain⟨t5,XA,XB,XC⟩:=Sr hG lS w3 hw (Ry.abc _ (by simp)) (Ry.abc b3 (by simp)) (Ry.abc c3 (by simp)) rfl λx hx=>by simpa using OJ.let' x hx
 have XY:s.length<=5:=Yz (s3 t5 XA XC) XB;have gS:=(hX (w:=w) hG s s1).1;have he:(101:Nat)∈abc:=by decide
 have Ut:D.str "e"=sg 101:=aeo D.str (by decide+kernel);have PZ:=Ho (e:=101) ha λz hz=>(MV z hz).2;have U1:=PZ.many hw;refine aT (aj (ρ':=[fz (.scr ns),fz (brd bd),ω,ω,ω,ω,ω,ω,ω,ω,ω,ω]) ((aJ e0).trans rfl) ?_);refine aj (ρ':=[fz (.scr ns),fz (brd bd),fz (cL (aE bd.length W)),ω,ω,ω,ω,ω,ω,ω,ω,ω]) ((aJ ((ao (ds:=[brd bd]) rfl rfl).trans (EB hg))).trans rfl) ?_;refine aj (ρ':=[fz (.scr ns),fz (brd bd),fz (cL (aE bd.length W)),fz (cD a),ω,ω,ω,ω,ω,ω,ω,ω]) ((aJ ((aR (x:=cL (aE bd.length W)) (y:= .int (v:Int)) rfl ((ao (ds:=[.scr ns, .int ((50:Nat):Int), .int ((aE bd.length W).length:Int)]) (aO rfl (aO rfl (aO ((cf (xs:=[cL (aE bd.length W)]) (aO rfl rfl)).trans (Nv _)) rfl))) rfl).trans ev)).trans (Hf UL))).trans rfl) ?_;refine aj (ρ':=[fz (.scr ns),fz (brd bd),fz (cL (aE bd.length W)),fz (cD a),fz (sg c),ω,ω,ω,ω,ω,ω,ω]) ((aJ ((aR (x:= .str "abcf") (y:= .int (u:Int)) rfl ((ao (ds:=[.scr ns, .int ((51:Nat):Int), .int ((4:Nat):Int)]) rfl rfl).trans eu)).trans ec)).trans rfl) ?_;refine aj (ρ':=[fz (.scr ns),fz (brd bd),fz (cL (aE bd.length W)),fz (cD a),fz (sg c),fz (iW w),ω,ω,ω,ω,ω,ω]) ((aJ ((aR (x:= .lst [.int 4, .int 8]) (y:= .int (y:Int)) rfl ((ao (ds:=[.scr ns, .int ((52:Nat):Int), .int ((2:Nat):Int)]) rfl rfl).trans ey)).trans ew)).trans rfl) ?_;refine aj (ρ':=[fz (.scr ns),fz (brd bd),fz (cL (aE bd.length W)),fz (cD a),fz (sg c),fz (iW w),fz (cL (au bd W w a)),ω,ω,ω,ω,ω]) ((aJ ((ao (ds:=[brd bd,cD a,iW w]) rfl rfl).trans eP)).trans rfl) ?_;refine aj (ρ':=Ci ns bd W a c w (au bd W w a) (bC bd W (au bd W w a) c) ω ω ω ω) ((aJ ((ao (ds:=[brd bd,cD a,iW w,sg c]) rfl rfl).trans (kA hg hw ha hc))).trans rfl) ?_;refine aj (ρ':=Ci ns bd W a c w (au bd W w a) (bC bd W (au bd W w a) c) ω ω ω ω) (cF (dq rfl (Hq hG hw ha hc _ λx hx=>aI.mp hx))) ?_;have h8:bw 0 (cE (dV 6)) (cZ (cq (aq 4 fQ (aC (dV 8) (aC (dV 6) (aC (dV 4) (aC (dV 0) aN))))))) (dV 0) (Ci ns bd W a c w (au bd W w a) (bC bd W (au bd W w a) c) ω ω ω ω)=aa (cL []):=by
  refine bP (ds:=(au bd W w a).map cD) rfl ((mL cD (λ_=>μ) cD (au bd W w a) λx hx=>?_).trans (by rw[show (au bd W w a).filter (λ_:Cell=>μ)=[] from adt.mpr λ_ _=>by decide])) (by simp);have L5:=(bA hw ha).mp hx;have ox:=L5.on hw ha;obtain⟨r,hr,er⟩:=yU gF.brd hw Sy (by rw[lF];exact ox);have:r=ψ:=hr.mpr (Mc hw ha ha L5);subst this;rw[l_,show cZ (cq (aq 4 fQ (aC (dV 8) (aC (dV 6) (aC (dV 4) (aC (dV 0) aN)))))) (fz (cD x)::Ci ns bd W a c w (au bd W w a) (bC bd W (au bd W w a) c) ω ω ω ω)=aa μ from oz (b:=ψ) (jX ((ao (ds:=[brd (bC bd W (au bd W w a) c),iW w,cD a,cD x]) rfl rfl).trans er))];rfl
 refine aj (dr (fH ((aR (x:=cL []) (y:=cL []) h8 rfl).trans rfl)) rfl) ?_;refine aj (ρ':=Ci ns bd W a c w (au bd W w a) (bC bd W (au bd W w a) c) ω ω (fz (sg (lt bd a))) ω) ((aJ ((ao (ds:=[brd bd,cD a]) rfl rfl).trans (Hk hG ha))).trans rfl) ?_;refine aj (dr (Gw (fH ((aR (x:=brd (bC bd W (au bd W w a) (lt bd a))) (y:=brd bd) ((ao (ds:=[brd bd,cD a,iW w,sg (lt bd a)]) rfl rfl).trans (kA hg hw ha BH)) rfl).trans (Qy (D0 hG hw ha BH rfl)))) (fH ((aR (x:=brd (bC (bC bd W (au bd W w a) c) W (au (bC bd W (au bd W w a) c) W w a) c)) (y:=brd (bC bd W (au bd W w a) c)) ((ao (ds:=[brd (bC bd W (au bd W w a) c),cD a,iW w,sg c]) rfl rfl).trans (kA gF.brd hw Sy hc)) rfl).trans (Qy (D0 gF hw Sy hc Xn))))) rfl) ?_;have Dd:∀{δ:DE}{ρ:bQ}{z:Nat},z∈abc->dV 1 ρ=aa (brd bd)->dV 3 ρ=aa (cD a)->dV 5 ρ=aa (iW w)->δ ρ=aa (sg z)->aq 4 el (aC (dV 1) (aC (dV 3) (aC (dV 5) (aC δ aN)))) ρ=aa (.int (((aF (bC bd W [a] z) W w).length:Int) - ((aF bd W w).length:Int))):=λ{δ ρ z} hz q1 q3 q5 qd=>(ao (ds:=[brd bd,cD a,iW w,sg z]) (aO q1 (aO q3 (aO q5 (aO qd rfl)))) rfl).trans (Br hG hs hw ha hz);have Pg:((aF (bC bd W [a] 101) W w).length:Int) - ((aF bd W w).length:Int)=(q9 bd W w a:Int):=by omega
 refine aj (dr (Gw (fH ((aR (x:= .int ((aF (bC bd W (au bd W w a) c) W w).length:Int)) (y:= .int ((aF bd W w).length:Int)) ((ao (ds:=[brd (bC bd W (au bd W w a) c),iW w]) rfl rfl).trans (mV gF.brd WM hw)) ((ao (ds:=[brd bd,iW w]) rfl rfl).trans (mV hg hs hw))).trans ((Pu _ _).trans (by rw[aek (Nat.not_lt.mpr (N5 hw ha))])))) (fH ((aR (x:= .int 0) (y:= .int 0) ((Dd BH rfl rfl rfl rfl).trans (by rw[QH hG ha,Int.sub_self])) rfl).trans rfl))) rfl) ?_;have PL:∀{ρ:bQ}{neg:Bool},dV 1 ρ=aa (brd bd)->dV 3 ρ=aa (cD a)->dV 5 ρ=aa (iW w)->cT (d2 (qE neg) (dV 3) (aq 2 jY (aC (dV 1) (aC (dV 5) aN)))) ρ=aa (if neg then !decide (1<q9 bd W w a) else decide (1<q9 bd W w a)):=λ{ρ neg} q1 q3 q5=>fH ((aR (x:=cD a) (y:=cL (rD bd W w)) q3 ((ao (ds:=[brd bd,iW w]) (aO q1 (aO q5 rfl)) rfl).trans (Gr hg hs hw))).trans (Dh.trans (by
  have:decide (a∈rD bd W w)=decide (1<q9 bd W w a):=aem.mpr (vK.trans (and_iff_right ha));rw[this])))
 refine aj (dr ((Gu (PL (neg:=μ) rfl rfl rfl) (fH ((aR (x:= .int (q9 bd W w a:Int)) (y:= .int 2) ((Dd (z:=101) he rfl rfl rfl (by show aa (D.str "e")=_;rw[Ut])).trans (by rw[Pg])) rfl).trans rfl))).trans (by
  show aa (decide (1<q9 bd W w a)&&decide ((q9 bd W w a:Int)<2))=_;by_cases q:1<q9 bd W w a
  ·rw[aek (show¬(q9 bd W w a:Int)<2 by omega),abT]
  ·rw[aek q];rfl)) rfl) ?_
 refine aj (dr ((Gu (PL (neg:=ψ) rfl rfl rfl) (fH ((aR (x:= .int (q9 bd W w a:Int)) (y:= .int 1) ((Dd (z:=101) he rfl rfl rfl (by show aa (D.str "e")=_;rw[Ut])).trans (by rw[Pg])) rfl).trans rfl))).trans (by
  show aa ((!decide (1<q9 bd W w a))&&decide ((1:Int)<(q9 bd W w a:Int)))=_;by_cases q:1<q9 bd W w a
  ·rw[aeg q];rfl
  ·rw[aek (show¬(1:Int)<(q9 bd W w a:Int) by omega),abT])) rfl) ?_
 refine aj (ρ':=Ci ns bd W a c w (au bd W w a) (bC bd W (au bd W w a) c) ω ω (fz (sg (lt bd a))) (fz (.lst (s.map sg)))) ((aJ ((ao (ds:=[brd bd,iW w]) rfl rfl).trans s5)).trans rfl) ?_;have h1:nL (bH W w bd s)=1:=(Hy gS.brd).mpr s2;refine aj (dr (fH ((aR (x:= .int (nL (bH W w bd s):Int)) (y:= .int 1) (Dt gS.brd ((ao (ds:=[brd bd,iW w, .lst (s.map sg)]) rfl rfl).trans (Ae hG hw s1 (by omega)))) rfl).trans (by rw[h1];rfl))) rfl) ?_;refine aP ?_;by_cases hn:s=[]
 ·subst hn;exact MD ((aR (x:= .lst []) (y:= .lst []) rfl rfl).trans rfl)
 ·have hp:0<s.length:=adR.mpr hn;have v6:dA bG (aC (dV 11) aN) (Ci ns bd W a c w (au bd W w a) (bC bd W (au bd W w a) c) ω ω (fz (sg (lt bd a))) (fz (.lst (s.map sg))))=aa (.int (s.length:Int)):=by
   refine(cf (xs:=[.lst (s.map sg)]) (aO rfl rfl)).trans ?_;show aa (D.int ((s.map sg).length:Int))=_;rw[X3]
  have WI:=IM (T:=s.length - 1) Ry OJ hw hg.r1 hg.w1 (by omega) λz hz Xd Xg=>by
   have:=s3 z Xd Xg;omega
  have e1:d2 mS (dV 11) (dA dm aN) (Ci ns bd W a c w (au bd W w a) (bC bd W (au bd W w a) c) ω ω (fz (sg (lt bd a))) (fz (.lst (s.map sg))))=aa (.bl μ):=by
   refine(aR (x:= .lst (s.map sg)) (y:= .lst []) rfl rfl).trans ?_;cases s with
   |nil=>exact ael rfl hn
   |cons x s=>rfl
  refine(ME e1 (q:=ψ) ?_).trans rfl;unfold CT;rw[show aq 3 eM (aC (dV 1) (aC (dV 5) (aC (d2 rU (dA bG (aC (dV 11) aN)) (dC (.int 1))) aN))) (Ci ns bd W a c w (au bd W w a) (bC bd W (au bd W w a) c) ω ω (fz (sg (lt bd a))) (fz (.lst (s.map sg))))=aa (.bl μ) from(ao (ds:=[brd bd,iW w, .int ((s.length - 1:Nat):Int)]) (aO rfl (aO rfl (aO ((aR v6 rfl).trans (by rw[GO];congr 2;omega)) rfl))) rfl).trans WI];rfl
end
end K1
namespace K1
open PySem PySem.Spec L2 L3
open PyProof.Rows hiding St
def DF(K:Ym)(x:Str)(s:Stmt):Prop:=∃(f:Addr) (oc:Value) (od an:Option Addr) (sl:Array (Option Value)) (kV dc pm cd ct:Value),Y1 K YG x=θ (θ (.ref f))/\K.lookup f=θ ⟨oc,od, .func (ZH x x (fZ s) (ba s) (ah s) .none kV dc pm an cd ct),sl⟩/\aav K cd x=ψ/\ZX K (.ref f)=ψ
def DF.mk{K:Ym}{x:Str}{s:Stmt}{f:Addr}{oc:Value}{od an:Option Addr}{sl:Array (Option Value)}{kV dc pm cd ct:Value}(a:Y1 K YG x=θ (θ (.ref f)))(l:K.lookup f=θ ⟨oc,od, .func (ZH x x (fZ s) (ba s) (ah s) .none kV dc pm an cd ct),sl⟩)(c:aav K cd x=ψ)(k:ZX K (.ref f)=ψ):DF K x s:=⟨f,oc,od,an,sl,kV,dc,pm,cd,ct,a,l,c,k⟩
def DF.at{K:Ym}{x:Str}{s:Stmt}{h:Heap}{mg:Str->Option Value}(X:K.In h)(G:h.Ns YG mg)(d:DF K x s):∃f,bo K mg x s f:=by
 obtain⟨f,oc,od,an,sl,kV,dc,pm,cd,ct,a,l,c,k⟩:=d;exact⟨f,aa1 X G a,_,GK (st:=s) l c k⟩
def all_mk{P:YM}{w:World}{K:Ym}{h:Heap}{mg:Str->Option Value}{fa:Addr}(X:K.In h)(G:h.Ns YG mg)(V_:mg "law"=θ (.ref fa))
 {md:Addr}{B7 rk:Option Addr}{Cr:Array (Option Value)}{B6 sk rF tK l8 rC:Value}
 {FI:Tok}
 {AS:Tok}
 {uc:Tok}
 (d_is_whole:DF K "is_whole" my)
 (d_is_letter:DF K "is_letter" kI)
 (d_cells_of_row:DF K "cells_of_row" fk)
 (d_letter_of:DF K "letter_of" kL)
 (d_are_next:DF K "are_next" mv)
 (d_keyed:DF K "keyed" yg)
 (d_numbers_of:DF K "numbers_of" jH)
 (d_distances:DF K "distances" kH)
 (d_drawn_in:DF K "drawn_in" mw)
 (d_law_cell:DF K "_law_cell" mz)
 (d_is_row:DF K "is_row" nN)
 (d_is_cell:DF K "is_cell" pq)
 (d_need_letter:DF K "need_letter" iP)
 (d_need_letters:DF K "need_letters" fm)
 (d_need_ways:DF K "need_ways" kO)
 (d_all_cells:DF K "all_cells" kG)
 (d_next_cells:DF K "next_cells" jG)
 (d_with_letters:DF K "with_letters" fq)
 (d_law_drawn:DF K "_law_drawn" kJ)
 (d_is_board:DF K "is_board" ib)
 (d_need_cell:DF K "need_cell" kM)
 (d_like_cells:DF K "like_cells" gE)
 (d_near_numbers:DF K "near_numbers" ie)
 (d_near_among:DF K "near_among" gG)
 (d_law_board:DF K "_law_board" iD)
 (d_need_board:DF K "need_board" jE)
 (d_steps_back:DF K "steps_back" jI)
 (d_parts_of:DF K "parts_of" mB)
 (d_cells:DF K "cells" ye)
 (d_letter_at:DF K "letter_at" kK)
 (d_letters:DF K "letters" lB)
 (d_need_two_cells:DF K "need_two_cells" fW)
 (d_all_patches:DF K "all_patches" iO)
 (d_patch_of:DF K "patch_of" mC)
 (d_need_paint:DF K "need_paint" jF)
 (d_holds_together:DF K "holds_together" d4)
 (d_how_many:DF K "how_many" mx)
 (d_are_one:DF K "are_one" pk)
 (d_painted:DF K "painted" pz)
 (d_change:DF K "change" tX)
 (d_cuts:DF K "cuts" yf)
 (d_paints_over_v2:DF K "paints_over" fX)
 (d_fewest_paints:DF K "fewest_paints" eF)
 (d_law_reach:DF K "_law_reach" iE)
 (a_law_k41:Y1 K YG "law"=θ (θ (.ref md)))(l_law_k41:K.lookup md=θ ⟨B6,B7, .func (ZH "law" "law" (fZ av) (ba av) (ah av) .none sk rF tK rk l8 rC),Cr⟩)(c_law_k41:aav K l8 "law"=ψ)(k_law_k41:ZX K (.ref md)=ψ)
 (z_len:Y1 K YG "len"=θ ω)
 (z_isinstance:Y1 K YG "isinstance"=θ ω)
 (z_all:Y1 K YG "all"=θ ω)
 (z_abs:Y1 K YG "abs"=θ ω)
 (z_max:Y1 K YG "max"=θ ω)
 (z_min:Y1 K YG "min"=θ ω)
 (z_range:Y1 K YG "range"=θ ω)
 (z_str:Y1 K YG "str"=θ ω)
 (z_int:Y1 K YG "int"=θ ω)
 (z_bool:Y1 K YG "bool"=θ ω)
 (z_tuple:Y1 K YG "tuple"=θ ω)
 (z_list:Y1 K YG "list"=θ ω)
 (z_sorted:Y1 K YG "sorted"=θ ω)
 (z_enumerate:Y1 K YG "enumerate"=θ ω)
 (y_LETTERS:Y1 K YG "LETTERS"=θ (θ (.str "abcdef" FI)))
 (y_MOST_ROWS:Y1 K YG "MOST_ROWS"=θ (θ (.int 8 AS)))
 (y_MOST_COLUMNS:Y1 K YG "MOST_COLUMNS"=θ (θ (.int 8 uc))):
 ∃(cv:Nat->Value) (fd:aat),(∀(s:Yc) (u:Value),ad6 s fd ⟨[u],[]⟩ [("_law_script",u)])/\∀base:Heap,K.In base->base.Ns YG mg->FnOk P w K mg base (lH P w cv) 8 fa fd ["_law_script"] (OS K cv 1 k_):=by
 have ea:=V_.symm.trans (aa1 X G a_law_k41);cases ea;refine⟨λ_=> .none,ZH "law" "law" (fZ av) (ba av) (ah av) .none sk rF tK rk l8 rC,λs v=> .of_eq rfl,λbase KB GB=>?_⟩;have B:Bl K mg base (λ_=> .none) (λ_=>YG) YG:=⟨YT X G z_len,YT X G z_isinstance,YT X G z_all,YT X G z_abs,YT X G z_max,YT X G z_min,YT X G z_range,YT X G z_str,YT X G z_int,YT X G z_bool,YT X G z_tuple,YT X G z_list,YT X G z_sorted,YT X G z_enumerate,⟨_,aa1 X G y_LETTERS⟩,⟨_,aa1 X G y_MOST_ROWS⟩,⟨_,aa1 X G y_MOST_COLUMNS⟩⟩
 have sT:=(DF.at X G d_is_whole).elim λ_ t=>z_ (P:=P) (w:=w) B t;have kq:=(DF.at X G d_is_letter).elim λ_ t=>xy (P:=P) (w:=w) B t;have km:=(DF.at X G d_cells_of_row).elim λ_ t=>qI (P:=P) (w:=w) B t;have iA:=(DF.at X G d_letter_of).elim λ_ t=>xE (P:=P) (w:=w) B t;have BY:=(DF.at X G d_are_next).elim λ_ t=>z6 (P:=P) (w:=w) B t;have q0:=(DF.at X G d_keyed).elim λ_ t=>HS (P:=P) (w:=w) B t;have xt:=(DF.at X G d_numbers_of).elim λ_ t=>uR (P:=P) (w:=w) B t;have zZ:=(DF.at X G d_distances).elim λ_ t=>xx (P:=P) (w:=w) B t;have BZ:=(DF.at X G d_drawn_in).elim λ_ t=>z7 (P:=P) (w:=w) B t;have B2:=(DF.at X G d_law_cell).elim λ_ t=>Aa (P:=P) (w:=w) B t;have HP:=(DF.at X G d_is_row).elim λ_ t=>Ff (P:=P) (w:=w) B kq t;have Fb:=(DF.at X G d_is_cell).elim λ_ t=>B9 (P:=P) (w:=w) B sT t;have uL:=(DF.at X G d_need_letter).elim λ_ t=>sY (P:=P) (w:=w) B kq t;have sV:=(DF.at X G d_need_letters).elim λ_ t=>qK (P:=P) (w:=w) B kq t;have dI:=(DF.at X G d_need_ways).elim λ_ t=>xG (P:=P) (w:=w) B sT t;have kj:=(DF.at X G d_all_cells).elim λ_ t=>xu (P:=P) (w:=w) B km t;have jB:=(DF.at X G d_next_cells).elim λ_ t=>uQ (P:=P) (w:=w) B BY t;have hJ:=(DF.at X G d_with_letters).elim λ_ t=>qL (P:=P) (w:=w) B q0 km iA t;have p8:=(DF.at X G d_law_drawn).elim λ_ t=>xB (P:=P) (w:=w) B B2 t;have B1:=(DF.at X G d_is_board).elim λ_ t=>z9 (P:=P) (w:=w) B HP t;have iB:=(DF.at X G d_need_cell).elim λ_ t=>xF (P:=P) (w:=w) B Fb t;have xq:=(DF.at X G d_like_cells).elim λ_ t=>uM (P:=P) (w:=w) B iA jB t;have sU:=(DF.at X G d_near_numbers).elim λ_ t=>qJ (P:=P) (w:=w) B xt kj jB t;have xr:=(DF.at X G d_near_among).elim λ_ t=>uN (P:=P) (w:=w) B q0 jB t;have z0:=(DF.at X G d_law_board).elim λ_ t=>xA (P:=P) (w:=w) B p8 t;have b0:=(DF.at X G d_need_board).elim λ_ t=>uO (P:=P) (w:=w) B B1 t;have fc:=(DF.at X G d_steps_back).elim λ_ t=>uS (P:=P) (w:=w) B xq t;have B4:=(DF.at X G d_parts_of).elim λ_ t=>Ab (P:=P) (w:=w) B xr zZ q0 t;have KA:=(DF.at X G d_cells).elim λ_ t=>HR (P:=P) (w:=w) B b0 kj t;have z4:=(DF.at X G d_letter_at).elim λ_ t=>xD (P:=P) (w:=w) B b0 iB iA t;have oU:=(DF.at X G d_letters).elim λ_ t=>B_ (P:=P) (w:=w) B b0 t;have oV:=(DF.at X G d_need_two_cells).elim λ_ t=>nq (P:=P) (w:=w) B b0 dI iB t;have f7:=(DF.at X G d_all_patches).elim λ_ t=>sX (P:=P) (w:=w) B kj fc q0 t;have B5:=(DF.at X G d_patch_of).elim λ_ t=>Ac (P:=P) (w:=w) B b0 iB dI fc t;have nj:=(DF.at X G d_need_paint).elim λ_ t=>uP (P:=P) (w:=w) B b0 iB dI uL t;have oT:=(DF.at X G d_holds_together).elim λ_ t=>nk (P:=P) (w:=w) B B4 t;have B0:=(DF.at X G d_how_many).elim λ_ t=>z8 (P:=P) (w:=w) B b0 dI f7 t;have E_:=(DF.at X G d_are_one).elim λ_ t=>B8 (P:=P) (w:=w) B oV fc t;have Fc:=(DF.at X G d_painted).elim λ_ t=>Ca (P:=P) (w:=w) B nj hJ fc t;have HN:=(DF.at X G d_change).elim λ_ t=>Fe (P:=P) (w:=w) B nj hJ f7 t;have NB:=(DF.at X G d_cuts).elim λ_ t=>KG (P:=P) (w:=w) B b0 dI f7 oT t;have i8:=(DF.at X G d_paints_over_v2).elim λ_ t=>nu (P:=P) (w:=w) B oU b0 dI sV hJ fc t;have qH:=(DF.at X G d_fewest_paints).elim λ_ t=>oW (P:=P) (w:=w) B b0 dI f7 sU iA BZ t;have z3:=(DF.at X G d_law_reach).elim λ_ t=>xC (P:=P) (w:=w) B oU i8 t;exact z5 B KA B5 Fc z4 qH p8 B0 HN NB oU z3 i8 z0 E_ (GK (st:=av) l_law_k41 c_law_k41 k_law_k41)
end K1
open PySem PySem.W PyProof.Rows
theorem PySem.Challenge.cw_cellpatches_k41_whole_painting_holds : PySem.Challenge.rw_cellpatches_k41_whole_painting.Holds := by
 w_on;refine holds_law (by kernel_rfl) λXz=>?_
 refine holds_open (q:=K1.AY) (loose:=[]) (Xt:=λs=>xlAt K1.AY [] s&&recOk (RowW.records (OpenRow.toRowW _)) s) (XP:=XL K1.AY []) (Yf:=Hook.obs (kHook K1.rZ K1.rY (λ_=>by kernel_rfl))) (Ya:=Hook.val (kHook K1.rZ K1.rY (λ_=>by kernel_rfl))) (YP:=Hook.says (kHook K1.rZ K1.rY (λ_=>by kernel_rfl))) (N:=5170) ?hl (Hook.of (kHook K1.rZ K1.rY (λ_=>by kernel_rfl))) (Hook.keeps (kHook K1.rZ K1.rY (λ_=>by kernel_rfl))) (λs e=>xl_of s (ZQ.mp e).1) XL.keeps (by rfl) (by rfl) (by rfl) (λs e=>recFacts_of (ZQ.mp e).2) (by rfl) (by first | assumption | decide+kernel) (by decide+kernel) ⟨rfl,rfl,rfl,rfl,rfl,by decide+kernel⟩ ?hw ?hc
 case hl=>exact K1.PY
 (case hw=>w_witness2)
 k_fill
 refine L3.Rm (l:=PySem.Challenge.rw_cellpatches_k41_whole_painting) (k:=8) (n:=63) (x:="_law_script") (g:=K1.k_) rfl (by decide) rfl ⟨rfl,by decide,by decide⟩ (λw h Y=>PySem.W.kIn_of Y) K1.Hl ?F
 case F=>
  intro w mg fa h KX G MX;refine' K1.all_mk KX G MX ?d_is_whole ?d_is_letter ?d_cells_of_row ?d_letter_of ?d_are_next ?d_keyed ?d_numbers_of ?d_distances ?d_drawn_in ?d_law_cell ?d_is_row ?d_is_cell ?d_need_letter ?d_need_letters ?d_need_ways ?d_all_cells ?d_next_cells ?d_with_letters ?d_law_drawn ?d_is_board ?d_need_cell ?d_like_cells ?d_near_numbers ?d_near_among ?d_law_board ?d_need_board ?d_steps_back ?d_parts_of ?d_cells ?d_letter_at ?d_letters ?d_need_two_cells ?d_all_patches ?d_patch_of ?d_need_paint ?d_holds_together ?d_how_many ?d_are_one ?d_painted ?d_change ?d_cuts ?d_paints_over_v2 ?d_fewest_paints ?d_law_reach ?a_law_k41 ?l_law_k41 ?c_law_k41 ?k_law_k41 ?z_len ?z_isinstance ?z_all ?z_abs ?z_max ?z_min ?z_range ?z_str ?z_int ?z_bool ?z_tuple ?z_list ?z_sorted ?z_enumerate ?y_LETTERS ?y_MOST_ROWS ?y_MOST_COLUMNS
  any_goals (refine' K1.DF.mk ?a ?l ?c ?k;(case a=>k_is);(case l=>k_is);(case c=>k_is);(case k=>k_is))
  any_goals first | k_is | kit_is | k_exc | rfl
