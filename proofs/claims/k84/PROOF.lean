import PyProof.Rows.All
import KE.KDictSum
import KE.KSortTup
import KE.KStateDown
import KE.RegKIsAll
import Lean
import PySem.Challenge.RW_cellpatches_k84_whole_keepers
open PySem renaming wpAny_bind->V2,wpAny_pure->V_,Shared->Wa,starEach->Wf,sizeLine->Wr,mainGlobals->Ws,Program->Wz,attributeBase->WR,bootBuiltins->WX,compareOp->W7,Around->Xa,wpAny_dictEntries->Xg,behindInMarks->Xh,keywordEach->Xi,wpAny_mono->Xl,sysModules->Xq,wpAny_call_entry->Xu,backTo->Xv,wpAny_truthy_bool->XA,wpAny_newObj_type->XB,mem_of_lookup->XN,backToKw->X7,wpAny_dictEpoch->X_,DictEntry->Yb,wpAny_typeNameOfWhole_itemiter->Ye,sizeLine_eq->Yi,wpAny_typeNameOfWhole_keyiter->Yl,tupleKind->Ym,swapsWith->Yn,Keyword->Yp,tupleKind_room_in1->Yq,FuncData->Ys,wpAny_passesOwn->Yu,wpAny_holding->Yz,wpAny_typeNameOf_itemiter->YK,wpAny_typeNameOf_keyiter->YQ,wpAny_setField_rec->YW,wpAny_callSpecial?_slot->YX,foldedSetIterable->Y3,argBest->Y4,IsItemIter->Y6,sliceBounds->Zl,importedModules->Zm,getMethod->Zn,wpAny_Call_Name_kw->Zx,binaryOp->Zy,NameKind->Zz,pyNext->ZG,storedH->ZM,wpAny_isOneOf_itemiter->ZS,wpAny_notOrdered_dict->ZX,wpAny_execs_nil->ZY,rawInt->ZZ,letOwnedTupleGo->Z0,codeAny->Z1,callWith->Z_,assignEach->aaa,wpAny_tryCatch->aag,wpAny_fieldsOf->aah,wpAny_letGo->aaj,standAt->aak,wpAny_attempt->aaq,treeTable->aar,swapsWithSole->aas,plainId_quiet->aat,dictSetHashed->aau,bindArgs->aav,Paired->aaz,wpAny_pyIter_slot->aaO,wpAny_pyIter_list->aaP,wpAny_assign_Name->aaQ,wpAny_Call_method->aaR,entryOfKey->aaS,callerA->aaT,Builtin->aa3,codeAny_mono->aa4,call_meetsIn->aa5,wpAny_isInstance->abc,wpAny_forIn_list->abd,noFill_tuple_add->abe,wpAny_updateSeq->abp,wpAny_specialOf->abq,wpAny_field->abr,valueAt->abt,size_of_entries->abu,richCompare->abv,codeAny_builtin->abw,Within->abx,PassesOwn->aby,Params->abz,IsRangeIter->abC,wpAny_setField->abI,wpAny_seqItems->abJ,recursionLimit->abK,firstArgMember->abL,evalArgs_none->abN,wpAny_comprehension_free->abY,pyIter->abZ,call_meets->ab0,wpAny_Call_method0_late->ab8,seq_tuple_add->ab9,notedBy->ab_,getItem->aca,call->acf,IsItemIterOut->acn,BindsTo->acp,wpAny_pyNext_range_end->acr,wpAny_pyIter_rangeiter->acs
open List renaming mem_cons_of_mem->V3,length_map->V4,getElem?_eq_getElem->V5,mem_cons_self->V6,length_cons->V7,getElem?_map->Wb,mem_cons->Wc,getElem?_eq_some_iff->We,map_cons->Wg,length_append->Wh,size_toArray->Wi,mem_map->Wn,mem_singleton->Wo,getD_eq_getElem?_getD->Wq,mem_append_right->Ww,replicate->Wx,range->Wy,getElem?_append_left->WB,getElem?_append_right->WJ,range'->WL,getElem?_cons_zero->WM,getElem?_set_self->WQ,all_eq_true->WT,nodup_cons->WV,getElem?_cons_succ->WW,map_map->WY,getElem?_set_ne->W0,mem_append->W3,map_append->W4,append_nil->W5,nodup_append->W_,mem_of_getElem?->Xb,length_nil->Xc,getElem?_replicate->Xd,lookup_cons->Xj,filter_cons->Xk,pairwise_cons->Xn,nil_append->Xy,mem_filter->Xz,mem_append_left->XH,toArray->XI,getElem_of_mem->XO,zip_cons_cons->XY,length_filter_le->XZ,pairwise_iff_getElem->X1,Nodup->X3,flatMap_cons->Yr,nodup_nil->Yw,mem_range->Yx,range'_succ->YB,getElem_mem->YC,cons_append->YD,getElem?_range->YF,map_nil->YH,all_map->YI,find?_cons->YN,all_cons->YO,range_succ_eq_map->YU,length_range->YV,length_replicate->Y0,getElem?_eq_none->Y1,mem_iff_getElem->Y5,countP_eq_length_filter->Y8,any_cons->Y9,map_congr_left->Zb,lookup->Zc,length_zip->Zd,set_cons_succ->Zi,drop_eq_getElem_cons->Zk,pairwise_map->Zt,append_assoc->Zu,sum_cons->ZA,length_eq_zero_iff->ZC,length_take->ZF,forIn_cons->ZJ,range_eq_range'->ZR,filterMap_cons->ZW,set_cons_zero->aac,length_range'->aad,drop_length->aap,mem_zipIdx_iff_getElem?->aaA,of_mem_zip->aaG,foldl_cons->aaH,filter_map->aaI,getElem?_zip_eq_some->aa_,length_erase_of_mem->abj,idxOf_lt_length_iff->abk,take_of_length_le->abA,length_pos_of_mem->abB,getElem?_toArray->abF,dropLast_eq_take->abG,pairwise_append->abT,length_dropLast->abU,getElem?_mapIdx->abV,length_pos_iff->ab3,length_flatMap->ab4,mem_filterMap->ack,getElem_idxOf->acm,mem_range'_1->acy
open PySem.Heap renaming get?_push_of_some->V8,lt_size->Wl,get?_push_size->Wm,SameBut->Xo,get?_update_self->X0,size_push->Yd,get?_update_other->Yh,get?_none_of_le->abW,ExtBut->ab6
open PySem.W renaming Frag->V9,nsIn->WE,findIn->WK,mg_none_of->WN,keepIn->W2,fnOf->W6,kia_one->Xm,emptyDict->Xp,codeIn->XG,instObj->X2,mg_of->X4,isFn->YS,plainGet->Zs,methodCall_KW->ZD,makesIn->ZE,lookIn->ZI,plainGet_of->ZN,callWith_K->ZT,methodObj->Z2,hasDictIn->Z3,takerIn->aam,kitOne->aay,cellsFrom_some->aa7,plainOver->abO,kitx_list->abP,kitx_dict->abQ,handedIn->ab1,OpenLaw->acg
open Nat renaming le_refl->Wj,ne_of_lt->WA,lt_of_lt_of_le->WH,le_trans->WZ,zero_le->W8,lt_irrefl->Xe,ne_of_gt->XM,le_of_lt->X8,lt_of_succ_lt->Yt,lt_succ_self->YE,lt_trans->YJ,lt_of_le_of_lt->Zj,mul_le_mul->Zp,zero_add->ZO,le_succ->Z5,lt_succ_of_lt->aan,le_antisymm->aaX,div_div_eq_div_mul->abE,succ_pos->abR,le_of_eq->abS,mul_le_mul_right->ab2,add_right_comm->acw
open PySem.Str renaming ofString->Wk
open Bool renaming false_ne_true->Wt,false_eq_true->WO,and_eq_true->WU,eq_iff_iff->Ze,not_false->ZV,true_and->abl,and_true->abm,and_eq_true_iff->abX
open Array renaming length_toList->Wu,getElem?_toList->Xx,getElem?_eq_getElem->Yv,append_assoc->Z7,getElem?_eq_some_iff->aaN,getElem?_eq_none->abn,isEmpty_iff->acq
open PySem.Value renaming ref->Wv,none->W9,bool->YR,str->aaw,int->aax,type->aa6,float->abM
open Option.some renaming inj->WC
open PySem.FuncBody renaming stmts->WD
open PySem.PassesOwn renaming never->WG
open PySem.Data renaming fields->WI,func->Xr,dict->Yy,cls->aco
open PySem.Heap.SameBut renaming update->WS,refl->aba
open ForInStep renaming yield->Xf
open PySem.Builtin.Dict_items renaming ownsTuple->Xs,ownedTupleIsFree->Zf,ownedTupleFields->Zg,pairFromOwner->Zr
open PySem.Builtin.Str renaming occurrences->XC
open PyProof.Rows renaming callWith_type1->XD,IntsAre->X6,seqObj->YY,envOfC->YZ,kindOf->ZQ,AllBare->Z8,lt_int->aaF,subscriptTail_builtinR->acu
open False renaming elim->XJ
open PySem.Calls renaming callWith_builtin->XQ,spliced_cons->YL,evalArgs_plain->Y2,spliced_nil->Zq,Name_function_global->aaM
open Ne renaming symm->XR
open PySem.F renaming slot_dict_get->XU,plainAttrs_list->X5,slot_dict_itemiterator_next->Yj,plain_min_loop->Yk,slot_dict_keyiterator_next->Yo,plainAttrs_dict->YG,entry_dict_get->YM,args_tuple_add_2->Zh,entry_tuple_add->Zo,slot_tuple_add->Zv,args_dict_itemiterator_next_1->aaB,type_list_append->aaC,slot_list_append->aaD,slot_dict_update->aaE,entry_dict_itemiterator_next->aaK,args_dict_keyiterator_next_1->aaL,args_dict_get_3->aaV,args_dict_get_2->aaW,slot_dict_itemiterator_iter->aa0,entry_min_loop->aa1,entry_dict_keyiterator_next->aa2,plainAttrs_str->aa8,type_dict_get->abi,slot_dict_items_iter->ab7
open PySem.Paired renaming length->XW
open True renaming intro->XX
open PySem.Builtin.Dict renaming showsAll->X9,entriesForEmpty->ZU,updateFrom->aai,mergeDict->aao
open Option renaming map_eq_some_iff->Yc,isSome_iff_exists->YA,isSome_map->aab,getD_some->aci,getD_none->acj
open PySem.Obj renaming mapSeq->Yg,data_mapDictKeys->Y7,isFreed_of_dict->Z4,data_mapFields->acv
open PUnit renaming unit->YT
open PySem.Builtin.List renaming listTooLong->Y_
open Classical renaming byContradiction->Za,not_forall->abb,not_imp->abD
open Int renaming toNat_natCast->Zw,emod_lt_of_pos->aae,emod_nonneg->aaZ
open List.Pairwise renaming imp->ZH,nil->aaY
open PySem.Builtin.Builtins renaming bindParams->ZK
open PySem.Around renaming under_plainId->ZL,under->abo
open Int.ofNat renaming inj->ZP
open PySem.Builtin.Tuple renaming tupleHashOf->Z6
open ToString renaming toString->Z9
open PySem.Builtin.Range renaming rangeSize->aaf
open Sum renaming inl->aal,inr->aaU
open Function renaming comp->aaJ
open PyProof renaming noPylong_small->aa9
open PySem.SeqAt.EqAt renaming str_int->abf,int_str->abg,int_int->abh
open PySem.Code renaming isFrame->abH
open List.Perm renaming refl->ab5
open PySem.Walks renaming list->acb
open PySem.StrLaws renaming occBody->acd
open PySem.SeqAt renaming EqAt->ace
open Prod renaming ext->ach
open PySem.NameKind renaming free->acx
set_option maxHeartbeats 0
set_option compiler.extract_closed false
set_option Elab.async false
set_option linter.all false
set_option maxRecDepth 100000
abbrev acz:=@if_pos
abbrev acA:=@if_neg
abbrev acB:=@decide_eq_true
abbrev acC:=@absurd
abbrev acD:=@decide_eq_false
abbrev acE:=@decide_eq_true_eq
abbrev acF:=@of_decide_eq_true
abbrev acG:=@beq_eq_false_iff_ne
abbrev acH:=@congrArg
namespace L2
open PySem
def aQ(s:Stmt):Arguments:=match s with
 | .FunctionDef _ a _ _ _ _ _ _ _ _=>a
 |_=>{posonlyargs:=[],args:=[],vararg:=none,kwonlyargs:=[],kw_defaults:=[],kwarg:=none,defaults:=[]}
def aF(s:Stmt):List Stmt:=match s with
 | .FunctionDef _ _ b _ _ _ _ _ _ _=>b
 |_=>[]
def ai(s:Stmt):Scope:=match s with
 | .FunctionDef _ _ _ _ _ _ sc _ _ _=>sc
 |_=>{kind:= .function,names:=[],isGenerator:=false,isCoroutine:=false}
end L2
namespace L3
open PySem
def aA:Stmt->List Stmt
 | .ClassDef _ _ _ b _ _ _ _ _ _ _=>b
 |_=>[]
end L3
namespace K1
open PySem PySem.Spec
def top(i:Nat):Stmt:=PySem.Challenge.pw_cellpatches_k84_whole_keepers.main.body.getD i (.Pass ⟨0,0,0,0⟩)
abbrev hS(s:String)(t:Tok):Value:= .str (Wk s) t
abbrev hE(P:abz)(s:String)(t:Tok)(v:Value):Yb:={hash:=PyData.keyHash P (Wk s),key:=hS s t,val:=v}
abbrev hT(xs:Array Value):Obj:={cls:= .type "tuple",data:=Data.seq xs}
abbrev hF(s:String)(t:Stmt)(m:Value)(c:Addr):Obj:={cls:= .type "function",data:=Xr {name:=Wk s,qualname:=Wk s,params:=L2.aQ t,body:=WD (L2.aF t),scope:=L2.ai t,globals:=3,closure:=[],defaults:= .none,kwdefaults:= .none,pyModule:=m,code:= .ref c} }
abbrev jj(s:String)(t1 t2 t3:Tok)(l n f:Int)(a:Addr)(v:Int)(b:Addr)(x y:Value)(d:Addr)(p:Int)(t4:Tok):Obj:={cls:= .type "code",data:=WI #[hS s t1,hS s t2,hS "/claim/cut.py" t3, .int l 0, .int n 0, .int 0 0, .int 0 0, .int f 0, .ref a, .bool true, .int v 0, .ref b, .none,x,y, .ref d, .int p 0, .int l 0,hS "/claim/cut.py" t4]}
abbrev y0:Value:=hS "cellpatches.boards" 310
abbrev Lv:Value:=hS "cellpatches.errors" 194
abbrev MV:Value:=hS "law_cellpatches_k84_whole_keepers" 811
abbrev MW:Value:=hS "cellpatches.patches" 451
abbrev NK:Value:=hS "cellpatches.melting" 527
abbrev QR:Value:=hS "cellpatches.games" 690
abbrev MU(n:String)(b a ns r:Addr)(t1 t2:Tok):Obj:={cls:= .type "type",data:=aco {name:=Wk n,bases:=[.ref b],mro:=[.ref a, .ref b, .type "ValueError", .type "Exception", .type "BaseException", .type "object"],ns:=ns,qualname:=Wk n},slots:= #[some (.ref r),none,some (hS n t1),some (hS n t2),some (.builtin "ValueError.__new__"),some (.bool true)]}
def m_:abz->V9:=λP=>(nat_lit 2,{cls:= .none,data:=Yy #[]})::
 (nat_lit 3,{cls:= .type "dict",data:=Yy #[hE P "__name__" 165 MV,hE P "__doc__" 166 .none,hE P "__package__" 167 .none,hE P "__loader__" 168 (.builtin "__main__.__loader__#opaque"),hE P "__spec__" 169 .none,hE P "__annotations__" 170 (.ref 6),hE P "__builtins__" 171 (.ref 4),hE P "__file__" 173 (hS "/claim/cut.py" 172),hE P "__cached__" 174 .none,hE P "_wall" 193 (.ref 21),hE P "PatchError" 213 (.ref 31),hE P "NoBoard" 229 (.ref 44),hE P "NoWays" 245 (.ref 56),hE P "NoCell" 261 (.ref 68),hE P "NoLetter" 277 (.ref 80),hE P "NoNumber" 293 (.ref 92),hE P "Nothing" 309 (.ref 104),hE P "LETTERS" 313 (hS "abcdef" 312),hE P "MOST_ROWS" 315 (.int 8 314),hE P "MOST_COLUMNS" 317 (.int 8 316),hE P "is_whole" 324 (.ref 113),hE P "is_letter" 331 (.ref 120),hE P "is_row" 337 (.ref 125),hE P "is_board" 343 (.ref 130),hE P "is_cell" 351 (.ref 137),hE P "need_board" 358 (.ref 144),hE P "need_cell" 366 (.ref 151),hE P "need_letter" 373 (.ref 158),hE P "need_ways" 380 (.ref 165),hE P "cells_of_row" 386 (.ref 170),hE P "all_cells" 395 (.ref 177),hE P "letter_of" 403 (.ref 184),hE P "are_next" 414 (.ref 191),hE P "next_cells" 426 (.ref 198),hE P "keyed" 435 (.ref 205),hE P "with_letters" 441 (.ref 210),hE P "with_letter" 450 (.ref 217),hE P "like_cells" 458 (.ref 222),hE P "steps_back" 472 (.ref 229),hE P "all_patches" 484 (.ref 236),hE P "numbers_of" 495 (.ref 243),hE P "patches" 503 (.ref 250),hE P "how_many" 511 (.ref 257),hE P "shared_sides" 526 (.ref 264),hE P "GREATEST_LEAST" 530 (.int 64 529),hE P "need_melting" 539 (.ref 271),hE P "melts_into" 552 (.ref 278),hE P "after_one" 558 (.ref 283),hE P "all_steps" 569 (.ref 290),hE P "melted" 578 (.ref 297),hE P "need_paint" 590 (.ref 304),hE P "painted" 600 (.ref 311),hE P "Keeper" 689 (.ref 377),hE P "EMPTY" 693 (hS "." 692),hE P "can_be_taken" 701 (.ref 388),hE P "many_letters" 707 (.ref 393),hE P "Game" 810 (.ref 478),hE P "_law_cell" 820 (.ref 489),hE P "_law_drawn" 830 (.ref 496),hE P "_law_board" 836 (.ref 501),hE P "_law_cell_in" 845 (.ref 508),hE P "law" 851 (.ref 513)] 62})::
 (nat_lit 15,hT #[])::
 (nat_lit 17,hT #[hS "k" 190])::
 (nat_lit 18,hT #[])::
 (nat_lit 20,jj "_wall" 187 188 189 1 1 3 15 181 16 (.ref 17) (.ref 18) 19 191 192)::
 (nat_lit 21,hF "_wall" (top 0) (hS "__main__" 164) 20)::
 (nat_lit 22,hT #[.type "ValueError"])::
 (nat_lit 29,hT #[])::
 (nat_lit 30,{cls:= .type "dict",data:=Yy #[hE P "__module__" 203 Lv,hE P "__firstlineno__" 207 (.int 5 206),hE P "__static_attributes__" 208 (.ref 29),hE P "__weakref__" 210 (.ref 32),hE P "__doc__" 211 .none] 3})::
 (nat_lit 31,{cls:= .type "type",data:=aco {name:=Wk "PatchError",bases:=[.type "ValueError"],mro:=[.ref 31, .type "ValueError", .type "Exception", .type "BaseException", .type "object"],ns:=30,qualname:=Wk "PatchError",subclasses:=[.ref 44, .ref 56, .ref 68, .ref 80, .ref 92, .ref 104]},slots:= #[some (.ref 22),none,some (hS "PatchError" 196),some (hS "PatchError" 204),some (.builtin "ValueError.__new__"),some (.bool true)]})::
 (nat_lit 32,{cls:= .type "getset_descriptor",data:=WI #[hS "__weakref__" 209, .ref 31, .builtin "ExceptionGroup.__weakref__", .none]})::
 (nat_lit 35,hT #[.ref 31])::
 (nat_lit 42,hT #[])::
 (nat_lit 43,{cls:= .type "dict",data:=Yy #[hE P "__module__" 221 Lv,hE P "__firstlineno__" 225 (.int 7 224),hE P "__static_attributes__" 226 (.ref 42),hE P "__doc__" 227 .none] 2})::
 (nat_lit 44,MU "NoBoard" 31 44 43 35 214 222)::
 (nat_lit 47,hT #[.ref 31])::
 (nat_lit 54,hT #[])::
 (nat_lit 55,{cls:= .type "dict",data:=Yy #[hE P "__module__" 237 Lv,hE P "__firstlineno__" 241 (.int 9 240),hE P "__static_attributes__" 242 (.ref 54),hE P "__doc__" 243 .none] 2})::
 (nat_lit 56,MU "NoWays" 31 56 55 47 230 238)::
 (nat_lit 59,hT #[.ref 31])::
 (nat_lit 66,hT #[])::
 (nat_lit 67,{cls:= .type "dict",data:=Yy #[hE P "__module__" 253 Lv,hE P "__firstlineno__" 257 (.int 11 256),hE P "__static_attributes__" 258 (.ref 66),hE P "__doc__" 259 .none] 2})::
 (nat_lit 68,MU "NoCell" 31 68 67 59 246 254)::
 (nat_lit 71,hT #[.ref 31])::
 (nat_lit 78,hT #[])::
 (nat_lit 79,{cls:= .type "dict",data:=Yy #[hE P "__module__" 269 Lv,hE P "__firstlineno__" 273 (.int 13 272),hE P "__static_attributes__" 274 (.ref 78),hE P "__doc__" 275 .none] 2})::
 (nat_lit 80,MU "NoLetter" 31 80 79 71 262 270)::
 (nat_lit 83,hT #[.ref 31])::
 (nat_lit 90,hT #[])::
 (nat_lit 91,{cls:= .type "dict",data:=Yy #[hE P "__module__" 285 Lv,hE P "__firstlineno__" 289 (.int 15 288),hE P "__static_attributes__" 290 (.ref 90),hE P "__doc__" 291 .none] 2})::
 (nat_lit 92,MU "NoNumber" 31 92 91 83 278 286)::
 (nat_lit 95,hT #[.ref 31])::
 (nat_lit 102,hT #[])::
 (nat_lit 103,{cls:= .type "dict",data:=Yy #[hE P "__module__" 301 Lv,hE P "__firstlineno__" 305 (.int 17 304),hE P "__static_attributes__" 306 (.ref 102),hE P "__doc__" 307 .none] 2})::
 (nat_lit 104,MU "Nothing" 31 104 103 95 294 302)::
 (nat_lit 107,hT #[])::
 (nat_lit 109,hT #[hS "thing" 321])::
 (nat_lit 110,hT #[])::
 (nat_lit 112,jj "is_whole" 318 319 320 23 1 3 107 181 108 (.ref 109) (.ref 110) 111 322 323)::
 (nat_lit 113,hF "is_whole" (top 13) y0 112)::
 (nat_lit 114,hT #[])::
 (nat_lit 116,hT #[hS "thing" 328])::
 (nat_lit 117,hT #[])::
 (nat_lit 119,jj "is_letter" 325 326 327 25 1 3 114 181 115 (.ref 116) (.ref 117) 118 329 330)::
 (nat_lit 120,hF "is_letter" (top 14) y0 119)::
 (nat_lit 121,hT #[])::
 (nat_lit 124,jj "is_row" 332 333 334 27 1 3 121 181 122 .none .none 123 335 336)::
 (nat_lit 125,hF "is_row" (top 15) y0 124)::
 (nat_lit 126,hT #[])::
 (nat_lit 129,jj "is_board" 338 339 340 31 1 3 126 181 127 .none .none 128 341 342)::
 (nat_lit 130,hF "is_board" (top 16) y0 129)::
 (nat_lit 131,hT #[])::
 (nat_lit 133,hT #[hS "board" 347,hS "thing" 348])::
 (nat_lit 134,hT #[])::
 (nat_lit 136,jj "is_cell" 344 345 346 37 2 3 131 181 132 (.ref 133) (.ref 134) 135 349 350)::
 (nat_lit 137,hF "is_cell" (top 17) y0 136)::
 (nat_lit 138,hT #[])::
 (nat_lit 140,hT #[hS "thing" 355])::
 (nat_lit 141,hT #[])::
 (nat_lit 143,jj "need_board" 352 353 354 43 1 3 138 181 139 (.ref 140) (.ref 141) 142 356 357)::
 (nat_lit 144,hF "need_board" (top 18) y0 143)::
 (nat_lit 145,hT #[])::
 (nat_lit 147,hT #[hS "board" 362,hS "thing" 363])::
 (nat_lit 148,hT #[])::
 (nat_lit 150,jj "need_cell" 359 360 361 46 2 3 145 181 146 (.ref 147) (.ref 148) 149 364 365)::
 (nat_lit 151,hF "need_cell" (top 19) y0 150)::
 (nat_lit 152,hT #[])::
 (nat_lit 154,hT #[hS "thing" 370])::
 (nat_lit 155,hT #[])::
 (nat_lit 157,jj "need_letter" 367 368 369 49 1 3 152 181 153 (.ref 154) (.ref 155) 156 371 372)::
 (nat_lit 158,hF "need_letter" (top 20) y0 157)::
 (nat_lit 159,hT #[])::
 (nat_lit 161,hT #[hS "thing" 377])::
 (nat_lit 162,hT #[])::
 (nat_lit 164,jj "need_ways" 374 375 376 52 1 3 159 181 160 (.ref 161) (.ref 162) 163 378 379)::
 (nat_lit 165,hF "need_ways" (top 21) y0 164)::
 (nat_lit 166,hT #[])::
 (nat_lit 169,jj "cells_of_row" 381 382 383 55 2 3 166 181 167 .none .none 168 384 385)::
 (nat_lit 170,hF "cells_of_row" (top 22) y0 169)::
 (nat_lit 171,hT #[])::
 (nat_lit 173,hT #[hS "board" 390,hS "found" 391,hS "row" 392])::
 (nat_lit 174,hT #[])::
 (nat_lit 176,jj "all_cells" 387 388 389 57 1 3 171 181 172 (.ref 173) (.ref 174) 175 393 394)::
 (nat_lit 177,hF "all_cells" (top 23) y0 176)::
 (nat_lit 178,hT #[])::
 (nat_lit 180,hT #[hS "board" 399,hS "cell" 400])::
 (nat_lit 181,hT #[])::
 (nat_lit 183,jj "letter_of" 396 397 398 62 2 3 178 181 179 (.ref 180) (.ref 181) 182 401 402)::
 (nat_lit 184,hF "letter_of" (top 24) y0 183)::
 (nat_lit 185,hT #[])::
 (nat_lit 187,hT #[hS "one" 407,hS "other" 408,hS "ways" 409,hS "down" 410,hS "along" 411])::
 (nat_lit 188,hT #[])::
 (nat_lit 190,jj "are_next" 404 405 406 64 3 3 185 181 186 (.ref 187) (.ref 188) 189 412 413)::
 (nat_lit 191,hF "are_next" (top 25) y0 190)::
 (nat_lit 192,hT #[])::
 (nat_lit 194,hT #[hS "board" 418,hS "cell" 419,hS "ways" 420,hS "found" 421,hS "row" 422,hS "column" 423])::
 (nat_lit 195,hT #[])::
 (nat_lit 197,jj "next_cells" 415 416 417 70 3 3 192 181 193 (.ref 194) (.ref 195) 196 424 425)::
 (nat_lit 198,hF "next_cells" (top 26) y0 197)::
 (nat_lit 199,hT #[])::
 (nat_lit 201,hT #[hS "things" 430,hS "found" 431,hS "thing" 432])::
 (nat_lit 202,hT #[])::
 (nat_lit 204,jj "keyed" 427 428 429 77 1 3 199 181 200 (.ref 201) (.ref 202) 203 433 434)::
 (nat_lit 205,hF "keyed" (top 27) y0 204)::
 (nat_lit 206,hT #[])::
 (nat_lit 209,jj "with_letters" 436 437 438 82 3 3 206 181 207 .none .none 208 439 440)::
 (nat_lit 210,hF "with_letters" (top 28) y0 209)::
 (nat_lit 211,hT #[])::
 (nat_lit 213,hT #[hS "board" 445,hS "cell" 446,hS "letter" 447])::
 (nat_lit 214,hT #[])::
 (nat_lit 216,jj "with_letter" 442 443 444 89 3 3 211 181 212 (.ref 213) (.ref 214) 215 448 449)::
 (nat_lit 217,hF "with_letter" (top 29) y0 216)::
 (nat_lit 218,hT #[])::
 (nat_lit 221,jj "like_cells" 453 454 455 95 3 3 218 181 219 .none .none 220 456 457)::
 (nat_lit 222,hF "like_cells" (top 31) MW 221)::
 (nat_lit 223,hT #[])::
 (nat_lit 225,hT #[hS "board" 462,hS "start" 463,hS "ways" 464,hS "back" 465,hS "ring" 466,hS "further" 467,hS "cell" 468,hS "near" 469])::
 (nat_lit 226,hT #[])::
 (nat_lit 228,jj "steps_back" 459 460 461 98 3 3 223 181 224 (.ref 225) (.ref 226) 227 470 471)::
 (nat_lit 229,hF "steps_back" (top 32) MW 228)::
 (nat_lit 230,hT #[])::
 (nat_lit 232,hT #[hS "board" 476,hS "ways" 477,hS "found" 478,hS "seen" 479,hS "cell" 480,hS "patch" 481])::
 (nat_lit 233,hT #[])::
 (nat_lit 235,jj "all_patches" 473 474 475 110 2 3 230 181 231 (.ref 232) (.ref 233) 234 482 483)::
 (nat_lit 236,hF "all_patches" (top 33) MW 235)::
 (nat_lit 237,hT #[])::
 (nat_lit 239,hT #[hS "found" 488,hS "numbers" 489,hS "number" 490,hS "patch" 491,hS "cell" 492])::
 (nat_lit 240,hT #[])::
 (nat_lit 242,jj "numbers_of" 485 486 487 119 1 3 237 181 238 (.ref 239) (.ref 240) 241 493 494)::
 (nat_lit 243,hF "numbers_of" (top 34) MW 242)::
 (nat_lit 244,hT #[])::
 (nat_lit 246,hT #[hS "board" 499,hS "ways" 500])::
 (nat_lit 247,hT #[])::
 (nat_lit 249,jj "patches" 496 497 498 125 2 3 244 181 245 (.ref 246) (.ref 247) 248 501 502)::
 (nat_lit 250,hF "patches" (top 35) MW 249)::
 (nat_lit 251,hT #[])::
 (nat_lit 253,hT #[hS "board" 507,hS "ways" 508])::
 (nat_lit 254,hT #[])::
 (nat_lit 256,jj "how_many" 504 505 506 129 2 3 251 181 252 (.ref 253) (.ref 254) 255 509 510)::
 (nat_lit 257,hF "how_many" (top 36) MW 256)::
 (nat_lit 258,hT #[])::
 (nat_lit 260,hT #[hS "board" 517,hS "found" 518,hS "numbers" 519,hS "shared" 520,hS "cell" 521,hS "near" 522,hS "pair" 523])::
 (nat_lit 261,hT #[])::
 (nat_lit 263,jj "shared_sides" 514 515 516 134 2 3 258 181 259 (.ref 260) (.ref 261) 262 524 525)::
 (nat_lit 264,hF "shared_sides" (top 38) (hS "cellpatches.measures" 512) 263)::
 (nat_lit 265,hT #[])::
 (nat_lit 267,hT #[hS "board" 534,hS "ways" 535,hS "least" 536])::
 (nat_lit 268,hT #[])::
 (nat_lit 270,jj "need_melting" 531 532 533 145 3 3 265 181 266 (.ref 267) (.ref 268) 269 537 538)::
 (nat_lit 271,hF "need_melting" (top 41) NK 270)::
 (nat_lit 272,hT #[])::
 (nat_lit 274,hT #[hS "board" 543,hS "found" 544,hS "number" 545,hS "choices" 546,hS "pair" 547,hS "sides" 548,hS "other" 549])::
 (nat_lit 275,hT #[])::
 (nat_lit 277,jj "melts_into" 540 541 542 150 3 3 272 181 273 (.ref 274) (.ref 275) 276 550 551)::
 (nat_lit 278,hF "melts_into" (top 42) NK 277)::
 (nat_lit 279,hT #[])::
 (nat_lit 282,jj "after_one" 553 554 555 157 3 3 279 181 280 .none .none 281 556 557)::
 (nat_lit 283,hF "after_one" (top 43) NK 282)::
 (nat_lit 284,hT #[])::
 (nat_lit 286,hT #[hS "board" 562,hS "ways" 563,hS "least" 564,hS "told" 565,hS "now" 566])::
 (nat_lit 287,hT #[])::
 (nat_lit 289,jj "all_steps" 559 560 561 165 3 3 284 181 285 (.ref 286) (.ref 287) 288 567 568)::
 (nat_lit 290,hF "all_steps" (top 44) NK 289)::
 (nat_lit 291,hT #[])::
 (nat_lit 293,hT #[hS "board" 573,hS "ways" 574,hS "least" 575])::
 (nat_lit 294,hT #[])::
 (nat_lit 296,jj "melted" 570 571 572 172 3 3 291 181 292 (.ref 293) (.ref 294) 295 576 577)::
 (nat_lit 297,hF "melted" (top 45) NK 296)::
 (nat_lit 298,hT #[])::
 (nat_lit 300,hT #[hS "board" 584,hS "cell" 585,hS "ways" 586,hS "letter" 587])::
 (nat_lit 301,hT #[])::
 (nat_lit 303,jj "need_paint" 581 582 583 176 4 3 298 181 299 (.ref 300) (.ref 301) 302 588 589)::
 (nat_lit 304,hF "need_paint" (top 47) (hS "cellpatches.painting" 579) 303)::
 (nat_lit 305,hT #[])::
 (nat_lit 307,hT #[hS "board" 594,hS "cell" 595,hS "ways" 596,hS "letter" 597])::
 (nat_lit 308,hT #[])::
 (nat_lit 310,jj "painted" 591 592 593 181 4 3 305 181 306 (.ref 307) (.ref 308) 309 598 599)::
 (nat_lit 311,hF "painted" (top 48) (hS "cellpatches.painting" 579) 310)::
 (nat_lit 319,hT #[])::
 (nat_lit 321,hT #[hS "self" 618,hS "board" 619,hS "ways" 620])::
 (nat_lit 322,hT #[])::
 (nat_lit 324,{cls:= .type "code",data:=WI #[hS "__init__" 615,hS "Keeper.__init__" 616,hS "/claim/cut.py" 617, .int 187 0, .int 3 0, .int 0 0, .int 0 0, .int 3 0, .ref 319, .bool true, .int 181 0, .ref 320, .none, .ref 321, .ref 322, .ref 323, .int 621 0, .int 187 0,hS "/claim/cut.py" 622]})::
 (nat_lit 325,{cls:= .type "function",data:=Xr {name:=Wk "__init__",qualname:=Wk "Keeper.__init__",params:=L2.aQ ((L3.aA (top 50)).getD 0 (.Pass ⟨0,0,0,0⟩)),body:=WD (L2.aF ((L3.aA (top 50)).getD 0 (.Pass ⟨0,0,0,0⟩))),scope:=L2.ai ((L3.aA (top 50)).getD 0 (.Pass ⟨0,0,0,0⟩)),globals:=3,closure:=[],defaults:= .none,kwdefaults:= .none,pyModule:=hS "cellpatches.keepers" 601,code:= .ref 324} })::
 (nat_lit 326,hT #[])::
 (nat_lit 328,hT #[hS "self" 627])::
 (nat_lit 329,hT #[])::
 (nat_lit 331,{cls:= .type "code",data:=WI #[hS "shown" 624,hS "Keeper.shown" 625,hS "/claim/cut.py" 626, .int 193 0, .int 1 0, .int 0 0, .int 0 0, .int 3 0, .ref 326, .bool true, .int 181 0, .ref 327, .none, .ref 328, .ref 329, .ref 330, .int 628 0, .int 193 0,hS "/claim/cut.py" 629]})::
 (nat_lit 332,{cls:= .type "function",data:=Xr {name:=Wk "shown",qualname:=Wk "Keeper.shown",params:=L2.aQ ((L3.aA (top 50)).getD 1 (.Pass ⟨0,0,0,0⟩)),body:=WD (L2.aF ((L3.aA (top 50)).getD 1 (.Pass ⟨0,0,0,0⟩))),scope:=L2.ai ((L3.aA (top 50)).getD 1 (.Pass ⟨0,0,0,0⟩)),globals:=3,closure:=[],defaults:= .none,kwdefaults:= .none,pyModule:=hS "cellpatches.keepers" 601,code:= .ref 331} })::
 (nat_lit 333,hT #[])::
 (nat_lit 335,hT #[hS "self" 634])::
 (nat_lit 336,hT #[])::
 (nat_lit 338,{cls:= .type "code",data:=WI #[hS "many" 631,hS "Keeper.many" 632,hS "/claim/cut.py" 633, .int 196 0, .int 1 0, .int 0 0, .int 0 0, .int 3 0, .ref 333, .bool true, .int 181 0, .ref 334, .none, .ref 335, .ref 336, .ref 337, .int 635 0, .int 196 0,hS "/claim/cut.py" 636]})::
 (nat_lit 339,{cls:= .type "function",data:=Xr {name:=Wk "many",qualname:=Wk "Keeper.many",params:=L2.aQ ((L3.aA (top 50)).getD 2 (.Pass ⟨0,0,0,0⟩)),body:=WD (L2.aF ((L3.aA (top 50)).getD 2 (.Pass ⟨0,0,0,0⟩))),scope:=L2.ai ((L3.aA (top 50)).getD 2 (.Pass ⟨0,0,0,0⟩)),globals:=3,closure:=[],defaults:= .none,kwdefaults:= .none,pyModule:=hS "cellpatches.keepers" 601,code:= .ref 338} })::
 (nat_lit 340,hT #[])::
 (nat_lit 342,hT #[hS "self" 641,hS "board" 642,hS "many_ahead" 643])::
 (nat_lit 343,hT #[])::
 (nat_lit 345,{cls:= .type "code",data:=WI #[hS "go_on" 638,hS "Keeper.go_on" 639,hS "/claim/cut.py" 640, .int 199 0, .int 2 0, .int 0 0, .int 0 0, .int 3 0, .ref 340, .bool true, .int 181 0, .ref 341, .none, .ref 342, .ref 343, .ref 344, .int 644 0, .int 199 0,hS "/claim/cut.py" 645]})::
 (nat_lit 346,{cls:= .type "function",data:=Xr {name:=Wk "go_on",qualname:=Wk "Keeper.go_on",params:=L2.aQ ((L3.aA (top 50)).getD 3 (.Pass ⟨0,0,0,0⟩)),body:=WD (L2.aF ((L3.aA (top 50)).getD 3 (.Pass ⟨0,0,0,0⟩))),scope:=L2.ai ((L3.aA (top 50)).getD 3 (.Pass ⟨0,0,0,0⟩)),globals:=3,closure:=[],defaults:= .none,kwdefaults:= .none,pyModule:=hS "cellpatches.keepers" 601,code:= .ref 345} })::
 (nat_lit 347,hT #[])::
 (nat_lit 349,hT #[hS "self" 650,hS "cell" 651,hS "letter" 652])::
 (nat_lit 350,hT #[])::
 (nat_lit 352,{cls:= .type "code",data:=WI #[hS "mark" 647,hS "Keeper.mark" 648,hS "/claim/cut.py" 649, .int 204 0, .int 3 0, .int 0 0, .int 0 0, .int 3 0, .ref 347, .bool true, .int 181 0, .ref 348, .none, .ref 349, .ref 350, .ref 351, .int 653 0, .int 204 0,hS "/claim/cut.py" 654]})::
 (nat_lit 353,{cls:= .type "function",data:=Xr {name:=Wk "mark",qualname:=Wk "Keeper.mark",params:=L2.aQ ((L3.aA (top 50)).getD 4 (.Pass ⟨0,0,0,0⟩)),body:=WD (L2.aF ((L3.aA (top 50)).getD 4 (.Pass ⟨0,0,0,0⟩))),scope:=L2.ai ((L3.aA (top 50)).getD 4 (.Pass ⟨0,0,0,0⟩)),globals:=3,closure:=[],defaults:= .none,kwdefaults:= .none,pyModule:=hS "cellpatches.keepers" 601,code:= .ref 352} })::
 (nat_lit 354,hT #[])::
 (nat_lit 356,hT #[hS "self" 659,hS "cell" 660,hS "letter" 661])::
 (nat_lit 357,hT #[])::
 (nat_lit 359,{cls:= .type "code",data:=WI #[hS "paint" 656,hS "Keeper.paint" 657,hS "/claim/cut.py" 658, .int 207 0, .int 3 0, .int 0 0, .int 0 0, .int 3 0, .ref 354, .bool true, .int 181 0, .ref 355, .none, .ref 356, .ref 357, .ref 358, .int 662 0, .int 207 0,hS "/claim/cut.py" 663]})::
 (nat_lit 360,{cls:= .type "function",data:=Xr {name:=Wk "paint",qualname:=Wk "Keeper.paint",params:=L2.aQ ((L3.aA (top 50)).getD 5 (.Pass ⟨0,0,0,0⟩)),body:=WD (L2.aF ((L3.aA (top 50)).getD 5 (.Pass ⟨0,0,0,0⟩))),scope:=L2.ai ((L3.aA (top 50)).getD 5 (.Pass ⟨0,0,0,0⟩)),globals:=3,closure:=[],defaults:= .none,kwdefaults:= .none,pyModule:=hS "cellpatches.keepers" 601,code:= .ref 359} })::
 (nat_lit 361,hT #[])::
 (nat_lit 363,hT #[hS "self" 668,hS "least" 669])::
 (nat_lit 364,hT #[])::
 (nat_lit 366,{cls:= .type "code",data:=WI #[hS "melt" 665,hS "Keeper.melt" 666,hS "/claim/cut.py" 667, .int 210 0, .int 2 0, .int 0 0, .int 0 0, .int 3 0, .ref 361, .bool true, .int 181 0, .ref 362, .none, .ref 363, .ref 364, .ref 365, .int 670 0, .int 210 0,hS "/claim/cut.py" 671]})::
 (nat_lit 367,{cls:= .type "function",data:=Xr {name:=Wk "melt",qualname:=Wk "Keeper.melt",params:=L2.aQ ((L3.aA (top 50)).getD 6 (.Pass ⟨0,0,0,0⟩)),body:=WD (L2.aF ((L3.aA (top 50)).getD 6 (.Pass ⟨0,0,0,0⟩))),scope:=L2.ai ((L3.aA (top 50)).getD 6 (.Pass ⟨0,0,0,0⟩)),globals:=3,closure:=[],defaults:= .none,kwdefaults:= .none,pyModule:=hS "cellpatches.keepers" 601,code:= .ref 366} })::
 (nat_lit 368,hT #[])::
 (nat_lit 370,hT #[hS "self" 676])::
 (nat_lit 371,hT #[])::
 (nat_lit 373,{cls:= .type "code",data:=WI #[hS "undo" 673,hS "Keeper.undo" 674,hS "/claim/cut.py" 675, .int 213 0, .int 1 0, .int 0 0, .int 0 0, .int 3 0, .ref 368, .bool true, .int 181 0, .ref 369, .none, .ref 370, .ref 371, .ref 372, .int 677 0, .int 213 0,hS "/claim/cut.py" 678]})::
 (nat_lit 374,{cls:= .type "function",data:=Xr {name:=Wk "undo",qualname:=Wk "Keeper.undo",params:=L2.aQ ((L3.aA (top 50)).getD 7 (.Pass ⟨0,0,0,0⟩)),body:=WD (L2.aF ((L3.aA (top 50)).getD 7 (.Pass ⟨0,0,0,0⟩))),scope:=L2.ai ((L3.aA (top 50)).getD 7 (.Pass ⟨0,0,0,0⟩)),globals:=3,closure:=[],defaults:= .none,kwdefaults:= .none,pyModule:=hS "cellpatches.keepers" 601,code:= .ref 373} })::
 (nat_lit 375,hT #[hS "boards" 680,hS "ways" 681])::
 (nat_lit 376,{cls:= .type "dict",data:=Yy #[hE P "__module__" 610 (hS "cellpatches.keepers" 601),hE P "__firstlineno__" 614 (.int 185 613),hE P "__init__" 623 (.ref 325),hE P "shown" 630 (.ref 332),hE P "many" 637 (.ref 339),hE P "go_on" 646 (.ref 346),hE P "mark" 655 (.ref 353),hE P "paint" 664 (.ref 360),hE P "melt" 672 (.ref 367),hE P "undo" 679 (.ref 374),hE P "__static_attributes__" 682 (.ref 375),hE P "__dict__" 684 (.ref 378),hE P "__weakref__" 686 (.ref 379),hE P "__doc__" 687 .none] 4})::
 (nat_lit 377,{cls:= .type "type",data:=aco {name:=Wk "Keeper",bases:=[.type "object"],mro:=[.ref 377, .type "object"],ns:=376,qualname:=Wk "Keeper"},slots:= #[none,none,some (hS "Keeper" 603),some (hS "Keeper" 611),some (.builtin "object.__new__"),some (.bool true)]})::
 (nat_lit 378,{cls:= .type "getset_descriptor",data:=WI #[hS "__dict__" 683, .ref 377, .builtin "function.__dict__", .builtin "function.__dict__#set"]})::
 (nat_lit 379,{cls:= .type "getset_descriptor",data:=WI #[hS "__weakref__" 685, .ref 377, .builtin "ExceptionGroup.__weakref__", .none]})::
 (nat_lit 382,hT #[])::
 (nat_lit 384,hT #[hS "rows" 697,hS "patch" 698])::
 (nat_lit 385,hT #[])::
 (nat_lit 387,jj "can_be_taken" 694 695 696 219 2 3 382 181 383 (.ref 384) (.ref 385) 386 699 700)::
 (nat_lit 388,hF "can_be_taken" (top 53) QR 387)::
 (nat_lit 389,hT #[])::
 (nat_lit 392,jj "many_letters" 702 703 704 221 1 3 389 181 390 .none .none 391 705 706)::
 (nat_lit 393,hF "many_letters" (top 54) QR 392)::
 (nat_lit 401,hT #[])::
 (nat_lit 403,hT #[hS "self" 723,hS "board" 724,hS "ways" 725])::
 (nat_lit 404,hT #[])::
 (nat_lit 406,{cls:= .type "code",data:=WI #[hS "__init__" 720,hS "Game.__init__" 721,hS "/claim/cut.py" 722, .int 225 0, .int 3 0, .int 0 0, .int 0 0, .int 3 0, .ref 401, .bool true, .int 181 0, .ref 402, .none, .ref 403, .ref 404, .ref 405, .int 726 0, .int 225 0,hS "/claim/cut.py" 727]})::
 (nat_lit 407,{cls:= .type "function",data:=Xr {name:=Wk "__init__",qualname:=Wk "Game.__init__",params:=L2.aQ ((L3.aA (top 55)).getD 0 (.Pass ⟨0,0,0,0⟩)),body:=WD (L2.aF ((L3.aA (top 55)).getD 0 (.Pass ⟨0,0,0,0⟩))),scope:=L2.ai ((L3.aA (top 55)).getD 0 (.Pass ⟨0,0,0,0⟩)),globals:=3,closure:=[],defaults:= .none,kwdefaults:= .none,pyModule:=hS "cellpatches.games" 690,code:= .ref 406} })::
 (nat_lit 408,hT #[])::
 (nat_lit 410,hT #[hS "self" 732])::
 (nat_lit 411,hT #[])::
 (nat_lit 413,{cls:= .type "code",data:=WI #[hS "rows" 729,hS "Game.rows" 730,hS "/claim/cut.py" 731, .int 232 0, .int 1 0, .int 0 0, .int 0 0, .int 3 0, .ref 408, .bool true, .int 181 0, .ref 409, .none, .ref 410, .ref 411, .ref 412, .int 733 0, .int 232 0,hS "/claim/cut.py" 734]})::
 (nat_lit 414,{cls:= .type "function",data:=Xr {name:=Wk "rows",qualname:=Wk "Game.rows",params:=L2.aQ ((L3.aA (top 55)).getD 1 (.Pass ⟨0,0,0,0⟩)),body:=WD (L2.aF ((L3.aA (top 55)).getD 1 (.Pass ⟨0,0,0,0⟩))),scope:=L2.ai ((L3.aA (top 55)).getD 1 (.Pass ⟨0,0,0,0⟩)),globals:=3,closure:=[],defaults:= .none,kwdefaults:= .none,pyModule:=hS "cellpatches.games" 690,code:= .ref 413} })::
 (nat_lit 415,hT #[])::
 (nat_lit 417,hT #[hS "self" 739,hS "cell" 740])::
 (nat_lit 418,hT #[])::
 (nat_lit 420,{cls:= .type "code",data:=WI #[hS "take" 736,hS "Game.take" 737,hS "/claim/cut.py" 738, .int 235 0, .int 2 0, .int 0 0, .int 0 0, .int 3 0, .ref 415, .bool true, .int 181 0, .ref 416, .none, .ref 417, .ref 418, .ref 419, .int 741 0, .int 235 0,hS "/claim/cut.py" 742]})::
 (nat_lit 421,{cls:= .type "function",data:=Xr {name:=Wk "take",qualname:=Wk "Game.take",params:=L2.aQ ((L3.aA (top 55)).getD 2 (.Pass ⟨0,0,0,0⟩)),body:=WD (L2.aF ((L3.aA (top 55)).getD 2 (.Pass ⟨0,0,0,0⟩))),scope:=L2.ai ((L3.aA (top 55)).getD 2 (.Pass ⟨0,0,0,0⟩)),globals:=3,closure:=[],defaults:= .none,kwdefaults:= .none,pyModule:=hS "cellpatches.games" 690,code:= .ref 420} })::
 (nat_lit 422,hT #[])::
 (nat_lit 425,{cls:= .type "code",data:=WI #[hS "can_take" 744,hS "Game.can_take" 745,hS "/claim/cut.py" 746, .int 238 0, .int 1 0, .int 0 0, .int 0 0, .int 3 0, .ref 422, .bool true, .int 181 0, .ref 423, .none, .none, .none, .ref 424, .int 747 0, .int 238 0,hS "/claim/cut.py" 748]})::
 (nat_lit 426,{cls:= .type "function",data:=Xr {name:=Wk "can_take",qualname:=Wk "Game.can_take",params:=L2.aQ ((L3.aA (top 55)).getD 3 (.Pass ⟨0,0,0,0⟩)),body:=WD (L2.aF ((L3.aA (top 55)).getD 3 (.Pass ⟨0,0,0,0⟩))),scope:=L2.ai ((L3.aA (top 55)).getD 3 (.Pass ⟨0,0,0,0⟩)),globals:=3,closure:=[],defaults:= .none,kwdefaults:= .none,pyModule:=hS "cellpatches.games" 690,code:= .ref 425} })::
 (nat_lit 427,hT #[])::
 (nat_lit 429,hT #[hS "self" 753])::
 (nat_lit 430,hT #[])::
 (nat_lit 432,{cls:= .type "code",data:=WI #[hS "left" 750,hS "Game.left" 751,hS "/claim/cut.py" 752, .int 242 0, .int 1 0, .int 0 0, .int 0 0, .int 3 0, .ref 427, .bool true, .int 181 0, .ref 428, .none, .ref 429, .ref 430, .ref 431, .int 754 0, .int 242 0,hS "/claim/cut.py" 755]})::
 (nat_lit 433,{cls:= .type "function",data:=Xr {name:=Wk "left",qualname:=Wk "Game.left",params:=L2.aQ ((L3.aA (top 55)).getD 4 (.Pass ⟨0,0,0,0⟩)),body:=WD (L2.aF ((L3.aA (top 55)).getD 4 (.Pass ⟨0,0,0,0⟩))),scope:=L2.ai ((L3.aA (top 55)).getD 4 (.Pass ⟨0,0,0,0⟩)),globals:=3,closure:=[],defaults:= .none,kwdefaults:= .none,pyModule:=hS "cellpatches.games" 690,code:= .ref 432} })::
 (nat_lit 434,hT #[])::
 (nat_lit 436,hT #[hS "self" 760,hS "place" 761])::
 (nat_lit 437,hT #[])::
 (nat_lit 439,{cls:= .type "code",data:=WI #[hS "taken_behind" 757,hS "Game.taken_behind" 758,hS "/claim/cut.py" 759, .int 245 0, .int 2 0, .int 0 0, .int 0 0, .int 3 0, .ref 434, .bool true, .int 181 0, .ref 435, .none, .ref 436, .ref 437, .ref 438, .int 762 0, .int 245 0,hS "/claim/cut.py" 763]})::
 (nat_lit 440,{cls:= .type "function",data:=Xr {name:=Wk "taken_behind",qualname:=Wk "Game.taken_behind",params:=L2.aQ ((L3.aA (top 55)).getD 5 (.Pass ⟨0,0,0,0⟩)),body:=WD (L2.aF ((L3.aA (top 55)).getD 5 (.Pass ⟨0,0,0,0⟩))),scope:=L2.ai ((L3.aA (top 55)).getD 5 (.Pass ⟨0,0,0,0⟩)),globals:=3,closure:=[],defaults:= .none,kwdefaults:= .none,pyModule:=hS "cellpatches.games" 690,code:= .ref 439} })::
 (nat_lit 441,hT #[])::
 (nat_lit 443,hT #[hS "self" 768])::
 (nat_lit 444,hT #[])::
 (nat_lit 446,{cls:= .type "code",data:=WI #[hS "points" 765,hS "Game.points" 766,hS "/claim/cut.py" 767, .int 248 0, .int 1 0, .int 0 0, .int 0 0, .int 3 0, .ref 441, .bool true, .int 181 0, .ref 442, .none, .ref 443, .ref 444, .ref 445, .int 769 0, .int 248 0,hS "/claim/cut.py" 770]})::
 (nat_lit 447,{cls:= .type "function",data:=Xr {name:=Wk "points",qualname:=Wk "Game.points",params:=L2.aQ ((L3.aA (top 55)).getD 6 (.Pass ⟨0,0,0,0⟩)),body:=WD (L2.aF ((L3.aA (top 55)).getD 6 (.Pass ⟨0,0,0,0⟩))),scope:=L2.ai ((L3.aA (top 55)).getD 6 (.Pass ⟨0,0,0,0⟩)),globals:=3,closure:=[],defaults:= .none,kwdefaults:= .none,pyModule:=hS "cellpatches.games" 690,code:= .ref 446} })::
 (nat_lit 448,hT #[])::
 (nat_lit 450,hT #[hS "self" 775])::
 (nat_lit 451,hT #[])::
 (nat_lit 453,{cls:= .type "code",data:=WI #[hS "back" 772,hS "Game.back" 773,hS "/claim/cut.py" 774, .int 251 0, .int 1 0, .int 0 0, .int 0 0, .int 3 0, .ref 448, .bool true, .int 181 0, .ref 449, .none, .ref 450, .ref 451, .ref 452, .int 776 0, .int 251 0,hS "/claim/cut.py" 777]})::
 (nat_lit 454,{cls:= .type "function",data:=Xr {name:=Wk "back",qualname:=Wk "Game.back",params:=L2.aQ ((L3.aA (top 55)).getD 7 (.Pass ⟨0,0,0,0⟩)),body:=WD (L2.aF ((L3.aA (top 55)).getD 7 (.Pass ⟨0,0,0,0⟩))),scope:=L2.ai ((L3.aA (top 55)).getD 7 (.Pass ⟨0,0,0,0⟩)),globals:=3,closure:=[],defaults:= .none,kwdefaults:= .none,pyModule:=hS "cellpatches.games" 690,code:= .ref 453} })::
 (nat_lit 455,hT #[])::
 (nat_lit 457,hT #[hS "self" 782])::
 (nat_lit 458,hT #[])::
 (nat_lit 460,{cls:= .type "code",data:=WI #[hS "forth" 779,hS "Game.forth" 780,hS "/claim/cut.py" 781, .int 257 0, .int 1 0, .int 0 0, .int 0 0, .int 3 0, .ref 455, .bool true, .int 181 0, .ref 456, .none, .ref 457, .ref 458, .ref 459, .int 783 0, .int 257 0,hS "/claim/cut.py" 784]})::
 (nat_lit 461,{cls:= .type "function",data:=Xr {name:=Wk "forth",qualname:=Wk "Game.forth",params:=L2.aQ ((L3.aA (top 55)).getD 8 (.Pass ⟨0,0,0,0⟩)),body:=WD (L2.aF ((L3.aA (top 55)).getD 8 (.Pass ⟨0,0,0,0⟩))),scope:=L2.ai ((L3.aA (top 55)).getD 8 (.Pass ⟨0,0,0,0⟩)),globals:=3,closure:=[],defaults:= .none,kwdefaults:= .none,pyModule:=hS "cellpatches.games" 690,code:= .ref 460} })::
 (nat_lit 462,hT #[])::
 (nat_lit 464,hT #[hS "self" 789])::
 (nat_lit 465,hT #[])::
 (nat_lit 467,{cls:= .type "code",data:=WI #[hS "steps" 786,hS "Game.steps" 787,hS "/claim/cut.py" 788, .int 260 0, .int 1 0, .int 0 0, .int 0 0, .int 3 0, .ref 462, .bool true, .int 181 0, .ref 463, .none, .ref 464, .ref 465, .ref 466, .int 790 0, .int 260 0,hS "/claim/cut.py" 791]})::
 (nat_lit 468,{cls:= .type "function",data:=Xr {name:=Wk "steps",qualname:=Wk "Game.steps",params:=L2.aQ ((L3.aA (top 55)).getD 9 (.Pass ⟨0,0,0,0⟩)),body:=WD (L2.aF ((L3.aA (top 55)).getD 9 (.Pass ⟨0,0,0,0⟩))),scope:=L2.ai ((L3.aA (top 55)).getD 9 (.Pass ⟨0,0,0,0⟩)),globals:=3,closure:=[],defaults:= .none,kwdefaults:= .none,pyModule:=hS "cellpatches.games" 690,code:= .ref 467} })::
 (nat_lit 469,hT #[])::
 (nat_lit 471,hT #[hS "self" 796])::
 (nat_lit 472,hT #[])::
 (nat_lit 474,{cls:= .type "code",data:=WI #[hS "twin" 793,hS "Game.twin" 794,hS "/claim/cut.py" 795, .int 263 0, .int 1 0, .int 0 0, .int 0 0, .int 3 0, .ref 469, .bool true, .int 181 0, .ref 470, .none, .ref 471, .ref 472, .ref 473, .int 797 0, .int 263 0,hS "/claim/cut.py" 798]})::
 (nat_lit 475,{cls:= .type "function",data:=Xr {name:=Wk "twin",qualname:=Wk "Game.twin",params:=L2.aQ ((L3.aA (top 55)).getD 10 (.Pass ⟨0,0,0,0⟩)),body:=WD (L2.aF ((L3.aA (top 55)).getD 10 (.Pass ⟨0,0,0,0⟩))),scope:=L2.ai ((L3.aA (top 55)).getD 10 (.Pass ⟨0,0,0,0⟩)),globals:=3,closure:=[],defaults:= .none,kwdefaults:= .none,pyModule:=hS "cellpatches.games" 690,code:= .ref 474} })::
 (nat_lit 476,hT #[hS "place" 800,hS "stages" 801,hS "ways" 802])::
 (nat_lit 477,{cls:= .type "dict",data:=Yy #[hE P "__module__" 715 QR,hE P "__firstlineno__" 719 (.int 223 718),hE P "__init__" 728 (.ref 407),hE P "rows" 735 (.ref 414),hE P "take" 743 (.ref 421),hE P "can_take" 749 (.ref 426),hE P "left" 756 (.ref 433),hE P "taken_behind" 764 (.ref 440),hE P "points" 771 (.ref 447),hE P "back" 778 (.ref 454),hE P "forth" 785 (.ref 461),hE P "steps" 792 (.ref 468),hE P "twin" 799 (.ref 475),hE P "__static_attributes__" 803 (.ref 476),hE P "__dict__" 805 (.ref 479),hE P "__weakref__" 807 (.ref 480),hE P "__doc__" 808 .none] 4})::
 (nat_lit 478,{cls:= .type "type",data:=aco {name:=Wk "Game",bases:=[.type "object"],mro:=[.ref 478, .type "object"],ns:=477,qualname:=Wk "Game"},slots:= #[none,none,some (hS "Game" 708),some (hS "Game" 716),some (.builtin "object.__new__"),some (.bool true)]})::
 (nat_lit 479,{cls:= .type "getset_descriptor",data:=WI #[hS "__dict__" 804, .ref 478, .builtin "function.__dict__", .builtin "function.__dict__#set"]})::
 (nat_lit 480,{cls:= .type "getset_descriptor",data:=WI #[hS "__weakref__" 806, .ref 478, .builtin "ExceptionGroup.__weakref__", .none]})::
 (nat_lit 483,hT #[])::
 (nat_lit 485,hT #[hS "_law_script" 816,hS "_law_k" 817])::
 (nat_lit 486,hT #[])::
 (nat_lit 488,jj "_law_cell" 813 814 815 266 2 3 483 181 484 (.ref 485) (.ref 486) 487 818 819)::
 (nat_lit 489,hF "_law_cell" (top 57) MV 488)::
 (nat_lit 490,hT #[])::
 (nat_lit 492,hT #[hS "_law_script" 824,hS "_law_k" 825,hS "_law_many" 826,hS "_law_cell_here" 827])::
 (nat_lit 493,hT #[])::
 (nat_lit 495,jj "_law_drawn" 821 822 823 270 3 3 490 181 491 (.ref 492) (.ref 493) 494 828 829)::
 (nat_lit 496,hF "_law_drawn" (top 58) MV 495)::
 (nat_lit 497,hT #[])::
 (nat_lit 500,jj "_law_board" 831 832 833 274 3 3 497 181 498 .none .none 499 834 835)::
 (nat_lit 501,hF "_law_board" (top 59) MV 500)::
 (nat_lit 502,hT #[])::
 (nat_lit 504,hT #[hS "_law_script" 840,hS "_law_at" 841,hS "_law_board_here" 842])::
 (nat_lit 505,hT #[])::
 (nat_lit 507,jj "_law_cell_in" 837 838 839 283 3 3 502 181 503 (.ref 504) (.ref 505) 506 843 844)::
 (nat_lit 508,hF "_law_cell_in" (top 60) MV 507)::
 (nat_lit 509,hT #[])::
 (nat_lit 512,jj "law" 846 847 848 285 1 3 509 181 510 .none .none 511 849 850)::
 (nat_lit 513,hF "law" (top 61) MV 512)::[]
def m9:List Nat:=[2,3,15,17,18,20,21,22,29,30,31,32,35,42,43,44,47,54,55,56,59,66,67,68,71,78,79,80,83,90,91,92,95,102,103,104,107,109,110,112,113,114,116,117,119,120,121,124,125,126,129,130,131,133,134,136,137,138,140,141,143,144,145,147,148,150,151,152,154,155,157,158,159,161,162,164,165,166,169,170,171,173,174,176,177,178,180,181,183,184,185,187,188,190,191,192,194,195,197,198,199,201,202,204,205,206,209,210,211,213,214,216,217,218,221,222,223,225,226,228,229,230,232,233,235,236,237,239,240,242,243,244,246,247,249,250,251,253,254,256,257,258,260,261,263,264,265,267,268,270,271,272,274,275,277,278,279,282,283,284,286,287,289,290,291,293,294,296,297,298,300,301,303,304,305,307,308,310,311,319,321,322,324,325,326,328,329,331,332,333,335,336,338,339,340,342,343,345,346,347,349,350,352,353,354,356,357,359,360,361,363,364,366,367,368,370,371,373,374,375,376,377,378,379,382,384,385,387,388,389,392,393,401,403,404,406,407,408,410,411,413,414,415,417,418,420,421,422,425,426,427,429,430,432,433,434,436,437,439,440,441,443,444,446,447,448,450,451,453,454,455,457,458,460,461,462,464,465,467,468,469,471,472,474,475,476,477,478,479,480,483,485,486,488,489,490,492,493,495,496,497,500,501,502,504,505,507,508,509,512,513]
def p7:Wz:={PySem.Challenge.pw_cellpatches_k84_whole_keepers with main:={PySem.Challenge.pw_cellpatches_k84_whole_keepers.main with body:=[top 0,top 2,top 3,top 4,top 5,top 6,top 7,top 8,top 10,top 11,top 12,top 13,top 14,top 15,top 16,top 17,top 18,top 19,top 20,top 21,top 22,top 23,top 24,top 25,top 26,top 27,top 28,top 29,top 31,top 32,top 33,top 34,top 35,top 36,top 38,top 40,top 41,top 42,top 43,top 44,top 45,top 47,top 48,top 50,top 52,top 53,top 54,top 55,top 57,top 58,top 59,top 60,top 61]} }
section
open PySem PySem.W PyProof.Rows
set_option maxHeartbeats 0
def Kg(p:Wz)(w:World)(n₀:Nat)(ann:Option Value):Nat->SharedT->Thread->Option SharedT
 |0,_,_=>none
 |n+1,s,t=>match through t with
  |true=>some s
  |false=>match stepOk n₀ ann t with
   |false=>none
   |true=>match stepT (denote aar) p w s t with
    |some (s',t')=>Kg p w n₀ ann n s' t'
    |none=>none
def C7{p:Wz}{w:World}{n₀:Nat}{ann:Option Value}:∀{n:Nat}{s s':SharedT}{t:Thread},Kg p w n₀ ann n s t=some s'->topRun aar p w n₀ ann n s.abs t=some s'.abs
 |0,_,_,_,h=>by cases h
 |n+1,s,s',t,h=>by
  unfold Kg at h;unfold topRun;cases he:through t with
  |true=>rw[he] at h;cases h;rfl
  |false=>
   rw[he] at h;cases hk:stepOk n₀ ann t with
   |false=>rw[hk] at h;cases h
   |true=>
    rw[hk] at h;cases hs:stepT (denote aar) p w s t with
    |none=>rw[hs] at h;cases h
    |some r=>obtain⟨v0,t₂⟩:=r;rw[hs] at h;rw[stepT_spec hs];exact C7 h
def treeOf(l:List Obj):BT:=(l.foldl (λ(x:BT×Nat) o=>(x.1.ins x.2 o,x.2+1)) (.nil,0)).1
noncomputable def Kr(P:abz):BT:=treeOf (boot_heap P).objs.toList
def boot_abs(P:abz):boot_heap P=absHeap (Kr P) 11 (boot_heap P).life:=by kernel_rfl
def Di(P:abz):((boot_heap P).isNs Ws,(boot_heap P).objs.size,(boot_heap P).nsMap Ws "__annotations__")=(true,11,some (.ref 6)):=by kernel_rfl
noncomputable abbrev EH(p:Wz)(w:World)(N:Nat)(os:OsState):Option SharedT:=Kg p w 11 (some (.ref 6)) N ⟨Kr w.params,11,(boot_heap w.params).life,#[],boot_drawn,boot_toks,os⟩ (topStub p)
def I_{p q:Wz}{loose:List Str}{Xt:Wa->Bool}{α:Type}{Yf:Wa->α}{Ya:World->α}{N:Nat}{g0:Bool}
 (e:opening p=plainProg p.main.scope.names)(hN:Nat.ble 600 N=true)(f:∀s,fenceModules? p s=some s)
 (h1:∀w os,(EH p w N os).map (λs=>Yf s.abs)=some (Ya w))
 (h2:∀w os,(EH p w N os).map (λs=>openSeen q loose (Zm p.main.body) Xt g0 s.abs)=some (openGood q loose))
 (h3:∀w os,(EH p w N os).map (λs=>staticsOk (Zm p.main.body) (boot_heap w.params) s.abs.heap&&namesBound p s.abs.heap&&gensDone s.abs&&laidKept (boot_heap w.params) s.abs.heap)=some true):
 LeftO p q loose Xt Yf Ya N g0:=λw=>by
 obtain⟨⟨h,gs,d,k,os⟩,e,e'⟩:=Yc.mp (boot_open e hN f w);obtain⟨rfl,rfl,rfl,rfl⟩:h=boot_heap w.params/\gs=Array.mk []/\d=boot_drawn/\k=boot_toks:=by simpa using e'
 obtain⟨s,a,l3⟩:=Yc.mp (h1 w os);obtain⟨s',a',l2⟩:=Yc.mp (h2 w os);cases WC (a.symm.trans a');obtain⟨s',a',l1⟩:=Yc.mp (h3 w os);cases WC (a.symm.trans a');obtain⟨z1,z2,z3⟩:_/\_/\_:=by simpa only[Prod.mk.injEq] using Di w.params
 have r:=C7 a;unfold SharedT.abs at r
 dsimp only at r
 rw[<-boot_abs] at r;unfold openEnds;rw[e];show (topFrom aar p w N _).map _=_;have t:topFrom aar p w N ⟨boot_heap w.params,Array.mk [],boot_drawn,boot_toks,os⟩=some s.abs:=by
  unfold topFrom
  dsimp only
  rw[z1,z2,z3];show (topRun aar p w 11 _ N _ _).bind _=_;rw[r];show (match staticsOk (Zm p.main.body) (boot_heap w.params) s.abs.heap&&namesBound p s.abs.heap&&gensDone s.abs&&laidKept (boot_heap w.params) s.abs.heap with | true=>_ | false=>_)=_;rw[l1];rfl
 rw[t];exact acH some (ach l2 l3)
def Q_(w:World)(os:OsState):(EH PySem.Challenge.rw_cellpatches_k84_whole_keepers.row.prog w 7616 os).map (λs=>(kHook m_ m9 (λ_=>by kernel_rfl)).obs s.abs)=some ((kHook m_ m9 (λ_=>by kernel_rfl)).val w):=by kernel_rfl
def Ra(w:World)(os:OsState):(EH PySem.Challenge.rw_cellpatches_k84_whole_keepers.row.prog w 7616 os).map (λs=>openSeen p7 [] (Zm PySem.Challenge.rw_cellpatches_k84_whole_keepers.row.prog.main.body) (λs=>xlAt p7 [] s&&recOk PySem.Challenge.rw_cellpatches_k84_whole_keepers.row.records s) true s.abs)=some (openGood p7 []):=by kernel_rfl
def Rc(w:World)(os:OsState):(EH PySem.Challenge.rw_cellpatches_k84_whole_keepers.row.prog w 7616 os).map (λs=>staticsOk (Zm PySem.Challenge.rw_cellpatches_k84_whole_keepers.row.prog.main.body) (boot_heap w.params) s.abs.heap&&namesBound PySem.Challenge.rw_cellpatches_k84_whole_keepers.row.prog s.abs.heap&&gensDone s.abs&&laidKept (boot_heap w.params) s.abs.heap)=some true:=by kernel_rfl
def N5:LeftO PySem.Challenge.rw_cellpatches_k84_whole_keepers.row.prog p7 [] (λs=>xlAt p7 [] s&&recOk PySem.Challenge.rw_cellpatches_k84_whole_keepers.row.records s) (kHook m_ m9 (λ_=>by kernel_rfl)).obs (kHook m_ m9 (λ_=>by kernel_rfl)).val 7616:=I_ (by kernel_rfl) (by decide) (λ_=>by kernel_rfl) Q_ Ra Rc
end
end K1
namespace L2
open PySem PySem.Spec PyProof.Rows
abbrev Key:=Sum Int Str
def rH:Key->Value->Bool
 | .inl k,v=>Value.isInt k v
 | .inr x,v=>Value.isStrOf x v
def OD(w:World):Key->Int
 | .inl k=>hashInt k
 | .inr x=>hashStr w x
def cf:∀{k:Key}{v:Value},rH k v=true->(∃i t,k=aal i/\v=aax i t)\/(∃x t,k=aaU x/\v=aaw x t)
 | .inl i,v,h=>by
   obtain⟨t,e⟩:=Value.isInt_shape (k:=i) (v:=v) h;exact .inl ⟨i,t,rfl,e⟩
 | .inr x,v,h=>by
   obtain⟨t,e⟩:=Value.isStrOf_shape (x:=x) (v:=v) h;exact .inr ⟨x,t,rfl,e⟩
def DV(i:Int)(t:Tok):rH (.inl i) (.int i t)=true:=by simp[rH,Value.isInt]
def DW(x:Str)(t:Tok):rH (.inr x) (.str x t)=true:=by simp[rH,Value.isStrOf]
def LX(a b:Int):decide ((aal a:Key)=aal b)=(a==b):=by
 by_cases e:a=b
 ·subst e;simp
 ·have h:¬(aal a:Key)=aal b:=λq=>e (Sum.inl.inj q);rw[acD h];exact(acG.mpr e).symm
def L0(a b:Str):decide ((aaU a:Key)=aaU b)=decide (a=b):=by
 by_cases e:a=b
 ·subst e;simp
 ·have h:¬(aaU a:Key)=aaU b:=λq=>e (Sum.inr.inj q);rw[acD h,acD e]
def LY(a:Int)(b:Str):decide ((aal a:Key)=aaU b)=false:=acD (λq=>nomatch q)
def LZ(a:Str)(b:Int):decide ((aaU a:Key)=aal b)=false:=acD (λq=>nomatch q)
def bq(prog:Wz)(w:World):PySem.KeyKind prog w Key where
 is:=rH
 hash:=OD w
 inj:=λv a b ha hb=>by
  rcases cf ha with⟨i,t,rfl,rfl⟩ | ⟨x,t,rfl,rfl⟩
  ·rcases cf hb with⟨j,u,rfl,e⟩ | ⟨y,u,rfl,e⟩
   ·injection e with e1 _;rw[e1]
   ·exact nomatch e
  ·rcases cf hb with⟨j,u,rfl,e⟩ | ⟨y,u,rfl,e⟩
   ·exact nomatch e
   ·injection e with e1 _;rw[e1]
 byValue:=λk v h=>by
  rcases cf h with⟨i,t,rfl,rfl⟩ | ⟨x,t,rfl,rfl⟩<;>rfl
 pyHash:=λhv h=>by
  rcases cf hv with⟨i,t,rfl,rfl⟩ | ⟨x,t,rfl,rfl⟩
  ·exact wpAny_pyHash_int h
  ·exact wpAny_pyHash_str h
 eqBool:=λhu hv h=>by
  rcases cf hu with⟨i,t,rfl,rfl⟩ | ⟨x,t,rfl,rfl⟩
  ·rcases cf hv with⟨j,u,rfl,rfl⟩ | ⟨y,u,rfl,rfl⟩
   ·rw[LX] at h;exact wpAny_eqBool_int h
   ·rw[LY] at h;exact abg i t y u _ _ _ _ h
  ·rcases cf hv with⟨j,u,rfl,rfl⟩ | ⟨y,u,rfl,rfl⟩
   ·rw[LZ] at h;exact abf x t j u _ _ _ _ h
   ·rw[L0] at h;exact wpAny_eqBool_str h
 «strs» :=λk x t v h=>by
  rcases cf h with⟨i,u,rfl,e⟩ | ⟨y,u,rfl,e⟩
  ·exact nomatch e
  ·injection e with e1 _
   subst e1;cases v<;>rfl
def zm(prog:Wz)(w:World)(i:Int)(t:Tok):(bq prog w).is (.inl i) (.int i t)=true:=DV i t
def zo(prog:Wz)(w:World)(x:Str)(t:Tok):(bq prog w).is (.inr x) (.str x t)=true:=DW x t
inductive V where
 |non | bl (b:Bool) | int (i:Int) | str (x:Str) | byt (b:Array UInt8) | flt (b:UInt64) | ref (a:Addr) | ty (n:String)
 deriving DecidableEq
def RelV:V->Value->Prop
 | .non,u=>u=W9
 | .bl b,u=>u=YR b
 | .int i,u=>∃t,u=aax i t
 | .str x,u=>∃t,u=aaw x t
 | .byt b,u=>∃t,u=Value.bytes b t
 | .flt b,u=>∃t,u=abM b t
 | .ref a,u=>u=Wv a
 | .ty n,u=>u=aa6 n
abbrev Vals:List V->List Value->Prop:=aaz RelV
def Vals.length{xs:List V}{us:List Value}(r:Vals xs us):xs.length=us.length:=XW r
def Vals.get:∀{xs:List V}{us:List Value}{i:Nat}{x:V},Vals xs us->xs[i]? =some x->∃u,us[i]? =some u/\RelV x u
 |_,_,_,_, .nil,e=>by simp at e
 |_,_,0,_, .cons r _,e=>by simp at e;subst e;exact⟨_,rfl,r⟩
 |_,_,i+1,x, .cons _ t,e=>by
  obtain⟨u,h1,h2⟩:=Vals.get (i:=i) (x:=x) t (by simpa using e);exact⟨u,by simpa using h1,h2⟩
def Vals.set{x:V}{u:Value}(r:RelV x u):∀{xs:List V}{us:List Value}(i:Nat),Vals xs us->Vals (xs.set i x) (us.set i u)
 |_,_,_, .nil=> .nil
 |_,_,0, .cons _ t=> .cons r t
 |_,_,i+1, .cons q t=> .cons q (Vals.set r i t)
def Vals.append:∀{xs ys:List V}{us ws:List Value},Vals xs us->Vals ys ws->Vals (xs++ys) (us++ws)
 |_,_,_,_, .nil,s=>s
 |_,_,_,_, .cons r t,s=> .cons r (Vals.append t s)
def Vals.take:∀{xs:List V}{us:List Value}(n:Nat),Vals xs us->Vals (xs.take n) (us.take n)
 |_,_,0,_=> .nil
 |_,_,_+1, .nil=> .nil
 |_,_,n+1, .cons r t=> .cons r (Vals.take n t)
def Vals.drop:∀{xs:List V}{us:List Value}(n:Nat),Vals xs us->Vals (xs.drop n) (us.drop n)
 |_,_,0,r=>r
 |_,_,_+1, .nil=> .nil
 |_,_,n+1, .cons _ t=>Vals.drop n t
def RelO:Option V->Option Value->Prop
 |some v,some u=>RelV v u
 |none,none=>True
 |_,_=>False
def KV{κ:Type}:List (κ×V)->List (κ×Value)->Prop:=aaz λ(p:κ×V) (q:κ×Value)=>p.1=q.1/\RelV p.2 q.2
def kV:Key->V
 | .inl i=> .int i
 | .inr x=> .str x
inductive HO where
 |lst (xs:List V)
 |tup (xs:List V)
 |dK (aB:List (Key×V)) | dT (aB:List (List Key×V))
 |set (S:Int->Bool) (n:Nat)
 |ins (C dx:Addr) (fs:List (Str×V))
 |own (x:Addr)
 |xd (fs:List (Str×V))
 |met (f x:Addr)
 |rng (lo hi:Int)
 |frz (o:Obj) (u:HO)
 |tbl (ps:Array Value)
 |ext (φ:Heap->Prop)
abbrev Hp:=Addr->Option HO
def upd(H:Hp)(a:Addr)(o:HO):Hp:=λb=>if b=a then some o else H b
def aH{H:Hp}{a:Addr}{o:HO}:upd H a o a=some o:=by unfold upd;rw[acz rfl]
def az{H:Hp}{a b:Addr}{o:HO}(h:b≠a):upd H a o b=H b:=by unfold upd;rw[acA h]
def GC{H:Hp}{a b:Addr}{o u:HO}(h:H a=some o)(h':H b=some u)(d:o≠u):a≠b:=by
 intro e;subst e;rw[h] at h';exact d (WC h')
def bw{H:Hp}{a b:Addr}{o:HO}(h:H a=some o)(h':H b=none):a≠b:=by
 intro e;subst e;rw[h] at h';cases h'
section
variable(P:Wz)(w:World)
def ObjOk(H:Hp)(h:Heap)(a:Addr):HO->Prop
 | .lst xs=>xs.length<=Wr/\∃(aR:List Value) (n:Nat),Vals xs aR/\h.get? a=some {cls:= .type "list",data:= .seq aR.toArray n}
 | .tup xs=>xs.length<=Wr/\∃aR:List Value,Vals xs aR/\IsTup h a aR.toArray
 | .dK aB=>aB.length<=Wr/\(a==Xq)=false/\∃vs,KV aB vs/\h.DictOf (bq P w) a vs
 | .dT aB=>aB.length<=Wr/\(a==Xq)=false/\∃xs:List (List Key×Addr×Value),
    aaz (λ(p:List Key×V) (q:List Key×Addr×Value)=>p.1=q.1/\H q.2.1=some (.tup (p.1.map kV))/\RelV p.2 q.2.2) aB xs/\
    ∃o es ep,h.get? a=some o/\o.ExactDict/\o.data= .dict es ep/\es.toList=xs.map (aaS (Ym (bq P w)))/\(xs.map (·.1)).Nodup
 | .set S n=>h.SetOf (intKind P w) a S n
 | .ins C dx fs=>H dx=some (.own a)/\fs.length<=1000/\dx≠a/\h.get? a=some (X2 C dx)/\
    ∃mA,h.Ns1 dx mA/\(∀f,RelO (fs.lookup f) (mA f))/\abx mA (fs.map (·.1))
 | .own _=>∃o,h.get? a=some o
 | .xd fs=>∃mA,h.Ns1 a mA/\∀f,RelO (fs.lookup f) (mA f)
 | .rng lo hi=>∃t u v,h.get? a=some {cls:= .type "range",data:= .fields #[.int lo t, .int hi u, .int 1 v]}
 | .frz o u=>h.get? a=some o/\ObjOk H h a u
 | .tbl ps=>h.get? a=some {cls:= .none,data:= .fields ps}
 | .met f x=>h.get? a=some (Z2 (.ref f) (.ref x))
 | .ext φ=>φ h/\(∃o,h.get? a=some o)/\∀h1 h2:Heap,φ h1->(∀o,h1.get? a=some o->h2.get? a=some o)->φ h2
def HOk(H:Hp)(h:Heap):Prop:=∀a o,H a=some o->ObjOk P w H h a o
end
section
variable{P:Wz}{w:World}{H H':Hp}{h h':Heap}{a:Addr}{o:HO}
def ObjOk.lt(x:ObjOk P w H h a o):a<h.objs.size:=by
 cases o with
 |lst xs=>obtain⟨_,_,_,_,e⟩:=x;exact Wl e
 |tup xs=>obtain⟨_,_,_,p⟩:=x;exact p.lt
 |dK aB=>obtain⟨_,_,_,_,o,_,_,e,_⟩:=x;exact Wl e
 |dT aB=>obtain⟨_,_,_,_,o,_,_,e,_⟩:=x;exact Wl e
 |set S n=>obtain⟨o,_,_,_,e,_⟩:=x;exact Wl e
 |ins C dx fs=>obtain⟨_,_,_,e,_⟩:=x;exact Wl e
 |own y=>obtain⟨_,e⟩:=x;exact Wl e
 |xd fs=>obtain⟨_,⟨_,_,_,e,_⟩,_⟩:=x;exact Wl e
 |rng lo hi=>obtain⟨_,_,_,e⟩:=x;exact Wl e
 |frz ob u=>obtain⟨e,_⟩:=x;exact Wl e
 |tbl ps=>exact Wl (show h.get? a=some _ from x)
 |met f y=>exact Wl (show h.get? a=some _ from x)
 |ext φ=>obtain⟨_,⟨_,e⟩,_⟩:=x;exact Wl e
def Paired.mapP{α β:Type}{F G:α->β->Prop}:∀{l₁:List α}{l₂:List β},aaz F l₁ l₂->(∀a b,F a b->G a b)->aaz G l₁ l₂
 |_,_, .nil,_=> .nil
 |_,_, .cons r t,f=> .cons (f _ _ r) (Paired.mapP t f)
def ObjOk.stay(x:ObjOk P w H h a o)(k:∀b u,(b=a\/H b=some (.own a))->h.get? b=some u->h'.get? b=some u)
 (ho:∀b,H b=some (.own a)->H' b=some (.own a))(ht:∀b xs,H b=some (.tup xs)->H' b=some (.tup xs)):ObjOk P w H' h' a o:=by
 induction o with
 |lst xs=>obtain⟨z,aR,n,r,e⟩:=x;exact⟨z,aR,n,r,k _ _ (.inl rfl) e⟩
 |tup xs=>obtain⟨z,aR,r,ob,e,c⟩:=x;exact⟨z,aR,r,ob,k _ _ (.inl rfl) e,c⟩
 |dK aB=>obtain⟨z,y,vs,r,ob,es,ep,e,c⟩:=x;exact⟨z,y,vs,r,ob,es,ep,k _ _ (.inl rfl) e,c⟩
 |dT aB=>
  obtain⟨z,y,xs,r,ob,es,ep,e,c⟩:=x;exact⟨z,y,xs,Paired.mapP r λp q z=>⟨z.1,ht _ _ z.2.1,z.2.2⟩,ob,es,ep,k _ _ (.inl rfl) e,c⟩
 |set S n=>obtain⟨ob,es,ep,t,e,c⟩:=x;exact⟨ob,es,ep,t,k _ _ (.inl rfl) e,c⟩
 |ins C dx fs=>
  obtain⟨d,z,ne,e,mA,⟨od,es,ep,e2,c⟩,r⟩:=x;exact⟨ho _ d,z,ne,k _ _ (.inl rfl) e,mA,⟨od,es,ep,k _ _ (.inr d) e2,c⟩,r⟩
 |own y=>obtain⟨ob,e⟩:=x;exact⟨ob,k _ _ (.inl rfl) e⟩
 |xd fs=>obtain⟨mA,⟨od,es,ep,e,c⟩,r⟩:=x;exact⟨mA,⟨od,es,ep,k _ _ (.inl rfl) e,c⟩,r⟩
 |rng lo hi=>obtain⟨t,u,v,e⟩:=x;exact⟨t,u,v,k _ _ (.inl rfl) e⟩
 |frz ob u ih=>obtain⟨e,q⟩:=x;exact⟨k _ _ (.inl rfl) e,ih q⟩
 |tbl ps=>
  have e:h.get? a=some {cls:= .none,data:= .fields ps}:=x;show h'.get? a=some {cls:= .none,data:= .fields ps};exact k a _ (.inl rfl) e
 |met f y=>
  have e:h.get? a=some (Z2 (.ref f) (.ref y)):=x;show h'.get? a=some (Z2 (.ref f) (.ref y));exact k a _ (.inl rfl) e
 |ext φ=>obtain⟨p,⟨o,e⟩,st⟩:=x;exact⟨st _ _ p λo q=>k _ _ (.inl rfl) q,⟨o,k _ _ (.inl rfl) e⟩,st⟩
def HOk.lt(x:HOk P w H h)(e:H a=some o):a<h.objs.size:=(x a o e).lt
def HOk.fresh(x:HOk P w H h)(e:h.objs.size<=a):H a=none:=by
 cases q:H a with
 |none=>rfl
 |some u=>exact acC (WH (x.lt q) e) (Xe _)
def HOk.kept(x:HOk P w H h)(k:∀b u,h.get? b=some u->h'.get? b=some u):HOk P w H h':=λa o e=>
 (x a o e).stay (λb u _ q=>k b u q) (λ_ q=>q) λ_ _ q=>q
def HOk.laid(x:HOk P w H h)(k:∀b u,h.get? b=some u->h'.get? b=some u)(hp:h.objs.size<=a)(new:ObjOk P w (upd H a o) h' a o):HOk P w (upd H a o) h':=λb u e=>by
 have hn:=x.fresh hp;by_cases hb:b=a
 ·subst hb;rw[aH] at e;cases e;exact new
 ·rw[az hb] at e;exact(x b u e).stay (λc v _ q=>k c v q) (λc q=>by rw[az (bw q hn)];exact q) λc xs q=>by rw[az (bw q hn)];exact q
end
def Rd(H:Hp)(a:Addr)(u:HO):Prop:=H a=some u\/∃o,H a=some (.frz o u)
def Rd.ok{P:Wz}{w:World}{H:Hp}{h:Heap}{a:Addr}{u:HO}(r:Rd H a u)(x:HOk P w H h):ObjOk P w H h a u:=by
 rcases r with r | ⟨o,r⟩
 ·exact x a u r
 ·obtain⟨_,q⟩:=x a _ r;exact q
def Nh:Option HO->Prop
 |some (.lst _)=>True
 |some (.dK _)=>True
 |some (.dT _)=>True
 |some (.set _ _)=>True
 |some (.ins _ _ _)=>True
 |some (.ext _)=>True
 |_=>False
section
variable{P:Wz}{w:World}{H:Hp}{h h':Heap}{x e:Addr}{o':HO}
def HOk.write(ok:HOk P w H h)(mu:Nh (H x))(he:e=x\/H e=some (.own x))(k:∀b u,b≠e->h.get? b=some u->h'.get? b=some u)(EZ:∃u,h'.get? e=some u)
 (new:ObjOk P w (upd H x o') h' x o'):HOk P w (upd H x o') h':=λb u q=>by
 have OI:∀c y,H c=some (.own y)->c≠x:=λc y r z=>by subst z;rw[r] at mu;exact mu
 have RQ:∀c xs,H c=some (.tup xs)->c≠x:=λc xs r z=>by subst z;rw[r] at mu;exact mu
 by_cases hb:b=x
 ·subst hb;rw[aH] at q;cases q;exact new
 ·rw[az hb] at q;by_cases LA:b=e
  ·have q':H b=some (.own x):=by
    rcases he with z | z
    ·exact acC (LA.trans z) hb
    ·rw[LA];exact z
   rw[q] at q';cases q';obtain⟨v,hv⟩:=EZ;exact⟨v,by rw[LA];exact hv⟩
  ·refine(ok b u q).stay (λc v hc r=>k c v ?_ r) (λc r=>by rw[az (OI c b r)];exact r) λc xs r=>by rw[az (RQ c xs r)];exact r
   rcases hc with rfl | hc
   ·exact LA
   ·rintro rfl;rcases he with z | z
    ·exact OI c b hc z
    ·rw[hc] at z;cases z;exact hb rfl
end
structure Un (fs ex:List Addr) (H H':Hp) (h h':Heap):Prop where
 keep:∀b o,h.get? b=some o->H b=none->b∉fs->b∉ex->h'.get? b=some o
 slot:∀b o,h.get? b=some o->H b=none->b∈fs->b∉ex->∃sl,h'.get? b=some {o with slots:=sl}
 free:∀b o,h.get? b=some o->H b=none->b∉ex->H' b=none
 there:∀b o,h.get? b=some o->b∉ex->∃o',h'.get? b=some o'
 tups:∀b xs,H b=some (.tup xs)->H' b=some (.tup xs)
 frzs:∀b o u,H b=some (.frz o u)->H' b=some (.frz o u)
 tbls:∀b ps,H b=some (.tbl ps)->∃more,H' b=some (.tbl (ps++more))
section
variable{fs SM ex AV:List Addr}{H H1 H2:Hp}{h h1 h2 h':Heap}{a x e:Addr}{o:HO}
def Un.any(u:Un fs ex H H1 h h1){b:Addr}{ob:Obj}(q:h.get? b=some ob)(n:H b=none)(hx:b∉ex):∃sl,h1.get? b=some {ob with slots:=sl}:=by
 by_cases hb:b∈fs
 ·exact u.slot b ob q n hb hx
 ·exact⟨ob.slots,u.keep b ob q n hb hx⟩
def Un.trans(a:Un fs ex H H1 h h1)(b:Un fs ex H1 H2 h1 h2):Un fs ex H H2 h h2 where
 keep:=λc ob q n hc hx=>b.keep c ob (a.keep c ob q n hc hx) (a.free c ob q n hx) hc hx
 slot:=λc ob q n hc hx=>by
  obtain⟨sl,e1⟩:=a.slot c ob q n hc hx;obtain⟨mN,e2⟩:=b.slot c _ e1 (a.free c ob q n hx) hc hx;exact⟨mN,e2⟩
 free:=λc ob q n hx=>by
  obtain⟨o',e1⟩:=a.there c ob q hx;exact b.free c o' e1 (a.free c ob q n hx) hx
 there:=λc ob q hx=>by
  obtain⟨o',e1⟩:=a.there c ob q hx;exact b.there c o' e1 hx
 tups:=λc xs q=>b.tups c xs (a.tups c xs q)
 frzs:=λc ob xs q=>b.frzs c ob xs (a.frzs c ob xs q)
 tbls:=λc ps q=>by
  obtain⟨m1,e1⟩:=a.tbls c ps q;obtain⟨m2,e2⟩:=b.tbls c _ e1;exact⟨m1++m2,by rw[e2,Z7]⟩
def Un.kept(k:∀b u,h.get? b=some u->h'.get? b=some u):Un fs ex H H h h':=
 ⟨λb ob q _ _ _=>k b ob q,λb ob q _ _ _=>⟨ob.slots,k b ob q⟩,λ_ _ _ n _=>n,λb ob q _=>⟨ob,k b ob q⟩,λ_ _ q=>q,λ_ _ _ q=>q,λ_ ps q=>⟨#[],by rw[q];simp⟩⟩
def Un.refl:Un fs ex H H h h:=Un.kept λ_ _ q=>q
def Un.laid(k:∀b u,h.get? b=some u->h'.get? b=some u)(hp:h.objs.size<=a)(hn:H a=none):Un fs ex H (upd H a o) h h' where
 keep:=λb u q _ _ _=>k b u q
 slot:=λb u q _ _ _=>⟨u.slots,k b u q⟩
 free:=λb u q n _=>by rw[az (WA (WH (Wl q) hp))];exact n
 there:=λb u q _=>⟨u,k b u q⟩
 tups:=λb xs q=>by rw[az (bw q hn)];exact q
 frzs:=λb u xs q=>by rw[az (bw q hn)];exact q
 tbls:=λb ps q=>⟨#[],by rw[az (bw q hn),q];simp⟩
def Un.write(mu:Nh (H x))(he:e=x\/H e=some (.own x))(k:∀b u,b≠e->h.get? b=some u->h'.get? b=some u)(EZ:∃u,h'.get? e=some u):Un fs ex H (upd H x o) h h':=by
 have hx:∀b,H b=none->b≠x:=λb n z=>by subst z;rw[n] at mu;exact mu
 have hb:∀b,H b=none->b≠e:=λb n z=>by
  subst z;rcases he with r | r
  ·exact hx b n r
  ·rw[n] at r;cases r
 have hm:∀b u,H b=some u->¬Nh (some u)->b≠x:=λb u q nm z=>by subst z;rw[q] at mu;exact nm mu
 refine⟨λb u q n _ _=>k b u (hb b n) q,λb u q n _ _=>⟨u.slots,k b u (hb b n) q⟩,λb u q n _=>by rw[az (hx b n)];exact n,λb u q _=>?_,
  λb xs q=>by rw[az (hm b _ q λz=>z)];exact q,λb u xs q=>by rw[az (hm b _ q λz=>z)];exact q,λb ps q=>⟨#[],by rw[az (hm b _ q λz=>z),q];simp⟩⟩
 by_cases LA:b=e
 ·subst LA;exact EZ
 ·exact⟨u,k b u LA q⟩
def Un.mono(u:Un fs ex H H1 h h1)(hs:∀b∈fs,b∈SM)(hx:∀b∈ex,b∈AV):Un SM AV H H1 h h1:=
 ⟨λb ob q n hb he=>u.keep b ob q n (λz=>hb (hs b z)) λz=>he (hx b z),λ_ _ q n _ he=>u.any q n λz=>he (hx _ z),λb ob q n he=>u.free b ob q n λz=>he (hx b z),λb ob q he=>u.there b ob q λz=>he (hx b z),u.tups,u.frzs,u.tbls⟩
end
def Ql(h:Heap)(H:Hp):List Addr:=(Wy h.objs.size).filter λa=>(H a).isSome
def wM(h:Heap)(H:Hp):Heap:=PySem.W.hideAll h (Ql h H)
def DL(h:Heap)(H:Hp):(wM h H).objs.size=h.objs.size:=PySem.W.hideAll_size _ _
def FT{h:Heap}{H:Hp}{b:Addr}{o:Obj}(e:h.get? b=some o)(n:H b=none):(wM h H).get? b=some o:=
 PySem.W.hideAll_get _ e λhm=>by
  have q:(H b).isSome=true:=(Xz.mp hm).2;rw[n] at q;simp at q
def Jm{h:Heap}{H:Hp}{b:Addr}{o:Obj}(e:(wM h H).get? b=some o):h.get? b=some o/\H b=none:=by
 have e':h.get? b=some o:=PySem.W.of_hideAll (Ql h H) e;refine⟨e',?_⟩;cases q:H b with
 |none=>rfl
 |some x=>
  have hm:b∈Ql h H:=Xz.mpr ⟨Yx.mpr (Wl e'),by simp[q]⟩;have z:(wM h H).get? b=none:=PySem.W.hideAll_none (Ql h H) hm;rw[z] at e;cases e
def Ih(g h:Heap)(L:Addr):List (Addr×Obj):=(Wy h.objs.size).filterMap λa=>if a=L\/(g.get? a).isSome=true then none else(h.get? a).map λo=>(a,o)
def W1(g h:Heap)(L d:Addr):List (Addr×Obj):=(Ih g h L).filter λp=>decide (p.1≠d)
structure Mod (K:V9) (mg:Str->Option Value) (base:Heap):Prop where
 kin:K.In base
 glob:base.Ns Ws mg
 blt:∃mb,base.Ns builtinsNs mb/\∀x:Str,x≠"__name__"->mb x=WX x
 nolimit:base.NoLimit
structure Cx where
 prog:Wz
 w:World
 K:V9
 mg:Str->Option Value
 base:Heap
 A:Xa
 N:List Str
 acJ:Wa
 acI:Hp
 env:Env
 outer:List Env
 stack:List Env
 ex:List Addr
 fn:Str->Bool
 calm:Bool
 pn:List (Addr×Obj)
 xe:Value->Wa->Prop
def qD(l:List Env):List Addr:=l.filterMap (·.frame)
abbrev Cx.fs(X:Cx):List Addr:=qD X.outer
def Qz(sc:Scope)(x:Str):Prop:=sc.names.lookup x=some .local\/sc.names.lookup x=some .cell\/sc.names.lookup x=some .free
def Loc(sc:Scope)(x:Str):Prop:=sc.names.lookup x=some .local\/sc.names.lookup x=some .cell
def Look(env:Env)(h:Heap)(m:Str->Option Value)(x:Str)(u:Value):Prop:=
 (env.kindOf x=some .local/\m x=some u)\/((env.kindOf x=some .cell\/env.kindOf x=some .free)/\∃c,env.cells.lookup x=some c/\h.IsCell c (some u))
structure Cx.Ok (X:Cx):Prop where
 mod:Mod X.K X.mg X.base
 kind:X.env.scope.kind= .function
 glob:X.env.globals=Ws
 blt:X.env.builtins=builtinsNs
 above:X.acJ.heap.objs.size<=X.env.locals
 inj:∀x y c,X.env.cells.lookup x=some c->X.env.cells.lookup y=some c->x=y
 has:∀x,(X.env.kindOf x=some .cell\/X.env.kindOf x=some .free)->∃c,X.env.cells.lookup x=some c
 cab:∀x c,X.fn x=true->X.env.cells.lookup x=some c->X.acJ.heap.objs.size<=c
 hd:X.calm=true->X.A.handled=none
 frames:X.A.frames=some X.stack
 stk:X.stack=X.outer\/(X.stack=X.env::X.outer/\X.env.frame=some X.env.locals)
 exf:∀b∈X.ex,b≠X.env.locals/\∀x c,X.env.cells.lookup x=some c->c≠b
 bs:∀b o,X.base.get? b=some o->X.acJ.heap.get? b=some o/\X.acI b=none
 bsz:X.base.objs.size<=X.acJ.heap.objs.size
 noex:∀b o,X.base.get? b=some o->b∉X.ex
 exfs:∀b∈X.ex,b∉X.fs
 funs:X.acJ.heap.FunFrames X.base X.outer
 frf:∀b∈X.fs,X.acI b=none
structure Inv (X:Cx) (f8:List (Addr×Obj)) (σ:List (Option V)) (H:Hp) (s:Wa):Prop where
 ok:X.Ok
 os:s.os=X.acJ.os
 bare:Z8 s.gens
 base:Un X.fs X.ex X.acI H X.acJ.heap s.heap
 loc:∃m,s.heap.Ns X.env.locals m/\∀(i:Nat) (x:Str) (v:V),X.N[i]? =some x->σ[i]? =some (some v)->Qz X.env.scope x->∃u,RelV v u/\Look X.env s.heap m x u
 cell:∀x c,X.env.cells.lookup x=some c->∃v,s.heap.IsCell c v
 free:H X.env.locals=none
 freeC:∀x c,X.env.cells.lookup x=some c->H c=none
 pin:∀p∈X.pn++f8,s.heap.get? p.1=some p.2/\H p.1=none/\p.1≠X.env.locals/\p.1∉X.fs/\∀v,p.2.data≠ .cell v
 hok:HOk X.prog X.w H s.heap
 len:σ.length=X.N.length
section
variable{X:Cx}{f8:List (Addr×Obj)}{σ:List (Option V)}{H H':Hp}{s:Wa}{h':Heap}
def Cx.Ok.nofr(ok:X.Ok){b:Addr}{o:Obj}(e:X.base.get? b=some o):b∉X.fs:=λhb=>by
 have:=(ok.funs.mem hb).1;rw[e] at this;cases this
def Inv.bs(I:Inv X f8 σ H s):∀b o,X.base.get? b=some o->s.heap.get? b=some o/\H b=none:=λb o e=>
 ⟨I.base.keep b o (I.ok.bs b o e).1 (I.ok.bs b o e).2 (I.ok.nofr e) (I.ok.noex b o e),I.base.free b o (I.ok.bs b o e).1 (I.ok.bs b o e).2 (I.ok.noex b o e)⟩
def Inv.bk(I:Inv X f8 σ H s):∀b o,X.base.get? b=some o->s.heap.get? b=some o:=λb o e=>(I.bs b o e).1
def Inv.mod(I:Inv X f8 σ H s):Mod X.K X.mg X.base:=I.ok.mod
def Inv.kIn(I:Inv X f8 σ H s):X.K.In s.heap:=I.ok.mod.kin.keeps I.bk
def Inv.nolimit(I:Inv X f8 σ H s):s.heap.NoLimit:=I.ok.mod.nolimit.keeps I.bk
def Inv.lt(I:Inv X f8 σ H s):X.env.locals<s.heap.objs.size:=let ⟨_,hn,_⟩:=I.loc;hn.lt
def Inv.sz(I:Inv X f8 σ H s):X.acJ.heap.objs.size<=s.heap.objs.size:=WZ I.ok.above (X8 I.lt)
def Inv.nofs(I:Inv X f8 σ H s){a:Addr}(h:s.heap.objs.size<=a):a∉X.fs:=λhb=>by
 obtain⟨_,o,ho,_⟩:=I.ok.funs.mem hb;exact acC (WH (Wl ho) (WZ I.sz h)) (Xe _)
def Inv.cne(I:Inv X f8 σ H s):∀x c,X.env.cells.lookup x=some c->c≠X.env.locals:=λx c e z=>by
 obtain⟨v,o,ho,hd⟩:=I.cell x c e;obtain⟨m,⟨o',es,ep,u_,qG,_⟩,_⟩:=I.loc;rw[z,u_] at ho;cases ho;rw[qG] at hd;cases hd
def Inv.funs(I:Inv X f8 σ H s):s.heap.FunFrames X.base X.outer:=by
 have all:∀(l:List Env),(∀b∈qD l,b∈X.fs)->X.acJ.heap.FunFrames X.base l->s.heap.FunFrames X.base l:=by
  intro l;induction l with
  |nil=>intro _ _;trivial
  |cons env r ih=>
   intro hs hl;obtain⟨hk,⟨L,o,hf,hn,ho,hd⟩,hr⟩:=hl;have hL:L∈X.fs:=hs L (by unfold qD;rw[ZW,hf];exact V6);obtain⟨sl,e⟩:=I.base.slot L o ho (I.ok.frf L hL) hL λz=>I.ok.exfs L z hL;exact⟨hk,⟨L,_,hf,hn,e,hd⟩,ih (λb hb=>hs b (by unfold qD;rw[ZW,hf];exact V3 _ hb)) hr⟩
 exact all X.outer (λ_ hb=>hb) I.ok.funs
def Inv.stack(I:Inv X f8 σ H s):s.heap.FunFrames X.base X.stack:=by
 rcases I.ok.stk with e | ⟨e,hf⟩
 ·rw[e];exact I.funs
 ·rw[e];obtain⟨m,hn,_⟩:=I.loc;refine .cons (by rw[I.ok.kind];decide) hf hn ?_ I.funs;exact abW (WZ I.ok.bsz I.ok.above)
def Inv.stkSub(I:Inv X f8 σ H s):∀b∈qD X.stack,b∈X.env.locals::X.fs:=λb hb=>by
 rcases I.ok.stk with e | ⟨e,hf⟩
 ·rw[e] at hb;exact V3 _ hb
 ·rw[e] at hb;unfold qD at hb;rw[ZW,hf] at hb;exact hb
def Inv.stkFree(I:Inv X f8 σ H s):∀b∈qD X.stack,H b=none:=λb hb=>by
 rcases Wc.mp (I.stkSub b hb) with e | hb
 ·rw[e];exact I.free
 ·obtain⟨_,o,ho,_⟩:=I.ok.funs.mem hb;exact I.base.free b o ho (I.ok.frf b hb) λz=>I.ok.exfs b z hb
def Inv.step{g':Array GenState}{t':Nat}{d':Drawn}{ch:List Addr}(I:Inv X f8 σ H s)
 (H_:∀b∈ch,(b∈X.ex\/X.acJ.heap.objs.size<=b)/\b≠X.env.locals/\(∀x c,X.env.cells.lookup x=some c->c≠b)/\∀p∈X.pn++f8,p.1≠b)
 (keep:∀b o,b≠X.env.locals->b∉X.fs->b∉ch->s.heap.get? b=some o->H b=none->h'.get? b=some o)
 (slot:∀b o,b≠X.env.locals->b∈X.fs->b∉ch->s.heap.get? b=some o->H b=none->∃sl,h'.get? b=some {o with slots:=sl})(free:∀b o,b∉ch->s.heap.get? b=some o->H b=none->H' b=none)
 (there:∀b o,b∉ch->s.heap.get? b=some o->∃o',h'.get? b=some o')
 (tups:∀b xs,H b=some (.tup xs)->H' b=some (.tup xs))(frzs:∀b o u,H b=some (.frz o u)->H' b=some (.frz o u))(tbls:∀b ps,H b=some (.tbl ps)->∃more,H' b=some (.tbl (ps++more)))
 (ns:∀m,s.heap.Ns X.env.locals m->h'.Ns X.env.locals m)(hok:HOk X.prog X.w H' h')(hg:Z8 g'):
 Inv X f8 σ H' {s with heap:=h',gens:=g',drawn:=d',toks:=t'}:=by
 have Tt:∀b o,X.acJ.heap.get? b=some o->b≠X.env.locals:=λb o e=>WA (WH (Wl e) I.ok.above);have Qb:∀b o,X.acJ.heap.get? b=some o->b∉X.ex->b∉ch:=λb o e hx hb=>by
  rcases(H_ b hb).1 with z | z
  ·exact hx z
  ·exact acC (WH (Wl e) z) (Xe _)
 have cellK:∀x c,X.env.cells.lookup x=some c->∀v,s.heap.IsCell c v->h'.IsCell c v:=λx c e v ⟨o,ho,hd⟩=>by
  have OG:c∉ch:=λz=>(H_ c z).2.2.1 x c e rfl;by_cases hc:c∈X.fs
  ·obtain⟨sl,q⟩:=slot c o (I.cne x c e) hc OG ho (I.freeC x c e);exact⟨_,q,hd⟩
  ·exact⟨o,keep c o (I.cne x c e) hc OG ho (I.freeC x c e),hd⟩
 refine⟨I.ok,I.os,hg,⟨λb o e n hb hx=>?_,λb o e n hb hx=>?_,λb o e n hx=>?_,λb o e hx=>?_,λb xs e=>tups b xs (I.base.tups b xs e),λb o xs e=>frzs b o xs (I.base.frzs b o xs e),λb ps e=>?_⟩,?_,λx c e=>?_,?_,λx c e=>?_,λp hp=>?_,hok,I.len⟩
 ·exact keep b o (Tt b o e) hb (Qb b o e hx) (I.base.keep b o e n hb hx) (I.base.free b o e n hx)
 ·obtain⟨sl,e1⟩:=I.base.slot b o e n hb hx;obtain⟨mN,e2⟩:=slot b _ (Tt b o e) hb (Qb b o e hx) e1 (I.base.free b o e n hx);exact⟨mN,e2⟩
 ·obtain⟨o',e1⟩:=I.base.there b o e hx;exact free b o' (Qb b o e hx) e1 (I.base.free b o e n hx)
 ·obtain⟨o',e1⟩:=I.base.there b o e hx;exact there b o' (Qb b o e hx) e1
 ·obtain⟨m1,e1⟩:=I.base.tbls b ps e;obtain⟨m2,e2⟩:=tbls b _ e1;exact⟨m1++m2,by rw[e2,Z7]⟩
 ·obtain⟨m,hn,hl⟩:=I.loc;refine⟨m,ns m hn,λi x v e1 e2 e3=>?_⟩;obtain⟨u,r,l⟩:=hl i x v e1 e2 e3;refine⟨u,r,?_⟩;rcases l with l | ⟨k,c,e,z⟩
  ·exact .inl l
  ·exact .inr ⟨k,c,e,cellK x c e _ z⟩
 ·obtain⟨v,z⟩:=I.cell x c e;exact⟨v,cellK x c e v z⟩
 ·obtain⟨m,⟨o,_,_,ho,_⟩,_⟩:=I.loc;exact free _ o (λz=>(H_ _ z).2.1 rfl) ho I.free
 ·obtain⟨v,o,ho,hd⟩:=I.cell x c e;exact free c o (λz=>(H_ c z).2.2.1 x c e rfl) ho (I.freeC x c e)
 ·obtain⟨e,n,ne,nf,d⟩:=I.pin p hp;have OG:p.1∉ch:=λz=>(H_ p.1 z).2.2.2 p hp rfl;exact⟨keep p.1 p.2 ne nf OG e n,free p.1 p.2 OG e n,ne,nf,d⟩
def Inv.un{t':Nat}(I:Inv X f8 σ H s)(u:Un X.fs [] H H' s.heap h')(hok:HOk X.prog X.w H' h'):Inv X f8 σ H' {s with heap:=h',toks:=t'}:=by
 obtain⟨m,⟨o,es,ep,ho,r⟩,_⟩:=id I.loc;obtain⟨sl,hL⟩:=u.any ho I.free (by simp);exact I.step (g':=s.gens) (d':=s.drawn) (ch:=[]) (λ_ z=>nomatch z) (λb o _ hb _ e n=>u.keep b o e n hb (by simp)) (λb o _ hb _ e n=>u.slot b o e n hb (by simp)) (λb o _ e n=>u.free b o e n (by simp)) (λb o _ e=>u.there b o e (by simp)) u.tups u.frzs u.tbls (λm' hm=>by
  obtain⟨o',Ky,Fx,u_,r'⟩:=hm;rw[ho] at u_;cases u_;exact⟨_,Ky,Fx,hL,r'⟩) hok I.bare
def Inv.call{g':Array GenState}{t':Nat}{d':Drawn}{ch:List Addr}(I:Inv X f8 σ H s)(u:Un (qD X.stack) ch H H' s.heap h')(hok:HOk X.prog X.w H' h')(hg:Z8 g')
 (H_:∀b∈ch,(b∈X.ex\/X.acJ.heap.objs.size<=b)/\b≠X.env.locals/\(∀x c,X.env.cells.lookup x=some c->c≠b)/\∀p∈X.pn++f8,p.1≠b):
 Inv X f8 σ H' {s with heap:=h',gens:=g',drawn:=d',toks:=t'}:=by
 obtain⟨m,⟨o,es,ep,ho,r⟩,_⟩:=id I.loc;obtain⟨sl,hL⟩:=u.any ho I.free λz=>(H_ _ z).2.1 rfl;exact I.step (ch:=ch) H_ (λb o hL hb hc e n=>u.keep b o e n (λz=>(Wc.mp (I.stkSub b z)).elim hL hb) hc) (λb o _ _ hc e n=>u.any e n hc) (λb o hc e n=>u.free b o e n hc) (λb o hc e=>u.there b o e hc) u.tups u.frzs u.tbls (λm' hm=>by
  obtain⟨o',Ky,Fx,u_,r'⟩:=hm;rw[ho] at u_;cases u_;exact⟨_,Ky,Fx,hL,r'⟩) hok hg
def Inv.turned{t':Nat}{it:Addr}(I:Inv X f8 σ H s)(k:∀b o,b≠it->s.heap.get? b=some o->h'.get? b=some o)(hn:H it=none)(hL:it≠X.env.locals)
 (h1:it∈X.ex\/X.acJ.heap.objs.size<=it)(h2:∀x c,X.env.cells.lookup x=some c->c≠it)(h3:∀p∈X.pn++f8,p.1≠it):Inv X f8 σ H {s with heap:=h',toks:=t'}:=by
 have KY:∀b u,H b=some u->b≠it:=λb u e z=>by rw[z,hn] at e;cases e
 refine I.step (g':=s.gens) (d':=s.drawn) (ch:=[it]) (λb hb=>?_) (λb o _ _ hc e _=>k b o (λz=>hc (by simp[z])) e) (λb o _ _ hc e _=>⟨o.slots,k b o (λz=>hc (by simp[z])) e⟩) (λ_ _ _ _ n=>n)
  (λb o hc e=>⟨o,k b o (λz=>hc (by simp[z])) e⟩) (λ_ _ e=>e) (λ_ _ _ e=>e) (λb ps e=>⟨#[],by rw[e];simp⟩) (λm hm=>?_) (λb u e=>?_) I.bare
 ·have e:b=it:=by simpa using hb
  subst e;exact⟨h1,hL,h2,h3⟩
 ·obtain⟨o,es,ep,ho,r⟩:=hm;exact⟨o,es,ep,k _ o (XR hL) ho,r⟩
 ·refine(I.hok b u e).stay (λc v hc q=>k c v ?_ q) (λ_ q=>q) λ_ _ q=>q;rcases hc with z | z
  ·rw[z];exact KY b u e
  ·exact KY c _ z
def Inv.tok(I:Inv X f8 σ H s)(t:Nat):Inv X f8 σ H {s with toks:=t}:=I.un (h':=s.heap) (t':=t) Un.refl I.hok
def Inv.kept{t':Nat}(I:Inv X f8 σ H s)(k:∀b u,s.heap.get? b=some u->h'.get? b=some u):Inv X f8 σ H {s with heap:=h',toks:=t'}:=I.un (Un.kept k) (I.hok.kept k)
def Inv.laid{a:Addr}{o:HO}{t':Nat}(I:Inv X f8 σ H s)(k:∀b u,s.heap.get? b=some u->h'.get? b=some u)(hp:s.heap.objs.size<=a)(new:ObjOk X.prog X.w (upd H a o) h' a o):
 Inv X f8 σ (upd H a o) {s with heap:=h',toks:=t'}:=I.un (Un.laid k hp (I.hok.fresh hp)) (I.hok.laid k hp new)
def Inv.write{x e:Addr}{o:HO}{t':Nat}(I:Inv X f8 σ H s)(mu:Nh (H x))(he:e=x\/H e=some (.own x))(k:∀b u,b≠e->s.heap.get? b=some u->h'.get? b=some u)(EZ:∃u,h'.get? e=some u)
 (new:ObjOk X.prog X.w (upd H x o) h' x o):Inv X f8 σ (upd H x o) {s with heap:=h',toks:=t'}:=I.un (Un.write mu he k EZ) (I.hok.write mu he k EZ new)
def Inv.pins_of{K2:List (Addr×Obj)}(I:Inv X f8 σ H s)(h:∀p∈K2,s.heap.get? p.1=some p.2/\H p.1=none/\p.1≠X.env.locals/\p.1∉X.fs/\∀v,p.2.data≠ .cell v):Inv X K2 σ H s:=
 ⟨I.ok,I.os,I.bare,I.base,I.loc,I.cell,I.free,I.freeC,λp hp=>(W3.mp hp).elim (λz=>I.pin p (XH _ z)) (h p),I.hok,I.len⟩
def zt{N:List Str}(hN:N.Nodup){i j:Nat}{x:Str}(a:N[i]? =some x)(b:N[j]? =some x):i=j:=by
 obtain⟨h1,e1⟩:=We.mp a;obtain⟨h2,e2⟩:=We.mp b;exact(List.getElem_inj hN).mp (e1.trans e2.symm)
def v9{M:Model}{A:Xa}{E:Value->Wa->Prop}{i:Nat}{x:Str}{v:V}{u:Value}{Q:Unit->Wa->Prop}(I:Inv X f8 σ H s)(hN:X.N.Nodup)(hi:X.N[i]? =some x)(hx:Loc X.env.scope x)(r:RelV v u)
 (h:∀s',Inv X f8 (σ.set i (some v)) H s'->(∃a,Xo a s.heap s'.heap/\(a=X.env.locals\/X.env.cells.lookup x=some a))->Q () s')(hf:X.fn x=true\/X.env.scope.names.lookup x=some .local:=by first | exact .inl rfl | exact .inr rfl | assumption):wpAny M A (storeName X.env x u) Q E s:=by
 obtain⟨m,hn,hl⟩:=id I.loc;have QT:(X.env.scope.kind== .class||(X.env.scope.kind== .module&&X.env.locals !=X.env.globals))=false:=by rw[I.ok.kind];rfl
 have S_:i<σ.length:=by rw[I.len];exact(We.mp hi).1
 have cne:=I.cne;have tracked:∀{a:Addr}{h':Heap},(∃o,s.heap.get? a=some o/\H a=none)->Xo a s.heap h'->HOk X.prog X.w H h':=λ{a h'} ha hs b ob e=>by
  obtain⟨_,_,KH⟩:=ha;refine(I.hok b ob e).stay (λc w' hc q=>(hs.2 c ?_).trans q) (λ_ q=>q) λ_ _ q=>q;rintro rfl;rcases hc with rfl | hc
  ·rw[KH] at e;cases e
  ·rw[KH] at hc;cases hc
 rcases hx with hk | hk
 ·refine wpAny_storeName_local hk hn (λh' UP hs=>?_) QT;obtain⟨oL,_,_,P1,_⟩:=id hn;refine h _ ⟨I.ok,I.os,I.bare,⟨λb o e n hb hx=>?_,λb o e n hb hx=>?_,I.base.free,λb o e hx=>?_,I.base.tups,I.base.frzs,I.base.tbls⟩,⟨_,UP,λj y v' e1 e2 e3=>?_⟩,λy c e=>?_,I.free,I.freeC,λp hp=>?_,tracked ⟨oL,P1,I.free⟩ hs,by simpa using I.len⟩ ⟨_,hs, .inl rfl⟩
  ·exact(hs.2 b (WA (WH (Wl e) I.ok.above))).trans (I.base.keep b o e n hb hx)
  ·obtain⟨sl,e1⟩:=I.base.slot b o e n hb hx;exact⟨sl,(hs.2 b (WA (WH (Wl e) I.ok.above))).trans e1⟩
  ·obtain⟨o',e1⟩:=I.base.there b o e hx;exact⟨o',(hs.2 b (WA (WH (Wl e) I.ok.above))).trans e1⟩
  ·by_cases hj:j=i
   ·subst hj;rw[hi] at e1;cases e1;rw[WQ S_] at e2;cases e2;exact⟨u,r, .inl ⟨hk,by simp⟩⟩
   ·rw[W0 (XR hj)] at e2;obtain⟨u',r',q⟩:=hl j y v' e1 e2 e3;refine⟨u',r',?_⟩;rcases q with⟨k,e⟩ | ⟨k,c,e,z⟩
    ·refine .inl ⟨k,?_⟩;have:y≠x:=λe=>hj (zt hN e1 (e▸hi));simp[this,e]
    ·exact .inr ⟨k,c,e,z.sameBut hs (cne y c e)⟩
  ·obtain⟨w',z⟩:=I.cell y c e;exact⟨w',z.sameBut hs (cne y c e)⟩
  ·obtain⟨e,n,ne,nf,d⟩:=I.pin p hp;exact⟨(hs.2 p.1 ne).trans e,n,ne,nf,d⟩
 ·have Q1:X.fn x=true:=by
   rcases hf with z | z
   ·exact z
   ·rw[z] at hk;cases hk
  obtain⟨c,hc⟩:=I.ok.has x (.inl hk);obtain⟨w',z⟩:=I.cell x c hc;refine wpAny_storeName_cell I.ok.kind hk hc z (λh' KA hs=>?_);obtain⟨oc,P4,Rj⟩:=id z;refine h {s with heap:=h'} ⟨I.ok,I.os,I.bare,⟨λb o e n hb hx=>?_,λb o e n hb hx=>?_,I.base.free,λb o e hx=>?_,I.base.tups,I.base.frzs,I.base.tbls⟩,⟨m,hn.sameBut hs (XR (cne x c hc)),λj y v' e1 e2 e3=>?_⟩,λy c' e=>?_,I.free,I.freeC,λp hp=>?_,tracked ⟨oc,P4,I.freeC x c hc⟩ hs,by simpa using I.len⟩ ⟨c,hs, .inr hc⟩
  ·exact(hs.2 b (WA (WH (Wl e) (I.ok.cab x c Q1 hc)))).trans (I.base.keep b o e n hb hx)
  ·obtain⟨sl,e1⟩:=I.base.slot b o e n hb hx;exact⟨sl,(hs.2 b (WA (WH (Wl e) (I.ok.cab x c Q1 hc)))).trans e1⟩
  ·obtain⟨o',e1⟩:=I.base.there b o e hx;exact⟨o',(hs.2 b (WA (WH (Wl e) (I.ok.cab x c Q1 hc)))).trans e1⟩
  ·by_cases hj:j=i
   ·subst hj;rw[hi] at e1;cases e1;rw[WQ S_] at e2;cases e2;exact⟨u,r, .inr ⟨.inl hk,c,hc,KA⟩⟩
   ·rw[W0 (XR hj)] at e2;obtain⟨u',r',q⟩:=hl j y v' e1 e2 e3;refine⟨u',r',?_⟩;rcases q with q | ⟨k,c',e,z'⟩
    ·exact .inl q
    ·refine .inr ⟨k,c',e,z'.sameBut hs ?_⟩;rintro rfl;exact hj (zt hN e1 (I.ok.inj _ _ _ e hc▸hi))
  ·by_cases PR:c'=c
   ·subst PR;exact⟨_,KA⟩
   ·obtain⟨w2,z2⟩:=I.cell y c' e;exact⟨w2,z2.sameBut hs PR⟩
  ·obtain⟨e,n,ne,nf,d⟩:=I.pin p hp;refine⟨(hs.2 p.1 ?_).trans e,n,ne,nf,d⟩;intro q;rw[q,P4] at e;have q':oc=p.2:=WC e;exact d w' (by rw[<-q'];exact Rj)
def Ab{M:Model}{A:Xa}{E:Value->Wa->Prop}{i:Nat}{x:Str}{v:V}{u:Value}{Q:Unit->Wa->Prop}(I:Inv X f8 σ H s)(hN:X.N.Nodup)(hi:X.N[i]? =some x)(hx:Loc X.env.scope x)(r:RelV v u)
 (h:∀s',Inv X f8 (σ.set i (some v)) H s'->Q () s')(hf:X.fn x=true\/X.env.scope.names.lookup x=some .local:=by first | exact .inl rfl | exact .inr rfl | assumption):wpAny M A (storeName X.env x u) Q E s:=
 v9 I hN hi hx r (λs' I' _=>h s' I') hf
def Inv.call'{s':Wa}{ch:List Addr}(I:Inv X f8 σ H s)(ho:s'.os=s.os)(u:Un (qD X.stack) ch H H' s.heap s'.heap)(hok:HOk X.prog X.w H' s'.heap)(hg:Z8 s'.gens)
 (H_:∀b∈ch,(b∈X.ex\/X.acJ.heap.objs.size<=b)/\b≠X.env.locals/\(∀x c,X.env.cells.lookup x=some c->c≠b)/\∀p∈X.pn++f8,p.1≠b):Inv X f8 σ H' s':=by
 obtain⟨h',g',d',t',o'⟩:=s';have e:o'=s.os:=ho;subst e;exact I.call (g':=g') (t':=t') (d':=d') u hok hg H_
end
abbrev XK:=Value->Option Addr->Hp->Prop
abbrev St:=List (Option V)
abbrev VK:=V->Hp->Prop
abbrev TE:=St->Hp->VK->Prop
abbrev TT:=St->Hp->(Bool->Hp->Prop)->Prop
abbrev TA:=St->Hp->(List V->Hp->Prop)->Prop
structure Ends where
 nx:St->Hp->Prop
 rt:VK
 bk:St->Hp->Prop:=λ_ _=>False
 ct:St->Hp->Prop:=λ_ _=>False
abbrev TS:=Ends->St->Hp->Prop
def EP(X:Cx)(f8:List (Addr×Obj))(σ:St)(Q:VK)(u:Value)(s':Wa):Prop:=∃v H',Inv X f8 σ H' s'/\RelV v u/\Q v H'
def TP(X:Cx)(f8:List (Addr×Obj))(σ:St)(Q:Bool->Hp->Prop)(b:Bool)(s':Wa):Prop:=∃H',Inv X f8 σ H' s'/\Q b H'
def AP(X:Cx)(f8:List (Addr×Obj))(σ:St)(Q:List V->Hp->Prop)(us:List Value)(s':Wa):Prop:=∃vs H',Inv X f8 σ H' s'/\Vals vs us/\Q vs H'
def SP(X:Cx)(f8:List (Addr×Obj))(D:Ends)(f:Flow)(s':Wa):Prop:=
 match f with
 | .next=>∃σ' H',Inv X f8 σ' H' s'/\D.nx σ' H'
 | .brk=>∃σ' H',Inv X f8 σ' H' s'/\D.bk σ' H'
 | .cont=>∃σ' H',Inv X f8 σ' H' s'/\D.ct σ' H'
 | .ret u=>∃v σ' H',Inv X f8 σ' H' s'/\RelV v u/\D.rt v H'
def PE(X:Cx)(e:Expr)(t:TE):Prop:=
 ∀(f8:List (Addr×Obj)) (s:Wa) (σ:St) (H:Hp) (Q:VK),Inv X f8 σ H s->t σ H Q->wpAny (model X.prog X.w) X.A (eval e X.env) (EP X f8 σ Q) X.xe s
def PT(X:Cx)(e:Expr)(t:TT):Prop:=
 ∀(f8:List (Addr×Obj)) (s:Wa) (σ:St) (H:Hp) (Q:Bool->Hp->Prop),Inv X f8 σ H s->t σ H Q->wpAny (model X.prog X.w) X.A (isTrue e X.env (eval e X.env)) (TP X f8 σ Q) X.xe s
def PW(X:Cx)(e:Expr)(t:TT):Prop:=
 ∀(whole:Sem Value) (f8:List (Addr×Obj)) (s:Wa) (σ:St) (H:Hp) (Q:Bool->Hp->Prop),Inv X f8 σ H s->t σ H Q->wpAny (model X.prog X.w) X.A (isTrue e X.env whole) (TP X f8 σ Q) X.xe s
def PW.pt{X:Cx}{e:Expr}{t:TT}(h:PW X e t):PT X e t:=h _
def PA(X:Cx)(es:List Expr)(t:TA):Prop:=
 ∀(pos:Pos) (f8:List (Addr×Obj)) (s:Wa) (σ:St) (H:Hp) (Q:List V->Hp->Prop),Inv X f8 σ H s->t σ H Q->wpAny (model X.prog X.w) X.A (spliced (Xv pos (Wf es X.env))) (AP X f8 σ Q) X.xe s
def PS(X:Cx)(st:Stmt)(t:TS):Prop:=
 ∀(f8:List (Addr×Obj)) (s:Wa) (σ:St) (H:Hp) (D:Ends),Inv X f8 σ H s->t D σ H->wpAny (model X.prog X.w) X.A (exec st X.env) (SP X f8 D) X.xe s
def PSs(X:Cx)(st:List Stmt)(t:TS):Prop:=
 ∀(f8:List (Addr×Obj)) (s:Wa) (σ:St) (H:Hp) (D:Ends),Inv X f8 σ H s->t D σ H->wpAny (model X.prog X.w) X.A (execs st X.env) (SP X f8 D) X.xe s
def ck{α:Type}{t:Sem α}{Q Q':α->Wa->Prop}{M:Model}{A:Xa}{E:Value->Wa->Prop}{s:Wa}(h:wpAny M A t Q E s)(hQ:∀a s,Q a s->Q' a s):wpAny M A t Q' E s:=Xl h hQ λ_ _ x=>x
section
variable{X:Cx}
def bin{a b:Expr}{ta tb:TE}(ha:PE X a ta)(hb:PE X b tb){f8:List (Addr×Obj)}{s:Wa}{σ:St}{H:Hp}{R:V->V->Hp->Prop}(I:Inv X f8 σ H s)(h:ta σ H λx H1=>tb σ H1 λy H2=>R x y H2)
 {α:Type}{Q:α->Wa->Prop}{f:Value->Value->Sem α}
 (hf:∀v u s2 x y H2,Inv X f8 σ H2 s2->RelV x v->RelV y u->R x y H2->wpAny (model X.prog X.w) X.A (f v u) Q X.xe s2):
 wpAny (model X.prog X.w) X.A (eval a X.env) (λv v6=>wpAny (model X.prog X.w) X.A (eval b X.env) (λu v0=>wpAny (model X.prog X.w) X.A (f v u) Q X.xe v0) X.xe v6) X.xe s:=by
 refine ck (ha f8 s σ H _ I h) λv s1 ⟨x,H1,I1,r1,q1⟩=>?_;refine ck (hb f8 s1 σ H1 _ I1 q1) λu s2 ⟨y,H2,I2,r2,q2⟩=>?_;exact hf v u s2 x y H2 I2 r1 r2 q2
def g7(i:Nat):TE:=λσ H Q=>∃v,σ[i]? =some (some v)/\Q v H
def tC(v:V):TE:=λ_ H Q=>Q v H
def Mq{i:Nat}{x:Str}{pos:Pos}(hN:X.N[i]? =some x)(hv:Qz X.env.scope x)(hd:(x==("__debug__":Str))=false:=by decide)(qF:(x==("__classdict__":Str))=false:=by decide):PE X (.Name x pos) (g7 i):=by
 intro f8 s σ H Q I h;obtain⟨v,e,h⟩:=h;obtain⟨m,hn,hl⟩:=I.loc;obtain⟨u,r,l⟩:=hl i x v hN e hv;have fin:EP X f8 σ Q u s:=⟨v,H,I,r,h⟩
 rcases l with⟨hk,hm⟩ | ⟨hk,c,hc,KD⟩
 ·exact wpAny_Name (wpAny_loadName_local I.ok.kind hk hn hm fin) hd
 ·rcases hk with hk | hk
  ·exact wpAny_Name (wpAny_loadName_cell I.ok.kind hk hc KD fin) hd
  ·exact wpAny_Name (wpAny_loadName_free I.ok.kind hk hc KD fin qF) hd
def Mi{i j pos}:PE X (.Constant (.int i) j pos) (tC (.int i)):=λ_ _ _ H _ I h=>wpAny_Constant_int ⟨.int i,H,I.tok _,⟨_,rfl⟩,h⟩
def OY{b j pos}:PE X (.Constant (.bool b) j pos) (tC (.bl b)):=λ_ _ _ H _ I h=>Constant_bool ⟨.bl b,H,I,rfl,h⟩
def Mj{j pos}:PE X (.Constant .none j pos) (tC .non):=λ_ _ _ H _ I h=>Constant_none ⟨.non,H,I,rfl,h⟩
def Mn{x j pos}:PE X (.Constant (.str x) j pos) (tC (.str x)):=λ_ _ _ H _ I h=>Calls.Constant_str ⟨.str x,H,I.tok _,⟨_,rfl⟩,h⟩
def Gl(X:Cx)(x:Str):Prop:=X.env.kindOf x=some .globalImplicit
def w4{E:Value->Wa->Prop}{f8:List (Addr×Obj)}{s:Wa}{σ:St}{H:Hp}{x:Str}{u:Value}{pos:Pos}{Q:Value->Wa->Prop}(I:Inv X f8 σ H s)(hg:Gl X x)(hm:X.mg x=some u)(h:Q u s)
 (hd:(x==("__debug__":Str))=false:=by decide):wpAny (model X.prog X.w) X.A (eval (.Name x pos) X.env) Q E s:=
 aaM I.ok.kind hg (Calls.loadGlobal_global (by rw[I.ok.glob];exact I.mod.glob.keeps I.bk) hm h) hd
def mz{E:Value->Wa->Prop}{f8:List (Addr×Obj)}{s:Wa}{σ:St}{H:Hp}{x:Str}{u:Value}{pos:Pos}{Q:Value->Wa->Prop}(I:Inv X f8 σ H s)(hg:Gl X x)(hm:X.mg x=none)(hv:WX x=some u)(h:Q u s)
 (hn:x≠"__name__":=by decide)(hd:(x==("__debug__":Str))=false:=by decide):wpAny (model X.prog X.w) X.A (eval (.Name x pos) X.env) Q E s:=by
 obtain⟨mb,h1,h2⟩:=I.mod.blt;exact aaM I.ok.kind hg (Calls.loadGlobal_builtin (by rw[I.ok.glob];exact I.mod.glob.keeps I.bk) hm (by rw[I.ok.blt];exact h1.keeps I.bk) ((h2 x hn).trans hv) h) hd
def JK{x:Str}{v:V}{u:Value}{pos:Pos}(hg:Gl X x)(hm:X.mg x=some u)(r:RelV v u)(hd:(x==("__debug__":Str))=false:=by decide):PE X (.Name x pos) (tC v):=
 λ_ _ _ H _ I h=>w4 I hg hm ⟨v,H,I,r,h⟩ hd
def JG{x:Str}{v:V}{u:Value}{pos:Pos}(hg:Gl X x)(hm:X.mg x=none)(hv:WX x=some u)(r:RelV v u)(hn:x≠"__name__":=by decide)(hd:(x==("__debug__":Str))=false:=by decide):PE X (.Name x pos) (tC v):=
 λ_ _ _ H _ I h=>mz I hg hm hv ⟨v,H,I,r,h⟩ hn hd
variable{a b:Expr}{ta tb:TE}{pos:Pos}
def PC(X:Cx)(op:CmpOp)(a b:Expr)(t:TE):Prop:=
 ∀(f8:List (Addr×Obj)) (s:Wa) (σ:St) (H:Hp) (Q:VK),Inv X f8 σ H s->t σ H Q->
  wpAny (model X.prog X.w) X.A (eval a X.env) (λv v6=>wpAny (model X.prog X.w) X.A (eval b X.env) (λu v0=>wpAny (model X.prog X.w) X.A (W7 op v u) (EP X f8 σ Q) X.xe v0) X.xe v6) X.xe s
def GH(b:Expr){op:CmpOp}(h:op≠ .In)(h2:op≠ .NotIn):Xh op b=false:=by
 have e1:(op==CmpOp.In)=false:=by cases op<;>first | rfl | exact acC rfl h
 have e2:(op==CmpOp.NotIn)=false:=by cases op<;>first | rfl | exact acC rfl h2
 cases b<;>simp[Xh,e1,e2]
def Mh{op:CmpOp}{t:TE}(h:PC X op a b t)(h1:Xh op b=false:=by first | exact GH _ (by decide) (by decide) | rfl):PE X (.Compare a [op] [b] pos) t:=λf8 s σ H Q I hw=>wpAny_Compare1 (h f8 s σ H Q I hw) h1
variable{tA da:TT}{W1:List Expr}
def Vz(t u:TT):TT:=λσ H Q=>t σ H λc H1=>if c=true then Q true H1 else u σ H1 Q
def Sf(t:TT):TT:=λσ H Q=>t σ H λc H1=>Q (!c) H1
def Mx(ha:PT X a tA):PW X (.BoolOp .Or [a] pos) tA:=by
 intro wh f8 s σ H Q I h;refine isTrue_or (ck (ha f8 s σ H Q I h) λc s1 e=>?_);cases c with
 |false=>exact isTrue_or_nil e
 |true=>exact e
def O2(ha:PT X a tA)(hb:PW X (.BoolOp .Or (b::W1) pos) da):PW X (.BoolOp .Or (a::b::W1) pos) (Vz tA da):=by
 intro wh f8 s σ H Q I h;refine isTrue_or (ck (ha f8 s σ H _ I h) λc s1 ⟨H1,I1,q1⟩=>?_);cases c with
 |true=>exact⟨H1,I1,q1⟩
 |false=>exact hb wh f8 s1 σ H1 Q I1 q1
def Mv(ha:PT X a tA):PT X (.UnaryOp .Not a pos) (Sf tA):=by
 intro f8 s σ H Q I h;exact isTrue_not (ha f8 s σ H (λc H1=>Q (!c) H1) I h)
def Ph(ta tb:TE):TE:=λσ H Q=>ta σ H λx H1=>∃c,x= .bl c/\if c=true then tb σ H1 Q else Q (.bl false) H1
def Pn(ta:TE):TE:=λσ H Q=>ta σ H λx H1=>∃c,x= .bl c/\Q (.bl (!c)) H1
def Mm{op}{t:TE}(h:PE X a t):PE X (.BoolOp op [a] pos) t:=λf8 s σ H Q I hw=>BoolOp_one (h f8 s σ H Q I hw)
def Mf(ha:PE X a ta)(hb:PE X (.BoolOp .And (b::W1) pos) tb):PE X (.BoolOp .And (a::b::W1) pos) (Ph ta tb):=by
 intro f8 s σ H Q I h;refine BoolOp_and (ck (ha f8 s σ H _ I h) λv s1 ⟨x,H1,I1,r1,q1⟩=>?_);obtain⟨c,rfl,q1⟩:=q1;cases r1;refine XA ?_;cases c with
 |true=>exact hb f8 s1 σ H1 Q I1 q1
 |false=>exact⟨.bl false,H1,I1,rfl,q1⟩
def Ml(ha:PE X a ta):PE X (.UnaryOp .Not a pos) (Pn ta):=by
 intro f8 s σ H Q I h;refine UnaryOp_ (ck (ha f8 s σ H _ I h) λv s1 ⟨x,H1,I1,r1,q1⟩=>?_);obtain⟨c,rfl,q1⟩:=q1;cases r1;exact not_of (XA ⟨.bl (!c),H1,I1,rfl,q1⟩)
def Vy(t:TT)(ta tb:TE):TE:=λσ H Q=>t σ H λc H1=>if c=true then ta σ H1 Q else tb σ H1 Q
def zO{c:Expr}(hc:PT X c tA)(ha:PE X a ta)(hb:PE X b tb):PE X (.IfExp c a b pos) (Vy tA ta tb):=by
 intro f8 s σ H Q I h;refine wpAny_IfExp (ck (hc f8 s σ H _ I h) λd s1 ⟨H1,I1,q1⟩=>?_);cases d with
 |true=>exact ha f8 s1 σ H1 Q I1 q1
 |false=>exact hb f8 s1 σ H1 Q I1 q1
end
def SqL(K:V9)(H:Hp)(a:Addr)(xs:List V):Prop:=
 Rd H a (.lst xs)\/
  ∃(o:Obj) (aR:Array Value) (n:Nat),K.lookup a=some o/\o.cls= .type "list"/\o.dict=none/\o.data= .seq aR n/\aR.size<=Wr/\Vals xs aR.toList
def SqT(K:V9)(H:Hp)(a:Addr)(xs:List V):Prop:=
 Rd H a (.tup xs)\/
  ∃(o:Obj) (aR:Array Value) (n:Nat),K.lookup a=some o/\o.cls= .type "tuple"/\o.data= .seq aR n/\aR.size<=Wr/\Vals xs aR.toList
def QA:Value->Option V
 | .none=>some .non
 | .bool b=>some (.bl b)
 | .int i _=>some (.int i)
 | .str x _=>some (.str x)
 | .bytes b _=>some (.byt b)
 | .float b _=>some (.flt b)
 | .ref a=>some (.ref a)
 | .type n=>some (.ty n)
 |_=>none
def RelV.abs{x:V}{u:Value}(r:RelV x u):QA u=some x:=by
 cases x with
 |non=>cases r;rfl
 |bl _=>cases r;rfl
 |int _=>obtain⟨t,rfl⟩:=r;rfl
 |str _=>obtain⟨t,rfl⟩:=r;rfl
 |byt _=>obtain⟨t,rfl⟩:=r;rfl
 |flt _=>obtain⟨t,rfl⟩:=r;rfl
 |ref _=>cases r;rfl
 |ty _=>cases r;rfl
def RelV.inj{x y:V}{u:Value}(r:RelV x u)(q:RelV y u):x=y:=WC (r.abs.symm.trans q.abs)
def Vals.inj:∀{xs ys:List V}{us:List Value},Vals xs us->Vals ys us->xs=ys
 |_,_,_, .nil, .nil=>rfl
 |_,_,_, .cons r t, .cons r' t'=>by rw[r.inj r',Vals.inj t t']
section
variable{X:Cx}{f8:List (Addr×Obj)}{σ:St}{H:Hp}{s:Wa}{a:Addr}{xs ys:List V}
def SqL.of{K:V9}(h:H a=some (.lst xs)):SqL K H a xs:= .inl (.inl h)
def SqT.of{K:V9}(h:H a=some (.tup xs)):SqT K H a xs:= .inl (.inl h)
def Inv.list(I:Inv X f8 σ H s)(h:SqL X.K H a xs):∃aR:List Value,Vals xs aR/\PlainL s.heap a aR.toArray/\xs.length<=Wr:=by
 rcases h with h | ⟨o,aR,n,hk,hc,hd,hs,hz,r⟩
 ·obtain⟨z,aR,n,r,e⟩:=h.ok I.hok;exact⟨aR,r,⟨_,n,e,rfl,rfl,rfl⟩,z⟩
 ·refine⟨aR.toList,r,⟨o,n,I.kIn a o hk,hc,hd,by simpa using hs⟩,?_⟩;have e:=r.length;simp only[Wu] at e;omega
def Inv.tuple(I:Inv X f8 σ H s)(h:SqT X.K H a xs):∃aR:List Value,Vals xs aR/\IsTup s.heap a aR.toArray/\xs.length<=Wr:=by
 rcases h with h | ⟨o,aR,n,hk,hc,hs,hz,r⟩
 ·obtain⟨z,aR,r,p⟩:=h.ok I.hok;exact⟨aR,r,p,z⟩
 ·refine⟨aR.toList,r,⟨o,I.kIn a o hk,hc,n,by simpa using hs⟩,?_⟩;have e:=r.length;simp only[Wu] at e;omega
def Inv.list_inj(I:Inv X f8 σ H s)(h:SqL X.K H a xs)(h':SqL X.K H a ys):xs=ys:=by
 obtain⟨aR,r,⟨o,n,e,_,_,d⟩,_⟩:=I.list h;obtain⟨its',r',⟨o',n',e',_,_,d'⟩,_⟩:=I.list h';rw[e] at e';cases e';rw[d] at d';injection d' with d1 _
 have:aR=its':=by simpa using acH Array.toList d1
 subst this;exact r.inj r'
def Inv.tuple_inj(I:Inv X f8 σ H s)(h:SqT X.K H a xs)(h':SqT X.K H a ys):xs=ys:=by
 obtain⟨aR,r,⟨o,e,_,n,d⟩,_⟩:=I.tuple h;obtain⟨its',r',⟨o',e',_,n',d'⟩,_⟩:=I.tuple h';rw[e] at e';cases e';rw[d] at d';injection d' with d1 _
 have:aR=its':=by simpa using acH Array.toList d1
 subst this;exact r.inj r'
end
abbrev Cx.wish(X:Cx)(E:Value->Wa->Prop):Cx:={X with xe:=E}
abbrev Cx.nox(X:Cx):Cx:=X.wish λ_ _=>False
def Cx.Ok.wish{X:Cx}(ok:X.Ok)(E:Value->Wa->Prop):(X.wish E).Ok:=
 ⟨ok.mod,ok.kind,ok.glob,ok.blt,ok.above,ok.inj,ok.has,ok.cab,ok.hd,ok.frames,ok.stk,ok.exf,ok.bs,ok.bsz,ok.noex,ok.exfs,ok.funs,ok.frf⟩
def Cx.Ok.unwish{X:Cx}{E:Value->Wa->Prop}(ok:(X.wish E).Ok):X.Ok:=
 ⟨ok.mod,ok.kind,ok.glob,ok.blt,ok.above,ok.inj,ok.has,ok.cab,ok.hd,ok.frames,ok.stk,ok.exf,ok.bs,ok.bsz,ok.noex,ok.exfs,ok.funs,ok.frf⟩
section
variable{X:Cx}{f8:List (Addr×Obj)}{σ:St}{H:Hp}{s:Wa}{E:Value->Wa->Prop}
def Inv.wish(I:Inv X f8 σ H s)(E:Value->Wa->Prop):Inv (X.wish E) f8 σ H s:=⟨I.ok.wish E,I.os,I.bare,I.base,I.loc,I.cell,I.free,I.freeC,I.pin,I.hok,I.len⟩
def Inv.unwish(I:Inv (X.wish E) f8 σ H s):Inv X f8 σ H s:=⟨I.ok.unwish,I.os,I.bare,I.base,I.loc,I.cell,I.free,I.freeC,I.pin,I.hok,I.len⟩
def SP.unwish{D:Ends}{f:Flow}{s':Wa}(h:SP (X.wish E) f8 D f s'):SP X f8 D f s':=by
 cases f with
 |next=>obtain⟨σ',H',I,q⟩:=h;exact⟨σ',H',I.unwish,q⟩
 |brk=>obtain⟨σ',H',I,q⟩:=h;exact⟨σ',H',I.unwish,q⟩
 |cont=>obtain⟨σ',H',I,q⟩:=h;exact⟨σ',H',I.unwish,q⟩
 |ret u=>obtain⟨v,σ',H',I,r,q⟩:=h;exact⟨v,σ',H',I.unwish,r,q⟩
def PE.nox{e:Expr}{t:TE}(h:PE X.nox e t):PE X e t:=λf8 s σ H Q I hw=>
 Xl (h f8 s σ H Q (I.wish _) hw) (λ_ _ ⟨v,H',I',r,q⟩=>⟨v,H',I'.unwish,r,q⟩) λ_ _ z=>XJ z
def PT.nox{e:Expr}{t:TT}(h:PT X.nox e t):PT X e t:=λf8 s σ H Q I hw=>
 Xl (h f8 s σ H Q (I.wish _) hw) (λ_ _ ⟨H',I',q⟩=>⟨H',I'.unwish,q⟩) λ_ _ z=>XJ z
def PSs.nox{st:List Stmt}{t:TS}(h:PSs X.nox st t):PSs X st t:=λf8 s σ H D I hw=>
 Xl (h f8 s σ H D (I.wish _) hw) (λ_ _ q=>q.unwish) λ_ _ z=>XJ z
end
section
variable{X:Cx}{st:Stmt}{W1:List Stmt}{t u:TS}{e:Expr}{te:TE}{pos:Pos}
def Pm:TS:=λD σ H=>D.nx σ H
def Sh(t u:TS):TS:=λD σ H=>t {D with nx:=u D} σ H
def JR:PSs X [] Pm:=λ_ _ σ H _ I h=>ZY ⟨σ,H,I,h⟩
def sX(h1:PS X st t)(h2:PSs X W1 u):PSs X (st::W1) (Sh t u):=by
 intro f8 s σ H D I h;refine wpAny_execs_cons (ck (h1 f8 s σ H {D with nx:=u D} I h) λf s1 q=>?_);cases f with
 |next=>
  obtain⟨σ',H',I',q⟩:=q;exact h2 f8 s1 σ' H' D I' q
 |ret v=>exact q
 |brk=>exact q
 |cont=>exact q
def qM(h1:PS X st t):PSs X [st] t:=by
 intro f8 s σ H D I h;refine wpAny_execs_cons (ck (h1 f8 s σ H D I h) λf s1 q=>?_);cases f with
 |next=>exact ZY q
 |ret v=>exact q
 |brk=>exact q
 |cont=>exact q
def Inv.quiet{f8:List (Addr×Obj)}{σ:St}{H:Hp}{s:Wa}(I:Inv X f8 σ H s):interactive X.env=false:=by simp[interactive,I.ok.kind]
def HJ(te:TE):TS:=λD σ H=>te σ H λ_ H1=>D.nx σ H1
def ju(he:PE X e te)(hs:Yn e none pos.line X.env=pure false:=by rfl):PS X (.Expr e pos) (HJ te):=by
 intro f8 s σ H D I h;exact wpAny_Expr_any (ck (he f8 s σ H _ I h) λv s1 ⟨x,H1,I1,r1,q1⟩=>⟨σ,H1,I1,q1⟩) I.quiet hs
def Sg(te:TE):TS:=λD σ H=>te σ H D.rt
def xN(he:PE X e te):PS X (.Return (some e) pos) (Sg te):=by
 intro f8 s σ H D I h;exact wpAny_Return_some (ck (he f8 s σ H _ I h) λv s1 ⟨x,H1,I1,r1,q1⟩=>⟨x,σ,H1,I1,r1,q1⟩)
def Sd(c:TT)(t u:TS):TS:=λD σ H=>c σ H λb H1=>if b=true then t D σ H1 else u D σ H1
def K3{c:Expr}{a b:List Stmt}{tc:TT}(hc:PT X c tc)(ha:PSs X a t)(hb:PSs X b u):PS X (.If c a b pos) (Sd tc t u):=by
 intro f8 s σ H D I h;refine wpAny_If (ck (hc f8 s σ H _ I h) λd s1 ⟨H1,I1,q1⟩=>?_);cases d with
 |true=>exact ha f8 s1 σ H1 D I1 q1
 |false=>exact hb f8 s1 σ H1 D I1 q1
end
abbrev TG:=V->St->Hp->(St->Hp->Prop)->Prop
abbrev Ko:=List V->St->Hp->(St->Hp->Prop)->Prop
def PG(X:Cx)(target:Expr)(t:TG):Prop:=
 ∀(f8:List (Addr×Obj)) (s:Wa) (σ:St) (H:Hp) (v:V) (u:Value) (Q:St->Hp->Prop),Inv X f8 σ H s->RelV v u->t v σ H Q->
  wpAny (model X.prog X.w) X.A (assign target X.env u) (λ_ s'=>∃σ' H',Inv X f8 σ' H' s'/\Q σ' H') X.xe s
def Py(X:Cx)(ts:List Expr)(t:Ko):Prop:=
 ∀(f8:List (Addr×Obj)) (s:Wa) (σ:St) (H:Hp) (vs:List V) (us:List Value) (Q:St->Hp->Prop),Inv X f8 σ H s->Vals vs us->t vs σ H Q->
  wpAny (model X.prog X.w) X.A (assignInOrder ((aaa ts X.env).map (·.2)) us) (λ_ s'=>∃σ' H',Inv X f8 σ' H' s'/\Q σ' H') X.xe s
abbrev Qw:=V->V->V->Hp->(Hp->Prop)->Prop
section
variable{X:Cx}{pos:Pos}
def Cu(i:Nat):TG:=λv σ H Q=>Q (σ.set i (some v)) H
def bI{i:Nat}{x:Str}(hN:X.N.Nodup)(hi:X.N[i]? =some x)(hx:Loc X.env.scope x)(hf:X.fn x=true\/X.env.scope.names.lookup x=some .local:=by first | exact .inl rfl | exact .inr rfl | assumption):PG X (.Name x pos) (Cu i):=by
 intro f8 s σ H v u Q I r h;exact aaQ (Ab I hN hi hx r (λs' I'=>⟨_,H,I',h⟩) hf)
def NH:Ko:=λvs σ H Q=>vs=[]/\Q σ H
def Kz(t:TG)(u:Ko):Ko:=λvs σ H Q=>∃v r,vs=v::r/\t v σ H λσ' H'=>u r σ' H' Q
def CQ:Py X [] NH:=by
 intro f8 s σ H vs us Q I r h;obtain⟨e,h⟩:=h;subst e;cases r;exact assignInOrder_nil ⟨σ,H,I,h⟩
def nS{e:Expr}{es:List Expr}{t:TG}{u:Ko}(h1:PG X e t)(h2:Py X es u)
 (hs:(aaa (e::es) X.env).map (·.2)=assign e X.env::(aaa es X.env).map (·.2):=by rfl):Py X (e::es) (Kz t u):=by
 intro f8 s σ H vs us Q I r h;obtain⟨v,vr,e1,h⟩:=h;subst e1;cases r with
 |cons r rr=>
  rw[hs];refine assignInOrder_cons (ck (h1 f8 s σ H _ _ _ I r h) λ_ s1 ⟨σ1,H1,I1,q1⟩=>?_);exact h2 f8 s1 σ1 H1 _ _ Q I1 rr q1
def NI(K:V9)(n:Nat)(t:Ko):TG:=λv σ H Q=>∃a xs,v= .ref a/\SqT K H a xs/\xs.length=n/\t xs σ H Q
def Hb{es:List Expr}{k:Nat}{t:Ko}{n:Nat}(hc:X.calm=true)(h:Py X es t)
 (hn:(aaa es X.env).length=n:=by rfl)(qa:(aaa es X.env).findIdx? (·.1)=none:=by rfl):PG X (.Tuple es k pos) (NI X.K n t):=by
 intro f8 s σ H v u Q I r hw;obtain⟨a,xs,e1,hq,hl,hw⟩:=hw;subst e1;cases r;obtain⟨aR,rv,ht,hz⟩:=I.tuple hq;refine assign_Tuple_tuple (I.ok.hd hc) ht (by simp[hn,<-hl,rv.length]) qa λh' hx=>?_;have I1:Inv X f8 σ H {s with heap:=h'}:=I.kept (t':=s.toks) λb o e=>hx b o (WA (Wl e)) e;exact h f8 _ σ H xs _ Q I1 (by simpa using rv) hw
def jO(to ti:TE)(t:Qw):TG:=λv σ H Q=>to σ H λo H1=>ti σ H1 λi H2=>t o i v H2 λH3=>Q σ H3
def R5(te:TE)(g:TG):TS:=λD σ H=>te σ H λx H1=>g x σ H1 D.nx
def sW{tg e:Expr}{te:TE}{g:TG}(he:PE X e te)(hg:PG X tg g)(hs:aas [tg] e pos.line X.env=pure false:=by rfl)(hw:swappedStores [tg] e X.env=pure none:=by rfl)
 (h1:(aaa [tg] X.env).map (·.2)=[assign tg X.env]:=by rfl):PS X (.Assign [tg] e pos) (R5 te g):=by
 intro f8 s σ H D I h;refine wpAny_Assign_stores (ck (he f8 s σ H _ I h) λv s1 ⟨x,H1,I1,r1,q1⟩=>?_) hs hw;rw[h1];exact ck (hg f8 s1 σ H1 x v _ I1 r1 q1) λ_ s2 q=>q
end
section
variable{X:Cx}{pos:Pos}
def ML(c:TT)(tb:TS):TS:=λD σ H=>∃W:Nat->St->Hp->Prop,(∃m,W m σ H)/\∀m σ H,W m σ H->
 c σ H λb H1=>if b=true then∃N:St->Hp->Prop,(∀σ' H',N σ' H'->∃m',m'<m/\W m' σ' H')/\tb {D with nx:=N,ct:=N,bk:=D.nx} σ H1 else D.nx σ H1
def Hf{c:Expr}{body:List Stmt}{tc:TT}{tb:TS}(hp:aby (model X.prog X.w) X.A X.env X.xe)(hc:PT X c tc)(hb:PSs X body tb):PS X (.While c body [] pos) (ML tc tb):=by
 intro f8 s σ H D I h;obtain⟨W,⟨m0,w0⟩,turn⟩:=h;refine wpAny_While (codeAny_whileLoop (λn s'=>∃σ' H',Inv X f8 σ' H' s'/\W n σ' H') ?_ m0 ⟨σ,H,I,w0⟩);rintro n s1 ⟨σ1,H1,I1,w1⟩;refine Yu hp (ck (hc f8 s1 σ1 H1 _ I1 (turn n σ1 H1 w1)) λb s2 ⟨H2,I2,q2⟩=>?_);cases b with
 |true=>
  obtain⟨N,hN,q2⟩:=q2;rw[acz rfl];refine Yu hp (ck (hb f8 s2 σ1 H2 _ I2 q2) λf s3 q3=>?_);cases f with
  |next=>
   obtain⟨σ3,H3,I3,n3⟩:=q3;obtain⟨m',hm,w3⟩:=hN σ3 H3 n3;exact⟨m',hm,σ3,H3,I3,w3⟩
  |cont=>
   obtain⟨σ3,H3,I3,n3⟩:=q3;obtain⟨m',hm,w3⟩:=hN σ3 H3 n3;exact⟨m',hm,σ3,H3,I3,w3⟩
  |brk=>exact q3
  |ret v=>exact q3
 |false=>
  rw[acA Wt];exact ZY ⟨σ1,H2,I2,q2⟩
end
structure It where
 go:Nat->Hp->Prop
 yld:Nat->Hp->V->Hp->Prop
 stop:Nat->Hp->Prop
def t6(X:Cx)(f8:List (Addr×Obj))(H:Hp)(b:Addr):Prop:=
 H b=none/\b≠X.env.locals/\b∉X.fs/\(b∈X.ex\/X.acJ.heap.objs.size<=b)/\(∀x c,X.env.cells.lookup x=some c->c≠b)/\∀p∈X.pn++f8,p.1≠b
def Inv.fpOk{X:Cx}{f8:List (Addr×Obj)}{σ:St}{H H':Hp}{s:Wa}{b:Addr}(I:Inv X f8 σ H s)(hb:s.heap.objs.size<=b)(hn:H' b=none):t6 X f8 H' b:=by
 refine⟨hn,XM (WH I.lt hb),I.nofs hb, .inr (WZ I.sz hb),λx c e z=>?_,λp hp z=>?_⟩
 ·obtain⟨v,q⟩:=I.cell x c e;exact acC (WH q.lt (by rw[z];exact hb)) (Xe _)
 ·exact acC (WH (Wl (I.pin p hp).1) (by rw[z];exact hb)) (Xe _)
structure Turn (P:Wz) (w:World) (K:V9) (tg:Expr) (J:It) (fp:List Addr) (it:Addr) (tn:Nat->Heap->Prop):Prop where
 mem:it∈fp
 obj:∀i h,tn i h->∀b∈fp,∃o,h.get? b=some o/\∀v,o.data≠ .cell v
 keep:∀i h h',tn i h->(∀b∈fp,∀o,h.get? b=some o->h'.get? b=some o)->tn i h'
 item:∀(X:Cx),X.prog=P->X.w=w->X.K=K->X.calm=true->∀(i:Nat) (f8:List (Addr×Obj)) (s:Wa) (σ:St) (H:Hp) (E:Value->Wa->Prop),Inv X f8 σ H s->(∀b∈fp,t6 X f8 H b)->tn i s.heap->J.go i H->
  wpAny (model P w) X.A (ZG (.ref it)) (λr s1=>∃u,r=some u/\
   wpAny (model P w) X.A (Z0 tg (.ref it) u) (λ_ s2=>∃x H',Inv X f8 σ H' s2/\RelV x u/\J.yld i H x H'/\tn (i+1) s2.heap/\∀b∈fp,H' b=none) E s1) E s
 done:∀(X:Cx),X.prog=P->X.w=w->X.K=K->X.calm=true->∀(i:Nat) (f8:List (Addr×Obj)) (s:Wa) (σ:St) (H:Hp) (E:Value->Wa->Prop),Inv X f8 σ H s->(∀b∈fp,t6 X f8 H b)->tn i s.heap->J.stop i H->
  wpAny (model P w) X.A (ZG (.ref it)) (λr s1=>r=none/\Inv X f8 σ H s1) E s
 self:∀(A:Xa) (i:Nat) (s:Wa) (Q:Value->Wa->Prop) (E:Value->Wa->Prop),tn i s.heap->Q (.ref it) s->wpAny (model P w) A (abZ (.ref it)) Q E s
abbrev TI:=St->Hp->(It->Hp->Prop)->Prop
def Qs(X:Cx)(f8:List (Addr×Obj))(σ:St)(tg:Expr)(R:It->Hp->Prop)(Tp:Value)(s2:Wa):Prop:=
 ∃(it:Addr) (fp:List Addr) (tn:Nat->Heap->Prop) (J:It) (H':Hp),Tp= .ref it/\Inv X f8 σ H' s2/\Turn X.prog X.w X.K tg J fp it tn/\tn 0 s2.heap/\(∀b∈fp,t6 X f8 H' b)/\R J H'
def PI(X:Cx)(tg iter:Expr)(wi:TI):Prop:=
 ∀(f8:List (Addr×Obj)) (s:Wa) (σ:St) (H:Hp) (R:It->Hp->Prop),Inv X f8 σ H s->wi σ H R->
  wpAny (model X.prog X.w) X.A (eval iter X.env) (λv s1=>wpAny (model X.prog X.w) X.A (abZ v) (Qs X f8 σ tg R) X.xe s1) X.xe s
def rp{M:Model}{A:Xa}{E:Value->Wa->Prop}{s:Wa}{tg:Expr}{it:Addr}{u:Value}{o:Obj}{n:String}{vs:Array Value}{Q:Unit->Wa->Prop}(ho:s.heap.get? it=some o)(hc:o.cls= .type n)(hd:o.data= .fields vs)
 (hn:["enumerate","zip","dict_itemiterator","dict_reverseitemiterator","odict_iterator","itertools.zip_longest","itertools.pairwise"].contains n=false)(hQ:Q () s):wpAny M A (Z0 tg (.ref it) u) Q E s:=by
 unfold Z0;cases tg<;>first
  |exact V_ hQ
  |(cases u<;>first
    |exact V_ hQ
    |(refine V2 (wpAny_load ho ?_)
      rw[hc,hd];show wpAny M A (if (["enumerate","zip","dict_itemiterator","dict_reverseitemiterator","odict_iterator","itertools.zip_longest","itertools.pairwise"].contains n&&vs[0]? ==some (ZZ _))=true then _ else _) Q E s;rw[acA (by intro h;rw[hn,Bool.false_and] at h;cases h)];exact V_ hQ))
def Qo(K:V9)(a:Addr):It:=
 ⟨λi H=>∃xs x,SqL K H a xs/\xs[i]? =some x,λi H x H'=>H'=H/\∀xs,SqL K H a xs->xs[i]? =some x,λi H=>∃xs,SqL K H a xs/\xs.length<=i⟩
def Qp(K:V9)(a:Addr):It:=
 ⟨λi H=>∃xs x,SqT K H a xs/\xs[i]? =some x,λi H x H'=>H'=H/\∀xs,SqT K H a xs->xs[i]? =some x,λi H=>∃xs,SqT K H a xs/\xs.length<=i⟩
def Nf(lo:Int)(n:Nat):It:=⟨λi _=>i<n,λi H x H'=>H'=H/\x= .int (lo+i),λi _=>n<=i⟩
def EL{P:Wz}{w:World}{K:V9}{tg:Expr}(a it:Addr):Turn P w K tg (Qo K a) [it] it (λi h=>h.IsListIter it a i) where
 mem:=by simp
 obj:=λi h st b hb=>by
  have e:b=it:=by simpa using hb
  subst e;obtain⟨o,e,c,d⟩:=st;exact⟨o,e,λv z=>by rw[d] at z;cases z⟩
 keep:=λi h h' st k=>st.at λo e=>k it (by simp) o e
 item:=by
  intro X hP hw hK hc i f8 s σ H E I hf st hg;subst hP hw hK;obtain⟨xs,x,hq,hx⟩:=hg;obtain⟨aR,rv,p,hz⟩:=I.list hq;obtain⟨u,hu,ru⟩:=rv.get hx;obtain⟨f0,f1,f2,f3,f4,f5⟩:=hf it (by simp);refine wpAny_pyNext_list_item st p.isList (x:=u) (by simpa using hu) λh' p5 sb=>?_;have I1:Inv X f8 σ H {s with heap:=h'}:=I.turned (t':=s.toks) (λb o hb e=>(sb.2 b hb).trans e) f0 f1 f3 f4 f5;obtain⟨o,e,c,d⟩:=id p5;exact⟨u,rfl,rp (s:={s with heap:=h'}) e c d (by decide) ⟨x,H,I1,ru,⟨rfl,λys hy=>by rw[I.list_inj hy hq];exact hx⟩,p5,λb hb=>(hf b hb).1⟩⟩
 done:=by
  intro X hP hw hK hc i f8 s σ H E I hf st hg;subst hP hw hK;obtain⟨xs,hq,hx⟩:=hg;obtain⟨aR,rv,p,hz⟩:=I.list hq;obtain⟨f0,f1,f2,f3,f4,f5⟩:=hf it (by simp);have hl:=rv.length;exact wpAny_pyNext_list_end (I.ok.hd hc) st p.isList (by simp;omega) λh' eb=>⟨rfl,I.turned (t':=s.toks) (λb o hb e=>eb b o hb e) f0 f1 f3 f4 f5⟩
 self:=λ_ _ _ _ _ st h=>wpAny_pyIter_listiter st h
def B1{P:Wz}{w:World}{K:V9}{tg:Expr}(a it:Addr):Turn P w K tg (Qp K a) [it] it (λi h=>h.IsTupleIter it a i) where
 mem:=by simp
 obj:=λi h st b hb=>by
  have e:b=it:=by simpa using hb
  subst e;obtain⟨o,e,c,d⟩:=st;exact⟨o,e,λv z=>by rw[d] at z;cases z⟩
 keep:=λi h h' st k=>st.at λo e=>k it (by simp) o e
 item:=by
  intro X hP hw hK hc i f8 s σ H E I hf st hg;subst hP hw hK;obtain⟨xs,x,hq,hx⟩:=hg;obtain⟨aR,rv,p,hz⟩:=I.tuple hq;obtain⟨u,hu,ru⟩:=rv.get hx;obtain⟨f0,f1,f2,f3,f4,f5⟩:=hf it (by simp);refine wpAny_pyNext_tuple_item st (show s.heap.IsTuple a aR.toArray from p) (x:=u) (by simpa using hu) λh' p5 sb=>?_;have I1:Inv X f8 σ H {s with heap:=h'}:=I.turned (t':=s.toks) (λb o hb e=>(sb.2 b hb).trans e) f0 f1 f3 f4 f5;obtain⟨o,e,c,d⟩:=id p5;exact⟨u,rfl,rp (s:={s with heap:=h'}) e c d (by decide) ⟨x,H,I1,ru,⟨rfl,λys hy=>by rw[I.tuple_inj hy hq];exact hx⟩,p5,λb hb=>(hf b hb).1⟩⟩
 done:=by
  intro X hP hw hK hc i f8 s σ H E I hf st hg;subst hP hw hK;obtain⟨xs,hq,hx⟩:=hg;obtain⟨aR,rv,p,hz⟩:=I.tuple hq;obtain⟨f0,f1,f2,f3,f4,f5⟩:=hf it (by simp);have hl:=rv.length;exact wpAny_pyNext_tuple_end (I.ok.hd hc) st (show s.heap.IsTuple a aR.toArray from p) (by simp;omega) λh' eb=>⟨rfl,I.turned (t':=s.toks) (λb o hb e=>eb b o hb e) f0 f1 f3 f4 f5⟩
 self:=λ_ _ _ _ _ st h=>wpAny_pyIter_tupleiter st h
def B0{P:Wz}{w:World}{K:V9}{tg:Expr}(it:Addr)(lo:Int)(n:Nat):Turn P w K tg (Nf lo n) [it] it (λi h=>abC h it (lo+(i:Nat)*1) ((n:Int) - (i:Nat)) 1) where
 mem:=by simp
 obj:=λi h st b hb=>by
  have e:b=it:=by simpa using hb
  subst e;exact⟨_,st,λv z=>by
   have z':WI _=Data.cell v:=z;cases z'⟩
 keep:=λi h h' st k=>k it (by simp) _ st
 item:=by
  intro X hP hw hK hc i f8 s σ H E I hf st hg;subst hP hw hK;obtain⟨f0,f1,f2,f3,f4,f5⟩:=hf it (by simp);have W:=Walks.range (prog:=X.prog) (w:=X.w) (I.ok.hd hc) it lo 1 n;refine W.item i s _ _ hg st λv h' tk hv p5 kk=>?_;obtain⟨t,rfl⟩:=hv;have I1:Inv X f8 σ H {s with heap:=h',toks:=tk}:=I.turned (λb o hb e=>kk b o (by simpa using hb) e) f0 f1 f3 f4 f5;refine⟨_,rfl,rp (s:={s with heap:=h',toks:=tk}) (n:="range_iterator") p5 rfl rfl (by decide) ⟨.int (lo+i),H,I1,⟨t,?_⟩,⟨rfl,rfl⟩,p5,λb hb=>(hf b hb).1⟩⟩;rw[Int.mul_one]
 done:=by
  intro X hP hw hK hc i f8 s σ H E I hf st hg;subst hP hw hK;obtain⟨f0,f1,f2,f3,f4,f5⟩:=hf it (by simp);exact acr (I.ok.hd hc) st (by have:n<=i:=hg;omega) λh' eb=>⟨rfl,I.turned (t':=s.toks) (λb o hb e=>eb b o hb e) f0 f1 f3 f4 f5⟩
 self:=λ_ _ _ _ _ st h=>acs st h
section
variable{X:Cx}{tg:Expr}
def Ov(K:V9)(tl:TE):TI:=λσ H R=>tl σ H λx H1=>∃a,x= .ref a/\(∃xs,SqL K H1 a xs)/\R (Qo K a) H1
def RC(K:V9)(tl:TE):TI:=λσ H R=>tl σ H λx H1=>∃a,x= .ref a/\(∃xs,SqT K H1 a xs)/\R (Qp K a) H1
def JM{l:Expr}{tl:TE}(hl:PE X l tl):PI X tg l (Ov X.K tl):=by
 intro f8 s σ H R I h;refine ck (hl f8 s σ H _ I h) λv s1 ⟨x,H1,I1,r1,q1⟩=>?_;obtain⟨a,e,⟨xs,hq⟩,q⟩:=q1;subst e;cases r1;obtain⟨aR,rv,p,hz⟩:=I1.list hq;refine aaP p.isList ?_;refine⟨s1.heap.objs.size,[s1.heap.objs.size],_,_,H1,rfl,I1.kept (t':=s1.toks) λb o e=>V8 _ e,EL a _,⟨_,Wm _ rfl,rfl,rfl⟩,λb hb=>?_,q⟩;have e:b=s1.heap.objs.size:=by simpa using hb
 subst e;exact I1.fpOk (Wj _) (I1.hok.fresh (Wj _))
def Ms{l:Expr}{tl:TE}(hl:PE X l tl):PI X tg l (RC X.K tl):=by
 intro f8 s σ H R I h;refine ck (hl f8 s σ H _ I h) λv s1 ⟨x,H1,I1,r1,q1⟩=>?_;obtain⟨a,e,⟨xs,hq⟩,q⟩:=q1;subst e;cases r1;obtain⟨aR,rv,p,hz⟩:=I1.tuple hq;refine wpAny_pyIter_tuple (show s1.heap.IsTuple a aR.toArray from p) ?_;refine⟨s1.heap.objs.size,[s1.heap.objs.size],_,_,H1,rfl,I1.kept (t':=s1.toks) λb o e=>V8 _ e,B1 a _,⟨_,Wm _ rfl,rfl,rfl⟩,λb hb=>?_,q⟩;have e:b=s1.heap.objs.size:=by simpa using hb
 subst e;exact I1.fpOk (Wj _) (I1.hok.fresh (Wj _))
def zU{f8:List (Addr×Obj)}{σ:St}{H:Hp}{s:Wa}{R:It->Hp->Prop}{E:Value->Wa->Prop}{lo hi:Int}{t u v:Tok}{tk:Nat}(I:Inv X f8 σ H s)(h1: -(2 ^ 62)<=lo)(h2:lo<2 ^ 62)(h3: -(2 ^ 62)<=hi)(h4:hi<2 ^ 62)
 (q:R (Nf lo (hi - lo).toNat) H):wpAny (model X.prog X.w) X.A (abZ (.ref s.heap.objs.size)) (Qs X f8 σ tg R) E {s with heap:=s.heap.push {cls:= .type "range",data:= .fields #[.int lo t, .int hi u, .int 1 v]},toks:=tk}:=by
 refine wpAny_pyIter_range (IsRange.new ..) (small_one h1 h2 h3 h4) ?_;have I1:Inv X f8 σ H {s with heap:=s.heap.push {cls:= .type "range",data:= .fields #[.int lo t, .int hi u, .int 1 v]},toks:=tk}:=I.kept λb o e=>V8 _ e;refine⟨(s.heap.push {cls:= .type "range",data:= .fields #[.int lo t, .int hi u, .int 1 v]}).objs.size,[(s.heap.push {cls:= .type "range",data:= .fields #[.int lo t, .int hi u, .int 1 v]}).objs.size],_,_,H,rfl,
  I1.kept (t':=tk) λb o e=>V8 _ e,B0 _ lo (hi - lo).toNat,?_,λb hb=>?_,q⟩
 ·have e1:lo+((0:Nat):Int)*1=lo:=by simp
  have e2:(((hi - lo).toNat:Nat):Int) - ((0:Nat):Int)=aaf lo hi 1:=by rw[rangeSize_one];split<;>omega
  show abC _ _ (lo+((0:Nat):Int)*1) ((((hi - lo).toNat:Nat):Int) - ((0:Nat):Int)) 1;rw[e1,e2];exact Wm _ rfl
 ·have e:b=(s.heap.push {cls:= .type "range",data:= .fields #[.int lo t, .int hi u, .int 1 v]}).objs.size:=by simpa using hb
  subst e;exact I1.fpOk (Wj _) (I1.hok.fresh (Wj _))
def Ow(ta:TA):TI:=λσ H R=>ta σ H λvs H1=>∃j:Int,vs=[.int j]/\ -(2 ^ 62)<=j/\j<2 ^ 62/\R (Nf 0 j.toNat) H1
def Ox(ta:TA):TI:=λσ H R=>ta σ H λvs H1=>∃i j:Int,vs=[.int i, .int j]/\(-(2 ^ 62)<=i/\i<2 ^ 62/\ -(2 ^ 62)<=j/\j<2 ^ 62)/\R (Nf i (j - i).toNat) H1
def Et{a:Expr}{ta:TA}{p pos:Pos}(hg:Gl X "range")(hm:X.mg "range"=none)(ha:PA X [a] ta)(hs:Wf [a] X.env=[(false,eval a X.env)]:=by rfl):PI X tg (.Call (.Name "range" p) [a] [] pos) (Ow ta):=by
 intro f8 s σ H R I h;refine Call_ (mz I hg hm boot_range (XD (ck (ha pos f8 s σ H _ I h) λus s1 ⟨vs,H1,I1,r1,q1⟩=>?_) hs rfl));obtain⟨j,e,q1,q2,q⟩:=q1;subst e;cases r1 with
 |cons r rr=>
  cases rr;obtain⟨t,rfl⟩:=r;exact call_range_1 (zU I1 (by omega) (by omega) q1 q2 (by simpa using q))
def Eu{a b:Expr}{ta:TA}{p pos:Pos}(hg:Gl X "range")(hm:X.mg "range"=none)(ha:PA X [a,b] ta)(hs:Wf [a,b] X.env=[(false,eval a X.env),(false,eval b X.env)]:=by rfl)(E3:Wf [b] X.env=[(false,eval b X.env)]:=by rfl):
 PI X tg (.Call (.Name "range" p) [a,b] [] pos) (Ox ta):=by
 intro f8 s σ H R I h;refine Call_ (mz I hg hm boot_range (XD (ck (ha pos f8 s σ H _ I h) λus s1 ⟨vs,H1,I1,r1,q1⟩=>?_) (by rw[hs,E3]) (by rw[E3];rfl)));obtain⟨i,j,e,⟨q1,q2,q3,q4⟩,q⟩:=q1;subst e;cases r1 with
 |cons r rr=>
  cases rr with
  |cons r' rr=>
   cases rr;obtain⟨t,rfl⟩:=r;obtain⟨t',rfl⟩:=r';exact call_range_2 (zU I1 q1 q2 q3 q4 q)
def Sb(wi:TI)(g:TG)(tb:TS):TS:=λD σ H=>wi σ H λJ H1=>∃W:Nat->Nat->St->Hp->Prop,(∃m,W 0 m σ H1)/\∀i m σ H,W i m σ H->
 (J.stop i H/\D.nx σ H)\/(J.go i H/\∃N:St->Hp->Prop,(∀σ' H',N σ' H'->∃m',m'<m/\W (i+1) m' σ' H')/\∀x H',J.yld i H x H'->g x σ H' λσ2 H2=>tb {D with nx:=N,ct:=N,bk:=D.nx} σ2 H2)
def sU(fp:List Addr)(h:Heap):List (Addr×Obj):=fp.filterMap λb=>(h.get? b).map λo=>(b,o)
def jm{fp:List Addr}{h:Heap}{b:Addr}{o:Obj}(hb:b∈fp)(e:h.get? b=some o):(b,o)∈sU fp h:=ack.mpr ⟨b,hb,by rw[e];rfl⟩
def Ec{fp:List Addr}{h:Heap}{p:Addr×Obj}(hp:p∈sU fp h):p.1∈fp/\h.get? p.1=some p.2:=by
 obtain⟨b,hb,e⟩:=ack.mp hp;cases q:h.get? b with
 |none=>rw[q] at e;cases e
 |some o=>
  rw[q] at e;have e':(b,o)=p:=WC e;subst e';exact⟨hb,q⟩
def Inv.pinned{f8:List (Addr×Obj)}{σ:St}{H:Hp}{s:Wa}{fp:List Addr}(I:Inv X f8 σ H s)(hf:∀b∈fp,t6 X f8 H b)(ho:∀b∈fp,∃o,s.heap.get? b=some o/\∀v,o.data≠ .cell v):Inv X (f8++sU fp s.heap) σ H s:=
 I.pins_of λp hp=>(W3.mp hp).elim (λz=>I.pin p (Ww _ z)) λz=>by
  obtain⟨hb,e⟩:=Ec z;obtain⟨f0,f1,f2,_⟩:=hf p.1 hb;obtain⟨o,e',d⟩:=ho p.1 hb;rw[e] at e';cases e';exact⟨e,f0,f1,f2,d⟩
def Inv.unpinned{f8 pl:List (Addr×Obj)}{σ:St}{H:Hp}{s:Wa}(I:Inv X (f8++pl) σ H s):Inv X f8 σ H s:=I.pins_of λp hp=>I.pin p (Ww _ (XH _ hp))
def He{iter:Expr}{body:List Stmt}{wi:TI}{g:TG}{tb:TS}{pos:Pos}(hp:aby (model X.prog X.w) X.A X.env X.xe)(hc:X.calm=true)(hi:PI X tg iter wi)(hg:PG X tg g)(hb:PSs X body tb)
 (hs:∀x,Y3 iter X.env x=pure x:=by intro _;rfl):PS X (.For tg iter body [] pos) (Sb wi g tb):=by
 intro f8 s σ H D I h;refine wpAny_For (ck (hi f8 s σ H _ I h) λv s1 h1=>ck h1 λTp s2 h2=>?_) hs;obtain⟨it,fp,tn,J,H2,e,I2,T,BW,f2,W,⟨m0,w0⟩,turn⟩:=h2;subst e;have MH:∀{H':Hp},(∀b∈fp,H' b=none)->∀b∈fp,t6 X f8 H' b:=λhn b hb=>⟨hn b hb,(f2 b hb).2⟩
 refine codeAny_forLoop_any (λn s'=>∃i σ' H',Inv X f8 σ' H' s'/\tn i s'.heap/\(∀b∈fp,H' b=none)/\W i n σ' H') ?_ m0 ⟨0,σ,H2,I2,BW,λb hb=>(f2 b hb).1,w0⟩;rintro n s3 ⟨i,σ3,H3,I3,M8,PK,w3⟩;rcases turn i n σ3 H3 w3 with⟨stop,qn⟩ | ⟨go,N,hN,step⟩
 ·refine Yu hp (ck (T.done X rfl rfl rfl hc i f8 s3 σ3 H3 X.xe I3 (MH PK) M8 stop) λr s4 ⟨hr,I4⟩=>?_);subst hr;exact ZY ⟨σ3,H3,I4,qn⟩
 ·refine Yu hp (ck (T.item X rfl rfl rfl hc i f8 s3 σ3 H3 X.xe I3 (MH PK) M8 go) λr s4 ⟨u,hr,h4⟩=>?_);subst hr;refine Yu hp (ck h4 λ_ s5 ⟨x,H5,I5,r5,y5,R4,T4⟩=>?_);have I5':=I5.pinned (MH T4) (T.obj _ _ R4);refine Yu hp (ck (hg _ s5 σ3 H5 x u _ I5' r5 (step x H5 y5)) λ_ s6 ⟨σ6,H6,I6,q6⟩=>?_);refine Yu hp (ck (hb _ s6 σ6 H6 _ I6 q6) λf s7 q7=>?_);have again:∀{σ7:St}{H7:Hp},Inv X (f8++sU fp s5.heap) σ7 H7 s7->N σ7 H7->∃m,m<n/\∃i σ' H',Inv X f8 σ' H' s7/\tn i s7.heap/\(∀b∈fp,H' b=none)/\W i m σ' H':=λ{σ7 H7} I7 n7=>by
   obtain⟨m',hm,w7⟩:=hN σ7 H7 n7;refine⟨m',hm,i+1,σ7,H7,I7.unpinned,T.keep _ _ _ R4 λb hb o e=>(I7.pin (b,o) (Ww _ (Ww _ (jm hb e)))).1,λb hb=>?_,w7⟩;obtain⟨o,e,d⟩:=T.obj _ _ R4 b hb;exact(I7.pin (b,o) (Ww _ (Ww _ (jm hb e)))).2.1
  cases f with
  |next=>obtain⟨σ7,H7,I7,n7⟩:=q7;exact again I7 n7
  |cont=>obtain⟨σ7,H7,I7,n7⟩:=q7;exact again I7 n7
  |brk=>obtain⟨σ7,H7,I7,q7⟩:=q7;exact⟨σ7,H7,I7.unpinned,q7⟩
  |ret v=>obtain⟨x7,σ7,H7,I7,r7,q7⟩:=q7;exact⟨x7,σ7,H7,I7.unpinned,r7,q7⟩
end
abbrev R2:=V->V->Hp->VK->Prop
def OpR(X:Cx)(f:Value->Value->Sem Value)(r:R2):Prop:=
 ∀(f8:List (Addr×Obj)) (s:Wa) (σ:St) (H:Hp) (x y:V) (v u:Value) (Q:VK),Inv X f8 σ H s->RelV x v->RelV y u->r x y H Q->
  wpAny (model X.prog X.w) X.A (f v u) (EP X f8 σ Q) X.xe s
def Qy(X:Cx)(f:Value->Sem Value)(r:V->Hp->VK->Prop):Prop:=
 ∀(f8:List (Addr×Obj)) (s:Wa) (σ:St) (H:Hp) (x:V) (v:Value) (Q:VK),Inv X f8 σ H s->RelV x v->r x H Q->
  wpAny (model X.prog X.w) X.A (f v) (EP X f8 σ Q) X.xe s
def CallR(X:Cx)(f:Value)(r:List V->Hp->VK->Prop):Prop:=
 ∀(f8:List (Addr×Obj)) (s:Wa) (σ:St) (H:Hp) (xs:List V) (us:List Value) (Q:VK),Inv X f8 σ H s->Vals xs us->r xs H Q->
  wpAny (model X.prog X.w) X.A (call f us) (EP X f8 σ Q) X.xe s
def Qx(X:Cx)(r:V->Hp->(Bool->Hp->Prop)->Prop):Prop:=
 ∀(f8:List (Addr×Obj)) (s:Wa) (σ:St) (H:Hp) (x:V) (v:Value) (Q:Bool->Hp->Prop),Inv X f8 σ H s->RelV x v->r x H Q->
  wpAny (model X.prog X.w) X.A (truthy v) (TP X f8 σ Q) X.xe s
def Po(r:R2)(ta tb:TE):TE:=λσ H Q=>ta σ H λx H1=>tb σ H1 λy H2=>r x y H2 Q
def VB(r:V->Hp->VK->Prop)(ta:TE):TE:=λσ H Q=>ta σ H λx H1=>r x H1 Q
def rI(C:Int->Int->Prop)(g:Int->Int->V):R2:=λx y H Q=>∃i j,x= .int i/\y= .int j/\C i j/\Q (g i j) H
def BJ(g:Int->Int->V):R2:=λx y H Q=>∃i j,x= .int i/\y= .int j/\Q (g i j) H
def rU(g:Int->V):V->Hp->VK->Prop:=λx H Q=>∃i,x= .int i/\Q (g i) H
section
variable{X:Cx}{a b:Expr}{ta tb:TE}{pos:Pos}
def Lg(ha:PE X a ta)(hb:PE X b tb){f8:List (Addr×Obj)}{s:Wa}{σ:St}{H:Hp}{R:V->V->Hp->Prop}(I:Inv X f8 σ H s)
 (h:ta σ H λx H1=>tb σ H1 λy H2=>R x y H2){Q:Value->Wa->Prop}{f:Value->Value->Sem Value}
 (hf:∀v u s2 x y H2,Inv X f8 σ H2 s2->RelV x v->RelV y u->R x y H2->wpAny (model X.prog X.w) X.A (f v u) Q X.xe s2):
 wpAny (model X.prog X.w) X.A (eval a X.env) (λv v6=>wpAny (model X.prog X.w) X.A (eval b X.env) (λu v0=>wpAny (model X.prog X.w) X.A (f v u) Q X.xe v0) X.xe v6) X.xe s:=by
 refine ck (ha f8 s σ H _ I h) λv s1 ⟨x,H1,I1,r1,q1⟩=>?_;refine ck (hb f8 s1 σ H1 _ I1 q1) λu s2 ⟨y,H2,I2,r2,q2⟩=>?_;exact hf v u s2 x y H2 I2 r1 r2 q2
def OZ{op:Operator}{r:R2}(ho:OpR X (Zy op) r)(ha:PE X a ta)(hb:PE X b tb):PE X (.BinOp a op b pos) (Po r ta tb):=by
 intro f8 s σ H Q I h;exact wpAny_BinOp (Lg ha hb I h λv u s2 x y H2 I2 rx ry q=>ho f8 s2 σ H2 x y v u Q I2 rx ry q)
def O0{op:UnaryOp}{r:V->Hp->VK->Prop}(ho:Qy X (unaryOp op) r)(ha:PE X a ta):PE X (.UnaryOp op a pos) (VB r ta):=by
 intro f8 s σ H Q I h;exact UnaryOp_ (ck (ha f8 s σ H _ I h) λv s1 ⟨x,H1,I1,r1,q1⟩=>ho f8 s1 σ H1 x v Q I1 r1 q1)
def RS{f:Value->Value->Sem Value}{C:Int->Int->Prop}{g:Int->Int->Int}
 (rule:∀(i j:Int) (t u:Tok) (s:Wa) (Q:Value->Wa->Prop) (E:Value->Wa->Prop),C i j->Q (.int (g i j) s.toks) {s with toks:=s.toks+1}->wpAny (model X.prog X.w) X.A (f (.int i t) (.int j u)) Q E s):
 OpR X f (rI C λi j=> .int (g i j)):=by
 intro f8 s σ H x y v u Q I rx ry h;obtain⟨i,j,rfl,rfl,hc,q⟩:=h;obtain⟨t,rfl⟩:=rx;obtain⟨t',rfl⟩:=ry;exact rule i j t t' s _ _ hc ⟨.int (g i j),H,I.tok _,⟨_,rfl⟩,q⟩
def OO{f:Value->Value->Sem Value}{g:Int->Int->Int}
 (rule:∀(i j:Int) (t u:Tok) (s:Wa) (Q:Value->Wa->Prop) (E:Value->Wa->Prop),Q (.int (g i j) s.toks) {s with toks:=s.toks+1}->wpAny (model X.prog X.w) X.A (f (.int i t) (.int j u)) Q E s):
 OpR X f (BJ λi j=> .int (g i j)):=by
 intro f8 s σ H x y v u Q I rx ry h;obtain⟨i,j,rfl,rfl,q⟩:=h;obtain⟨t,rfl⟩:=rx;obtain⟨t',rfl⟩:=ry;exact rule i j t t' s _ _ ⟨.int (g i j),H,I.tok _,⟨_,rfl⟩,q⟩
def Jn{f:Value->Value->Sem Value}{g:Int->Int->Bool}
 (rule:∀(i j:Int) (t u:Tok) (s:Wa) (Q:Value->Wa->Prop) (E:Value->Wa->Prop),Q (.bool (g i j)) s->wpAny (model X.prog X.w) X.A (f (.int i t) (.int j u)) Q E s):
 OpR X f (BJ λi j=> .bl (g i j)):=by
 intro f8 s σ H x y v u Q I rx ry h;obtain⟨i,j,rfl,rfl,q⟩:=h;obtain⟨t,rfl⟩:=rx;obtain⟨t',rfl⟩:=ry;exact rule i j t t' s _ _ ⟨.bl (g i j),H,I,rfl,q⟩
def Nb(i j:Int):Prop:=0<j/\j<1073741824
def CMul(i j:Int):Prop:=(-(2 ^ 64)<i/\i<2 ^ 64)\/(-(2 ^ 64)<j/\j<2 ^ 64)
def CMul.ok{i j:Int}(h:CMul i j):IntMulOk i j:=by
 rcases h with⟨h1,h2⟩ | ⟨h1,h2⟩
 ·exact .of_left (intBits_le_64 h1 h2)
 ·exact .of_right (intBits_le_64 h1 h2)
def L7:OpR X (Zy .Add) (BJ λi j=> .int (i+j)):=OO λ_ _ _ _ _ _ _ q=>add_int q
def Ma:OpR X (Zy .Sub) (BJ λi j=> .int (i - j)):=OO λ_ _ _ _ _ _ _ q=>sub_int q
def L_:OpR X (Zy .Mult) (rI CMul λi j=> .int (i*j)):=RS λ_ _ _ _ _ _ _ hc q=>mul_int q hc.ok
def Jp:OpR X (Zy .FloorDiv) (rI Nb λi j=> .int (i / j)):=RS λi j _ _ _ _ _ hc q=>by
 have h1:(0:Int)<j:=hc.1;have h2:j<1073741824:=hc.2;exact floordiv_int (by omega) (by rw[Int.fdiv_eq_ediv_of_nonneg i (by omega)];exact q) (.inl (aa9 (by omega)))
def L9:OpR X (Zy .Mod) (rI (λ_ j=>0<j) λi j=> .int (i % j)):=RS λi j _ _ _ _ _ hc q=>by
 have h1:(0:Int)<j:=hc;exact mod_int' (by omega) (by rw[Int.fmod_eq_emod_of_nonneg i (by omega)];exact q)
def VD{f:Value->Sem Value}{g:Int->Int}
 (rule:∀(i:Int) (t:Tok) (s:Wa) (Q:Value->Wa->Prop) (E:Value->Wa->Prop),Q (.int (g i) s.toks) {s with toks:=s.toks+1}->wpAny (model X.prog X.w) X.A (f (.int i t)) Q E s):
 Qy X f (rU λi=> .int (g i)):=by
 intro f8 s σ H x v Q I rx h;obtain⟨i,rfl,q⟩:=h;obtain⟨t,rfl⟩:=rx;exact rule i t s _ _ ⟨.int (g i),H,I.tok _,⟨_,rfl⟩,q⟩
def MO:Qy X (unaryOp .USub) (rU λi=> .int (-i)):=VD λ_ _ _ _ _ q=>neg_int q
end
section
variable{X:Cx}{a b c:Expr}{ta tb tc:TE}{pos:Pos}
def Fz{f8:List (Addr×Obj)}{σ:St}{H:Hp}{s:Wa}{Q:VK}{k k':Bool}(I:Inv X f8 σ H s)(q:Q (.bl k) H)(e:k=k'):EP X f8 σ Q (.bool k') s:=by
 subst e;exact⟨.bl k,H,I,rfl,q⟩
def GS:OpR X (W7 .Lt) (BJ λi j=> .bl (decide (i<j))):=Jn λ_ _ _ _ _ _ _ q=>lt_int q
def pN:OpR X (W7 .LtE) (BJ λi j=> .bl (decide (i<=j))):=Jn λ_ _ _ _ _ _ _ q=>le_int q
def OQ:OpR X (W7 .Gt) (BJ λi j=> .bl (decide (j<i))):=Jn λ_ _ _ _ _ _ _ q=>gt_int q
def OP:OpR X (W7 .GtE) (BJ λi j=> .bl (decide (j<=i))):=Jn λ_ _ _ _ _ _ _ q=>ge_int q
def Eh:OpR X (W7 .In) (λx y H Q=>∃i j,x= .str i/\y= .str j/\Q (.bl (!(XC j i 0 j.length 1).isEmpty)) H):=by
 intro f8 s σ H x y v u Q I rx ry h;obtain⟨i,j,rfl,rfl,q⟩:=h;obtain⟨t,rfl⟩:=rx;obtain⟨t',rfl⟩:=ry;exact in_str (Fz I q rfl)
def Jq:OpR X (W7 .IsNot) (λx y H Q=>y= .non/\Q (.bl (!decide (x= .non))) H):=by
 intro f8 s σ H x y v u Q I rx ry h;obtain⟨rfl,q⟩:=h;cases ry;refine isnot_none_gen (Fz I q ?_);cases x<;>first
  |(cases rx;rfl)
  |(obtain ⟨t,rfl⟩:=rx;rfl)
def OpR.or{f:Value->Value->Sem Value}{r r':R2}(h:OpR X f r)(h':OpR X f r'):OpR X f (λx y H Q=>r x y H Q\/r' x y H Q):=by
 intro f8 s σ H x y v u Q I rx ry q;rcases q with q | q
 ·exact h f8 s σ H x y v u Q I rx ry q
 ·exact h' f8 s σ H x y v u Q I rx ry q
def GK(b:Expr){op:CmpOp}(h:op≠ .In:=by decide)(h2:op≠ .NotIn:=by decide):Xh op b=false:=by
 have e1:(op==CmpOp.In)=false:=by cases op<;>first | rfl | exact acC rfl h
 have e2:(op==CmpOp.NotIn)=false:=by cases op<;>first | rfl | exact acC rfl h2
 cases b<;>simp[Xh,e1,e2]
def JI{op:CmpOp}{r:R2}(ho:OpR X (W7 op) r)(ha:PE X a ta)(hb:PE X b tb)(hm:Xh op b=false):PE X (.Compare a [op] [b] pos) (Po r ta tb):=by
 intro f8 s σ H Q I h;exact wpAny_Compare1 (Lg ha hb I h λv u s2 x y H2 I2 rx ry q=>ho f8 s2 σ H2 x y v u Q I2 rx ry q) hm
def K8(t:TE):TT:=λσ H Q=>t σ H λx H'=>∃k,x= .bl k/\Q k H'
def JS{op:CmpOp}{r:R2}(ho:OpR X (W7 op) r)(ha:PE X a ta)(hb:PE X b tb)(hm:Xh op b=false):PT X (.Compare a [op] [b] pos) (K8 (Po r ta tb)):=by
 intro f8 s σ H Q I h;refine wpAny_isTrue_Compare1 (ck (ha f8 s σ H _ I h) λv s1 ⟨x,H1,I1,r1,q1⟩=>ck (hb f8 s1 σ H1 _ I1 q1) λu s2 ⟨y,H2,I2,r2,q2⟩=>
  ck (ho f8 s2 σ H2 x y v u _ I2 r1 r2 q2) λc s3 ⟨z,H3,I3,r3,k,e,q3⟩=>?_) hm
 subst e;cases r3;exact XA ⟨H3,I3,q3⟩
def BX(r r':R2)(ta tb tc:TE):TE:=λσ H Q=>ta σ H λx H1=>tb σ H1 λy H2=>r x y H2 λz H3=>∃k,z= .bl k/\
 (if k=true then tc σ H3 λw' H4=>r' y w' H4 Q else Q (.bl false) H3)
def G8{op Ef:CmpOp}{r r':R2}(ho:OpR X (W7 op) r)(u_:OpR X (W7 Ef) r')(ha:PE X a ta)(hb:PE X b tb)(hc:PE X c tc)
 (hm:lastMarks [op,Ef] [b,c]=false:=by with_unfolding_all rfl):PE X (.Compare a [op,Ef] [b,c] pos) (BX r r' ta tb tc):=by
 intro f8 s σ H Q I h;refine Compare_chain (ck (ha f8 s σ H _ I h) λv s1 ⟨x,H1,I1,r1,q1⟩=>chain_link (ck (hb f8 s1 σ H1 _ I1 q1) λu s2 ⟨y,H2,I2,r2,q2⟩=>
  ck (ho f8 s2 σ H2 x y v u _ I2 r1 r2 q2) λd s3 ⟨z,H3,I3,r3,k,e,q3⟩=>?_)) hm
 subst e;cases r3;refine XA ?_;cases k with
 |false=>exact ite_ff ⟨.bl false,H3,I3,rfl,q3⟩
 |true=>exact ite_tt (chain_last (ck (hc f8 s3 σ H3 _ I3 q3) λw' s4 ⟨z',H4,I4,r4,q4⟩=>u_ f8 s4 σ H4 y z' u w' Q I4 r2 r4 q4))
def Hg{op Ef:CmpOp}{r r':R2}(ho:OpR X (W7 op) r)(u_:OpR X (W7 Ef) r')(ha:PE X a ta)(hb:PE X b tb)(hc:PE X c tc)
 (hm:lastMarks [op,Ef] [b,c]=false:=by with_unfolding_all rfl):PT X (.Compare a [op,Ef] [b,c] pos) (K8 (BX r r' ta tb tc)):=by
 intro f8 s σ H Q I h;refine isTrue_chain (ck (ha f8 s σ H _ I h) λv s1 ⟨x,H1,I1,r1,q1⟩=>test_link (ck (hb f8 s1 σ H1 _ I1 q1) λu s2 ⟨y,H2,I2,r2,q2⟩=>
  ck (ho f8 s2 σ H2 x y v u _ I2 r1 r2 q2) λd s3 ⟨z,H3,I3,r3,k,e,q3⟩=>?_)) hm
 subst e;cases r3;refine XA ?_;cases k with
 |false=>
  obtain⟨k',e',q'⟩:=q3;cases e';exact ite_ff ⟨H3,I3,q'⟩
 |true=>
  refine ite_tt (test_last (ck (hc f8 s3 σ H3 _ I3 q3) λw' s4 ⟨z',H4,I4,r4,q4⟩=>ck (u_ f8 s4 σ H4 y z' u w' _ I4 r2 r4 q4) λd' s5 ⟨z2,H5,I5,r5,k2,e2,q5⟩=>?_));subst e2;cases r5;exact XA ⟨H5,I5,q5⟩
def Nj(K:V9)(x:V)(H:Hp)(k:Bool):Prop:=
 match x with
 | .non=>k=false
 | .bl b=>k=b
 | .int i=>k=(i !=0)
 | .str y=>y.length<=Wr/\k=((y.length:Int) !=0)
 | .byt y=>y.size<=Wr/\k=((y.size:Int) !=0)
 | .ref p=>(∃xs,SqL K H p xs/\k=!xs.isEmpty)\/(∃xs,SqT K H p xs/\k=!xs.isEmpty)\/∃aB,H p=some (.dK aB)/\k=!aB.isEmpty
 |_=>False
def A6{κ:Type}{aB:List (κ×V)}{vs:List (κ×Value)}(r:KV aB vs):(!vs.isEmpty)=!aB.isEmpty:=by
 cases r<;>rfl
def rC{xs:List V}{aR:List Value}(r:Vals xs aR):(!aR.toArray.isEmpty)=!xs.isEmpty:=by
 cases r<;>simp
def oG:(Wr:Nat)<2 ^ 63:=by rw[Yi];decide
def MM:Qx X (λx H Q=>∃k,Nj X.K x H k/\Q k H):=by
 intro f8 s σ H x v Q I rx h;obtain⟨k,e,q⟩:=h;have hl:=oG;have hs:Wr=16777216:=Yi;cases x with
 |non=>
  cases rx;have e':k=false:=e;subst e';exact truthy_none ⟨H,I,q⟩
 |bl b=>
  cases rx;have e':k=b:=e;subst e';exact XA ⟨H,I,q⟩
 |int i=>
  obtain⟨t,rfl⟩:=rx;have e':k=(i !=0):=e;subst e';exact PySem.P.truthy_int ⟨H,I,q⟩
 |str y=>
  obtain⟨t,rfl⟩:=rx;obtain⟨hy,e'⟩:y.length<=Wr/\k=((y.length:Int) !=0):=e;subst e';exact PySem.P.truthy_str (by omega) ⟨H,I.tok _,q⟩
 |byt y=>
  obtain⟨t,rfl⟩:=rx;obtain⟨hy,e'⟩:y.size<=Wr/\k=((y.size:Int) !=0):=e;subst e';exact PySem.W.truthy_bytes (by omega) ⟨H,I.tok _,q⟩
 |ref p=>
  cases rx;have e':(∃xs,SqL X.K H p xs/\k=!xs.isEmpty)\/(∃xs,SqT X.K H p xs/\k=!xs.isEmpty)\/∃aB,H p=some (.dK aB)/\k=!aB.isEmpty:=e;rcases e' with⟨xs,hx,e'⟩ | ⟨xs,hx,e'⟩ | ⟨aB,hx,e'⟩
  ·subst e';obtain⟨aR,r,pl,hz⟩:=I.list hx;have P3:=r.length;exact wpAny_truthy_list pl.isList (by simp only[Wi];omega) ⟨H,I.tok _,by rw[rC r];exact q⟩
  ·subst e';obtain⟨aR,r,pl,hz⟩:=I.tuple hx;have P3:=r.length;exact truthy_tuple pl (by simp only[Wi];omega) ⟨H,I.tok _,by rw[rC r];exact q⟩
  ·subst e';obtain⟨hz,hS,vs,r,m⟩:aB.length<=Wr/\(p==Xq)=false/\∃vs,KV aB vs/\s.heap.DictOf (bq X.prog X.w) p vs:=I.hok p _ hx;have P3:aB.length=vs.length:=XW r;exact wpAny_truthy_dict hS m (by omega) ⟨H,I.tok _,by rw[A6 r];exact q⟩
 |_=>exact(show False from e).elim
def Hi(ha:PE X a ta)(he:∀whole,isTrue a X.env whole=(do let v<-whole;aak a.pos;holding [v] (truthy v))):
 PT X a (λσ H Q=>ta σ H λx H'=>∃k,Nj X.K x H' k/\Q k H'):=by
 intro f8 s σ H Q I h;exact isTrue_plain (ck (ha f8 s σ H _ I h) λv s1 ⟨x,H1,I1,r1,q1⟩=>MM f8 s1 σ H1 x v Q I1 r1 q1) (he _)
def vals1{x:V}{us:List Value}(r:Vals [x] us):∃u,us=[u]/\RelV x u:=by
 cases r with
 |cons r1 r2=>cases r2;exact⟨_,rfl,r1⟩
def vals2{x y:V}{us:List Value}(r:Vals [x,y] us):∃u w',us=[u,w']/\RelV x u/\RelV y w':=by
 cases r with
 |cons r1 r2=>
  cases r2 with
  |cons r3 r4=>cases r4;exact⟨_,_,rfl,r1,r3⟩
def Fd:CallR X (.builtin "abs") (λxs H Q=>∃i,xs=[.int i]/\Q (.int (if i<0 then -i else i)) H):=by
 intro f8 s σ H xs us Q I r h;obtain⟨i,rfl,q⟩:=h;obtain⟨u,rfl,t,rfl⟩:=vals1 r;exact call_abs_int λu tk=>⟨.int (if i<0 then -i else i),H,I.tok _,⟨_,rfl⟩,q⟩
def Dq(hc:X.calm=true):CallR X (.builtin "max") (λxs H Q=>∃i j,xs=[.int i, .int j]/\Q (.int (if j>i then j else i)) H):=by
 intro f8 s σ H xs us Q I r h;obtain⟨i,j,rfl,q⟩:=h;obtain⟨u,w',rfl,⟨t,rfl⟩,⟨t',rfl⟩⟩:=vals2 r;refine max_two_ints (I.ok.hd hc) λh' tk k=>⟨_,H,I.kept k,?_,q⟩
 by_cases hj:j>i
 ·rw[acz hj,acz hj];exact⟨_,rfl⟩
 ·rw[acA hj,acA hj];exact⟨_,rfl⟩
def Dr(hc:X.calm=true):CallR X (.builtin "min") (λxs H Q=>∃i j,xs=[.int i, .int j]/\Q (.int (if j<i then j else i)) H):=by
 intro f8 s σ H xs us Q I r h;obtain⟨i,j,rfl,q⟩:=h;obtain⟨u,w',rfl,⟨t,rfl⟩,⟨t',rfl⟩⟩:=vals2 r;refine min_two_ints (I.ok.hd hc) λh' tk k=>⟨_,H,I.kept k,?_,q⟩
 by_cases hj:j<i
 ·rw[acz hj,acz hj];exact⟨_,rfl⟩
 ·rw[acA hj,acA hj];exact⟨_,rfl⟩
end
structure ObjM (h:Heap) (x dx C:Addr) (mA:Str->Option Value):Prop where
 obj:h.get? x=some (X2 C dx)
 ns:h.Ns1 dx mA
 ne:dx≠x
def D2{h:Heap}{dx:Addr}{mA:Str->Option Value}(n:h.Ns1 dx mA):∃od,h.get? dx=some od/\∀name,ZI name od=some (mA name):=by
 obtain⟨o,es,ep,ho,hd,hk,_,hm⟩:=n;refine⟨o,ho,λname=>?_⟩;have e:=hm name;unfold nsFind findBy at e;rw[<-Array.find?_toList] at e;unfold ZI;rw[hd]
 dsimp only
 split
 ·rename_i y q;rw[q] at e;exact acH some e
 ·rename_i q;rw[q] at e;have a:es.toList.any (·.refKey)=false:=by
   rw[List.any_eq_false];intro y hy;obtain⟨z,t,IG⟩:=hk y (Array.mem_toList_iff.mp hy);simp[DictEntry.refKey,IG]
  have a':¬es.toList.any (·.refKey)=true:=by rw[a];exact Wt
  rw[acA a'];exact acH some e
def ObjM.look{h:Heap}{x dx C:Addr}{mA:Str->Option Value}(I:ObjM h x dx C mA):∃od,PySem.W.InstAt h x (X2 C dx) C (some od)/\∀name,ZI name od=some (mA name):=
 let ⟨od,ho,hl⟩:=D2 I.ns
 ⟨od,⟨I.obj,rfl,rfl,ho⟩,hl⟩
section
variable{prog:Wz}{w:World}{A:Xa}{E:Value->Wa->Prop}{s:Wa}{K:V9}{x dx C f:Addr}{mA:Str->Option Value}{name:Str}{v:Value}
def get_map{expr:Bool}{Q:Value->Wa->Prop}(X:K.In s.heap)(I:ObjM s.heap x dx C mA)(hg:Zs K C name=true)(hh:Z3 K C=true)
 (ha:WK K (.ref C) name=some none)(hv:mA name=some v)(Om:ab1 v=true)(h:Q v {s with toks:=s.toks+1}):
 wpAny (model prog w) A (getAttr (.ref x) name expr) Q E s:=by
 obtain⟨od,J,hl⟩:=I.look;exact PySem.W.get_value X J (ZN hg).1 (PySem.W.findObj_own hh ha rfl (by rw[hl,hv])) Om h
def FK{pl:Sem Bool}{Q:Value×List Value->Wa->Prop}(X:K.In s.heap)(I:ObjM s.heap x dx C mA)(hg:Zs K C name=true)
 (hf:WK K (.ref C) name=some (some (.ref f)))(ht:YS K (.ref f)=true)(hv:mA name=none)(h:Q (.ref f,[.ref x]) s):
 wpAny (model prog w) A (Zn (.ref x) name pl) Q E s:=by
 obtain⟨od,J,hl⟩:=I.look;exact PySem.W.method_fn X J (ZN hg).1 (ZN hg).2 hf (beq_iff_eq.mp ht) (by show (ZI name od).map (·.isSome)=some false;rw[hl,hv];rfl) h
def J6{ns:List Str}{Q:Unit->Wa->Prop}(X:K.In s.heap)(I:ObjM s.heap x dx C mA)
 (hs:WK K (.ref C) "__setattr__"=some (some (.builtin "object.__setattr__")))(hp:abO K C=true)(ht:aam K C name=some none)(hh:Z3 K C=true)
 (hw:abx mA ns)(hsz:ns.length<=Wr)
 (h:∀h',ObjM h' x dx C (λy=>if y=name then some v else mA y)->Xo dx s.heap h'->Q () {s with heap:=h',toks:=s.toks+2}):
 wpAny (model prog w) A (setAttr (.ref x) name v) Q E s:=by
 obtain⟨od,J,hl⟩:=I.look;refine PySem.W.set_plain X J hs (PySem.W.osa_open (s:={s with toks:=s.toks+1}) (r:=none) X J hp ht λb=>?_);obtain⟨cd,hc,qG⟩:=PySem.W.any_some hh;have hx:s.heap.get? x=some ⟨.ref C,some dx, .plain,#[]⟩:=I.obj;refine V2 (V_ (V2 (V2 (wpAny_loadPart hx (V2 (PySem.W.Looks.here (s:={s with toks:=s.toks+1}) (PySem.W.looks_clsIn X hc) ?_))))));rw[qG];refine V_ (a:=some dx) (V2 (V_ (V2 ?_)));refine wpAny_nsSet1 (s:={s with toks:=s.toks+1}) I.ns λh' LF E3=>?_;obtain⟨oD,VP,VO,UT,Um,Uk⟩:=LF.count (PySem.Within.cons name v hw);refine V2 (wpAny_lookBehind UT (by rw[Um];exact pastItsLine_dict (WZ Uk (by rw[V7];omega))) ?_);exact V_ (h _ ⟨(E3.2 _ (XR I.ne)).trans I.obj,LF,I.ne⟩ E3)
def Gp{R:Result->Wa->Prop}{vs:List Value}{kw:List (Str×Value)}(X:K.In s.heap)(hm:ZE K C=true)
 (hi:WK K (.ref C) "__init__"=some (some (.ref f)))(hf:PySem.W.typeIn K (.ref f)=some (.type "function"))
 (h:Z1 (model prog w) (A.under (.builtin "type.__call__" ⟨.ref C::vs,kw⟩)) (.call (.ref f) ⟨.ref (s.heap.objs.size+1)::vs,kw⟩) (PySem.W.InitBack (s.heap.objs.size+1) R)
  {s with heap:=(s.heap.push Xp).push (X2 C s.heap.objs.size)}):
 Z1 (model prog w) A (.call (.ref C) ⟨vs,kw⟩) R s:=by
 obtain⟨hh,g,d,t,os⟩:=s;exact PySem.W.make_core (PySem.W.makes_of X hm) (PySem.W.looks_findIn X hi) (λself=>PySem.W.bind_fn X self hf) (.inl rfl) h
end
def fj(f:Str)(v:V):List (Str×V)->List (Str×V)
 |[]=>[(f,v)]
 |(g,x)::r=>if g=f then(g,v)::r else(g,x)::fj f v r
def pk(f g:Str)(v:V):∀fs:List (Str×V),(fj f v fs).lookup g=if g=f then some v else fs.lookup g
 |[]=>by
  show Zc g [(f,v)]=_;by_cases h:g=f
  ·have hb:(g==f)=true:=beq_iff_eq.mpr h;simp only[Zc,hb,acz h]
  ·have hb:(g==f)=false:=acG.mpr h;simp only[Zc,hb,acA h]
 |(k,x)::r=>by
  have ih:=pk f g v r;rw[show fj f v ((k,x)::r)=(if k=f then(k,v)::r else(k,x)::fj f v r) from rfl];by_cases hk:k=f
  ·rw[acz hk];by_cases h:g=k
   ·have hb:(g==k)=true:=beq_iff_eq.mpr h;simp only[Zc,hb,acz (h.trans hk)]
   ·have hb:(g==k)=false:=acG.mpr h;simp only[Zc,hb,acA (λe:g=f=>h (e.trans hk.symm))]
  ·rw[acA hk];by_cases h:g=k
   ·have hb:(g==k)=true:=beq_iff_eq.mpr h;simp only[Zc,hb,acA (λe:g=f=>hk (h.symm.trans e))]
   ·have hb:(g==k)=false:=acG.mpr h;simp only[Zc,hb];exact ih
def oF(f:Str)(v:V):∀fs:List (Str×V),f∈(fj f v fs).map (·.1)/\∀g,g∈fs.map (·.1)->g∈(fj f v fs).map (·.1)
 |[]=>⟨by simp[fj],λg h=>by simp at h⟩
 |(k,x)::r=>by
  obtain⟨i1,i2⟩:=oF f v r;rw[show fj f v ((k,x)::r)=(if k=f then(k,v)::r else(k,x)::fj f v r) from rfl];by_cases hk:k=f
  ·rw[acz hk];subst hk;exact⟨by simp,λg h=>by simpa using h⟩
  ·rw[acA hk];refine⟨?_,λg h=>?_⟩
   ·rw[Wg];exact V3 _ i1
   ·rw[Wg] at h⊢;rcases Wc.mp h with e | e
    ·exact Wc.mpr (.inl e)
    ·exact V3 _ (i2 g e)
def pj(f:Str)(v:V):∀fs:List (Str×V),(fj f v fs).length<=fs.length+1
 |[]=>by simp[fj]
 |(k,x)::r=>by
  have ih:=pj f v r;rw[show fj f v ((k,x)::r)=(if k=f then(k,v)::r else(k,x)::fj f v r) from rfl];by_cases hk:k=f
  ·rw[acz hk,V7,V7];omega
  ·rw[acA hk,V7,V7];omega
def RelO.some_of{v:V}{o:Option Value}(r:RelO (some v) o):∃u,o=some u/\RelV v u:=by
 cases o with
 |none=>exact(show False from r).elim
 |some u=>exact⟨u,rfl,r⟩
def RelO.none_of{o:Option Value}(r:RelO none o):o=none:=by
 cases o with
 |none=>rfl
 |some u=>exact(show False from r).elim
def DJ{v:V}{u:Value}(r:RelV v u):ab1 u=true:=by
 cases v with
 |non=>cases (show u=W9 from r);rfl
 |bl b=>cases (show u=YR b from r);rfl
 |int i=>obtain⟨t,e⟩:=(show∃t,u=aax i t from r);cases e;rfl
 |str x=>obtain⟨t,e⟩:=(show∃t,u=aaw x t from r);cases e;rfl
 |byt b=>obtain⟨t,e⟩:=(show∃t,u=Value.bytes b t from r);cases e;rfl
 |flt b=>obtain⟨t,e⟩:=(show∃t,u=abM b t from r);cases e;rfl
 |ref a=>cases (show u=Wv a from r);rfl
 |ty n=>cases (show u=aa6 n from r);rfl
section
variable{P:Wz}{w:World}{H:Hp}{h:Heap}{a C dx:Addr}{fs:List (Str×V)}
def qH(hok:HOk P w H h)(e:H a=some (.ins C dx fs)):∃mA,ObjM h a dx C mA/\(∀f,RelO (fs.lookup f) (mA f))/\abx mA (fs.map (·.1))/\fs.length<=1000/\H dx=some (.own a):=by
 obtain⟨d,z,ne,ob,mA,n,r,q⟩:=(show ObjOk P w H h a (.ins C dx fs) from hok a _ e)
 exact⟨mA,⟨ob,n,ne⟩,r,q,z,d⟩
end
structure Cls (K:V9) (C:Addr):Prop where
 pg:Zs K C Str.empty=true
 hd:Z3 K C=true
 po:abO K C=true
 sa:WK K (.ref C) "__setattr__"=some (some (.builtin "object.__setattr__"))
def Cls.get{K:V9}{C:Addr}(c:Cls K C)(f:Str):Zs K C f=true:=c.pg
def NoAttr(K:V9)(C:Addr)(f:Str):Prop:=WK K (.ref C) f=some none
def NoAttr.taker{K:V9}{C:Addr}{f:Str}(n:NoAttr K C f):aam K C f=some none:=by
 unfold aam;rw[show WK K (.ref C) f=some none from n];rfl
structure Meth (K:V9) (C:Addr) (m:Str) (f:Addr):Prop where
 at_:WK K (.ref C) m=some (some (.ref f))
 fn:YS K (.ref f)=true
 kp:W2 K (.ref f)=true
section
variable{X:Cx}{f8:List (Addr×Obj)}{σ:St}{H:Hp}{s:Wa}{a C dx:Addr}{fs:List (Str×V)}{f:Str}{v:V}{A:Xa}{E:Value->Wa->Prop}
def A2{b:Bool}{Q:Value->Wa->Prop}(I:Inv X f8 σ H s)(e:H a=some (.ins C dx fs))(c:Cls X.K C)(n:NoAttr X.K C f)(l:fs.lookup f=some v)
 (h:∀u s',Inv X f8 σ H s'->RelV v u->Q u s'):wpAny (model X.prog X.w) A (getAttr (.ref a) f b) Q E s:=by
 obtain⟨mA,O,r,_,_,_⟩:=qH I.hok e;obtain⟨u,hu,ru⟩:=RelO.some_of (v:=v) (o:=mA f) (by rw[<-l];exact r f);exact get_map I.kIn O (c.get f) c.hd n hu (DJ ru) (h u _ (I.tok _) ru)
def mw{m:Str}{g:Addr}{pl:Sem Bool}{Q:Value×List Value->Wa->Prop}(I:Inv X f8 σ H s)(e:H a=some (.ins C dx fs))(c:Cls X.K C)(k:Meth X.K C m g)(l:fs.lookup m=none)
 (h:Q (.ref g,[.ref a]) s):wpAny (model X.prog X.w) A (Zn (.ref a) m pl) Q E s:=by
 obtain⟨mA,O,r,_,_,_⟩:=qH I.hok e;have hn:mA m=none:=RelO.none_of (by rw[<-l];exact r m);exact FK I.kIn O (c.get m) k.at_ k.fn hn h
def BR{y:V}{u:Value}{Q:Unit->Wa->Prop}(I:Inv X f8 σ H s)(e:H a=some (.ins C dx fs))(c:Cls X.K C)(n:NoAttr X.K C f)(hl:fs.length<1000)(ry:RelV y u)
 (h:∀s',Inv X f8 σ (upd H a (.ins C dx (fj f y fs))) s'->Q () s'):wpAny (model X.prog X.w) A (setAttr (.ref a) f u) Q E s:=by
 obtain⟨mA,O,r,wi,_,ho⟩:=qH I.hok e;have hz:(fs.map (·.1)).length<=Wr:=by rw[V4,Yi];omega
 refine J6 I.kIn O c.sa c.po n.taker c.hd wi hz λh' O' sb=>h _ ?_;have hd:∃o,h'.get? dx=some o:=let ⟨o,_,_,e',_⟩:=O'.ns;⟨o,e'⟩
 refine I.write (x:=a) (e:=dx) (by rw[e];exact XX) (.inr ho) (λb q hb z=>(sb.2 b hb).trans z) hd ?_;refine⟨by rw[az O.ne];exact ho,?_,O.ne,O'.obj,_,O'.ns,λg=>?_,λg hg=>?_⟩
 ·have:=pj f y fs;omega
 ·show RelO ((fj f y fs).lookup g) (if g=f then some u else mA g);rw[pk];by_cases q:g=f
  ·rw[acz q,acz q];exact ry
  ·rw[acA q,acA q];exact r g
 ·by_cases q:g=f
  ·rw[q];exact(oF f y fs).1
  ·refine(oF f y fs).2 g (wi g λz=>hg ?_);show (if g=f then some u else mA g)=none;rw[acA q];exact z
def Inv.made(I:Inv X f8 σ H s):Inv X f8 σ (upd (upd H s.heap.objs.size (.own (s.heap.objs.size+1))) (s.heap.objs.size+1) (.ins C s.heap.objs.size []))
 {s with heap:=(s.heap.push Xp).push (X2 C s.heap.objs.size)}:=by
 have e1:(s.heap.push Xp).get? s.heap.objs.size=some Xp:=Wm s.heap rfl;have e2:((s.heap.push Xp).push (X2 C s.heap.objs.size)).get? (s.heap.objs.size+1)=some (X2 C s.heap.objs.size):=by
  have:=Wm (s.heap.push Xp) (o:=X2 C s.heap.objs.size) rfl
  rwa [Yd] at this
 have e3:(s.heap.push Xp).Ns s.heap.objs.size (λ_=>none):=⟨Xp,#[],_,e1,rfl,(λe he=>acC he (by simp)),λ_=>rfl⟩
 have I1:=I.laid (a:=s.heap.objs.size) (o:= .own (s.heap.objs.size+1)) (h':=s.heap.push Xp) (t':=s.toks) (λb u q=>V8 _ q) (Wj _) ⟨_,e1⟩;refine I1.laid (a:=s.heap.objs.size+1) (o:= .ins C s.heap.objs.size []) (t':=s.toks) (λb u q=>V8 _ q) (abS (Yd _ _)) ?_;have ne:s.heap.objs.size≠s.heap.objs.size+1:=WA (YE _);refine⟨by rw[az ne,aH],W8 _,ne,e2,λ_=>none,(Heap.Ns1.of_empty e3).at λo q=>V8 _ q,λ_=>XX,λy hy=>acC rfl hy⟩
def Im{prog:Wz}{w:World}{env:Env}{e:Expr}{f:Str}{pos:Pos}{s:Wa}{Q:Value->Wa->Prop}(hb:WR e f env (eval e env)=eval e env)
 (h:wpAny (model prog w) A (eval e env) (λo v6=>wpAny (model prog w) A (getAttr o f true) Q E v6) E s):wpAny (model prog w) A (eval (.Attribute e f pos) env) Q E s:=
 Attribute_any_ h (by rw[arm_eval_Attribute,hb])
end
def Sa(K:V9)(ta:TE)(f:Str):TE:=λσ H Q=>ta σ H λx H1=>∃a C dx fs v,x= .ref a/\H1 a=some (.ins C dx fs)/\Cls K C/\NoAttr K C f/\fs.lookup f=some v/\Q v H1
def R0(K:V9)(ta tv:TE)(f:Str):TS:=λD σ H=>tv σ H λy H1=>ta σ H1 λx H2=>∃a C dx fs,x= .ref a/\H2 a=some (.ins C dx fs)/\Cls K C/\NoAttr K C f/\fs.length<1000/\
 D.nx σ (upd H2 a (.ins C dx (fj f y fs)))
section
variable{X:Cx}{o e value:Expr}{f:Str}{pos pos':Pos}{ta tv:TE}
def sT(he:PE X e ta)(hb:WR e f X.env (eval e X.env)=eval e X.env):PE X (.Attribute e f pos) (Sa X.K ta f):=by
 intro f8 s σ H Q I h;refine Im hb (ck (he f8 s σ H _ I h) λu s1 ⟨x,H1,I1,rx,a,C,dx,fs,v,ex,ea,c,n,l,q⟩=>?_);subst ex;obtain rfl:u=Wv a:=rx;exact A2 I1 ea c n l λu' s2 I2 ru=>⟨v,H1,I2,ru,q⟩
def Hd(ha:PE X o ta)(hv:PE X value tv)(hs:Yn value (some (.Attribute o f pos')) pos.line X.env=pure false):PS X (.Assign [.Attribute o f pos'] value pos) (R0 X.K ta tv f):=by
 intro f8 s σ H D I h;refine plainObj_wpAny_Assign_Attribute (ck (hv f8 s σ H _ I h) λu s1 ⟨y,H1,I1,ry,q⟩=>ck (ha f8 s1 σ H1 _ I1 q) λov s2 ⟨x,H2,I2,rx,a,C,dx,fs,ex,ea,c,n,l,q2⟩=>?_) hs;subst ex;obtain rfl:ov=Wv a:=rx;exact BR I2 ea c n l ry λs3 I3=>⟨σ,_,I3,q2⟩
def KW{pl:Sem Bool}{m:Str}{u8:Pos}{args:List Expr}{f8:List (Addr×Obj)}{s:Wa}{σ:St}{H:Hp}{Q:Value->Wa->Prop}{te:TE}(he:PE X e te)(I:Inv X f8 σ H s)
 (h:te σ H λx H1=>∃a C dx fs g,x= .ref a/\H1 a=some (.ins C dx fs)/\Cls X.K C/\Meth X.K C m g/\fs.lookup m=none/\
  ∀s1,Inv X f8 σ H1 s1->wpAny (model X.prog X.w) X.A (Z_ pos (.ref g) [.ref a] (Xv pos (Wf args X.env)) (X7 pos (Xi [] X.env))) Q X.xe s1)
 (ht:eval (.Call (.Attribute e m u8) args [] pos) X.env=(do
  let ov<-eval e X.env
  aak u8.atName
  let (f,first)<-holding [ov] (Zn ov m pl)
  Z_ pos f first (Xv pos (Wf args X.env)) (X7 pos (Xi [] X.env)))):
 wpAny (model X.prog X.w) X.A (eval (.Call (.Attribute e m u8) args [] pos) X.env) Q X.xe s:=by
 refine ZD (pl:=pl) (ck (he f8 s σ H _ I h) λu s1 ⟨x,H1,I1,rx,a,C,dx,fs,g,ex,ea,c,k,l,q⟩=>?_) ht;subst ex;obtain rfl:u=Wv a:=rx;exact mw I1 ea c k l (q s1 I1)
end
section
variable{X:Cx}{f8:List (Addr×Obj)}{σ:St}{H:Hp}{s:Wa}{A:Xa}{E:Value->Wa->Prop}{Q:Value->Wa->Prop}{c:Value}{b:Bool}
inductive TyOf (K:V9) (H:Hp):V->Value->Prop where
 |non:TyOf K H .non (.type "NoneType")
 |bl (x:Bool):TyOf K H (.bl x) (.type "bool")
 |int (i:Int):TyOf K H (.int i) (.type "int")
 |str (x:Str):TyOf K H (.str x) (.type "str")
 |flt (x:UInt64):TyOf K H (.flt x) (.type "float")
 |lst {a:Addr}{xs:List V}(e:H a=some (.lst xs)):TyOf K H (.ref a) (.type "list")
 |frz {a:Addr}{o:Obj}{xs:List V}(e:H a=some (.frz o (.lst xs))):TyOf K H (.ref a) (.type "list")
 |tup {a:Addr}{xs:List V}(e:H a=some (.tup xs)):TyOf K H (.ref a) (.type "tuple")
 |dK {a:Addr}{aB:List (Key×V)}(e:H a=some (.dK aB)):TyOf K H (.ref a) (.type "dict")
 |dT {a:Addr}{aB:List (List Key×V)}(e:H a=some (.dT aB)):TyOf K H (.ref a) (.type "dict")
 |ins {a C dx:Addr}{fs:List (Str×V)}(e:H a=some (.ins C dx fs)) (cl:Cls K C) (ha:WK K (.ref C) "__class__"=some (some (.builtin "object.__class__")))
   (hn:PySem.W.specialIn K (.builtin "object.__class__") "__get__"=some (some (.builtin "getset_descriptor.__get__"))) (Tf:PySem.W.takesIn K (.builtin "object.__class__")=some true)
   (hm:PySem.W.mroIn K C (.type "object")=some true):TyOf K H (.ref a) (.ref C)
def DR{x:V}{u t:Value}(I:Inv X f8 σ H s)(rx:RelV x u)(ty:TyOf X.K H x t)(e:aay X.K t c=some b)(h:∀tk,Q (.bool b) {s with toks:=tk}):
 wpAny (model X.prog X.w) A (call (.builtin "isinstance") [u,c]) Q E s:=by
 cases ty with
 |non=>cases (show u=W9 from rx);exact Xm PySem.W.kitx_none I.kIn XX e (λz=>nomatch z) h
 |bl y=>cases (show u=YR y from rx);exact Xm PySem.W.kitx_bool I.kIn XX e (λz=>nomatch z) h
 |int i=>obtain⟨t,q⟩:=(show∃t,u=aax i t from rx);cases q;exact Xm PySem.W.kitx_int I.kIn XX e (λz=>nomatch z) h
 |str y=>obtain⟨t,q⟩:=(show∃t,u=aaw y t from rx);cases q;exact Xm PySem.W.kitx_str I.kIn XX e (λz=>nomatch z) h
 |flt y=>obtain⟨t,q⟩:=(show∃t,u=abM y t from rx);cases q;exact Xm PySem.W.kitx_float I.kIn XX e (λz=>nomatch z) h
 | @lst a xs ea=>
   cases (show u=Wv a from rx);obtain⟨_,_,n,_,h1⟩:=(show ObjOk X.prog X.w H s.heap a (.lst xs) from I.hok a _ ea)
   exact Xm abP I.kIn ⟨_,h1,rfl⟩ e (λz=>nomatch z) h
 | @frz a ob xs ea=>
   cases (show u=Wv a from rx);obtain⟨_,_,_,n,_,h1⟩:=(show ObjOk X.prog X.w H s.heap a (.frz ob (.lst xs)) from I.hok a _ ea)
   exact Xm abP I.kIn ⟨_,h1,rfl⟩ e (λz=>nomatch z) h
 | @tup a xs ea=>
   cases (show u=Wv a from rx);obtain⟨_,_,_,p⟩:=(show ObjOk X.prog X.w H s.heap a (.tup xs) from I.hok a _ ea)
   obtain⟨o,h1,h2,_⟩:=p;exact Xm PySem.W.kitx_tuple I.kIn ⟨o,h1,h2⟩ e (λz=>nomatch z) h
 | @dK a aB ea=>
   cases (show u=Wv a from rx);obtain⟨_,_,vs,_,p⟩:=(show ObjOk X.prog X.w H s.heap a (.dK aB) from I.hok a _ ea)
   obtain⟨o,es,ep,h1,h2,_⟩:=p;exact Xm abQ I.kIn ⟨o,h1,h2.1⟩ e (λz=>nomatch z) h
 | @dT a aB ea=>
   cases (show u=Wv a from rx);obtain⟨_,_,xs,_,o,es,ep,h1,h2,_⟩:=(show ObjOk X.prog X.w H s.heap a (.dT aB) from I.hok a _ ea)
   exact Xm abQ I.kIn ⟨o,h1,h2.1⟩ e (λz=>nomatch z) h
 | @ins a C dx fs ea cl ha hn Tf hm=>
   cases (show u=Wv a from rx);obtain⟨mA,O,_⟩:=qH I.hok ea;obtain⟨od,J,_⟩:=O.look;exact Xm (PySem.W.kitx_own (cl.get _) cl.hd ha hn Tf hm) I.kIn J e (λz=>nomatch z) h
end
structure Room (k:Nat) (A:Xa):Prop where
 hd:A.handled=none
 dp:A.depth+3*k+5<abK
 un:A.units+16*k+200<cLine
def Room.mono{j k:Nat}{A:Xa}(r:Room k A)(h:j<=k):Room j A:=⟨r.hd,by have:=r.dp;omega,by have:=r.un;omega⟩
def Room.deeper{k:Nat}{A:Xa}(r:Room (k+1) A)(env:Env):Room k (A.deeper env):=
 ⟨r.hd,by have:=r.dp;show A.depth+1+3*k+5<_;omega,by have:=r.un;show A.units+3+16*k+200<_;omega⟩
def Bb{A:Xa}{C:Addr}{us:List Value}{kw:List (Str×Value)}:(A.under (.builtin "type.__call__" ⟨.ref C::us,kw⟩)).depth=A.depth+1:=by
 first | rfl | simp[abo,Code.weight,Code.isCreation,Code.isGuard,Code.isCaller,Code.frames,abH,guardIds]
def Bc{A:Xa}{C:Addr}{us:List Value}{kw:List (Str×Value)}:(A.under (.builtin "type.__call__" ⟨.ref C::us,kw⟩)).units=A.units+1:=by
 first | rfl | simp[abo,Code.cUnits,Code.frames,abH]
def Room.make{k:Nat}{A:Xa}(r:Room (k+1) A)(C:Addr)(us:List Value)(kw:List (Str×Value)):Room k (A.under (.builtin "type.__call__" ⟨.ref C::us,kw⟩)):=
 ⟨r.hd,by have:=r.dp;rw[Bb];omega,by have:=r.un;rw[Bc];omega⟩
def Room.depth{k:Nat}{A:Xa}(r:Room k A):A.depth<abK:=by have:=r.dp;omega
def Room.units{k:Nat}{A:Xa}(r:Room k A):A.units+64<cLine:=by have:=r.un;omega
def Ke:TA:=λ_ H Q=>Q [] H
def HI(ta:TE)(tr:TA):TA:=λσ H Q=>ta σ H λx H1=>tr σ H1 λxs H2=>Q (x::xs) H2
section
variable{X:Cx}{e:Expr}{es:List Expr}{te:TE}{t:TA}{pos:Pos}
def oO:PA X [] Ke:=λ_ _ _ _ H Q I h=>Zq ⟨[],H,I, .nil,h⟩
def nR(ha:PE X e te)(hr:PA X es t)(hs:Wf (e::es) X.env=(false,eval e X.env)::Wf es X.env:=by rfl):PA X (e::es) (HI te t):=by
 intro pos f8 s σ H Q I h;rw[hs];show wpAny _ _ (spliced ((false,eval e X.env)::Xv pos (Wf es X.env))) _ _ s;refine YL (ck (ha f8 s σ H _ I h) λu s1 ⟨x,H1,I1,r1,q1⟩=>?_);exact ck (hr pos f8 s1 σ H1 _ I1 q1) λus s2 ⟨xs,H2,I2,r2,q2⟩=>⟨x::xs,H2,I2, .cons r1 r2,q2⟩
def Si(t:TA):TE:=λσ H Q=>t σ H λxs H1=>xs.length<=Wr/\∀p,H1 p=none->Q (.ref p) (upd H1 p (.tup xs))
def Se(t:TA):TE:=λσ H Q=>t σ H λxs H1=>xs.length<=Wr/\∀p,H1 p=none->Q (.ref p) (upd H1 p (.lst xs))
def Mo{x1}(h:PA X es t):PE X (.Tuple es x1 pos) (Si t):=by
 intro f8 s σ H Q I hq;refine wpAny_Tuple_spliced (ck (h pos f8 s σ H _ I hq) λus s1 ⟨xs,H1,I1,r,z,q⟩=>⟨by rw[<-r.length];exact z,?_⟩);have hf:H1 s1.heap.objs.size=none:=I1.hok.fresh (Wj _);refine⟨.ref s1.heap.objs.size,upd H1 s1.heap.objs.size (.tup xs),I1.laid (t':=s1.toks) (λb u e=>V8 _ e) (Wj _) ?_,rfl,q _ hf⟩;exact⟨z,us,r,⟨_,Wm _ rfl,rfl,_,rfl⟩⟩
def xK(h:PA X es t):PE X (.List es pos) (Se t):=by
 intro f8 s σ H Q I hq;refine wpAny_List_spliced (ck (h pos f8 s σ H _ I hq) λus s1 ⟨xs,H1,I1,r,z,q⟩=>⟨by rw[<-r.length];exact z,?_⟩);have hf:H1 s1.heap.objs.size=none:=I1.hok.fresh (Wj _);refine⟨.ref s1.heap.objs.size,upd H1 s1.heap.objs.size (.lst xs),I1.laid (t':=s1.toks) (λb u e=>V8 _ e) (Wj _) ?_,rfl,q _ hf⟩;exact⟨z,us,0,r,Wm _ rfl⟩
end
abbrev Sp:=List V->Hp->VK->XK->Prop
abbrev B7:=List Env->Hp->Wa->XK->Value->Wa->Prop
structure Env0 (P:Wz) (w:World) (K:V9) (mg:Str->Option Value) (base:Heap) (A:Xa) (outer:List Env) (s:Wa) (H:Hp):Prop where
 frames:A.frames=some outer
 mod:Mod K mg base
 bs:∀b o,base.get? b=some o->s.heap.get? b=some o/\H b=none
 bsz:base.objs.size<=s.heap.objs.size
 funs:s.heap.FunFrames base outer
 frf:∀b∈qD outer,H b=none
 hok:HOk P w H s.heap
 bare:Z8 s.gens
def CE(outer:List Env)(P:Wz)(w:World)(H:Hp)(s:Wa)(Q:VK)(u:Value)(s':Wa):Prop:=
 ∃v H',s'.os=s.os/\Z8 s'.gens/\Un (qD outer) [] H H' s.heap s'.heap/\HOk P w H' s'.heap/\RelV v u/\Q v H'
def CR(CX:B7)(outer:List Env)(P:Wz)(w:World)(H:Hp)(s:Wa)(Q:VK)(E:XK)(r:Result)(s':Wa):Prop:=
 match r with
 | .ok (.ret u)=>CE outer P w H s Q u s'
 | .ok _=>False
 | .error e=>CX outer H s E e s'
structure FnOk (P:Wz) (w:World) (K:V9) (mg:Str->Option Value) (base:Heap) (CX:B7) (k:Nat) (f:Addr) (fd:Ys) (ps:List Str) (sp:Sp):Prop where
 len:∀vs H Q E,sp vs H Q E->vs.length=ps.length
 run:∀(A:Xa) (outer:List Env) (s:Wa) (H:Hp) (args:Args) (us:List Value) (vs:List V) (Q:VK) (E:XK),Room k A->Env0 P w K mg base A outer s H->acp s fd args (ps.zip us)->Vals vs us->sp vs H Q E->
  Z1 (model P w) A (.call (.ref f) args) (CR CX outer P w H s Q E) s
def FnOk.mono{P:Wz}{w:World}{K:V9}{mg:Str->Option Value}{base:Heap}{CX:B7}{j k:Nat}{f:Addr}{fd:Ys}{ps:List Str}{sp:Sp}(F:FnOk P w K mg base CX j f fd ps sp)(h:j<=k):
 FnOk P w K mg base CX k f fd ps sp:=⟨F.len,λA outer s H args us vs Q E hr=>F.run A outer s H args us vs Q E (hr.mono h)⟩
def Env0.make{P:Wz}{w:World}{K:V9}{mg:Str->Option Value}{base:Heap}{A:Xa}{outer:List Env}{s:Wa}{H:Hp}(e:Env0 P w K mg base A outer s H)(C:Addr)(us:List Value)(kw:List (Str×Value)):
 Env0 P w K mg base (A.under (.builtin "type.__call__" ⟨.ref C::us,kw⟩)) outer s H:=⟨by first | exact e.frames | (simpa [abo,Code.envs,abH,pushEnvs] using e.frames),e.mod,e.bs,e.bsz,e.funs,e.frf,e.hok,e.bare⟩
section
variable{X:Cx}{f8:List (Addr×Obj)}{σ:St}{H:Hp}{s s':Wa}
def Inv.env0(I:Inv X f8 σ H s):Env0 X.prog X.w X.K X.mg X.base X.A X.stack s H:=
 ⟨I.ok.frames,I.ok.mod,I.bs,WZ I.ok.bsz I.sz,I.stack,I.stkFree,I.hok,I.bare⟩
def Inv.after{Q:VK}{u:Value}(I:Inv X f8 σ H s)(h:CE X.stack X.prog X.w H s Q u s'):EP X f8 σ Q u s':=by
 obtain⟨v,H',os,bare,un,hok,r,q⟩:=h;obtain⟨hh,g,d,t,Vr⟩:=s';obtain rfl:Vr=s.os:=os;exact⟨v,H',I.call (h':=hh) (g':=g) (d':=d) (t':=t) (ch:=[]) un hok bare (λb z=>acC z (by simp)),r,q⟩
end
def Pj(sp:Sp)(uj:List V)(E:XK)(t:TA):TE:=λσ H Q=>t σ H λvs H1=>sp (vs++uj) H1 Q E
def K7(C:Addr)(m:Str)(sp:Sp)(uj:List V)(E:XK)(ta:TE)(t:TA):TE:=λσ H Q=>ta σ H λx H1=>∃a dx fs,x= .ref a/\H1 a=some (.ins C dx fs)/\fs.lookup m=none/\
 t σ H1 λvs H2=>sp (x::(vs++uj)) H2 Q E
def Pl(C:Addr)(sp:Sp)(uj:List V)(E:XK)(t:TA):TE:=λσ H Q=>t σ H λvs H1=>∀x dx,H1 x=none->H1 dx=none->dx≠x->
 sp (.ref x::(vs++uj)) (upd (upd H1 dx (.own x)) x (.ins C dx [])) (λv H2=>v= .non/\Q (.ref x) H2) E
def Binds(K:V9)(fd:Ys)(ps:List Str)(ds:List Value):Prop:=
 ∀(s:Wa) (us:List Value),K.In s.heap->(us++ds).length=ps.length->acp s fd ⟨us,[]⟩ (ps.zip (us++ds))
def Binds.all{K:V9}{fd:Ys}{ps:List Str}(h:∀us:List Value,us.length=ps.length->aav fd ⟨us,[]⟩=pure (ps.zip us)):Binds K fd ps []:=λs us _ hl=>by
 rw[W5] at hl⊢;exact .of_eq (h us hl)
def Passes(CX:B7)(X:Cx)(E:XK):Prop:=∀(f8:List (Addr×Obj)) (σ:St) (H:Hp) (s:Wa) (e:Value) (s':Wa),Inv X f8 σ H s->CX X.stack H s E e s'->X.xe e s'
section
variable{X:Cx}{CX:B7}{k:Nat}{f C:Addr}{fd:Ys}{ps:List Str}{sp:Sp}{uj:List V}{ds:List Value}{E:XK}{x m:Str}{p pos u8:Pos}{e o:Expr}{es:List Expr}{ta:TE}{t:TA}
def BK{f8:List (Addr×Obj)}{σ:St}{H:Hp}{s:Wa}{Q:VK}{us:List Value}{vs:List V}(F:FnOk X.prog X.w X.K X.mg X.base CX k f fd ps sp)(hr:Room k X.A)(hb:Binds X.K fd ps ds)(hd:Vals uj ds)(hx:Passes CX X E)
 (I:Inv X f8 σ H s)(r:Vals vs us)(h:sp (vs++uj) H Q E):wpAny (model X.prog X.w) X.A (call (.ref f) us) (EP X f8 σ Q) X.xe s:=by
 have r2:Vals (vs++uj) (us++ds):=r.append hd;have hl:(us++ds).length=ps.length:=by rw[<-r2.length];exact F.len _ _ _ _ h
 refine wpAny_call (aa4 (F.run X.A X.stack s H ⟨us,[]⟩ (us++ds) (vs++uj) Q E hr I.env0 (hb s us I.kIn hl) r2 h) λr s' hq=>?_);cases r with
 |error e=>exact hx f8 σ H s e s' I hq
 |ok fl=>
  cases fl with
  |ret u=>exact I.after hq
  |next=>exact XJ hq
  |brk=>exact XJ hq
  |cont=>exact XJ hq
def JH(F:FnOk X.prog X.w X.K X.mg X.base CX k f fd ps sp)(hr:Room k X.A)(hg:Gl X x)(hm:X.mg x=some (.ref f))(hk:W2 X.K (.ref f)=true)(hb:Binds X.K fd ps ds)(hd:Vals uj ds)(hx:Passes CX X E)
 (ha:PA X (e::es) t)(rq:(x==("__debug__":Str))=false:=by decide)(he:Wf (e::es) X.env=(false,eval e X.env)::Wf es X.env:=by rfl)(mS:(Xv pos (Wf es X.env)).any (·.1)=false:=by rfl):
 PE X (.Call (.Name x p) (e::es) [] pos) (Pj sp uj E t):=by
 intro f8 s σ H Q I h;refine Zx (w4 I hg hm ?_ rq);refine ZT (h₀:=X.base) I.ok.mod.kin hk (ck (ha pos f8 s σ H _ I h) λus s1 ⟨vs,H1,I1,r,q⟩=>⟨I1.kIn,?_⟩) he mS;exact BK F hr hb hd hx I1 r q
def CP{pl:Sem Bool}(he:PE X o ta)(c:Cls X.K C)(hm:Meth X.K C m f)(F:FnOk X.prog X.w X.K X.mg X.base CX k f fd ps sp)(hr:Room k X.A)(hb:Binds X.K fd ps ds)(hd:Vals uj ds)(hx:Passes CX X E)(ha:PA X (e::es) t)
 (qa:Wf (e::es) X.env=(false,eval e X.env)::Wf es X.env:=by rfl)(mS:(Xv pos (Wf es X.env)).any (·.1)=false:=by rfl)
 (ht:eval (.Call (.Attribute o m u8) (e::es) [] pos) X.env=(do
  let ov<-eval o X.env
  aak u8.atName
  let (f,first)<-holding [ov] (Zn ov m pl)
  Z_ pos f first (Xv pos (Wf (e::es) X.env)) (X7 pos (Xi [] X.env))):=by rfl):
 PE X (.Call (.Attribute o m u8) (e::es) [] pos) (K7 C m sp uj E ta t):=by
 intro f8 s σ H Q I h;refine ZD (pl:=pl) (ck (he f8 s σ H _ I h) λu s1 ⟨x,H1,I1,rx,a,dx,fs,ex,ea,l,q⟩=>?_) ht;subst ex;obtain rfl:u=Wv a:=rx;refine mw I1 ea c hm l ?_;refine ZT (first:=[.ref a]) (h₀:=X.base) I.ok.mod.kin hm.kp (ck (ha pos f8 s1 σ H1 _ I1 q) λus s2 ⟨vs,H2,I2,r,q2⟩=>⟨I2.kIn,?_⟩) qa mS;exact BK (us:= .ref a::us) (vs:= .ref a::vs) F hr hb hd hx I2 (.cons rfl r) q2
def zP{pl:Sem Bool}(he:PE X o ta)(c:Cls X.K C)(hm:Meth X.K C m f)(F:FnOk X.prog X.w X.K X.mg X.base CX k f fd ps sp)(hr:Room k X.A)(hb:Binds X.K fd ps ds)(hd:Vals uj ds)(hx:Passes CX X E)
 (ht:eval (.Call (.Attribute o m u8) [] [] pos) X.env=(do
  let ov<-eval o X.env
  aak u8.atName
  let (f,first)<-holding [ov] (Zn ov m pl)
  Z_ pos f first (Xv pos (Wf [] X.env)) (X7 pos (Xi [] X.env))):=by rfl):
 PE X (.Call (.Attribute o m u8) [] [] pos) (K7 C m sp uj E ta Ke):=by
 intro f8 s σ H Q I h;refine ZD (pl:=pl) (ck (he f8 s σ H _ I h) λu s1 ⟨x,H1,I1,rx,a,dx,fs,ex,ea,l,q⟩=>?_) ht;subst ex;obtain rfl:u=Wv a:=rx;refine mw I1 ea c hm l ?_;exact PySem.W.callWith_K0 (first:=[.ref a]) I1.kIn hm.kp (BK (us:=[.ref a]) (vs:=[.ref a]) F hr hb hd hx I1 (.cons rfl .nil) q)
structure Mk (K:V9) (C f:Addr):Prop where
 makes:ZE K C=true
 init:WK K (.ref C) "__init__"=some (some (.ref f))
 fn:YS K (.ref f)=true
 kp:W2 K (.ref C)=true
def Ht{f8:List (Addr×Obj)}{σ:St}{H:Hp}{s:Wa}{Q:VK}{us:List Value}{vs:List V}(M:Mk X.K C f)(F:FnOk X.prog X.w X.K X.mg X.base CX k f fd ps sp)(hr:Room (k+1) X.A)(hb:Binds X.K fd ps ds)(hd:Vals uj ds)
 (hx:Passes CX X E)(I:Inv X f8 σ H s)(r:Vals vs us)
 (h:∀x dx,H x=none->H dx=none->dx≠x->sp (.ref x::(vs++uj)) (upd (upd H dx (.own x)) x (.ins C dx [])) (λv H2=>v= .non/\Q (.ref x) H2) E):
 wpAny (model X.prog X.w) X.A (call (.ref C) us) (EP X f8 σ Q) X.xe s:=by
 have hq:=h (s.heap.objs.size+1) s.heap.objs.size (I.hok.fresh (Z5 _)) (I.hok.fresh (Wj _)) (WA (YE _));have I2:=Inv.made (C:=C) I;have r2:Vals (V.ref (s.heap.objs.size+1)::(vs++uj)) (Wv (s.heap.objs.size+1)::(us++ds)):= .cons rfl (r.append hd);have hl:(Wv (s.heap.objs.size+1)::us++ds).length=ps.length:=by
  have e:=r2.length;rw[F.len _ _ _ _ hq] at e;exact e.symm
 refine wpAny_call (Gp (f:=f) I.kIn M.makes M.init (beq_iff_eq.mp M.fn) (aa4 (F.run _ X.stack _ _ ⟨Wv (s.heap.objs.size+1)::us,[]⟩ (Wv (s.heap.objs.size+1)::(us++ds)) _ _ E (hr.make C us [])
  (I2.env0.make C us []) (hb _ (Wv (s.heap.objs.size+1)::us) I2.kIn hl) r2 hq) λr s' DM=>?_))
 cases r with
 |error e=>exact hx f8 σ _ _ e s' I2 DM
 |ok fl=>
  cases fl with
  |ret u=>
   obtain⟨v,H',I3,rv,ev,q3⟩:=I2.after DM;subst ev;exact⟨rv,⟨V.ref (s.heap.objs.size+1),H',I3,rfl,q3⟩⟩
  |next=>exact XJ DM
  |brk=>exact XJ DM
  |cont=>exact XJ DM
def JL(M:Mk X.K C f)(F:FnOk X.prog X.w X.K X.mg X.base CX k f fd ps sp)(hr:Room (k+1) X.A)(hg:Gl X x)(hm:X.mg x=some (.ref C))(hb:Binds X.K fd ps ds)(hd:Vals uj ds)(hx:Passes CX X E)
 (ha:PA X (e::es) t)(rq:(x==("__debug__":Str))=false:=by decide)(he:Wf (e::es) X.env=(false,eval e X.env)::Wf es X.env:=by rfl)(mS:(Xv pos (Wf es X.env)).any (·.1)=false:=by rfl):
 PE X (.Call (.Name x p) (e::es) [] pos) (Pl C sp uj E t):=by
 intro f8 s σ H Q I h;refine Zx (w4 I hg hm ?_ rq);refine ZT (h₀:=X.base) I.ok.mod.kin M.kp (ck (ha pos f8 s σ H _ I h) λus s1 ⟨vs,H1,I1,r,q⟩=>⟨I1.kIn,?_⟩) he mS;exact Ht M F hr hb hd hx I1 r q
end
section
variable{ks:List Str}
end
structure FnScope (N P:List Str) (sc:Scope):Prop where
 kind:sc.kind= .function
 co:sc.isCoroutine=false
 gen:sc.isGenerator=false
 nd:N.Nodup
 pre:N.take P.length=P
 par:∀x∈P,sc.names.lookup x=some .local\/sc.names.lookup x=some .cell
 nofree:∀y∈sc.names,y.2≠ .free
def uT{ZQ:Str->Option Zz}{x:Str}:∀{binds:List (Str×Value)}{m:Str->Option Value},(∀v,(x,v)∉binds)->bindL ZQ binds m x=m x
 |[],_,_=>rfl
 |(n,v)::r,m,h=>by
  unfold bindL;rw[uT λw hw=>h w (V3 _ hw)];split
  ·have:x≠n:=by rintro rfl;exact h v V6
   simp[this]
  ·rfl
def uR{ZQ:Str->Option Zz}{x:Str}:∀{binds:List (Str×Value)}{m:Str->Option Value},(∀v,(x,v)∉binds)->bindC ZQ binds m x=m x
 |[],_,_=>rfl
 |(n,v)::r,m,h=>by
  unfold bindC;rw[uR λw hw=>h w (V3 _ hw)];split
  ·rfl
  ·have:x≠n:=by rintro rfl;exact h v V6
   simp[this]
def uS{ZQ:Str->Option Zz}{x:Str}{v:Value}:∀{P:List Str}{vs:List Value}{i:Nat}{m:Str->Option Value},P.Nodup->P[i]? =some x->vs[i]? =some v->ZQ x=some .local->
 bindL ZQ (P.zip vs) m x=some v
 |[],_,_,_,_,h,_,_=>by simp at h
 |_::_,[],_,_,_,_,h,_=>by simp at h
 |p::P,w::vs,0,m,nd,h1,h2,hk=>by
  simp at h1 h2;subst h1;subst h2;show bindL ZQ ((p,w)::P.zip vs) m p=_;unfold bindL;rw[uT λv hv=>(WV.mp nd).1 (aaG hv).1,acz hk];simp
 |p::P,w::vs,i+1,m,nd,h1,h2,hk=>by
  show bindL ZQ ((p,w)::P.zip vs) m x=_;unfold bindL;exact uS (i:=i) (WV.mp nd).2 (by simpa using h1) (by simpa using h2) hk
def uQ{ZQ:Str->Option Zz}{x:Str}{v:Value}:∀{P:List Str}{vs:List Value}{i:Nat}{m:Str->Option Value},P.Nodup->P[i]? =some x->vs[i]? =some v->ZQ x≠some .local->
 bindC ZQ (P.zip vs) m x=some v
 |[],_,_,_,_,h,_,_=>by simp at h
 |_::_,[],_,_,_,_,h,_=>by simp at h
 |p::P,w::vs,0,m,nd,h1,h2,hk=>by
  simp at h1 h2;subst h1;subst h2;show bindC ZQ ((p,w)::P.zip vs) m p=_;unfold bindC;rw[uR λv hv=>(WV.mp nd).1 (aaG hv).1,acA hk];simp
 |p::P,w::vs,i+1,m,nd,h1,h2,hk=>by
  show bindC ZQ ((p,w)::P.zip vs) m x=_;unfold bindC;exact uQ (i:=i) (WV.mp nd).2 (by simpa using h1) (by simpa using h2) hk
def start(N:List Str)(vs:List V):St:=vs.map some++Wx (N.length - vs.length) none
def f7(CX:B7)(P:Wz)(w:World)(K:V9)(mg:Str->Option Value)(base:Heap)(N:List Str)(qual:Str)(scope:Scope)(f:Addr)(cd:Value)(A:Xa)(outer:List Env)(s:Wa)(H:Hp)(E:XK):Cx where
 prog:=P
 w:=w
 K:=K
 mg:=mg
 base:=base
 A:=A.deeper (YZ qual scope s.heap.objs.size f cd)
 N:=N
 acJ:=s
 acI:=H
 env:=YZ qual scope s.heap.objs.size f cd
 outer:=outer
 stack:=YZ qual scope s.heap.objs.size f cd::outer
 ex:=[]
 calm:=true
 fn:=λ_=>true
 pn:=[]
 xe:=λe s'=>wpAny (model P w) (A.deeper (YZ qual scope s.heap.objs.size f cd)) (leaving (YZ qual scope s.heap.objs.size f cd) e) (λ_ RZ=>CX outer H s E e RZ) (λe' RZ=>CX outer H s E e' RZ) s'
def yI{sc:Scope}{n:Nat}{x:Str}(h:sc.names.lookup x=some .cell):∃c,(cellsFrom n sc.names []).lookup x=some c:=by
 have q:=aa7 sc.names n [] (.inl h);exact YA.mp q
def DO{CX:B7}{P:Wz}{w:World}{K:V9}{mg:Str->Option Value}{base:Heap}{N ps:List Str}{qual:Str}{scope:Scope}{f:Addr}{cd:Value}{A:Xa}{outer:List Env}{s s1:Wa}{H:Hp}{E:XK}{us:List Value}{vs:List V}
 (S:FnScope N ps scope)(hd:A.handled=none)(e0:Env0 P w K mg base A outer s H)(hl:vs.length=ps.length)(r:Vals vs us)
 (x:InCallC s s.heap.objs.size (bindL (YZ qual scope s.heap.objs.size f cd).kindOf (ps.zip us) λ_=>none) (cellsFrom (s.heap.objs.size+1) scope.names []) (bindC (YZ qual scope s.heap.objs.size f cd).kindOf (ps.zip us) λ_=>none) s1):
 Inv (f7 CX P w K mg base N qual scope f cd A outer s H E) [] (start N vs) H s1:=by
 have mS:ps.length<=N.length:=by have:=acH List.length S.pre;rw[ZF] at this;omega
 obtain⟨h1,tk,rfl,hk⟩:=x.done;have OH:∀b:Addr,b∉(f7 CX P w K mg base N qual scope f cd A outer s H E).ex:=λb z=>acC (show b∈([]:List Addr) from z) (by simp);refine⟨⟨e0.mod,S.kind,rfl,rfl,Wj _,λy z c h1 h2=>?_,λy hy=>?_,λy c _ h=>?_,λ_=>hd,Around.frames_deeper e0.frames, .inr ⟨rfl,rfl⟩,λb z=>acC z (OH b),e0.bs,e0.bsz,λb _ _=>OH b,λb z=>acC z (OH b),e0.funs,e0.frf⟩,
  rfl,e0.bare,Un.kept hk,⟨_,x.toInCall.ns,λi y v h1 h2 h3=>?_⟩,λy c h=>⟨_,x.cell y c h⟩,e0.hok.fresh (Wj _),λy c h=>?_,λp hp=>acC (show p∈([]:List (Addr×Obj)) from hp) (by simp),e0.hok.kept hk,?_⟩
 ·exact name_of_addr x.apart (XN h1) (XN h2)
 ·have hy:scope.names.lookup y=some .cell\/scope.names.lookup y=some .free:=hy;rcases hy with hy | hy
  ·exact yI hy
  ·exact acC rfl (S.nofree _ (XN hy))
 ·exact X8 (x.above y c (XN h))
 ·have hi:i<vs.length:=by
   unfold start at h2;by_cases hi:i<vs.length
   ·exact hi
   ·rw[WJ (by simpa using hi)] at h2;rw[Xd] at h2;split at h2<;>cases h2
  have ha:vs[i]? =some v:=by
   unfold start at h2;rw[WB (by simpa using hi),Wb] at h2;cases e:vs[i]? with
   |none=>rw[e] at h2;cases h2
   |some a=>rw[e] at h2;cases h2;rfl
  obtain⟨u,hu,rv⟩:=r.get ha;have hp:ps[i]? =some y:=by
   rw[<-S.pre,List.getElem?_take_of_lt (by omega)];exact h1
  have Ts:ps.Nodup:=by rw[<-S.pre];exact S.nd.sublist (List.take_sublist _ _)
  refine⟨u,rv,?_⟩;rcases S.par y (Xb hp) with k | k
  ·exact .inl ⟨k,uS Ts hp hu k⟩
  ·obtain⟨c,e⟩:=yI (n:=s.heap.objs.size+1) k;refine .inr ⟨.inl k,c,e,?_⟩;have q:=x.cell y c e;rw[uQ Ts hp hu (by show scope.names.lookup y≠_;rw[k];decide)] at q;exact q
 ·exact e0.hok.fresh (X8 (x.above y c (XN h)))
 ·unfold start;show _=N.length;rw[Wh,V4,Y0];omega
def u7{CX:B7}{P:Wz}{w:World}{K:V9}{mg:Str->Option Value}{base:Heap}{k:Nat}{f:Addr}{name qual:Str}{params:Arguments}{body:List Stmt}{scope:Scope}{dV kV doc pm de ct oc:Value}{an od:Option Addr}
 {Ej:Array (Option Value)}{N ps:List Str}{sp:Sp}(lk:K.lookup f=some ⟨oc,od, .func (W6 name qual params body scope dV kV doc pm an de ct),Ej⟩)(qF:XG K de qual=true)(S:FnScope N ps scope)
 (len:∀vs H Q E,sp vs H Q E->vs.length=ps.length)
 (dI:∀(A:Xa) (outer:List Env) (s:Wa) (H:Hp) (vs:List V) (Q:VK) (E:XK),Room k (A.deeper (YZ qual scope s.heap.objs.size f de))->sp vs H Q E->
  ∃t,PSs (f7 CX P w K mg base N qual scope f de A outer s H E) body t/\t {nx:=λ_ H'=>Q .non H',rt:=Q} (start N vs) H):
 FnOk P w K mg base CX (k+1) f (W6 name qual params body scope dV kV doc pm an de ct) ps sp:=by
 refine⟨len,λA outer s H args us vs Q E hr e0 hb r yx=>?_⟩;have hl:=len _ _ _ _ yx;have KX:K.In s.heap:=e0.mod.kin.keeps λb o e=>(e0.bs b o e).1;have lim:s.heap.NoLimit:=e0.mod.nolimit.keeps λb o e=>(e0.bs b o e).1;have N2:∀y∈ps.zip us,scope.names.lookup y.1=some .local\/(scope.names.lookup y.1=some .cell/\((cellsFrom (s.heap.objs.size+1) scope.names []).lookup y.1).isSome=true):=λ⟨n,v⟩ hy=>by
  rcases S.par n (aaG hy).1 with q | q
  ·exact .inl q
  ·exact .inr ⟨q,aa7 _ _ _ (.inl q)⟩
 refine codeAny_call_function hr.depth (KX _ _ lk) rfl S.co S.gen rfl (PySem.W.codeRec_of KX qF) (hb _ _ _ _ ?_);refine wpAny_newFunctionEnv_cells S.kind N2 λenv he s1 x=>?_;subst he;refine⟨lim.keeps x.toInCall.keep,codeAny_func ?_⟩;obtain⟨t,ht,hq⟩:=dI A outer s H vs Q E (hr.deeper _) yx;have I:Inv (f7 CX P w K mg base N qual scope f de A outer s H E) [] (start N vs) H s1:=DO S hr.hd e0 hl r x;refine Xl (ht [] s1 (start N vs) H _ I hq) (λfl s' hs=>?_) λe s' hs=>hs;have fin:∀{σ':St}{H':Hp}{v:V}{u:Value},Inv (f7 CX P w K mg base N qual scope f de A outer s H E) [] σ' H' s'->RelV v u->Q v H'->CE outer P w H s Q u s':=
  λ{σ' H' v u} J rv q=>⟨v,H',J.os,J.bare,J.base,J.hok,rv,q⟩
 cases fl with
 |ret u=>
  obtain⟨v,σ',H',J,rv,q⟩:=hs;exact fin J rv q
 |next=>
  obtain⟨σ',H',J,q⟩:=hs;exact fin (v:=V.non) (u:=W9) J rfl q
 |brk=>
  obtain⟨_,_,_,q⟩:=hs;exact XJ q
 |cont=>
  obtain⟨_,_,_,q⟩:=hs;exact XJ q
section
variable{X:Cx}{x:Str}{p pos:Pos}{e:Expr}{es:List Expr}{t:TA}{id T:String}{r:List V->Hp->VK->Prop}
def R8(r:List V->Hp->VK->Prop)(t:TA):TE:=λσ H Q=>t σ H λvs H1=>r vs H1 Q
def zN(hc:CallR X (.builtin id) r)(hg:Gl X x)(hm:X.mg x=none)(hv:WX x=some (.builtin id))(ha:PA X (e::es) t)(hn:x≠"__name__":=by decide)(rq:(x==("__debug__":Str))=false:=by decide)
 (he:Wf (e::es) X.env=(false,eval e X.env)::Wf es X.env:=by rfl)(mS:(Xv pos (Wf es X.env)).any (·.1)=false:=by rfl):PE X (.Call (.Name x p) (e::es) [] pos) (R8 r t):=by
 intro f8 s σ H Q I h;refine Zx (mz I hg hm hv ?_ hn rq);exact PyProof.Rows.callWith_builtin1 (ck (ha pos f8 s σ H _ I h) λus s1 ⟨vs,H1,I1,r1,q1⟩=>hc f8 s1 σ H1 vs us Q I1 r1 q1) he mS
def Es(hc:CallR X (.type T) r)(hg:Gl X x)(hm:X.mg x=none)(hv:WX x=some (.type T))(ha:PA X (e::es) t)(hn:x≠"__name__":=by decide)(rq:(x==("__debug__":Str))=false:=by decide)
 (he:Wf (e::es) X.env=(false,eval e X.env)::Wf es X.env:=by rfl)(mS:(Xv pos (Wf es X.env)).any (·.1)=false:=by rfl):PE X (.Call (.Name x p) (e::es) [] pos) (R8 r t):=by
 intro f8 s σ H Q I h;refine Zx (mz I hg hm hv ?_ hn rq);exact XD (ck (ha pos f8 s σ H _ I h) λus s1 ⟨vs,H1,I1,r1,q1⟩=>hc f8 s1 σ H1 vs us Q I1 r1 q1) he mS
end
end L2
namespace HT
open PySem PyProof.Rows
def lexLt:List Int->List Int->Bool
 |[],[]=>false
 |[],_::_=>true
 |_::_,[]=>false
 |x::xs,y::ys=>if x=y then lexLt xs ys else decide (x<y)
def lexLt_cons(x y:Int)(xs ys:List Int):lexLt (x::xs) (y::ys)=if x=y then lexLt xs ys else decide (x<y):=rfl
def lexLt_nil_nil:lexLt [] []=false:=rfl
def lexLt_nil_cons(y:Int)(ys:List Int):lexLt [] (y::ys)=true:=rfl
def lexLt_cons_nil(x:Int)(xs:List Int):lexLt (x::xs) []=false:=rfl
def eqAt_int(A:Xa)(s:Wa)(a:Int)(t:Tok)(c:Int)(u:Tok):∃e,ace A s (.int a t) (.int c u) e/\(e=true↔a=c):=
 ⟨(a==c),abh a t c u,by simp⟩
def rcLt_int(A:Xa)(s:Wa)(a:Int)(t:Tok)(c:Int)(u:Tok)(prog:Wz)(w:World)(E:Value->Wa->Prop)(Q:Value->Wa->Prop)(h:Q (.bool (decide (a<c))) s):
 wpAny (model prog w) A (abv .Lt (.int a t) (.int c u)) Q E s:=
 (aaF h:wpAny (model prog w) A (W7 .Lt (.int a t) (.int c u)) Q E s)
section
open PySem.SeqAt
open PySem.AutoSeq1 (wpAny_loadPart')
open PySem.MeetsSeq PySem.MeetsSeq2 PySem.MeetsSeq3
def tuple_lt_ints(l b:Addr)(items iu:Array Value)(n n2:Nat)(dd Dz:Option Addr)(sl K5:Array (Option Value))(ns ms:List Int)(hi:X6 items.toList ns)(hj:X6 iu.toList ms):
 Meets (aa3.«tuple.__lt__» ⟨[.ref l, .ref b],[]⟩)
  (λ_ R s=>s.heap.get? l=some {cls:= .type "tuple",dict:=dd,data:= .seq items n,slots:=sl}/\s.heap.get? b=some {cls:= .type "tuple",dict:=Dz,data:= .seq iu n2,slots:=K5}/\
   R (.ok (.ret (.bool (lexLt ns ms)))) s):=
 .of_wp λprog w A R s h=>by
  obtain⟨hp,g,d,tk,os⟩:=s;obtain⟨hl,hb,h⟩:=h;have f2:=AutoSeq1.sub_tuple_tuple;have z1:items.size=ns.length:=by rw[<-hi.length];simp
  have z2:iu.size=ms.length:=by rw[<-hj.length];simp
  wp_walk using wpAny_loadPart' hl,wpAny_loadPart' hb,abd _ (λW1 b s'=>b.1=none/\s'=⟨hp,g,d,tk,os⟩/\∃(vs ws:List Value) (M6 M5:List Int),W1=vs.zip ws/\
   X6 vs M6/\X6 ws M5/\M6.length+iu.size=M5.length+items.size/\R (.ok (.ret (.bool (lexLt M6 M5)))) ⟨hp,g,d,tk,os⟩) _
  case turn=>
   rintro⟨y,x⟩ W1 b s' ⟨wL,rfl,vs,ws,M6,M5,hz,Rr,P7,P3,hR⟩;cases Rr with
   |nil=>rw[List.zip_nil_left] at hz;cases hz
   |cons a t Rt=>
    cases P7 with
    |nil=>rw[List.zip_nil_right] at hz;cases hz
    |cons c u Rw=>
     rw[XY] at hz;injection hz with Vc Od
     injection Vc with hy hx
     subst hy hx;rw[lexLt_cons] at hR;simp only[V7] at P3;obtain⟨e,he,NZ⟩:=eqAt_int A.in1 ⟨hp,g,d,tk,os⟩ a t c u;refine V2 (he prog w _ _ ?_);cases e with
     |true=>
      rw[acz (NZ.mp rfl)] at hR
      wp_walk
      exact⟨rfl,rfl,_,_,_,_,Od,Rt,Rw,by omega,hR⟩
     |false=>
      rw[acA (λq=>acC (NZ.mpr q) Wt)] at hR;have UZ:=rcLt_int A.in1 ⟨hp,g,d,tk,os⟩ a t c u prog w
      wp_walk using UZ
      exact⟨_,rfl,by simpa using hR⟩
  case fin=>
   rintro⟨b1,b2⟩ s' ⟨wL,rfl,vs,ws,M6,M5,hz,Rr,P7,P3,hR⟩;simp only at wL;subst wL;have hv:lexLt M6 M5=decide (items.size<iu.size):=by
    cases Rr with
    |nil=>
     cases P7 with
     |nil=>
      simp only[Xc] at P3;rw[lexLt_nil_nil];exact(acD (by omega)).symm
     |cons c u hw=>
      simp only[Xc,V7] at P3;rw[lexLt_nil_cons];exact(acB (by omega)).symm
    |cons a t hv=>
     cases P7 with
     |nil=>
      simp only[Xc,V7] at P3;rw[lexLt_cons_nil];exact(acD (by omega)).symm
     |cons c u hw=>
      rw[XY] at hz;cases hz
   rw[hv] at hR
   wp_walk
   exact⟨_,rfl,by simpa[Builtin.Tuple.tupleCompareSizes] using hR⟩
  case h=>
   exact⟨rfl,rfl,items.toList,iu.toList,ns,ms,rfl,hi,hj,by omega,h⟩
end
section
variable{prog:Wz}{w:World}{A:Xa}{E:Value->Wa->Prop}{s:Wa}
def lt_tupInts{l b:Addr}{items iu:Array Value}{ns ms:List Int}{Q:Value->Wa->Prop}(hl:IsTup s.heap l items)(hb:IsTup s.heap b iu)(hi:X6 items.toList ns)(hj:X6 iu.toList ms)
 (hu:A.units<cLine)(h:Q (.bool (lexLt ns ms)) s):wpAny (model prog w) A (W7 .Lt (.ref l) (.ref b)) Q E s:=by
 obtain⟨⟨cls,dd,data,sl⟩,ho,hc,n,hd⟩:=id hl;obtain⟨⟨Np,Dz,data2,K5⟩,Cv,H9,n2,hd2⟩:=id hb;simp only at hc hd H9 hd2;subst hc hd H9 hd2;exact richCompare_meets_room (op:= .Lt) ⟨_,ho,rfl⟩ ⟨_,Cv,rfl⟩ PySem.F.slot_tuple_lt PySem.F.entry_tuple_lt (PySem.F.args_tuple_lt_2 _ _) (tuple_lt_ints l b items iu n n2 dd Dz sl K5 ns ms hi hj)
  ⟨ho,Cv,show YR (lexLt ns ms)≠Value.notImplemented/\Q (.bool (lexLt ns ms)) s from⟨(λx=>nomatch x),h⟩⟩ hu
def cat_tup{t b:Addr}{vs ws:List Value}{Q:Value->Wa->Prop}(ht:IsTup s.heap t vs.toArray)(hb:IsTup s.heap b ws.toArray)(hv:vs≠[])
 (h1:ws=[]->Q (.ref t) s)(h2:ws≠[]->Q (.ref s.heap.objs.size) {s with heap:=s.heap.push {cls:= .type "tuple",data:= .seq (vs++ws).toArray} })
 (hsz:vs.length+ws.length<=Wr):wpAny (model prog w) A (Zy .Add (.ref t) (.ref b)) Q E s:=by
 obtain⟨⟨cls,dd,data,sl⟩,ho,hc,n,hd⟩:=id ht;obtain⟨⟨Np,Dz,data2,K5⟩,Cv,H9,n2,hd2⟩:=id hb;simp only at hc hd H9 hd2;subst hc hd H9 hd2;have e:vs.toArray++ws.toArray=(vs++ws).toArray:=by simp
 by_cases hw:ws=[]
 ·exact concat_meets ⟨_,ho,rfl⟩ ⟨_,Cv,rfl⟩ abe ab9 Zv Zo (Zh _ _)
   (tuple_addW1 t b vs.toArray ws.toArray n n2 dd Dz sl K5 (by simpa using hv) (by simp[hw])) ⟨ho,Cv,h1 hw⟩
 ·refine concat_meets ⟨_,ho,rfl⟩ ⟨_,Cv,rfl⟩ abe ab9 Zv Zo (Zh _ _)
   (tuple_addW2 t b vs.toArray ws.toArray n n2 dd Dz sl K5 (by simpa using hv) (by simpa using hw) (by rw[Wi,Wi];exact hsz)) ⟨ho,Cv,?_⟩
  rw[e];exact h2 hw
def sIx(n d:Nat):Option Int->Nat
 |none=>d
 |some v=>if v<0 then(v+(n:Int)).toNat else min v.toNat n
def sIx_none(n d:Nat):sIx n d none=d:=rfl
end
end HT
namespace L2
open PySem PySem.Spec PyProof.Rows
abbrev TO:=St->Hp->(Option Int->Hp->Prop)->Prop
def intsAre_of{ns:List Int}:∀{us:List Value},Vals (ns.map V.int) us->X6 us ns:=by
 induction ns with
 |nil=>intro us r;rw[YH] at r;cases r;exact .nil
 |cons n ns ih=>
  intro us r;rw[Wg] at r;cases r with
  |cons r1 r2=>
   obtain⟨t,e⟩:=r1;subst e;exact .cons n t (ih r2)
section
variable{X:Cx}{lo hi:Option Expr}{p2:Pos}
def TK(X:Cx)(r:V->Option Int->Option Int->Hp->VK->Prop):Prop:=
 ∀(f8:List (Addr×Obj)) (s:Wa) (σ:St) (H:Hp) (x:V) (v vl vu:Value) (lo hi:Option Int) (sl:Addr) (Q:VK),Inv X f8 σ H s->RelV x v->s.heap.IsSliceOf sl vl vu .none->IsPart vl lo->IsPart vu hi->r x lo hi H Q->
  ∃T id,typeLookup (.type T) "__getitem__"=pure (some (.builtin id))/\s.TypeIs v T/\wpAny (model X.prog X.w) X.A (aca v (.ref sl)) (EP X f8 σ Q) X.xe s
def Ir(xs:List V)(lo hi:Option Int):List V:=(xs.drop (HT.sIx xs.length 0 lo)).take (HT.sIx xs.length xs.length hi - HT.sIx xs.length 0 lo)
def yM(xs:List V)(lo hi:Option Int):(Ir xs lo hi).length<=xs.length:=by
 unfold Ir;rw[ZF,List.length_drop];omega
def O4(K:V9):R2:=λx y H Q=>∃a b xs ys,x= .ref a/\y= .ref b/\SqT K H a xs/\SqT K H b ys/\xs≠[]/\xs.length+ys.length<=Wr/\
 (ys=[]->Q (.ref a) H)/\(ys≠[]->∀p,H p=none->Q (.ref p) (upd H p (.tup (xs++ys))))
def Vals.nil_iff{xs:List V}{us:List Value}(r:Vals xs us):us=[]↔xs=[]:=by
 cases r with
 |nil=>simp
 |cons _ _=>simp
def Jo:OpR X (Zy .Add) (O4 X.K):=by
 intro f8 s σ H x y v u Q I rx ry h;obtain⟨a,b,xs,ys,rfl,rfl,ha,hb,hx,hz,q1,q2⟩:=h;cases rx;cases ry;obtain⟨aR,r1,p1,_⟩:=I.tuple ha;obtain⟨j0,r2,p2,_⟩:=I.tuple hb;refine HT.cat_tup p1 p2 (λz=>hx (r1.nil_iff.mp z)) (λz=>⟨.ref a,H,I,rfl,q1 (r2.nil_iff.mp z)⟩) (λz=>?_) (by rw[<-r1.length,<-r2.length];exact hz);refine⟨.ref s.heap.objs.size,_,I.laid (t':=s.toks) (o:= .tup (xs++ys)) (λb ob q=>V8 _ q) (Wj _) ?_,rfl,q2 (λw=>z (r2.nil_iff.mpr w)) _ (I.hok.fresh (Wj _))⟩;exact⟨by rw[Wh];exact hz,_,r1.append r2,IsTup.new _ _⟩
end
def Gg(n:Nat)(i:Int):Option Nat:=if 0<=i then(if i<n then some i.toNat else none) else if -(n:Int)<=i then some (i+n).toNat else none
def atI{α:Type}(xs:List α)(i:Int):Option α:=(Gg xs.length i).bind λj=>xs[j]?
def IW{n:Nat}{i:Int}{j:Nat}(h:Gg n i=some j):seqIndex? i n=some j/\j<n/\ -(n:Int)<=i/\i<n:=by
 unfold Gg at h;by_cases h0:0<=i
 ·rw[acz h0] at h;by_cases h1:i<n
  ·rw[acz h1] at h;have e:i.toNat=j:=WC h;exact⟨by rw[seqIndex_of h0 h1,e],by omega,by omega,h1⟩
  ·rw[acA h1] at h;cases h
 ·rw[acA h0] at h;by_cases h1: -(n:Int)<=i
  ·rw[acz h1] at h;have e:(i+n).toNat=j:=WC h;exact⟨by rw[seqIndex_neg (by omega) h1,e],by omega,h1,by omega⟩
  ·rw[acA h1] at h;cases h
def wq{α:Type}{xs:List α}{i:Int}{v:α}(h:atI xs i=some v):∃j,seqIndex? i xs.length=some j/\xs[j]? =some v/\j<xs.length/\ -(xs.length:Int)<=i/\i<xs.length:=by
 unfold atI at h;cases e:Gg xs.length i with
 |none=>rw[e] at h;cases h
 |some j=>
  rw[e] at h;obtain⟨h1,h2,h3,h4⟩:=IW e;exact⟨j,h1,h,h2,h3,h4⟩
def qU{α:Type}(xs:List α)(v:α):atI (xs++[v]) (-1)=some v:=by
 have hl:(xs++[v]).length=xs.length+1:=by simp
 have e:Gg (xs++[v]).length (-1)=some xs.length:=by
  unfold Gg;rw[hl,acA (by decide),acz (by omega)];congr 1;omega
 unfold atI;rw[e];show (xs++[v])[xs.length]? =some v;simp
def jc(b:Expr):Prop:=∀o i,subscripted b false o i=operate [o,i] (aca o i)
def Ng(X:Cx)(r:R2):Prop:=
 ∀(value slice:Expr) (f8:List (Addr×Obj)) (s:Wa) (σ:St) (H:Hp) (x y:V) (v u:Value) (Q:VK),Inv X f8 σ H s->RelV x v->RelV y u->r x y H Q->
  subscripted slice false v u=operate [v,u] (aca v u)->wpAny (model X.prog X.w) X.A (subscriptTail value slice v u) (EP X f8 σ Q) X.xe s
def MP(X:Cx)(id:String)(r:V->List V->Hp->VK->Prop):Prop:=
 ∀(f8:List (Addr×Obj)) (s:Wa) (σ:St) (H:Hp) (x:V) (xs:List V) (v:Value) (us:List Value) (Q:VK),Inv X f8 σ H s->RelV x v->Vals xs us->r x xs H Q->
  wpAny (model X.prog X.w) X.A (call (.builtin id) (v::us)) (EP X f8 σ Q) X.xe s
section
variable{X:Cx}{a b:Expr}{ta tb:TE}{pos:Pos}
def K0{r:R2}(hr:Ng X r)(ha:PE X a ta)(hb:PE X b tb)(hs:jc b):PE X (.Subscript a b pos) (Po r ta tb):=by
 intro f8 s σ H Q I h;exact Subscript_ (Lg ha hb I h λv u s2 x y H2 I2 rx ry q=>hr a b f8 s2 σ H2 x y v u Q I2 rx ry q (hs _ _))
def JY(K:V9):R2:=λx y H Q=>∃p xs i v,x= .ref p/\y= .int i/\SqL K H p xs/\atI xs i=some v/\Q v H
def O9(K:V9):R2:=λx y H Q=>∃p xs i v,x= .ref p/\y= .int i/\SqT K H p xs/\atI xs i=some v/\Q v H
def O8:R2:=λx y H Q=>∃z i c,x= .str z/\y= .int i/\z.length<=Wr/\atI z.cps.toList i=some c/\Q (.str ⟨#[c]⟩) H
def wY:Ng X (JY X.K):=by
 intro value slice f8 s σ H x y v u Q I rx ry h hs;obtain⟨p,xs,i,z,rfl,rfl,hq,he,q⟩:=h;cases rx;obtain⟨t,rfl⟩:=ry;obtain⟨aR,r,pl,hz⟩:=I.list hq;obtain⟨j,h1,h2,h3,h4,h5⟩:=wq he;obtain⟨w,ew,Aw⟩:=r.get h2;have hl:=r.length;have hn:=oG;have fin:EP X f8 σ Q w s:=⟨z,H,I,Aw,q⟩
 by_cases h0:0<=i
 ·have hj:i.toNat=j:=by
   rw[seqIndex_of h0 h5] at h1;exact WC h1
  exact item_listR pl.isList h0 (by omega) (by rw[hj];simpa using ew) fin hs
 ·have hj:(i+(aR.toArray.size:Int)).toNat=j:=by
   rw[seqIndex_neg (by omega) h4] at h1;rw[Wi,<-hl];exact WC h1
  exact acu (x:=w) pl.isList.typeIs slot_list_getitem.lookup
   (wpAny_getItem_list_neg (Q:=λr s'=>r=w/\EP X f8 σ Q r s') pl.isList (by omega) (by rw[Wi]<;>omega) (by omega) (by rw[hj];simpa using ew) ⟨rfl,fin⟩) hs
def LV:Ng X (O9 X.K):=by
 intro value slice f8 s σ H x y v u Q I rx ry h hs;obtain⟨p,xs,i,z,rfl,rfl,hq,he,q⟩:=h;cases rx;obtain⟨t,rfl⟩:=ry;obtain⟨aR,r,pl,hz⟩:=I.tuple hq;obtain⟨j,h1,h2,h3,h4,h5⟩:=wq he;obtain⟨w,ew,Aw⟩:=r.get h2;have hl:=r.length;have hn:=oG;have fin:EP X f8 σ Q w s:=⟨z,H,I,Aw,q⟩
 exact acu (x:=w) pl.typeIs slot_tuple_getitem.lookup
  (getItem_tuple (j:=j) (Q:=λr s'=>r=w/\EP X f8 σ Q r s') pl (by omega) (by omega) (by rw[Wi,<-hl];exact h1) (by simpa using ew) ⟨rfl,fin⟩) hs
def LU:Ng X O8:=by
 intro value slice f8 s σ H x y v u Q I rx ry h hs;obtain⟨z,i,c,rfl,rfl,hz,he,q⟩:=h;obtain⟨t,rfl⟩:=rx;obtain⟨t',rfl⟩:=ry;obtain⟨j,h1,h2,h3,h4,h5⟩:=wq he;have hl:z.cps.toList.length=z.length:=by simp[Str.length]
 rw[hl] at h1 h4 h5;have hn:=oG;exact tail_any (typeIs_str s z t) slot_str_getitem.lookup (getItem_str (c:=c) (by
  have e1:decide (i< -(2 ^ 63:Int))=false:=acD (by omega);have e2:decide (i>=2 ^ 63)=false:=acD (by omega);rw[e1,e2,Bool.or_false]) (by rw[h1];simpa using h2) ⟨.str ⟨#[c]⟩,H,I.tok _,⟨_,rfl⟩,q⟩) hs
def Inv.lst{f8:List (Addr×Obj)}{σ:St}{H:Hp}{s:Wa}{p:Addr}{xs:List V}(I:Inv X f8 σ H s)(h:H p=some (.lst xs)):
 ∃(aR:List Value) (n:Nat),Vals xs aR/\s.heap.get? p=some {cls:= .type "list",data:= .seq aR.toArray n}/\xs.length<=Wr:=by
 obtain⟨z,aR,n,r,e⟩:=I.hok p _ h;exact⟨aR,n,r,e,z⟩
def yg(lo hi:Option Int)(n:Nat):(Zl lo hi none n).1=((HT.sIx n 0 lo:Nat):Int)/\(Zl lo hi none n).2.1=((HT.sIx n n hi:Nat):Int)/\(Zl lo hi none n).2.2=1:=by
 refine⟨?_,?_,rfl⟩
 ·cases lo with
  |none=>simp[Zl,HT.sIx]
  |some i=>
   simp only[Zl,HT.sIx,acj,show (1:Int)>0 by decide,if_true];by_cases h:i<0
   ·simp only[h,if_true]<;>omega
   ·simp only[h,if_false]<;>omega
 ·cases hi with
  |none=>simp[Zl,HT.sIx]
  |some i=>
   simp only[Zl,HT.sIx,acj,show (1:Int)>0 by decide,if_true];by_cases h:i<0
   ·simp only[h,if_true]<;>omega
   ·simp only[h,if_false]<;>omega
def uJ(aR:List Value)(lo hi:Option Int):slicePick aR.toArray lo hi none=((aR.drop (HT.sIx aR.length 0 lo)).take (HT.sIx aR.length aR.length hi - HT.sIx aR.length 0 lo)).toArray:=by
 obtain⟨h1,h2,h3⟩:=yg lo hi aR.toArray.size;unfold slicePick;rw[h1,h2,h3];simp only[sliceRange_one,pick_run,Wi]<;>rfl
def RY(K:V9):V->Option Int->Option Int->Hp->VK->Prop:=λx lo hi H Q=>∃a xs,x= .ref a/\SqL K H a xs/\∀p,H p=none->Q (.ref p) (upd H p (.lst (Ir xs lo hi)))
def Qi:TK X (RY X.K):=by
 intro f8 s σ H x v vl vu lo hi sl Q I rx hs pl pu h;obtain⟨a,xs,rfl,hx,q⟩:=h;cases rx;obtain⟨aR,r,ht,hz⟩:=I.list hx;have P3:=r.length;refine⟨"list",_,slot_list_getitem.lookup,ht.isList.typeIs,?_⟩;refine wpAny_getItem_list_slice ht.isList hs pl pu .none (by simp) ?_ (by rw[Wi]<;>omega);rw[uJ,<-P3];refine⟨.ref s.heap.objs.size,_,I.laid (t':=s.toks) (o:= .lst (Ir xs lo hi)) (λb ob q=>V8 _ q) (Wj _) ?_,rfl,q _ (I.hok.fresh (Wj _))⟩;exact⟨WZ (yM xs lo hi) hz,_,0,(r.drop (HT.sIx xs.length 0 lo)).take (HT.sIx xs.length xs.length hi - HT.sIx xs.length 0 lo),Wm _ rfl⟩
def pd:V->Bool
 | .non=>true
 | .bl _=>true
 | .int _=>true
 | .str _=>true
 |_=>false
def H0:V->V->Bool
 | .non, .non=>true
 | .bl a, .bl b=>a==b
 | .bl a, .int b=>(if a then 1 else 0)==b
 | .int a, .bl b=>a==(if b then 1 else 0)
 | .int a, .int b=>a==b
 | .str a, .str b=>a==b
 |_,_=>false
def Lq{A:Xa}{s:Wa}{y x:V}{u v:Value}(ry:RelV y u)(rx:RelV x v)(fy:pd y=true)(fx:pd x=true):ace A s u v (H0 y x):=by
 cases y with
 |non=>
  cases ry;cases x with
  |non=>cases rx;exact SeqAt.EqAt.same _
  |bl b=>cases rx;exact SeqAt.EqAt.none_bool b
  |int b=>obtain⟨t,rfl⟩:=rx;exact SeqAt.EqAt.none_int b t
  |str b=>obtain⟨t,rfl⟩:=rx;exact SeqAt.EqAt.none_str b t
  |_=>exact acC (show false=true from fx) Wt
 |bl a=>
  cases ry;cases x with
  |non=>cases rx;exact SeqAt.EqAt.bool_none a
  |bl b=>cases rx;exact SeqAt.EqAt.bool_bool a b
  |int b=>obtain⟨t,rfl⟩:=rx;exact SeqAt.EqAt.bool_int a b t
  |str b=>obtain⟨t,rfl⟩:=rx;exact SeqAt.EqAt.bool_str a b t
  |_=>exact acC (show false=true from fx) Wt
 |int a=>
  obtain⟨t',rfl⟩:=ry;cases x with
  |non=>cases rx;exact SeqAt.EqAt.int_none a t'
  |bl b=>cases rx;exact SeqAt.EqAt.int_bool a t' b
  |int b=>obtain⟨t,rfl⟩:=rx;exact abh a t' b t
  |str b=>obtain⟨t,rfl⟩:=rx;exact abg a t' b t
  |_=>exact acC (show false=true from fx) Wt
 |str a=>
  obtain⟨t',rfl⟩:=ry;cases x with
  |non=>cases rx;exact SeqAt.EqAt.str_none a t'
  |bl b=>cases rx;exact SeqAt.EqAt.str_bool a t' b
  |int b=>obtain⟨t,rfl⟩:=rx;exact abf a t' b t
  |str b=>obtain⟨t,rfl⟩:=rx;exact SeqAt.EqAt.str_str a t' b t
  |_=>exact acC (show false=true from fx) Wt
 |_=>exact acC (show false=true from fy) Wt
def AQ(x:V)(u:Value):Bool:=match u with
 | .none=>H0 .non x
 | .bool b=>H0 (.bl b) x
 | .int i _=>H0 (.int i) x
 | .str z _=>H0 (.str z) x
 |_=>false
def Fy{x y:V}{u:Value}(r:RelV y u)(f:pd y=true):AQ x u=H0 y x:=by
 cases y with
 |non=>cases r;rfl
 |bl b=>cases r;rfl
 |int i=>obtain⟨t,rfl⟩:=r;rfl
 |str z=>obtain⟨t,rfl⟩:=r;rfl
 |_=>exact acC (show false=true from f) Wt
def mT{x:V}:∀{xs:List V}{us:List Value},Vals xs us->xs.all pd=true->us.any (AQ x)=xs.any λy=>H0 y x
 |_,_, .nil,_=>rfl
 |y::xs,u::us, .cons r t,f=>by
  rw[YO,WU] at f;rw[Y9,Y9,Fy r f.1,mT t f.2]
def j3{A:Xa}{s:Wa}{x:V}{v:Value}(rx:RelV x v)(fx:pd x=true):∀{xs:List V}{us:List Value},Vals xs us->xs.all pd=true->∀u∈us,ace A s u v (AQ x u)
 |_,_, .nil,_=>λu hu=>by cases hu
 |y::xs,u::us, .cons r t,f=>λu' hu=>by
  rw[YO,WU] at f;rcases Wc.mp hu with rfl | hu
  ·rw[Fy r f.1];exact Lq r rx f.1 fx
  ·exact j3 rx fx t f.2 u' hu
def P_(x:V)(xs:List V):Bool:=xs.any λy=>H0 y x
def RW(K:V9)(neg:Bool):R2:=λx y H Q=>∃p xs,y= .ref p/\(SqL K H p xs\/SqT K H p xs)/\pd x=true/\xs.all pd=true/\Q (.bl (if neg then !P_ x xs else P_ x xs)) H
def Eg:OpR X (W7 .In) (RW X.K false):=by
 intro f8 s σ H x y v u Q I rx ry h;obtain⟨p,xs,rfl,hq,fx,fs,q⟩:=h;cases ry;rcases hq with hq | hq
 ·obtain⟨aR,r,pl,hz⟩:=I.list hq;refine SeqAt.in_listAt (AQ x) pl.isList (λw hw=>j3 rx fx r fs w (by simpa using hw)) ⟨.bl _,H,I,rfl,?_⟩;rw[show aR.toArray.any (AQ x)=aR.any (AQ x) by simp,mT r fs];exact q
 ·obtain⟨aR,r,pl,hz⟩:=I.tuple hq;refine SeqAt.in_tupleAt (AQ x) pl (λw hw=>j3 rx fx r fs w (by simpa using hw)) ⟨.bl _,H,I,rfl,?_⟩;rw[show aR.toArray.any (AQ x)=aR.any (AQ x) by simp,mT r fs];exact q
def xD:OpR X (W7 .NotIn) (RW X.K true):=by
 intro f8 s σ H x y v u Q I rx ry h;obtain⟨p,xs,rfl,hq,fx,fs,q⟩:=h;cases ry;rcases hq with hq | hq
 ·obtain⟨aR,r,pl,hz⟩:=I.list hq;refine SeqAt.notIn_listAt (AQ x) pl.isList (λw hw=>j3 rx fx r fs w (by simpa using hw)) ⟨.bl _,H,I,rfl,?_⟩;rw[show aR.toArray.any (AQ x)=aR.any (AQ x) by simp,mT r fs];exact q
 ·obtain⟨aR,r,pl,hz⟩:=I.tuple hq;refine SeqAt.notIn_tupleAt (AQ x) pl (λw hw=>j3 rx fx r fs w (by simpa using hw)) ⟨.bl _,H,I,rfl,?_⟩;rw[show aR.toArray.any (AQ x)=aR.any (AQ x) by simp,mT r fs];exact q
def mV:CallR X (.builtin "len") (λxs H Q=>∃p ys,xs=[.ref p]/\(SqL X.K H p ys\/SqT X.K H p ys)/\Q (.int ys.length) H):=by
 intro f8 s σ H xs us Q I r h;obtain⟨p,ys,rfl,hq,q⟩:=h;obtain⟨u,rfl,rx⟩:=vals1 r;cases rx;have hn:=oG;rcases hq with hq | hq
 ·obtain⟨aR,r',pl,hz⟩:=I.list hq;have P3:=r'.length;exact Calls.call_len_list pl.isList (by simp only[Wi]<;>omega) ⟨.int ys.length,H,I.tok _,⟨s.toks+1,by rw[Wi,P3]⟩,q⟩
 ·obtain⟨aR,r',pl,hz⟩:=I.tuple hq;have P3:=r'.length;exact len_tuple pl (by simp only[Wi]<;>omega) ⟨.int ys.length,H,I.tok _,⟨s.toks+1,by rw[Wi,P3]⟩,q⟩
def wA:CallR X (.builtin "len") (λxs H Q=>∃z,xs=[.str z]/\z.length<=Wr/\Q (.int z.length) H):=by
 intro f8 s σ H xs us Q I r h;obtain⟨z,rfl,hz,q⟩:=h;obtain⟨u,rfl,t,rfl⟩:=vals1 r;have hn:=oG;exact len_str (by omega) ⟨.int z.length,H,I.tok _,⟨_,rfl⟩,q⟩
def CallR.or{f:Value}{r r':List V->Hp->VK->Prop}(h:CallR X f r)(h':CallR X f r'):CallR X f (λxs H Q=>r xs H Q\/r' xs H Q):=by
 intro f8 s σ H xs us Q I rs q;rcases q with q | q
 ·exact h f8 s σ H xs us Q I rs q
 ·exact h' f8 s σ H xs us Q I rs q
def ui:CallR X (.type "tuple") (λxs H Q=>∃p ys,xs=[.ref p]/\((SqL X.K H p ys/\∀l,H l=none->Q (.ref l) (upd H l (.tup ys)))\/(SqT X.K H p ys/\Q (.ref p) H))):=by
 intro f8 s σ H xs us Q I r h;obtain⟨p,ys,rfl,h⟩:=h;obtain⟨u,rfl,rx⟩:=vals1 r;cases rx;rcases h with⟨hq,q⟩ | ⟨hq,q⟩
 ·obtain⟨aR,r',pl,hz⟩:=I.list hq;have P3:=r'.length;refine call_tuple_list pl.isList (λh' kp=>?_) (by simp only[Wi]<;>omega);have I1:Inv X f8 σ H {s with heap:=h'}:=I.kept (t':=s.toks) kp;have I2:Inv X f8 σ (upd H h'.objs.size (.tup ys)) {s with heap:=h'.push {cls:= .type "tuple",data:= .seq aR.toArray} }:=
   I1.laid (t':=s.toks) (λb o e=>V8 _ e) (Wj _) (show ObjOk X.prog X.w _ _ _ (.tup ys) from⟨hz,aR,r',IsTup.new _ _⟩)
  exact⟨.ref h'.objs.size,_,I2,rfl,q _ (I1.hok.fresh (Wj _))⟩
 ·obtain⟨aR,r',pl,hz⟩:=I.tuple hq;exact call_tuple_same pl ⟨.ref p,H,I,rfl,q⟩
def Na(K:V9)(T:String)(x:V)(H:Hp):Prop:=match x with
 | .str _=>T="str"
 | .int _=>T="int"
 | .ref p=>(T="list"/\∃xs,SqL K H p xs)\/(T="tuple"/\∃o,K.lookup p=some o/\o.cls= .type "tuple"/\o.dict=none)\/
    (T="dict"/\((∃aB,H p=some (.dK aB))\/∃aB,H p=some (.dT aB)))\/(T="set"/\∃S n,H p=some (.set S n))
 |_=>False
def HQ{f8:List (Addr×Obj)}{σ:St}{H:Hp}{s:Wa}{T:String}{x:V}{v:Value}(I:Inv X f8 σ H s)(r:RelV x v)(ty:Na X.K T x H):
 s.TypeIs v T/\∀a,v= .ref a->∃ob,s.heap.get? a=some ob/\ob.dict=none:=by
 cases x with
 |str z=>
  obtain⟨t,rfl⟩:=r;cases (show T="str" from ty);exact⟨typeIs_str s z t,λ_ e=>nomatch e⟩
 |int i=>
  obtain⟨t,rfl⟩:=r;cases (show T="int" from ty);exact⟨typeIs_int s i t,λ_ e=>nomatch e⟩
 |ref p=>
  cases r;rcases ty with⟨rfl,xs,hq⟩ | ⟨rfl,o,hk,hc,hd⟩ | ⟨rfl,hk⟩ | ⟨rfl,S,n,hk⟩
  ·obtain⟨aR,_,pl,_⟩:=I.list hq;refine⟨pl.isList.typeIs,λa e=>?_⟩;cases e;obtain⟨o,n,e,c,hd,_⟩:=pl;exact⟨o,e,hd⟩
  ·refine⟨⟨o,I.kIn p o hk,hc⟩,λa e=>?_⟩;cases e;exact⟨o,I.kIn _ o hk,hd⟩
  ·have z:∃o,s.heap.get? p=some o/\o.ExactDict:=by
    rcases hk with⟨aB,hk⟩ | ⟨aB,hk⟩
    ·obtain⟨_,_,_,_,o,_,_,e,ex,_⟩:=I.hok p _ hk;exact⟨o,e,ex⟩
    ·obtain⟨_,_,_,_,o,_,_,e,ex,_⟩:=I.hok p _ hk;exact⟨o,e,ex⟩
   obtain⟨o,e,ex⟩:=z;refine⟨⟨o,e,ex.1⟩,λa e2=>?_⟩;cases e2;exact⟨o,e,ex.2.1⟩
  ·obtain⟨o,_,_,_,e,ex,_⟩:=I.hok p _ hk;refine⟨⟨o,e,ex.1⟩,λa e2=>?_⟩;cases e2;exact⟨o,e,ex.2.1⟩
 |_=>exact XJ ty
def R7(K:V9)(T:String)(r:V->List V->Hp->VK->Prop)(to:TE):TE:=λσ H Q=>to σ H λx H1=>Na K T x H1/\r x [] H1 Q
def R6(K:V9)(T:String)(r:V->List V->Hp->VK->Prop)(to:TE)(t:TA):TE:=λσ H Q=>to σ H λx H1=>Na K T x H1/\t σ H1 λxs H2=>r x xs H2 Q
variable{o e:Expr}{es:List Expr}{to:TE}{t:TA}{name:Str}{u8 aY:Pos}{T id:String}{r:V->List V->Hp->VK->Prop}
def Mg(pa:PlainAttrs T)(slot:Slot T name id)(Ol:typeOf (.builtin id)=pure (.type "method_descriptor"))(hm:MP X id r)(ho:PE X o to)
 (dY:WR o name X.env (eval o X.env)=eval o X.env:=by rfl)(dZ:(u8.endLine==aY.line)=true:=by rfl):PE X (.Call (.Attribute o name u8) [] [] aY) (R7 X.K T r to):=by
 intro f8 s σ H Q I h;refine ab8 dY dZ (ck (ho f8 s σ H _ I h) λv s1 ⟨x,H1,I1,r1,ty,q1⟩=>?_);obtain⟨h1,h2⟩:=HQ I1 r1 ty;exact⟨T,id,pa,slot,Ol,h1,h2,XQ rfl (abN (hm f8 s1 σ H1 x [] v [] Q I1 r1 .nil q1))⟩
def CO(pa:PlainAttrs T)(slot:Slot T name id)(Ol:typeOf (.builtin id)=pure (.type "method_descriptor"))(hm:MP X id r)(ho:PE X o to)(ha:PA X (e::es) t)
 (dY:WR o name X.env (eval o X.env)=eval o X.env:=by rfl)
 (mx:((Xv aY (Wf (e::es) X.env)).all (λx=>!x.1)&&(X7 aY (Xi [] X.env)).all (λx=>x.1.isSome)
  &&decide ((e::es).length+([]:List Yp).length+(if ([]:List Yp).isEmpty then 0 else 1)<30))=true:=by rfl)
 (dZ:(u8.endLine==aY.line)=true:=by rfl) (hs:Wf (e::es) X.env=(false,eval e X.env)::Wf es X.env:=by rfl) (A4:(Xv aY (Wf es X.env)).any (·.1)=false:=by rfl):
 PE X (.Call (.Attribute o name u8) (e::es) [] aY) (R6 X.K T r to t):=by
 intro f8 s σ H Q I h;refine wpAny_Call_method_late dY mx dZ rfl (ck (ho f8 s σ H _ I h) λv s1 ⟨x,H1,I1,r1,ty,q1⟩=>?_);obtain⟨h1,h2⟩:=HQ I1 r1 ty;refine⟨T,id,pa,slot,Ol,h1,h2,?_⟩;have hA:=ha aY f8 s1 σ H1 _ I1 q1;rw[hs] at hA⊢;refine XQ (by show (false||(Xv aY (Wf es X.env)).any (·.1))=false;rw[A4]<;>rfl) (Y2 ?_);exact ck hA λus s2 ⟨vs,H2,I2,r2,q2⟩=>hm f8 s2 σ H2 x vs v us Q I2 r1 r2 q2
end
def Qq(X:Cx)(id:String)(r:V->List V->Hp->VK->Prop):Prop:=
 ∀(f8:List (Addr×Obj)) (s:Wa) (σ:St) (H:Hp) (x:V) (xs:List V) (v:Value) (us:List Value) (Q:VK),Inv X f8 σ H s->RelV x v->Vals xs us->r x xs H Q->
  wpAny (model X.prog X.w) X.A (call (.builtin id) (v::us)) (EP X f8 σ Q) X.xe s
def Vals.one:∀{x:V}{us:List Value},Vals [x] us->∃u,us=[u]/\RelV x u
 |_,_, .cons r .nil=>⟨_,rfl,r⟩
def Vals.zero:∀{us:List Value},Vals [] us->us=[]
 |_, .nil=>rfl
def Vals.dropLast{xs:List V}{us:List Value}(h:Vals xs us):Vals xs.dropLast us.dropLast:=by
 induction h with
 |nil=>exact .nil
 |cons r t ih=>
  cases t with
  |nil=>exact .nil
  |cons q t'=>exact .cons r ih
def AS{α:Type}(l:List α):l.eraseIdx (l.length - 1)=l.dropLast:=by
 induction l with
 |nil=>rfl
 |cons a r ih=>
  cases r with
  |nil=>rfl
  |cons b r=>
   have e:(a::b::r).length - 1=((b::r).length - 1)+1:=by
    have h1:(a::b::r).length=r.length+2:=rfl;have h2:(b::r).length=r.length+1:=rfl;omega
   rw[e,List.eraseIdx_cons_succ,ih]
   all_goals rfl
section
variable{X:Cx}{f8:List (Addr×Obj)}{σ:St}{H:Hp}{s:Wa}{l:Addr}{xs ys:List V}
def Inv.lset{aR its':List Value}{n:Nat}{f:Array Value->Array Value}{t':Nat}(I:Inv X f8 σ H s)(hH:H l=some (.lst xs))
 (e:s.heap.get? l=some {cls:= .type "list",data:= .seq aR.toArray n})(hf:f aR.toArray=its'.toArray)(hv:Vals ys its')(hz:ys.length<=Wr):
 Inv X f8 σ (upd H l (.lst ys)) {s with heap:=s.heap.update l (Yg f),toks:=t'}:=by
 have q:=PySem.IsL.update e f;rw[hf] at q;refine I.write (x:=l) (e:=l) (by rw[hH];exact trivial) (.inl rfl) (λb' u hb hu=>(Yh s.heap (Yg f) (XR hb)).trans hu) ⟨_,q⟩ ?_;exact⟨hz,its',_,hv,q⟩
def Inv.lstM(I:Inv X f8 σ H s)(hH:H l=some (.lst xs)):xs.length<=Wr/\∃(aR:List Value) (n:Nat),Vals xs aR/\xs.length=aR.length/\s.heap.get? l=some {cls:= .type "list",data:= .seq aR.toArray n}:=by
 obtain⟨z,aR,n,r,e⟩:=I.hok l _ hH;exact⟨z,aR,n,r,r.length,e⟩
def GL{n:Nat}(h:n<=Wr):Y_ n=false:=by
 unfold Y_;exact acD (by omega)
end
section
variable{X:Cx}
def xR:V->List V->Hp->VK->Prop:=λx vs H Q=>∃l xs y,x= .ref l/\vs=[y]/\H l=some (.lst xs)/\xs.length<Wr/\Q .non (upd H l (.lst (xs++[y])))
def oJ:Qq X "list.append" xR:=by
 intro f8 s σ H x vs v us Q I rx rv h;obtain⟨l,xs,y,rfl,rfl,hH,hz,q⟩:=h;cases rx;obtain⟨u,rfl,ru⟩:=rv.one;obtain⟨z,aR,n,r,hl,e⟩:=I.lstM hH;refine ab0 F.slot_list_append ⟨_,e,rfl⟩ F.entry_list_append (F.args_list_append_2 _ _) (PySem.list_append l aR.toArray n u (by rw[Wi];omega)) ⟨e,?_⟩;refine⟨.non,_,I.lset (its':=aR++[u]) hH e (by simp) (r.append (.cons ru .nil)) ?_,rfl,q⟩;rw[Wh,List.length_singleton];omega
def CY:V->List V->Hp->VK->Prop:=λx vs H Q=>∃l b xs zs,x= .ref l/\vs=[.ref b]/\H l=some (.lst xs)/\H b=some (.lst zs)/\xs.length+zs.length<=Wr/\Q .non (upd H l (.lst (xs++zs)))
def D8:Qq X "list.extend" CY:=by
 intro f8 s σ H x vs v us Q I rx rv h;obtain⟨l,b,xs,zs,rfl,rfl,hH,hB,hz,q⟩:=h;cases rx;obtain⟨u,rfl,ru⟩:=rv.one;cases ru;obtain⟨z,aR,n,r,hl,e⟩:=I.lstM hH;obtain⟨z2,j0,n2,r2,M0,e2⟩:=I.lstM hB;have hsz:aR.toArray.size+j0.toArray.size<=Wr:=by rw[Wi,Wi];omega
 have N7:¬(!aR.toArray.isEmpty&&Y_ (aR.toArray.size+j0.toArray.size))=true:=by
  rw[GL hsz,Bool.and_false];exact Wt
 refine ab0 F.slot_list_extend ⟨_,e,rfl⟩ F.entry_list_extend (F.args_list_extend_2 _ _)
  (AutoSeq1.list_extend_list_list_0 l aR.toArray n b j0.toArray n2 N7 (by rw[Wi];omega) (by omega)) ⟨e,e2,?_⟩
 refine⟨.non,_,I.lset (its':=aR++j0) hH e (by simp) (r.append r2) ?_,rfl,q⟩;rw[Wh];omega
def RX:V->List V->Hp->VK->Prop:=λx vs H Q=>∃l xs y,x= .ref l/\vs=[]/\H l=some (.lst xs)/\xs[xs.length - 1]? =some y/\Q y (upd H l (.lst xs.dropLast))
def L5:Qq X "list.pop" RX:=by
 intro f8 s σ H x vs v us Q I rx rv h;obtain⟨l,xs,y,rfl,rfl,hH,hy,q⟩:=h;cases rx;have U9:=rv.zero;subst U9;obtain⟨z,aR,n,r,hl,e⟩:=I.lstM hH;obtain⟨u,hu,ru⟩:=r.get hy;have Vb:aR.toArray[aR.toArray.size - 1]? =some u:=by
  show aR.toArray[aR.length - 1]? =some u;rw[<-Xx,<-hl];exact hu
 refine ab0 F.slot_list_pop ⟨_,e,rfl⟩ F.entry_list_pop (F.args_list_pop_1 _) (MeetsSeq.list_pop_last l aR.toArray n u Vb (by rw[Wi];omega)) ⟨e,?_⟩;refine⟨y,_,I.lset (its':=aR.dropLast) hH e ?_ r.dropLast ?_,ru,q⟩
 ·show aR.toArray.eraseIdxIfInBounds (aR.toArray.size - 1)=aR.dropLast.toArray;rw[Wi,List.eraseIdxIfInBounds_toArray,AS]
 ·rw[abU];omega
end
end L2
namespace Att
open PySem PySem.W PySem.Calls PyProof.Rows
def ints_of_wellAll{P:abz}{h:Heap}:∀(ns:List Int) (vs:List Value),WellAll P h vs (ns.map WData.int)->X6 vs ns:=by
 intro ns;induction ns with
 |nil=>
  intro vs w;rw[YH] at w;cases w;exact .nil
 |cons n ns ih=>
  intro vs w;rw[Wg] at w;cases w with
  |cons a b=>
   cases a;exact .cons _ _ (ih _ b)
def script_of{l:OpenLaw}{n:Nat}(hn:l.most=some n){P:abz}{h:Heap}{args:List WData}{vals:List Value}
 (IK:l.row.toRowW.claim.pre args=true)(Rx:WellAll P h vals args):
 ∃a vs ns,vals=[Wv a]/\args=[WData.list (ns.map WData.int)]/\h.get? a=some {cls:= .type "list",data:= .seq vs.toArray}/\X6 vs ns/\ns.length<=n:=by
 have U0:WShape.hasAll [] args [.list .int]=true:=(pre_splitW IK).1;have hc:l.pre.holds [] {args:=args}=true:=(pre_splitW IK).2;obtain⟨d,r,rfl,h1,h2⟩:=hasAllW_cons U0;obtain rfl:=hasAllW_nil h2;obtain⟨xs,rfl,h3⟩:=hasW_list h1;obtain⟨ns,rfl⟩:=items_int h3;have P3:ns.length<=n:=by
  unfold OpenLaw.pre at hc;have h4:(WTm.not (.lt (.lit (.int (n:Int))) (.len (.arg 0)))).holds [] {args:=[.list (ns.map .int)]}=true:=by
   have h4:=(holds_andW hc).1;rw[hn] at h4;exact h4
  have h5:=condW_of h4 (w_not (w_lt w_lit (w_len_list (w_arg rfl))));rw[V4] at h5;refine Nat.le_of_not_lt λq=>?_;have q':(n:Int)<((ns.length:Nat):Int):=by omega
  first
   |(rw [acB q'] at h5;exact acC h5 (by decide))
   |(simp at h5;omega)
 cases Rx with
 |cons w1 w2=>
  cases w2;cases w1 with
  |list ho IB=>exact⟨_,_,ns,rfl,rfl,ho,ints_of_wellAll ns _ IB,P3⟩
def post_true(l:OpenLaw)(args:List WData):l.row.toRowW.claim.post args (.bool true) args=true:=
 postW_of (r:=l.row.toRowW) (X:=(true==true))
  (show WShape.has [] (.bool true) .bool=true by first | rfl | decide | simp[WShape.has,WShape.arms,WShape.armsAll])
  (show (WTm.eq .res (.lit (.bool true))).value [] {args:=args,res:=some (.bool true),after:=args}=some (.bool (true==true)) from w_eq_bool (w_res rfl) w_lit) rfl
def attach_call{l:OpenLaw}{n:Nat}{q:Wz}{loose:List Str}{XP:(Str->Option Value)->Heap->Prop}{YP:World->Heap->Prop}{d:DefRec}
 (hn:l.most=some n)(NT:d.params.defaults=[])
 (call:∀(w:World) (acJ v6:Wa) (mg mb:Str->Option Value) (fa:Addr) (o:Obj) (pm cd doc:Value) (a:Addr) (vs:List Value) (ns:List Int),
  Ground q loose [] XP w acJ mg mb v6.heap->YP w v6.heap->
  v6.heap.get? fa=some o->o.data= .func (docDef d.name d.params d.body d.scope pm cd doc)->v6.heap.CodeRec cd d.name->mg d.name=some (.ref fa)->
  v6.heap.get? a=some {cls:= .type "list",data:= .seq vs.toArray}->X6 vs ns->ns.length<=n->v6.gens= #[]->
  Z1 (model l.prog w) aaT (.call (.ref fa) ⟨[.ref a],[]⟩) (λr s'=>r= .ok (.ret (.bool true))/\OldK v6.heap s'.heap/\s'.os=v6.os/\Z8 s'.gens) v6):
 WalkO q loose XP YP l.row.toRowW d [] (λf vs=>acf f vs):=by
 intro w acJ v6 mg mb G Y fa o pm cd doc dV kV ho hd qF hD LD hg args vals as IK UH VX Rx VT;obtain rfl:dV= .none:=Dflts.none hD NT;obtain rfl:kV= .none:=Dflts.noKw hD;obtain⟨a,vs,ns,rfl,rfl,FV,hints,P3⟩:=script_of hn IK Rx;refine enter_call (aa4 (call w acJ v6 mg mb fa o pm cd doc a vs ns G Y ho (fd_plain hd) qF LD FV hints P3 hg) λr s' hq=>?_);obtain⟨rfl,h2,h3,h4⟩:=hq;exact⟨.inl ⟨.bool true, .bool true,[],rfl,λ_=>rfl, .bool true,post_true l _,λ_=>⟨aaY,λ_ hm=>(nomatch hm)⟩⟩,h2,h3,h4⟩
def ledger(h:Heap)(L d:Addr):List (Addr×Obj):=(Wy h.objs.size).filterMap λa=>if a=L\/a=d then none else(h.get? a).map λo=>(a,o)
end Att
namespace L2
open PySem PySem.Spec PyProof.Rows
def wa:∀{vs:List Value}{ns:List Int},X6 vs ns->Vals (ns.map V.int) vs
 |_,_, .nil=> .nil
 |_,_, .cons n t h=> .cons ⟨t,rfl⟩ (wa h)
def Lc(H:Hp):Prop:=∀b,H b=none\/∃o xs,H b=some (.frz o (.lst xs))
def zh{P:Wz}{w:World}{K:V9}{mg mb:Str->Option Value}{CX:B7}{k:Nat}{fa a:Addr}{fd:Ys}{x:Str}{sp:Sp}{v6:Wa}{vs:List Value}{ns:List Int}
 (KX:K.In v6.heap)(M4:v6.heap.Ns Ws mg)(hb:v6.heap.Ns builtinsNs mb)(Ui:∀x:Str,x≠"__name__"->mb x=WX x)(IH:v6.heap.NoLimit)(hg:v6.gens= #[])
 (ha:v6.heap.get? a=some {cls:= .type "list",data:= .seq vs.toArray})(hi:X6 vs ns)(hl:ns.length<=Wr)(hr:Room k aaT)
 (F:∀base:Heap,K.In base->base.Ns Ws mg->FnOk P w K mg base CX k fa fd [x] sp)(NP:∀(s:Wa) (u:Value),acp s fd ⟨[u],[]⟩ [(x,u)])
 (yx:∀H:Hp,Lc H->SqL K H a (ns.map V.int)->sp [.ref a] H (λv _=>v= .bl true) λ_ _ _=>False)
 (QN:∀H e s',CX [] H v6 (λ_ _ _=>False) e s'->False):
 Z1 (model P w) aaT (.call (.ref fa) ⟨[.ref a],[]⟩) (λr s'=>r= .ok (.ret (.bool true))/\OldK v6.heap s'.heap/\s'.os=v6.os/\Z8 s'.gens) v6:=by
 have rv:=wa hi;have RK:=hi.length;have core:∀H:Hp,Lc H->SqL K H a (ns.map V.int)->HOk P w H v6.heap->(∀b,H b≠none->b=a)->(H a≠none->K.lookup a=none)->
  Z1 (model P w) aaT (.call (.ref fa) ⟨[.ref a],[]⟩) (λr s'=>r= .ok (.ret (.bool true))/\OldK v6.heap s'.heap/\s'.os=v6.os/\Z8 s'.gens) v6:=by
  intro H hO hS hok hA hK;have Cb:∀{b:Addr}{o:Obj},v6.heap.get? b=some o->H b=none->(wM v6.heap H).get? b=some o:=λe n=>FT e n;have OH:∀{b:Addr}{o:Obj}{es:Array Yb}{ep:Nat},v6.heap.get? b=some o->o.data= .dict es ep->H b=none:=λ{b o es ep} e d=>by
   cases q:H b with
   |none=>rfl
   |some u=>
    have e':b=a:=hA b (by rw[q];simp);subst e';rw[ha] at e;cases e;have d':Data.seq vs.toArray _=Yy es ep:=d;cases d'
  have Qe:∀{b:Addr}{m:Str->Option Value},v6.heap.Ns b m->(wM v6.heap H).Ns b m:=λ{b m} ⟨o,es,ep,e,d,r⟩=>⟨o,es,ep,Cb e (OH e d),d,r⟩
  have SS:K.In (wM v6.heap H):=λb o e=>Cb (KX b o e) (by
   cases q:H b with
   |none=>rfl
   |some u=>
    have e':b=a:=hA b (by rw[q];simp);subst e';rw[hK (by rw[q];simp)] at e;cases e)
  have hM:Mod K mg (wM v6.heap H):=⟨SS,Qe M4,⟨mb,Qe hb,Ui⟩,let ⟨mc,h1,h2⟩:=IH;⟨mc,Qe h1,h2⟩⟩
  have e0:Env0 P w K mg (wM v6.heap H) aaT [] v6 H:=⟨rfl,hM,λb o e=>Jm e,abS (DL _ _),trivial,λb hb=>acC (show b∈([]:List Addr) from hb) (by simp),hok, .of_eq hg⟩
  refine aa4 ((F _ SS (Qe M4)).run aaT [] v6 H ⟨[.ref a],[]⟩ [.ref a] [.ref a] _ _ hr e0 (NP v6 (.ref a)) (.cons rfl .nil) (yx H hO hS)) λr s' h=>?_;cases r with
  |error e=>exact(QN H e s' h).elim
  |ok fl=>
   cases fl with
   |next=>exact XJ h
   |brk=>exact XJ h
   |cont=>exact XJ h
   |ret u=>
    obtain⟨v,H',os,bare,un,Rk,r',q⟩:=h;have q':v= .bl true:=q;subst q';obtain rfl:u=YR true:=r';refine⟨rfl,OldK.of_keep λb o e=>?_,os,bare⟩;cases q:H b with
    |none=>exact un.keep b o e q (by intro z;exact acC (show b∈([]:List Addr) from z) (by simp)) (by simp)
    |some u=>
     rcases hO b with z | ⟨ob,xs,z⟩
     ·rw[q] at z;cases z
     ·have z2:=un.frzs b ob _ z;obtain⟨e1,_⟩:=hok b _ z;obtain⟨e2,_⟩:=Rk b _ z2;rw[e] at e1;cases e1;exact e2
 cases hk:K.lookup a with
 |some o=>
  have e:=KX a o hk;rw[ha] at e;cases e;refine core (λ_=>none) (λ_=> .inl rfl) (.inr ⟨_,vs.toArray,_,hk,rfl,rfl,rfl,by rw[Wi,RK];exact hl,by simpa using rv⟩) (λb u z=>by have z':(none:Option HO)=some u:=z;cases z') (λb z=>acC rfl z) λz=>acC rfl z
 |none=>
  refine core (λb=>if b=a then some (.frz {cls:= .type "list",data:= .seq vs.toArray} (.lst (ns.map V.int))) else none) (λb=>?_) (.inl (.inr ⟨{cls:= .type "list",data:= .seq vs.toArray},acz rfl⟩)) (λb u z=>?_) (λb z=>?_) λ_=>hk
  ·by_cases hb:b=a
   ·exact .inr ⟨_,_,acz hb⟩
   ·exact .inl (acA hb)
  ·by_cases hb:b=a
   ·have z':=(acz hb).symm.trans z;cases z';subst hb;exact⟨ha,by rw[V4];exact hl,vs,_,rv,ha⟩
   ·have z':=(acA hb).symm.trans z;cases z'
  ·by_cases hb:b=a
   ·exact hb
   ·exact acC (acA hb) z
abbrev VL{K:V9}{h:Heap}(_:K.In h):V9:=K
def Qn{l:acg}{n k:Nat}{q:Wz}{loose:List Str}{XP:(Str->Option Value)->Heap->Prop}{YP:World->Heap->Prop}{d:DefRec}{K:abz->V9}{CX:World->B7}{sp:World->Sp}{x:Str}
 (hn:l.most=some n)(LF:n<=Wr)(NT:d.params.defaults=[])(hr:Room k aaT)
 (hY:∀(w:World) (h:Heap),YP w h->(K w.params).In h)
 (F:∀(w:World) (mg:Str->Option Value) (fa:Addr) (h:Heap),(K w.params).In h->h.Ns Ws mg->mg d.name=some (.ref fa)->
  ∃fd:Ys,(∀(s:Wa) (u:Value),acp s fd ⟨[u],[]⟩ [(x,u)])/\
   ∀base:Heap,(K w.params).In base->base.Ns Ws mg->FnOk l.prog w (K w.params) mg base (CX w) k fa fd [x] (sp w))
 (yx:∀(w:World) (H:Hp) (a:Addr) (ns:List Int),ns.length<=n->Lc H->SqL (K w.params) H a (ns.map V.int)->sp w [.ref a] H (λv _=>v= .bl true) λ_ _ _=>False)
 (QN:∀(w:World) (H:Hp) (s:Wa) (e:Value) (s':Wa),CX w [] H s (λ_ _ _=>False) e s'->False):
 PySem.W.WalkO q loose XP YP l.row.toRowW d [] (λf vs=>acf f vs):=by
 refine Att.attach_call hn NT λw acJ v6 mg mb fa o pm cd doc a vs ns G Y ho hd qF LD FV hints P3 hg=>?_;have KX:=hY w _ Y;obtain⟨fd,hb,hF⟩:=F w mg fa _ KX G.T.g LD;exact zh KX G.T.g G.T.b G.T.builtins G.T.nolimit hg FV hints (WZ P3 LF) hr hF hb (λH hO hS=>yx w H a ns P3 hO hS) λH e s'=>QN w H v6 e s'
abbrev Ss:B7:=λ_ _ _ _ _ _=>False
structure Fun (K:V9) (x qual:Str) (st:Stmt) (f:Addr) (fd:Ys):Prop where
 ex:∃(oc:Value) (od:Option Addr) (kV doc pm:Value) (an:Option Addr) (de ct:Value) (Ej:Array (Option Value)),
  fd=W6 x qual (aQ st) (aF st) (ai st) .none kV doc pm an de ct/\K.lookup f=some ⟨oc,od, .func fd,Ej⟩/\XG K de qual=true
 kp:W2 K (.ref f)=true
section
variable{P:Wz}{w:World}{K:V9}{mg:Str->Option Value}{base:Heap}
def Fun.ok{x qual:Str}{st:Stmt}{f:Addr}{fd:Ys}{N ps:List Str}{k:Nat}{sp:Sp}(F:Fun K x qual st f fd)(S:FnScope N ps (ai st))(len:∀vs H Q E,sp vs H Q E->vs.length=ps.length)
 (dI:∀(de:Value) (A:Xa) (outer:List Env) (s:Wa) (H:Hp) (vs:List V) (Q:VK) (E:XK),Room k (A.deeper (YZ qual (ai st) s.heap.objs.size f de))->sp vs H Q E->
  ∃t,PSs (f7 Ss P w K mg base N qual (ai st) f de A outer s H E).nox (aF st) t/\t {nx:=λ_ H'=>Q .non H',rt:=Q} (start N vs) H):FnOk P w K mg base Ss (k+1) f fd ps sp:=by
 obtain⟨oc,od,kV,doc,pm,an,de,ct,Ej,rfl,lk,qF⟩:=F.ex;refine u7 lk qF S len λA outer s H vs Q E hr yx=>?_;obtain⟨t,h,q⟩:=dI de A outer s H vs Q E hr yx;exact⟨t,h.nox,q⟩
def Fun.binds{x qual:Str}{st:Stmt}{f:Addr}{fd:Ys}{ps:List Str}(F:Fun K x qual st f fd)
 (h:∀(kV doc pm:Value) (an:Option Addr) (de ct:Value) (us:List Value),us.length=ps.length->aav (W6 x qual (aQ st) (aF st) (ai st) .none kV doc pm an de ct) ⟨us,[]⟩=pure (ps.zip us)):Binds K fd ps []:=by
 obtain⟨oc,od,kV,doc,pm,an,de,ct,Ej,rfl,lk,qF⟩:=F.ex;exact .all (h kV doc pm an de ct)
def wK{x qual:Str}{st:Stmt}{f:Addr}{oc:Value}{od an:Option Addr}{Ej:Array (Option Value)}{kV doc pm de ct:Value}(l:K.lookup f=some ⟨oc,od, .func (W6 x qual (aQ st) (aF st) (ai st) .none kV doc pm an de ct),Ej⟩)
 (c:XG K de qual=true)(k:W2 K (.ref f)=true):Fun K x qual st f (W6 x qual (aQ st) (aF st) (ai st) .none kV doc pm an de ct):=⟨⟨oc,od,kV,doc,pm,an,de,ct,Ej,rfl,l,c⟩,k⟩
end
section
variable{X:Cx}
def pv(i:Nat){x:Str}{pos:Pos}(hN:X.N[i]? =some x:=by rfl)(hv:Qz X.env.scope x:=by first | exact Or.inl rfl | exact Or.inr (Or.inl rfl) | exact Or.inr (Or.inr rfl))(hd:(x==("__debug__":Str))=false:=by decide)
 (qF:(x==("__classdict__":Str))=false:=by decide):PE X (.Name x pos) (g7 i):=Mq hN hv hd qF
end
def Same(H H':Hp):Prop:=∀b o,H b=some o->H' b=some o
def Same.refl(H:Hp):Same H H:=λ_ _ h=>h
def Same.trans{H H1 H2:Hp}(a:Same H H1)(b:Same H1 H2):Same H H2:=λc o h=>b c o (a c o h)
def Same.free{H H':Hp}(e:Same H H'){l:Addr}(h:H' l=Option.none):H l=Option.none:=by
 cases q:H l with
 |none=>rfl
 |some o=>
  rw[e l o q] at h;cases h
def Same.seq{K:V9}{H H':Hp}{a:Addr}{xs:List V}(e:Same H H')(h:SqL K H a xs):SqL K H' a xs:=by
 rcases h with(h | ⟨o,h⟩) | h
 ·exact .inl (.inl (e _ _ h))
 ·exact .inl (.inr ⟨o,e _ _ h⟩)
 ·exact .inr h
section
variable{κ:Type}[DecidableEq κ]
def n9(aB:List (κ×V))(k:κ):Option V:=(aB.find? λkv=>decide (kv.1=k)).map (·.2)
def putK(aB:List (κ×V))(k:κ)(v:V):List (κ×V):=
 if (aB.any λkv=>decide (kv.1=k))=true then aB.map (λkv=>if kv.1=k then(kv.1,v) else kv) else aB++[(k,v)]
def Kx(aB:List (κ×V))(k:κ):List (κ×V):=aB.filter λkv=>decide (kv.1≠k)
def oa{p:κ×V}{r:List (κ×V)}{k:κ}(e:p.1=k):n9 (p::r) k=some p.2:=by simp[n9,YN,e]
def n_{p:κ×V}{r:List (κ×V)}{k:κ}(e:¬p.1=k):n9 (p::r) k=n9 r k:=by simp[n9,YN,e]
def tN(k:κ):∀aB:List (κ×V),(aB.any λkv=>decide (kv.1=k))=(n9 aB k).isSome
 |[]=>rfl
 |p::r=>by
  rw[Y9];by_cases e:p.1=k
  ·simp only[oa e,acB e,Bool.true_or,Option.isSome_some]
  ·rw[n_ e,acD e,Bool.false_or];exact tN k r
def fW(aB:List (κ×V))(k:κ)(v:V):(putK aB k v).length<=aB.length+1:=by
 unfold putK;split
 ·rw[V4];omega
 ·rw[Wh,V7,Xc];omega
def RelO.isSome_eq{o:Option V}{u:Option Value}(r:RelO o u):o.isSome=u.isSome:=by
 cases o with
 |none=>cases u with
  |none=>rfl
  |some _=>exact(show False from r).elim
 |some _=>cases u with
  |none=>exact(show False from r).elim
  |some _=>rfl
def RelO.getD{o:Option V}{u:Option Value}{d:V}{d':Value}(r:RelO o u)(rd:RelV d d'):RelV (o.getD d) (u.getD d'):=by
 cases o with
 |none=>cases u with
  |none=>exact rd
  |some _=>exact(show False from r).elim
 |some _=>cases u with
  |none=>exact(show False from r).elim
  |some _=>exact r
def KV.val{aB:List (κ×V)}{vs:List (κ×Value)}(r:KV aB vs)(k:κ):RelO (n9 aB k) (abt vs k):=by
 unfold KV at r;induction r with
 |nil=>exact XX
 | @cons p q ps qs h t ih=>
   obtain⟨h1,h2⟩:=h;by_cases e:p.1=k
   ·have e':q.1=k:=h1.symm.trans e;have b:abt (q::qs) k=some q.2:=by simp[abt,YN,e']
    rw[oa e,b];exact h2
   ·have e':¬q.1=k:=λz=>e (h1.trans z);have b:abt (q::qs) k=abt qs k:=by simp[abt,YN,e']
    rw[n_ e,b];exact ih
def KV.any{aB:List (κ×V)}{vs:List (κ×Value)}(r:KV aB vs)(k:κ):(aB.any λkv=>decide (kv.1=k))=vs.any λkv=>decide (kv.1=k):=by
 unfold KV at r;induction r with
 |nil=>rfl
 |cons h t ih=>rw[Y9,Y9,ih,h.1]
def KV.repl{aB:List (κ×V)}{vs:List (κ×Value)}(r:KV aB vs)(k:κ){y:V}{u:Value}(ry:RelV y u):
 KV (aB.map λkv=>if kv.1=k then(kv.1,y) else kv) (vs.map λkv=>if kv.1=k then(kv.1,u) else kv):=by
 unfold KV at r⊢;induction r with
 |nil=>exact .nil
 | @cons p q ps qs h t ih=>
   rw[Wg,Wg];refine .cons ?_ ih;obtain⟨h1,h2⟩:=h;by_cases e:p.1=k
   ·rw[acz e,acz (h1.symm.trans e)];exact⟨h1,ry⟩
   ·rw[acA e,acA (λz=>e (h1.trans z))];exact⟨h1,h2⟩
def KV.put{aB:List (κ×V)}{vs:List (κ×Value)}(r:KV aB vs)(k:κ){y:V}{u:Value}(ry:RelV y u):KV (putK aB k y) (stored vs k u):=by
 unfold putK stored;rw[r.any k];by_cases e:(vs.any λkv=>decide (kv.1=k))=true
 ·rw[acz e,acz e];exact r.repl k ry
 ·rw[acA e,acA e];exact Paired.snoc r ⟨rfl,ry⟩
def KV.drop{aB:List (κ×V)}{vs:List (κ×Value)}(r:KV aB vs)(k:κ):KV (Kx aB k) (without vs k):=by
 unfold KV at r⊢;unfold Kx without;induction r with
 |nil=>exact .nil
 | @cons p q ps qs h t ih=>
   obtain⟨h1,h2⟩:=h;rw[Xk,Xk];by_cases e:p.1=k
   ·have a:¬decide (p.1≠k)=true:=by simp[e]
    have b:¬decide (q.1≠k)=true:=by simp[h1.symm.trans e]
    rw[acA a,acA b];exact ih
   ·have e':¬q.1=k:=λz=>e (h1.trans z);have a:decide (p.1≠k)=true:=by simp[e]
    have b:decide (q.1≠k)=true:=by simp[e']
    rw[acz a,acz b];exact .cons ⟨h1,h2⟩ ih
def KV.length{aB:List (κ×V)}{vs:List (κ×Value)}(r:KV aB vs):aB.length=vs.length:=XW r
end
def ph{P:Wz}{w:World}{k:Key}{u:Value}(r:RelV (kV k) u):(bq P w).is k u=true:=by
 cases k with
 |inl i=>obtain⟨t,e⟩:=(show∃t,u=aax i t from r);subst e;exact zm P w i t
 |inr x=>obtain⟨t,e⟩:=(show∃t,u=aaw x t from r);subst e;exact zo P w x t
def vh{P:Wz}{w:World}:∀{ks:List Key}{us:List Value},Vals (ks.map kV) us->ItemsAre (bq P w) ks us
 |[],_,r=>by rw[YH] at r;cases r;exact .nil
 |k::ks,_,r=>by
  rw[Wg] at r;cases r with
  |cons h t=>exact .cons (ph h) (vh t)
abbrev KT(H:Hp):List (List Key×V)->List (List Key×Addr×Value)->Prop:=aaz λp q=>p.1=q.1/\H q.2.1=some (.tup (p.1.map kV))/\RelV p.2 q.2.2
def KT.val{H:Hp}{aB:List (List Key×V)}{xs:List (List Key×Addr×Value)}(r:KT H aB xs)(k:List Key):RelO (n9 aB k) ((atKey xs k).map (·.2)):=by
 induction r with
 |nil=>exact XX
 | @cons p q ps qs h t ih=>
   obtain⟨h1,_,h2⟩:=h;by_cases e:p.1=k
   ·have e':q.1=k:=h1.symm.trans e;have b:atKey (q::qs) k=some q.2:=by simp[atKey,YN,e']
    rw[oa e,b];exact h2
   ·have e':¬q.1=k:=λz=>e (h1.trans z);have b:atKey (q::qs) k=atKey qs k:=by simp[atKey,YN,e']
    rw[n_ e,b];exact ih
def KT.repl{H:Hp}{aB:List (List Key×V)}{xs:List (List Key×Addr×Value)}(r:KT H aB xs)(k:List Key){y:V}{u:Value}(ry:RelV y u):
 KT H (aB.map λkv=>if kv.1=k then(kv.1,y) else kv) (xs.map (putAt k u)):=by
 induction r with
 |nil=>exact .nil
 | @cons p q ps qs h t ih=>
   rw[Wg,Wg];refine .cons ?_ ih;obtain⟨h1,h2,h3⟩:=h;unfold putAt;by_cases e:p.1=k
   ·rw[acz e,acz (h1.symm.trans e)];exact⟨h1,h2,ry⟩
   ·rw[acA e,acA (λz=>e (h1.trans z))];exact⟨h1,h2,h3⟩
def KT.put{H:Hp}{aB:List (List Key×V)}{xs:List (List Key×Addr×Value)}(r:KT H aB xs)(k:List Key){b:Addr}{y:V}{u:Value}(hb:H b=some (.tup (k.map kV)))(ry:RelV y u):
 KT H (putK aB k y) (ZM xs k b u):=by
 have e:(aB.any λkv=>decide (kv.1=k))=(atKey xs k).isSome:=by
  rw[tN,(r.val k).isSome_eq,aab]
 unfold putK ZM;rw[e];by_cases q:(atKey xs k).isSome=true
 ·rw[acz q,acz q];exact r.repl k ry
 ·rw[acA q,acA q];exact Paired.snoc r ⟨rfl,hb,ry⟩
def KT.keeps{H H':Hp}{aB:List (List Key×V)}{xs:List (List Key×Addr×Value)}(r:KT H aB xs)(ht:∀b ys,H b=some (.tup ys)->H' b=some (.tup ys)):KT H' aB xs:=
 Paired.mapP r λ_ _ z=>⟨z.1,ht _ _ z.2.1,z.2.2⟩
section
variable{P:Wz}{w:World}{H:Hp}{h:Heap}{a:Addr}
def K4{u:HO}(ok:HOk P w H h)(e:Rd H a u):ObjOk P w H h a u:=e.ok ok
def pb{aB:List (Key×V)}(ok:HOk P w H h)(e:Rd H a (.dK aB)):aB.length<=Wr/\(a==Xq)=false/\∃vs,KV aB vs/\h.DictOf (bq P w) a vs:=
 show ObjOk P w H h a (.dK aB) from K4 ok e
def Kw{aB:List (Key×V)}(ok:HOk P w H h)(e:H a=some (.dK aB)):aB.length<=Wr/\(a==Xq)=false/\∃vs,KV aB vs/\h.DictOf (bq P w) a vs:=pb ok (.inl e)
def j2{ks:List Key}(ok:HOk P w H h)(e:H a=some (.tup (ks.map kV))):(Ym (bq P w)).is h ks a:=by
 obtain⟨_,aR,r,o,h1,h2,n,h3⟩:=(show ObjOk P w H h a (.tup (ks.map kV)) from ok a _ e)
 exact⟨o,aR.toArray,n,h1,h2,h3,by simpa using vh r⟩
def mX{aB:List (List Key×V)}(ok:HOk P w H h)(e:Rd H a (.dT aB)):aB.length<=Wr/\(a==Xq)=false/\
 ∃xs,KT H aB xs/\h.DictOfH (Ym (bq P w)) a xs:=by
 obtain⟨z,y,xs,r,o,es,ep,h1,h2,h3,h4,h5⟩:=(show ObjOk P w H h a (.dT aB) from K4 ok e)
 refine⟨z,y,xs,r,o,es,ep,h1,h2,h3,h4,λx hx=>?_,h5⟩;have all:∀{l:List (List Key×V)}{m:List (List Key×Addr×Value)},KT H l m->∀x∈m,(Ym (bq P w)).is h x.1 x.2.1:=by
  intro l m q;induction q with
  |nil=>intro x hx;exact nomatch hx
  | @cons p q ps qs hq t ih=>
    intro x hx;rcases Wc.mp hx with e | hx
    ·subst e;exact j2 ok (by rw[<-hq.1];exact hq.2.1)
    ·exact ih x hx
 exact all r x hx
def Fs{aB:List (List Key×V)}(ok:HOk P w H h)(e:H a=some (.dT aB)):aB.length<=Wr/\(a==Xq)=false/\
 ∃xs,KT H aB xs/\h.DictOfH (Ym (bq P w)) a xs:=mX ok (.inl e)
end
def mf(H:Hp)(a:Addr)(y:V)(r:Option V):Prop:=
 (∃aB k,Rd H a (.dK aB)/\y=kV k/\r=n9 aB k)\/∃aB k b,Rd H a (.dT aB)/\y= .ref b/\H b=some (.tup (k.map kV))/\r=n9 aB k
def DPut(H:Hp)(a:Addr)(y v:V)(H':Hp):Prop:=
 (∃aB k,H a=some (.dK aB)/\y=kV k/\aB.length<Wr/\H'=upd H a (.dK (putK aB k v)))\/
 ∃aB k b,H a=some (.dT aB)/\y= .ref b/\H b=some (.tup (k.map kV))/\aB.length<Wr/\H'=upd H a (.dT (putK aB k v))
def DPut.k{H:Hp}{a:Addr}{aB:List (Key×V)}{k:Key}{v:V}(e:H a=some (.dK aB))(hl:aB.length<Wr):DPut H a (kV k) v (upd H a (.dK (putK aB k v))):= .inl ⟨aB,k,e,rfl,hl,rfl⟩
def DPut.t{H:Hp}{a b:Addr}{aB:List (List Key×V)}{k:List Key}{v:V}(e:H a=some (.dT aB))(eb:H b=some (.tup (k.map kV)))(hl:aB.length<Wr):
 DPut H a (.ref b) v (upd H a (.dT (putK aB k v))):= .inr ⟨aB,k,b,e,rfl,eb,hl,rfl⟩
section
variable{X:Cx}{f8:List (Addr×Obj)}{σ:St}{H:Hp}{s:Wa}{a:Addr}{y v:V}{u r:Value}{o:Option V}{A:Xa}{E:Value->Wa->Prop}
def Inv.big(I:Inv X f8 σ H s):Xq<s.heap.objs.size:=by
 have h:Ws<s.heap.objs.size:=(I.mod.glob.keeps I.bk).lt;exact YJ (by decide) h
def Dx{Q:Value->Wa->Prop}(hu:A.units+1<cLine)(I:Inv X f8 σ H s)(g:mf H a y (some v))(ry:RelV y u)(h:∀w' s',Inv X f8 σ H s'->RelV v w'->Q w' s'):
 wpAny (model X.prog X.w) A (aca (.ref a) u) Q E s:=by
 rcases g with⟨aB,k,e,ey,l⟩ | ⟨aB,k,b,e,ey,eb,l⟩
 ·subst ey;obtain⟨z,hd,vs,rel,dd⟩:=pb I.hok e;obtain⟨w',hw,Aw⟩:=RelO.some_of (v:=v) (o:=abt vs k) (by rw[l];exact rel.val k);exact wpAny_getItem_of (ph ry) dd.mapOf hw (h w' _ (I.tok _) Aw)
 ·subst ey;cases (show u=Wv b from ry);obtain⟨z,hd,xs,rel,dd⟩:=mX I.hok e;obtain⟨w',hw,Aw⟩:=RelO.some_of (v:=v) (o:=(atKey xs k).map (·.2)) (by rw[l];exact rel.val k);obtain⟨p,hp,Ro⟩:=Yc.mp hw;refine wpAny_getItem_heap (Yq hu) (j2 I.hok eb) dd hp ?_;rw[Ro];exact h w' _ (I.tok _) Aw
def Nx{Q:Value->Wa->Prop}(hu:A.units+1<cLine)(I:Inv X f8 σ H s)(g:mf H a y o)(ry:RelV y u)(h:∀s',Inv X f8 σ H s'->Q (.bool o.isSome) s'):
 wpAny (model X.prog X.w) A (W7 .In u (.ref a)) Q E s:=by
 rcases g with⟨aB,k,e,ey,l⟩ | ⟨aB,k,b,e,ey,eb,l⟩
 ·subst ey;obtain⟨z,hd,vs,rel,dd⟩:=pb I.hok e;refine wpAny_in_of (ph ry) hd dd.mapOf ?_;rw[<-(rel.val k).isSome_eq,<-l];exact h _ (I.tok _)
 ·subst ey;cases (show u=Wv b from ry);obtain⟨z,hd,xs,rel,dd⟩:=mX I.hok e;refine wpAny_in_heap (Yq hu) (j2 I.hok eb) hd dd ?_;have q:=(rel.val k).isSome_eq;rw[aab] at q;rw[<-q,<-l];exact h _ (I.tok _)
def Iu{Q:Value->Wa->Prop}(hu:A.units+1<cLine)(I:Inv X f8 σ H s)(g:mf H a y o)(ry:RelV y u)(h:∀s',Inv X f8 σ H s'->Q (.bool (!o.isSome)) s'):
 wpAny (model X.prog X.w) A (W7 .NotIn u (.ref a)) Q E s:=by
 rcases g with⟨aB,k,e,ey,l⟩ | ⟨aB,k,b,e,ey,eb,l⟩
 ·subst ey;obtain⟨z,hd,vs,rel,dd⟩:=pb I.hok e;refine wpAny_notIn_of (ph ry) hd dd.mapOf ?_;rw[<-(rel.val k).isSome_eq,<-l];exact h _ (I.tok _)
 ·subst ey;cases (show u=Wv b from ry);obtain⟨z,hd,xs,rel,dd⟩:=mX I.hok e;refine wpAny_notIn_heap (Yq hu) (j2 I.hok eb) hd dd ?_;have q:=(rel.val k).isSome_eq;rw[aab] at q;rw[<-q,<-l];exact h _ (I.tok _)
def mW{h':Heap}{t':Nat}{ob:HO}(I:Inv X f8 σ H s)(mu:Nh (H a))(hs:Xo a s.heap h')(he:∃q,h'.get? a=some q)(new:ObjOk X.prog X.w (upd H a ob) h' a ob):
 Inv X f8 σ (upd H a ob) {s with heap:=h',toks:=t'}:=
 I.write (x:=a) (e:=a) mu (.inl rfl) (λb q hb z=>(hs.2 b hb).trans z) he new
def Fq{P:Wz}{w:World}{H':Hp}{h':Heap}{aB:List (Key×V)}{vs:List (Key×Value)}(z:aB.length<=Wr)(hd:(a==Xq)=false)(rel:KV aB vs)(dd:h'.DictOf (bq P w) a vs):
 ObjOk P w H' h' a (.dK aB):=⟨z,hd,vs,rel,dd⟩
def Dy{H':Hp}{Q:Unit->Wa->Prop}(hu:A.units+1<cLine)(I:Inv X f8 σ H s)(g:DPut H a y v H')(ry:RelV y u)(rv:RelV v r)(h:∀s',Inv X f8 σ H' s'->Q () s'):
 wpAny (model X.prog X.w) A (setItem (.ref a) u r) Q E s:=by
 rcases g with⟨aB,k,e,ey,l,eH⟩ | ⟨aB,k,b,e,ey,eb,l,eH⟩
 ·subst ey eH;obtain⟨z,hd,vs,rel,dd⟩:=Kw I.hok e;have hz:vs.length<=Wr:=by rw[<-rel.length];exact z
  have hl:(putK aB k v).length<=Wr:=by have:=fW aB k v;omega
  refine wpAny_setItem_pairs (hsz:=hz) (ph ry) dd λh' Fm hs=>h _ ?_;have he:∃q,h'.get? a=some q:=let ⟨q,_,_,hq,_⟩:=Fm;⟨q,hq⟩
  exact mW I (by rw[e];exact XX) hs he (Fq hl hd (rel.put k rv) Fm)
 ·subst ey eH;cases (show u=Wv b from ry);obtain⟨z,hd,xs,rel,dd⟩:=Fs I.hok e;have hz:xs.length<=Wr:=by rw[<-XW rel];exact z
  have hl:(putK aB k v).length<=Wr:=by have:=fW aB k v;omega
  refine wpAny_setItem_heap (hsz:=hz) (Yq hu) (j2 I.hok eb) dd λh' Fm hs=>h _ ?_;obtain⟨q,es,ep,hq,h2,h3,h4,_,h5⟩:=Fm;refine mW I (by rw[e];exact XX) hs ⟨q,hq⟩ ⟨hl,hd,_,(rel.put k eb rv).keeps λc ys ec=>?_,q,es,ep,hq,h2,h3,h4,h5⟩;rw[az (GC ec e (λz=>nomatch z))];exact ec
end
def Lb(i:Expr):Prop:=∀ov iv,subscripted i false ov iv=operate [ov,iv] (aca ov iv)
def Ka{prog:Wz}{w:World}{A:Xa}{E:Value->Wa->Prop}{s:Wa}{env:Env}{value slice:Expr}{pos:Pos}{T id:String}{Q:Value->Wa->Prop}
 (hl:typeLookup (.type T) "__getitem__"=pure (some (.builtin id)))(hs:Lb slice)
 (h:wpAny (model prog w) A (eval value env) (λo v6=>wpAny (model prog w) A (eval slice env) (λi v0=>v0.TypeIs o T/\wpAny (model prog w) A (aca o i) Q E v0) E v6) E s):
 wpAny (model prog w) A (eval (.Subscript value slice pos) env) Q E s:=by
 refine Subscript_ (Xl h (λo v6 h₁=>Xl h₁ (λi v0 h₂=>?_) λ_ _ x=>x) λ_ _ x=>x);obtain⟨hT,h₂⟩:=h₂;unfold subscriptTail;refine V2 ?_;rw[getitemInPython_of_ne hT.not_modules];refine V2 (abq hT hl ?_);have fin:wpAny (model prog w) A (subscripted slice false o i) (λr s₃=>wpAny (model prog w) A (letTemporaryGo value o r>>=λ_=>pure r) Q E s₃) E v0:=by
  rw[hs o i];exact wpAny_operating (Xl h₂ (λr s₃ h₃=>V2 (wpAny_letTemporaryGo (V_ h₃))) λ_ _ x=>x)
 first
  |exact V_ (V2 fin)
  |exact V2 (V_ (V2 fin))
  |exact V2 fin
def yQ{X:Cx}{f8:List (Addr×Obj)}{σ:St}{H:Hp}{s:Wa}{a:Addr}{y:V}{o:Option V}(I:Inv X f8 σ H s)(g:mf H a y o):s.TypeIs (.ref a) "dict":=by
 rcases g with⟨aB,k,e,_,_⟩ | ⟨aB,k,b,e,_,_,_⟩
 ·obtain⟨_,_,vs,_,dd⟩:=pb I.hok e;exact dd.typeIs
 ·obtain⟨_,_,xs,_,dd⟩:=mX I.hok e;exact dd.typeIs
def Pk(td ty:TE):TE:=λσ H Q=>td σ H λx H1=>ty σ H1 λy H2=>∃a v,x= .ref a/\mf H2 a y (some v)/\Q v H2
def R9(ty td:TE):TE:=λσ H Q=>ty σ H λy H1=>td σ H1 λx H2=>∃a o,x= .ref a/\mf H2 a y o/\Q (.bl o.isSome) H2
def Pd(td ty tv:TE):TS:=λD σ H=>tv σ H λv H1=>td σ H1 λx H2=>ty σ H2 λy H3=>∃a H4,x= .ref a/\DPut H3 a y v H4/\D.nx σ H4
section
variable{X:Cx}{o i value:Expr}{pos pos':Pos}{td ty tv:TE}
def JJ(hu:X.A.units+1<cLine)(ho:PE X o td)(hi:PE X i ty)(hs:Lb i):PE X (.Subscript o i pos) (Pk td ty):=by
 intro f8 s σ H Q I h;refine Ka PySem.F.slot_dict_getitem.lookup hs (ck (ho f8 s σ H _ I h) λu s1 ⟨x,H1,I1,rx,q1⟩=>ck (hi f8 s1 σ H1 _ I1 q1) λiv s2 ⟨y,H2,I2,ry,a,v,ex,g,q2⟩=>?_);subst ex;obtain rfl:u=Wv a:=rx;exact⟨yQ I2 g,Dx hu I2 g ry λw' s3 I3 Aw=>⟨v,H2,I3,Aw,q2⟩⟩
def Mb(hu:X.A.units+1<cLine)(hi:PE X i ty)(ho:PE X o td):PC X .In i o (R9 ty td):=by
 intro f8 s σ H Q I h;refine ck (hi f8 s σ H _ I h) λiv s1 ⟨y,H1,I1,ry,q1⟩=>ck (ho f8 s1 σ H1 _ I1 q1) λu s2 ⟨x,H2,I2,rx,a,ov,ex,g,q2⟩=>?_;subst ex;obtain rfl:u=Wv a:=rx;exact Nx hu I2 g ry λs3 I3=>⟨.bl ov.isSome,H2,I3,rfl,q2⟩
def JO(hu:X.A.units+1<cLine)(ho:PE X o td)(hi:PE X i ty)(hv:PE X value tv)(hs:Yn value (some (.Subscript o i pos')) pos.line X.env=pure false):
 PS X (.Assign [.Subscript o i pos'] value pos) (Pd td ty tv):=by
 intro f8 s σ H D I h;refine wpAny_Assign_Subscript (ck (hv f8 s σ H _ I h) λr s1 ⟨v,H1,I1,rv,q1⟩=>ck (ho f8 s1 σ H1 _ I1 q1) λu s2 ⟨x,H2,I2,rx,q2⟩=>ck (hi f8 s2 σ H2 _ I2 q2) λiv s3 ⟨y,H3,I3,ry,a,H4,ex,g,q3⟩=>?_) hs;subst ex;obtain rfl:u=Wv a:=rx;exact Dy hu I3 g ry rv λs4 I4=>⟨σ,H4,I4,q3⟩
end
def yR{P:Wz}{w:World}{H:Hp}(h:Heap)(hb:Xq<h.objs.size):ObjOk P w H (h.push {cls:= .type "dict",data:= .dict #[]}) h.objs.size (.dT []):=
 ⟨W8 _,acG.mpr (XR (WA hb)),[], .nil,_,#[],0,Wm _ rfl,⟨rfl,rfl,rfl⟩,rfl,rfl,Yw⟩
def MK:TE:=λ_ H Q=>∀p,H p=none->Q (.ref p) (upd H p (.dT []))
section
variable{X:Cx}{pos:Pos}
def Ha:PE X (.Dict [] [] pos) MK:=λf8 s σ H Q I h=>
 wpAny_Dict_empty ⟨.ref s.heap.objs.size,_,I.laid (a:=s.heap.objs.size) (o:= .dT []) (t':=s.toks) (λ_ _ q=>V8 _ q) (Wj _) (yR s.heap I.big),rfl,h _ (I.hok.fresh (Wj _))⟩
end
def HK:List (TE×TE)->St->Hp->(List (V×V)->Hp->Prop)->Prop
 |[],_,H,Q=>Q [] H
 |(tk,tv)::r,σ,H,Q=>tk σ H λx H1=>tv σ H1 λy H2=>HK r σ H2 λps H3=>Q ((x,y)::ps) H3
abbrev VV:List (V×V)->List (Value×Value)->Prop:=aaz λp q=>RelV p.1 q.1/\RelV p.2 q.2
def Qt(X:Cx)(pos:Pos)(keys:List (Option Expr))(values:List Expr)(Qm:List (TE×TE)):Prop:=
 ∀(f8:List (Addr×Obj)) (s:Wa) (σ:St) (H:Hp) (Q:List (V×V)->Hp->Prop),Inv X f8 σ H s->HK Qm σ H Q->
  wpAny (model X.prog X.w) X.A (evalPairs (pairTrees keys values X.env pos)) (λvs s'=>∃ps H',Inv X f8 σ H' s'/\VV ps vs/\Q ps H') X.xe s
def JN{X:Cx}{pos:Pos}:Qt X pos [] [] []:=λf8 s σ H Q I h=>pairTrees_nil_walk ⟨[],H,I, .nil,h⟩
def Hc{X:Cx}{pos:Pos}{k v:Expr}{ks:List (Option Expr)}{vs:List Expr}{tk tv:TE}{Qm:List (TE×TE)}(hk:PE X k tk)(hv:PE X v tv)(hr:Qt X pos ks vs Qm):
 Qt X pos (some k::ks) (v::vs) ((tk,tv)::Qm):=λf8 s σ H Q I h=>
 pairTrees_cons_walk (ck (hk f8 s σ H _ I h) λu s1 ⟨x,H1,I1,rx,q1⟩=>ck (hv f8 s1 σ H1 _ I1 q1) λw2 s2 ⟨y,H2,I2,ry,q2⟩=>
  ck (hr f8 s2 σ H2 _ I2 q2) λws s3 ⟨ps,H3,I3,rel,q3⟩=>⟨(x,y)::ps,H3,I3, .cons ⟨rx,ry⟩ rel,q3⟩)
structure M1 (X:Cx) (o:Expr) (m:Str) (u8:Pos) (e:Expr) (aY:Pos):Prop where
 base:WR o m X.env (eval o X.env)=eval o X.env
 few:((Xv aY (Wf [e] X.env)).all (λx=>!x.1)&&(X7 aY (Xi [] X.env)).all (λx=>x.1.isSome)
  &&decide (([e]:List Expr).length+([]:List Yp).length+(if ([]:List Yp).isEmpty then 0 else 1)<30))=true
 line:(u8.endLine==aY.line)=true
 trees:Xv aY (Wf [e] X.env)=[(false,eval e X.env)]
structure M2 (X:Cx) (o:Expr) (m:Str) (u8:Pos) (e f:Expr) (aY:Pos):Prop where
 base:WR o m X.env (eval o X.env)=eval o X.env
 few:((Xv aY (Wf [e,f] X.env)).all (λx=>!x.1)&&(X7 aY (Xi [] X.env)).all (λx=>x.1.isSome)
  &&decide (([e,f]:List Expr).length+([]:List Yp).length+(if ([]:List Yp).isEmpty then 0 else 1)<30))=true
 line:(u8.endLine==aY.line)=true
 trees:Xv aY (Wf [e,f] X.env)=[(false,eval e X.env),(false,eval f X.env)]
def Nc(H:Hp)(a:Addr):Prop:=(∃aB,Rd H a (.dK aB))\/∃aB,Rd H a (.dT aB)
def A5{X:Cx}{f8:List (Addr×Obj)}{σ:St}{H:Hp}{s:Wa}{a:Addr}(I:Inv X f8 σ H s)(d:Nc H a):
 s.TypeIs (.ref a) "dict"/\(∀b,Wv a= .ref b->∃ob,s.heap.get? b=some ob/\ob.dict=none)/\(a==Xq)=false:=by
 rcases d with⟨aB,e⟩ | ⟨aB,e⟩
 ·obtain⟨_,hd,vs,_,dd⟩:=pb I.hok e;refine⟨dd.typeIs,λb q=>?_,hd⟩;cases q;obtain⟨ob,_,_,h1,h2,_⟩:=dd;exact⟨ob,h1,h2.2.1⟩
 ·obtain⟨_,hd,xs,_,dd⟩:=mX I.hok e;refine⟨dd.typeIs,λb q=>?_,hd⟩;cases q;obtain⟨ob,_,_,h1,h2,_⟩:=dd;exact⟨ob,h1,h2.2.1⟩
section
variable{X:Cx}{f8:List (Addr×Obj)}{σ:St}{H:Hp}{s:Wa}{a:Addr}{y d:V}{u r:Value}{o:Option V}{A:Xa}{E:Value->Wa->Prop}
def Lk{Q:Value->Wa->Prop}(hu:A.units+1<cLine)(I:Inv X f8 σ H s)(g:mf H a y o)(ry:RelV y u)(h:∀w' s',Inv X f8 σ H s'->RelV (o.getD .non) w'->Q w' s'):
 wpAny (model X.prog X.w) A (call (.builtin "dict.get") [.ref a,u]) Q E s:=by
 rcases g with⟨aB,k,e,ey,l⟩ | ⟨aB,k,b,e,ey,eb,l⟩
 ·subst ey;obtain⟨z,hd,vs,rel,dd⟩:=pb I.hok e;refine aa5 XU dd.typeIs YM (aaW _ _) (meets_dict_get (bq X.prog X.w) a (ph ry) hd) ⟨_,dd.mapOf,h _ _ (I.tok _) ?_⟩;rw[l];exact(rel.val k).getD rfl
 ·subst ey;cases (show u=Wv b from ry);obtain⟨z,hd,xs,rel,dd⟩:=mX I.hok e;refine aa5 XU dd.typeIs YM (aaW _ _) (meetsH_dict_get (Ym (bq X.prog X.w)) a b hd) ⟨Yq hu,k,xs,j2 I.hok eb,dd,h _ _ (I.tok _) ?_⟩;rw[l];exact(rel.val k).getD rfl
def Ll{Q:Value->Wa->Prop}(hu:A.units+1<cLine)(I:Inv X f8 σ H s)(g:mf H a y o)(ry:RelV y u)(rd:RelV d r)(h:∀w' s',Inv X f8 σ H s'->RelV (o.getD d) w'->Q w' s'):
 wpAny (model X.prog X.w) A (call (.builtin "dict.get") [.ref a,u,r]) Q E s:=by
 rcases g with⟨aB,k,e,ey,l⟩ | ⟨aB,k,b,e,ey,eb,l⟩
 ·subst ey;obtain⟨z,hd,vs,rel,dd⟩:=pb I.hok e;refine aa5 XU dd.typeIs YM (aaV _ _ _) (meets_dict_get_default (bq X.prog X.w) a (ph ry) hd r) ⟨_,dd.mapOf,h _ _ (I.tok _) ?_⟩;rw[l];exact(rel.val k).getD rd
 ·subst ey;cases (show u=Wv b from ry);obtain⟨z,hd,xs,rel,dd⟩:=mX I.hok e;refine aa5 XU dd.typeIs YM (aaV _ _ _) (meetsH_dict_get_default (Ym (bq X.prog X.w)) a b hd r) ⟨Yq hu,k,xs,j2 I.hok eb,dd,h _ _ (I.tok _) ?_⟩;rw[l];exact(rel.val k).getD rd
end
def MI(td ty:TE):TE:=λσ H Q=>td σ H λx H1=>∃a,x= .ref a/\Nc H1 a/\ty σ H1 λy H2=>∃o,mf H2 a y o/\Q (o.getD .non) H2
def MJ(td ty tx:TE):TE:=λσ H Q=>td σ H λx H1=>∃a,x= .ref a/\Nc H1 a/\ty σ H1 λy H2=>tx σ H2 λz H3=>∃o,mf H3 a y o/\Q (o.getD z) H3
section
variable{X:Cx}{o e f:Expr}{u8 aY:Pos}{td ty tx:TE}
def G9(hu:X.A.units+1<cLine)(ho:PE X o td)(he:PE X e ty)(m:M1 X o "get" u8 e aY):PE X (.Call (.Attribute o "get" u8) [e] [] aY) (MI td ty):=by
 intro f8 s σ H Q I h;refine aaR m.base m.few m.line YG XU abi (ck (ho f8 s σ H _ I h) λu s1 ⟨x,H1,I1,rx,a,ex,d,q1⟩=>?_);subst ex;obtain rfl:u=Wv a:=rx;obtain⟨t1,t2,_⟩:=A5 I1 d;refine⟨t1,t2,?_⟩;rw[m.trees];refine XQ rfl (Y2 (YL (ck (he f8 s1 σ H1 _ I1 q1) λiv s2 ⟨y,H2,I2,ry,ov,g,q2⟩=>Zq ?_)));exact Lk hu I2 g ry λw' s3 I3 Aw=>⟨_,H2,I3,Aw,q2⟩
def G_(hu:X.A.units+1<cLine)(ho:PE X o td)(he:PE X e ty)(hf:PE X f tx)(m:M2 X o "get" u8 e f aY):PE X (.Call (.Attribute o "get" u8) [e,f] [] aY) (MJ td ty tx):=by
 intro f8 s σ H Q I h;refine aaR m.base m.few m.line YG XU abi (ck (ho f8 s σ H _ I h) λu s1 ⟨x,H1,I1,rx,a,ex,d,q1⟩=>?_);subst ex;obtain rfl:u=Wv a:=rx;obtain⟨t1,t2,_⟩:=A5 I1 d;refine⟨t1,t2,?_⟩;rw[m.trees];refine XQ rfl (Y2 (YL (ck (he f8 s1 σ H1 _ I1 q1) λiv s2 ⟨y,H2,I2,ry,q2⟩=>
  YL (ck (hf f8 s2 σ H2 _ I2 q2) λfv s3 ⟨z,H3,I3,rz,ov,g,q3⟩=>Zq ?_))))
 exact Ll hu I3 g ry rz λw' s4 I4 Aw=>⟨_,H3,I4,Aw,q3⟩
end
end L2
namespace L3
open PySem PySem.Spec L2
open PyProof.Rows hiding St
inductive Rs (α:Type) where
 |ok (a:α) | ex (n:Nat)
def M(α:Type):=Option (Rs α)
def aa(a:α):M α:=some (.ok a)
def M.bind(m:M α)(k:α->M β):M β:=match m with
 |none=>none
 |some (.ex n)=>some (.ex n)
 |some (.ok a)=>k a
def af:M α:=none
def qK(n:Nat):M α:=some (.ex n)
instance:Monad M where
 pure:=aa
 bind:=M.bind
@[simp] def aq{α β:Type}(a:α)(k:α->M β):(aa a>>=k)=k a:=rfl
@[simp] def Lh{α β:Type}(a:α)(k:α->M β):((pure a:M α)>>=k)=k a:=rfl
@[simp] def Li{α β:Type}(n:Nat)(k:α->M β):(qK n>>=k)=qK n:=rfl
@[simp] def Lj{α β:Type}(k:α->M β):((af:M α)>>=k)=af:=rfl
def M.cs(m:M α):m=af\/(∃n,m=qK n)\/∃a,m=aa a:=by
 match m with
 |none=>exact .inl rfl
 |some (.ex n)=>exact .inr (.inl ⟨n,rfl⟩)
 |some (.ok a)=>exact .inr (.inr ⟨a,rfl⟩)
def el(h:aa a=aa b):a=b:=by
 have h:some (Rs.ok a)=some (Rs.ok b):=h;cases h;rfl
def cw(h:af=aa a):False:=by
 have h:none=some (Rs.ok a):=h;cases h
def Ho(h:qK n=aa a):False:=by
 have h:some (Rs.ex n)=some (Rs.ok a):=h;cases h
def bX(h:(m>>=k)=aa r):∃a,m=aa a/\k a=aa r:=by
 rcases m.cs with e | ⟨n,e⟩ | ⟨a,e⟩
 ·subst e;exact(cw h).elim
 ·subst e;exact(Ho h).elim
 ·subst e;exact⟨a,rfl,h⟩
def Nd(h:Heap)(ea D:Addr):Prop:=∃ox,h.get? ea=some ox/\ox.cls= .ref D
def TH(ea D:Addr):HO:= .ext λh=>Nd h ea D
inductive D where
 |non | bl (b:Bool) | int (i:Int) | str (x:Str) | raw (v:V) | exc (C:Addr) | scr (l:List Int) | tup (l:List D) | lst (l:List D)
 |dct (ks:List (List Key)) (l:List D) | dci (ks:List Key) (l:List D)
instance:Inhabited D:=⟨.non⟩
def lim:Nat:=4096
def eZ:lim<Wr:=by rw[Yi];decide
mutual
def Den(K:V9)(F:Hp):D->V->Prop
 | .non,v=>v= .non
 | .bl b,v=>v= .bl b
 | .int i,v=>v= .int i
 | .str x,v=>v= .str x/\x.length<=lim
 | .raw u,v=>v=u
 | .exc C,v=>∃ea,v= .ref ea/\F ea=some (TH ea C)
 | .scr ns,v=>∃a,v= .ref a/\SqL K F a (ns.map V.int)/\ns.length<=lim
 | .tup ds,v=>∃a vs,v= .ref a/\F a=some (.tup vs)/\DenL K F ds vs/\ds.length<=lim
 | .lst ds,v=>∃a vs,v= .ref a/\F a=some (.lst vs)/\DenL K F ds vs/\ds.length<=lim
 | .dct ks ds,v=>∃a ob vs,v= .ref a/\F a=some (.frz ob (.dT (ks.zip vs)))/\DenL K F ds vs/\ks.length=ds.length/\ds.length<=lim
 | .dci ks ds,v=>∃a ob vs,v= .ref a/\F a=some (.frz ob (.dK (ks.zip vs)))/\DenL K F ds vs/\ks.length=ds.length/\ds.length<=lim
def DenL(K:V9)(F:Hp):List D->List V->Prop
 |[],vs=>vs=[]
 |d::ds,vs=>∃v r,vs=v::r/\Den K F d v/\DenL K F ds r
end
def Same.rd(e:Same H H')(h:Rd H a u):Rd H' a u:=by
 rcases h with h | ⟨o,h⟩
 ·exact .inl (e _ _ h)
 ·exact .inr ⟨o,e _ _ h⟩
def Same.tup{K:V9}(e:Same H H')(h:SqT K H a xs):SqT K H' a xs:=by
 rcases h with h | h
 ·exact .inl (Same.rd e h)
 ·exact .inr h
section
variable{K:V9}{F F':Hp}
mutual
def Den.mono(e:Same F F'):∀{d:D}{v:V},Den K F d v->Den K F' d v
 | .non,_,h=>h
 | .bl _,_,h=>h
 | .int _,_,h=>h
 | .str _,_,h=>h
 | .raw _,_,h=>h
 | .exc _,_,⟨a,h1,h2⟩=>⟨a,h1,e _ _ h2⟩
 | .scr _,_,⟨a,h1,h2,h3⟩=>⟨a,h1,Same.seq e h2,h3⟩
 | .tup _,_,⟨a,vs,h1,h2,h3,h4⟩=>⟨a,vs,h1,e _ _ h2,DenL.mono e h3,h4⟩
 | .lst _,_,⟨a,vs,h1,h2,h3,h4⟩=>⟨a,vs,h1,e _ _ h2,DenL.mono e h3,h4⟩
 | .dct _ _,_,⟨a,ob,vs,h1,h2,h3,h4⟩=>⟨a,ob,vs,h1,e _ _ h2,DenL.mono e h3,h4⟩
 | .dci _ _,_,⟨a,ob,vs,h1,h2,h3,h4⟩=>⟨a,ob,vs,h1,e _ _ h2,DenL.mono e h3,h4⟩
def DenL.mono(e:Same F F'):∀{ds:List D}{vs:List V},DenL K F ds vs->DenL K F' ds vs
 |[],_,h=>h
 |_::_,_,⟨v,r,h1,h2,h3⟩=>⟨v,r,h1,Den.mono e h2,DenL.mono e h3⟩
end
def DenL.nil:DenL K F [] []:=rfl
def DenL.cons(h:Den K F d v)(r:DenL K F ds vs):DenL K F (d::ds) (v::vs):=⟨v,vs,rfl,h,r⟩
def DenL.len:∀{ds:List D}{vs:List V},DenL K F ds vs->ds.length=vs.length
 |[],_,h=>by cases (show _=_ from h);rfl
 |_::ds,_,⟨v,r,h1,_,h3⟩=>by subst h1;rw[V7,V7,DenL.len h3]
def DenL.get:∀{ds:List D}{vs:List V}{i:Nat}{d:D},DenL K F ds vs->ds[i]? =some d->∃v,vs[i]? =some v/\Den K F d v
 |[],_,_,_,_,e=>by simp at e
 |d::ds,_,0,_,⟨v,r,h1,h2,h3⟩,e=>by subst h1;simp at e;subst e;exact⟨v,rfl,h2⟩
 |d::ds,_,i+1,_,⟨v,r,h1,h2,h3⟩,e=>by
  subst h1;obtain⟨w,e1,e2⟩:=DenL.get h3 (by simpa using e);exact⟨w,by simpa using e1,e2⟩
def DenL.at:∀{ds:List D}{vs:List V}{i:Nat}{v:V},DenL K F ds vs->vs[i]? =some v->∃d,ds[i]? =some d/\Den K F d v
 |[],_,_,_,h,e=>by cases (show _=_ from h);simp at e
 |d::ds,_,0,_,⟨v,r,h1,h2,h3⟩,e=>by subst h1;simp at e;subst e;exact⟨d,rfl,h2⟩
 |d::ds,_,i+1,_,⟨v,r,h1,h2,h3⟩,e=>by
  subst h1;obtain⟨w,e1,e2⟩:=DenL.at h3 (by simpa using e);exact⟨w,by simpa using e1,e2⟩
def DenL.append:∀{ds es:List D}{vs ws:List V},DenL K F ds vs->DenL K F es ws->DenL K F (ds++es) (vs++ws)
 |[],_,_,_,h,h'=>by cases (show _=_ from h);exact h'
 |d::ds,_,_,_,⟨v,r,h1,h2,h3⟩,h'=>by subst h1;exact⟨v,_,rfl,h2,DenL.append h3 h'⟩
def DenL.take:∀{ds:List D}{vs:List V}(n:Nat),DenL K F ds vs->DenL K F (ds.take n) (vs.take n)
 |_,_,0,_=>by simp[List.take];rfl
 |[],_,_+1,h=>by cases (show _=_ from h);rfl
 |d::ds,_,n+1,⟨v,r,h1,h2,h3⟩=>by subst h1;exact⟨v,_,rfl,h2,DenL.take n h3⟩
def DenL.drop:∀{ds:List D}{vs:List V}(n:Nat),DenL K F ds vs->DenL K F (ds.drop n) (vs.drop n)
 |_,_,0,h=>by simpa using h
 |[],_,_+1,h=>by cases (show _=_ from h);rfl
 |d::ds,_,n+1,⟨v,r,h1,h2,h3⟩=>by subst h1;exact DenL.drop n h3
def DenL.ints(ns:List Int):DenL K F (ns.map D.int) (ns.map V.int):=by
 induction ns with
 |nil=>rfl
 |cons n ns ih=>exact .cons rfl ih
end
structure Ext (F H F' H':Hp):Prop where
 hh:Same H H'
 ff:Same F F'
 fh:Same F' H'
 new:∀a,H a≠none->F' a=F a\/∃ts,H a=some (.tup ts)
def Ext.old(e:Ext F H F' H')(h:H a=some o)(hn:∀ts,o≠ .tup ts):F' a=F a:=by
 rcases e.new a (by rw[h];exact λz=>nomatch z) with q | ⟨ts,q⟩
 ·exact q
 ·rw[h] at q;cases q;exact acC rfl (hn ts)
def Ext.refl(h:Same F H):Ext F H F H:=⟨Same.refl _,Same.refl _,h,λ_ _=> .inl rfl⟩
def Ext.trans(a:Ext F H F' H')(b:Ext F' H' F'' H''):Ext F H F'' H'':=
 ⟨a.hh.trans b.hh,a.ff.trans b.ff,b.fh,λc hc=>by
  have:H' c≠none:=by
   cases q:H c with
   |none=>exact acC q hc
   |some o=>rw[a.hh c o q];exact λz=>nomatch z
  rcases a.new c hc with p | p
  ·rcases b.new c this with q | ⟨ts,q⟩
   ·exact .inl (q.trans p)
   ·cases z:H c with
    |none=>exact acC z hc
    |some o=>
     rw[a.hh c o z] at q;exact .inr ⟨ts,q⟩
  ·exact .inr p⟩
def Ext.lay(h:Same F H)(n:H a=none):Ext F H (upd F a o) (upd H a o):=by
 have nf:F a=none:=Same.free h n;refine⟨λb u e=>?_,λb u e=>?_,λb u e=>?_,λb hb=>?_⟩
 ·rw[az (bw e n)];exact e
 ·rw[az (bw e nf)];exact e
 ·by_cases q:b=a
  ·subst q;rw[aH] at e⊢;exact e
  ·rw[az q] at e⊢;exact h b u e
 ·exact .inl (az λz=>hb (by rw[z];exact n))
def Ext.free(h:Same F H)(n:H a=none):Ext F H F (upd H a o):=
 ⟨λb u e=>by rw[az (bw e n)];exact e,Same.refl _,λb u e=>by rw[az (bw (h b u e) n)];exact h b u e,λ_ _=> .inl rfl⟩
def Ext.tup(h:Same F H)(e:H a=some (.tup ts)):Ext F H (upd F a (.tup ts)) H:=by
 refine⟨Same.refl _,λb u q=>?_,λb u q=>?_,λb hb=>?_⟩
 ·by_cases z:b=a
  ·subst z;rw[aH,<-e];exact h b u q
  ·rw[az z];exact q
 ·by_cases z:b=a
  ·subst z;rw[aH] at q;rw[e];exact q
  ·rw[az z] at q;exact h b u q
 ·by_cases z:b=a
  ·subst z;exact .inr ⟨ts,e⟩
  ·exact .inl (az z)
def WP(K:V9)(Xw:Nat->Hp->Prop)(F H:Hp)(m:M D)(Q:VK):Prop:=
 match m with
 |none=>False
 |some (.ok d)=>∀v H' F',Ext F H F' H'->Den K F' d v->Q v H'
 |some (.ex n)=>∀F' H',Ext F H F' H'->Xw n H'
def WPL(K:V9)(Xw:Nat->Hp->Prop)(F H:Hp)(m:M (List D))(Q:List V->Hp->Prop):Prop:=
 match m with
 |none=>False
 |some (.ok ds)=>∀vs H' F',Ext F H F' H'->DenL K F' ds vs->Q vs H'
 |some (.ex n)=>∀F' H',Ext F H F' H'->Xw n H'
def WPB(Xw:Nat->Hp->Prop)(F H:Hp)(m:M Bool)(Q:Bool->Hp->Prop):Prop:=
 match m with
 |none=>False
 |some (.ok b)=>∀H' F',Ext F H F' H'->Q b H'
 |some (.ex n)=>∀F' H',Ext F H F' H'->Xw n H'
section
variable{K:V9}{Xw:Nat->Hp->Prop}{F F' H H':Hp}{Q:VK}
def WP.ext(e:Ext F H F' H')(h:WP K Xw F H m Q):WP K Xw F' H' m Q:=by
 match m,h with
 |none,h=>exact h
 |some (.ok d),h=>exact λv H2 F2 e2 q=>h v H2 F2 (e.trans e2) q
 |some (.ex n),h=>exact λF2 H2 e2=>h F2 H2 (e.trans e2)
def WPL.ext{Q:List V->Hp->Prop}(e:Ext F H F' H')(h:WPL K Xw F H m Q):WPL K Xw F' H' m Q:=by
 match m,h with
 |none,h=>exact h
 |some (.ok d),h=>exact λv H2 F2 e2 q=>h v H2 F2 (e.trans e2) q
 |some (.ex n),h=>exact λF2 H2 e2=>h F2 H2 (e.trans e2)
def WPB.ext{Q:Bool->Hp->Prop}(e:Ext F H F' H')(h:WPB Xw F H m Q):WPB Xw F' H' m Q:=by
 match m,h with
 |none,h=>exact h
 |some (.ok d),h=>exact λH2 F2 e2=>h H2 F2 (e.trans e2)
 |some (.ex n),h=>exact λF2 H2 e2=>h F2 H2 (e.trans e2)
def WP.fin(h:WP K Xw F H (aa d) Q)(e:Ext F H F' H')(q:Den K F' d v):Q v H':=h v H' F' e q
def WP.now(h:WP K Xw F H (aa d) Q)(s:Same F H)(q:Den K F d v):Q v H:=h v H F (Ext.refl s) q
def WP.bind(h:WP K Xw F H (m>>=k) Q):WP K Xw F H m λv H1=>∃F1 d,Ext F H F1 H1/\Den K F1 d v/\WP K Xw F1 H1 (k d) Q:=by
 match m,h with
 |none,h=>exact h
 |some (.ok d),h=>exact λv H2 F2 e2 q=>⟨F2,d,e2,q,WP.ext e2 (show WP K Xw F H (k d) Q from h)⟩
 |some (.ex n),h=>exact h
def WP.bindL(h:WP K Xw F H (m>>=k) Q):WPL K Xw F H m λvs H1=>∃F1 ds,Ext F H F1 H1/\DenL K F1 ds vs/\WP K Xw F1 H1 (k ds) Q:=by
 match m,h with
 |none,h=>exact h
 |some (.ok d),h=>exact λv H2 F2 e2 q=>⟨F2,d,e2,q,WP.ext e2 (show WP K Xw F H (k d) Q from h)⟩
 |some (.ex n),h=>exact h
def WP.bindB(h:WP K Xw F H (m>>=k) Q):WPB Xw F H m λb H1=>∃F1,Ext F H F1 H1/\WP K Xw F1 H1 (k b) Q:=by
 match m,h with
 |none,h=>exact h
 |some (.ok d),h=>exact λH2 F2 e2=>⟨F2,e2,WP.ext e2 (show WP K Xw F H (k d) Q from h)⟩
 |some (.ex n),h=>exact h
def WPB.bind{Q:Bool->Hp->Prop}(h:WPB Xw F H (m>>=k) Q):WP K Xw F H m λv H1=>∃F1 d,Ext F H F1 H1/\Den K F1 d v/\WPB Xw F1 H1 (k d) Q:=by
 match m,h with
 |none,h=>exact h
 |some (.ok d),h=>exact λv H2 F2 e2 q=>⟨F2,d,e2,q,WPB.ext e2 (show WPB Xw F H (k d) Q from h)⟩
 |some (.ex n),h=>exact h
def WPB.bindB{Q:Bool->Hp->Prop}(h:WPB Xw F H (m>>=k) Q):WPB Xw F H m λb H1=>∃F1,Ext F H F1 H1/\WPB Xw F1 H1 (k b) Q:=by
 match m,h with
 |none,h=>exact h
 |some (.ok d),h=>exact λH2 F2 e2=>⟨F2,e2,WPB.ext e2 (show WPB Xw F H (k d) Q from h)⟩
 |some (.ex n),h=>exact h
def WPL.bind{Q:List V->Hp->Prop}(h:WPL K Xw F H (m>>=k) Q):WP K Xw F H m λv H1=>∃F1 d,Ext F H F1 H1/\Den K F1 d v/\WPL K Xw F1 H1 (k d) Q:=by
 match m,h with
 |none,h=>exact h
 |some (.ok d),h=>exact λv H2 F2 e2 q=>⟨F2,d,e2,q,WPL.ext e2 (show WPL K Xw F H (k d) Q from h)⟩
 |some (.ex n),h=>exact h
def WPL.bindL{Q:List V->Hp->Prop}(h:WPL K Xw F H (m>>=k) Q):WPL K Xw F H m λvs H1=>∃F1 ds,Ext F H F1 H1/\DenL K F1 ds vs/\WPL K Xw F1 H1 (k ds) Q:=by
 match m,h with
 |none,h=>exact h
 |some (.ok d),h=>exact λv H2 F2 e2 q=>⟨F2,d,e2,q,WPL.ext e2 (show WPL K Xw F H (k d) Q from h)⟩
 |some (.ex n),h=>exact h
def WP.mono(h:WP K Xw F H m Q)(k:∀v H',Q v H'->Q' v H'):WP K Xw F H m Q':=by
 match m,h with
 |none,h=>exact h
 |some (.ok d),h=>exact λv H2 F2 e2 q=>k _ _ (h v H2 F2 e2 q)
 |some (.ex n),h=>exact h
def WPL.mono{Q Q':List V->Hp->Prop}(h:WPL K Xw F H m Q)(k:∀v H',Q v H'->Q' v H'):WPL K Xw F H m Q':=by
 match m,h with
 |none,h=>exact h
 |some (.ok d),h=>exact λv H2 F2 e2 q=>k _ _ (h v H2 F2 e2 q)
 |some (.ex n),h=>exact h
def WPB.mono{Q Q':Bool->Hp->Prop}(h:WPB Xw F H m Q)(k:∀v H',Q v H'->Q' v H'):WPB Xw F H m Q':=by
 match m,h with
 |none,h=>exact h
 |some (.ok d),h=>exact λH2 F2 e2=>k _ _ (h H2 F2 e2)
 |some (.ex n),h=>exact h
end
inductive C where
 |lst (l:List D) | dct (ks:List (List Key)) (l:List D) | dci (ks:List Key) (l:List D)
def C.d:C->D
 | .lst ds=> .lst ds
 | .dct ks ds=> .dct ks ds
 | .dci ks ds=> .dci ks ds
inductive Fv where
 |fz (d:D) | ow (l:List D)
structure Ob where
 c:Addr
 fs:List (Str×Fv)
inductive Sl where
 |fz (d:D) | ow (c:C) | ob (a:Addr) (o:Ob)
abbrev bb:=List (Option Sl)
def DenC(K:V9)(F:Hp):C->HO->Prop
 | .lst ds,o=>∃vs,o= .lst vs/\DenL K F ds vs/\ds.length<=lim
 | .dct ks ds,o=>∃vs,o= .dT (ks.zip vs)/\DenL K F ds vs/\ks.length=ds.length/\ds.length<=lim
 | .dci ks ds,o=>∃vs,o= .dK (ks.zip vs)/\DenL K F ds vs/\ks.length=ds.length/\ds.length<=lim
def DenC.mono{K:V9}(e:Same F F'):∀{c:C}{o:HO},DenC K F c o->DenC K F' c o
 | .lst _,_,⟨vs,h1,h2,h3⟩=>⟨vs,h1,DenL.mono e h2,h3⟩
 | .dct _ _,_,⟨vs,h1,h2,h3⟩=>⟨vs,h1,DenL.mono e h2,h3⟩
 | .dci _ _,_,⟨vs,h1,h2,h3⟩=>⟨vs,h1,DenL.mono e h2,h3⟩
def DenC.notup{K:V9}:∀{c:C}{o:HO},DenC K F c o->∀ts,o≠ .tup ts
 | .lst _,_,⟨_,h1,_⟩,ts,z=>by rw[h1] at z;cases z
 | .dct _ _,_,⟨_,h1,_⟩,ts,z=>by rw[h1] at z;cases z
 | .dci _ _,_,⟨_,h1,_⟩,ts,z=>by rw[h1] at z;cases z
def jY(ob:Obj):HO->HO
 | .dT aB=> .frz ob (.dT aB)
 | .dK aB=> .frz ob (.dK aB)
 |o=>o
def DenC.den{K:V9}:∀{c:C}{o:HO},DenC K F c o->Same F F'->F' a=some (jY ob o)->Den K F' c.d (.ref a)
 | .lst _,_,⟨vs,h1,h2,h3⟩,e,q=>by subst h1;exact⟨a,vs,rfl,q,DenL.mono e h2,h3⟩
 | .dct _ _,_,⟨vs,h1,h2,h3⟩,e,q=>by subst h1;exact⟨a,ob,vs,rfl,q,DenL.mono e h2,h3⟩
 | .dci _ _,_,⟨vs,h1,h2,h3⟩,e,q=>by subst h1;exact⟨a,ob,vs,rfl,q,DenL.mono e h2,h3⟩
def br:List (Str×Fv)->List (Str×V)->List Addr
 |(_, .ow _)::fs,(_, .ref b)::gs=>b::br fs gs
 |_::fs,_::gs=>br fs gs
 |_,_=>[]
def bg(H:Hp)(o:Ob)(a:Addr):List Addr:=match H a with
 |some (.ins _ dx gs)=>a::dx::br o.fs gs
 |_=>[]
def Ie(K:V9)(F H:Hp):Fv->V->Prop
 | .fz d,v=>Den K F d v
 | .ow ds,v=>∃b vs,v= .ref b/\H b=some (.lst vs)/\DenL K F ds vs/\ds.length<=lim
def FsAt(K:V9)(F H:Hp):List (Str×Fv)->List (Str×V)->Prop
 |[],gs=>gs=[]
 |(n,f)::fs,gs=>∃v r,gs=(n,v)::r/\Ie K F H f v/\FsAt K F H fs r
structure ObAt (K:V9) (F H:Hp) (o:Ob) (a:Addr):Prop where
 ins:∃dx gs,H a=some (.ins o.c dx gs)/\H dx=some (.own a)/\FsAt K F H o.fs gs
 nf:∀b∈bg H o a,F b=none
 nd:(bg H o a).Nodup
def FsAt.cell{K:V9}:∀{fs:List (Str×Fv)}{gs:List (Str×V)},FsAt K F H fs gs->∀b∈br fs gs,∃vs,H b=some (.lst vs)
 |[],_,h,b,hb=>by cases (show _=_ from h);cases hb
 |(n, .fz d)::fs,_,⟨v,r,h1,_,h3⟩,b,hb=>by subst h1;exact FsAt.cell h3 b hb
 |(n, .ow ds)::fs,_,⟨v,r,h1,⟨c,vs,h4,h5,_⟩,h3⟩,b,hb=>by
  subst h1;subst h4;rcases Wc.mp hb with q | q
  ·rw[q];exact⟨vs,h5⟩
  ·exact FsAt.cell h3 b q
def ObAt.foot{K:V9}(h:ObAt K F H o a):∃dx gs,H a=some (.ins o.c dx gs)/\H dx=some (.own a)/\FsAt K F H o.fs gs/\bg H o a=a::dx::br o.fs gs:=by
 obtain⟨dx,gs,h1,h2,h3⟩:=h.ins;exact⟨dx,gs,h1,h2,h3,by unfold bg;rw[h1]⟩
def ObAt.cell{K:V9}(h:ObAt K F H o a):∀b∈bg H o a,∃u,H b=some u/\∀ts,u≠ .tup ts:=λb hb=>by
 obtain⟨dx,gs,h1,h2,h3,h4⟩:=h.foot;rw[h4] at hb;rcases Wc.mp hb with rfl | hb
 ·exact⟨_,h1,λts z=>nomatch z⟩
 ·rcases Wc.mp hb with rfl | hb
  ·exact⟨_,h2,λts z=>nomatch z⟩
  ·obtain⟨vs,e⟩:=h3.cell b hb;exact⟨_,e,λts z=>nomatch z⟩
def FsAt.move{K:V9}(ff:Same F F'):∀{fs:List (Str×Fv)}{gs:List (Str×V)},FsAt K F H fs gs->(∀b∈br fs gs,H' b=H b)->FsAt K F' H' fs gs
 |[],_,h,_=>h
 |(n, .fz d)::fs,_,⟨v,r,h1,h2,h3⟩,hb=>by subst h1;exact⟨v,r,rfl,Den.mono ff h2,FsAt.move ff h3 hb⟩
 |(n, .ow ds)::fs,_,⟨v,r,h1,⟨c,vs,h4,h5,h6,h7⟩,h3⟩,hb=>by
  subst h1;subst h4;exact⟨_,r,rfl,⟨c,vs,rfl,by rw[hb c (V6 ..)];exact h5,DenL.mono ff h6,h7⟩,FsAt.move ff h3 λb q=>hb b (V3 _ q)⟩
def ObAt.move{K:V9}(h:ObAt K F H o a)(ff:Same F F')(hH:∀b∈bg H o a,H' b=H b)(hF:∀b∈bg H o a,F' b=none):ObAt K F' H' o a/\bg H' o a=bg H o a:=by
 obtain⟨dx,gs,h1,h2,h3,h4⟩:=h.foot;have e1:H' a=some (.ins o.c dx gs):=by rw[hH a (by rw[h4];exact V6 ..)];exact h1
 have e2:H' dx=some (.own a):=by rw[hH dx (by rw[h4];exact V3 _ (V6 ..))];exact h2
 have e4:bg H' o a=bg H o a:=by rw[h4];unfold bg;rw[e1]
 exact⟨⟨⟨dx,gs,e1,e2,h3.move ff λb q=>hH b (by rw[h4];exact V3 _ (V3 _ q))⟩,by rw[e4];exact hF,by rw[e4];exact h.nd⟩,e4⟩
def DenO(K:V9)(F H:Hp):Sl->V->Prop
 | .fz d,v=>Den K F d v
 | .ow c,v=>∃a o,v= .ref a/\H a=some o/\F a=none/\DenC K F c o
 | .ob a o,v=>v= .ref a/\ObAt K F H o a
def Sl.foot(H:Hp):Sl->V->List Addr
 | .ow _, .ref a=>[a]
 | .ob a o,_=>bg H o a
 |_,_=>[]
def DenO.cell{K:V9}:∀{sl:Sl}{v:V},DenO K F H sl v->∀b∈sl.foot H v,F b=none/\∃u,H b=some u/\∀ts,u≠ .tup ts
 | .fz _,_,_,b,hb=>by cases hb
 | .ow _,_,⟨a,o,h1,h2,h3,h4⟩,b,hb=>by
   subst h1;rw[Wo.mp hb];exact⟨h3,o,h2,h4.notup⟩
 | .ob _ _,_,⟨_,h2⟩,b,hb=>⟨h2.nf b hb,h2.cell b hb⟩
def DenO.move{K:V9}(ff:Same F F'):∀{sl:Sl}{v:V},DenO K F H sl v->(∀b∈sl.foot H v,H' b=H b)->(∀b∈sl.foot H v,F' b=none)->DenO K F' H' sl v/\sl.foot H' v=sl.foot H v
 | .fz _,_,h,_,_=>⟨Den.mono ff h,rfl⟩
 | .ow _,_,⟨a,o,h1,h2,h3,h4⟩,hH,hF=>by
   subst h1;exact⟨⟨a,o,rfl,by rw[hH a (Wo.mpr rfl)];exact h2,hF a (Wo.mpr rfl),DenC.mono ff h4⟩,rfl⟩
 | .ob _ _,_,⟨h1,h2⟩,hH,hF=>
   let ⟨h3,h4⟩:=h2.move ff hH hF
   ⟨⟨h1,h3⟩,h4⟩
structure StE (K:V9) (F H:Hp) (σ:St) (ρ:bb):Prop where
 fh:Same F H
 den:∀(i:Nat) (sl:Sl),ρ[i]? =some (some sl)->∃v,σ[i]? =some (some v)/\DenO K F H sl v
def DenO.ext'{K:V9}(e:Ext F H F' H'){sl:Sl}{v:V}(h:DenO K F H sl v):DenO K F' H' sl v/\sl.foot H' v=sl.foot H v:=
 h.move e.ff (λb hb=>by
  obtain⟨_,u,h2,_⟩:=h.cell b hb;rw[h2];exact e.hh b u h2) λb hb=>by
  obtain⟨h1,u,h2,h3⟩:=h.cell b hb;rw[e.old h2 h3];exact h1
def DenO.ext{K:V9}(e:Ext F H F' H'){sl:Sl}{v:V}(h:DenO K F H sl v):DenO K F' H' sl v:=(h.ext' e).1
def StE.ext{K:V9}(s:StE K F H σ ρ)(e:Ext F H F' H'):StE K F' H' σ ρ:=
 ⟨e.fh,λi sl q=>let ⟨v,h1,h2⟩:=s.den i sl q;⟨v,h1,h2.ext e⟩⟩
abbrev DE:=bb->M D
abbrev DT:=bb->M Bool
abbrev DA:=bb->M (List D)
def tD(K:V9)(Xw:Nat->Hp->Prop)(δ:DE):TE:=λσ H Q=>∃F ρ,StE K F H σ ρ/\WP K Xw F H (δ ρ) Q
def R_(K:V9)(Xw:Nat->Hp->Prop)(δ:DT):TT:=λσ H Q=>∃F ρ,StE K F H σ ρ/\WPB Xw F H (δ ρ) Q
def Tz(K:V9)(Xw:Nat->Hp->Prop)(δ:DA):TA:=λσ H Q=>∃F ρ,StE K F H σ ρ/\WPL K Xw F H (δ ρ) Q
def PD(X:Cx)(Xw:Nat->Hp->Prop)(e:Expr)(δ:DE):Prop:=PE X e (tD X.K Xw δ)
def qA(X:Cx)(Xw:Nat->Hp->Prop)(e:Expr)(δ:DT):Prop:=PT X e (R_ X.K Xw δ)
def lC(X:Cx)(Xw:Nat->Hp->Prop)(es:List Expr)(δ:DA):Prop:=PA X es (Tz X.K Xw δ)
def PE.weak(h:PE X e t)(k:∀σ H Q,t' σ H Q->t σ H Q):PE X e t':=λf8 s σ H Q I w=>h f8 s σ H Q I (k σ H Q w)
def PT.weak(h:PT X e t)(k:∀σ H Q,t' σ H Q->t σ H Q):PT X e t':=λf8 s σ H Q I w=>h f8 s σ H Q I (k σ H Q w)
def PA.weak(h:PA X e t)(k:∀σ H Q,t' σ H Q->t σ H Q):PA X e t':=λpos f8 s σ H Q I w=>h pos f8 s σ H Q I (k σ H Q w)
def dV(i:Nat):DE:=λρ=>match ρ[i]? with
 |some (some (.fz d))=>aa d
 |_=>af
def dC(d:D):DE:=λ_=>aa d
def d1(g:D->M D)(a:DE):DE:=λρ=>a ρ>>=g
def d2(g:D->D->M D)(a b:DE):DE:=λρ=>a ρ>>=λx=>b ρ>>=λy=>g x y
def aN:DA:=λ_=>aa []
def aC(a:DE)(r:DA):DA:=λρ=>a ρ>>=λx=>r ρ>>=λxs=>aa (x::xs)
def dA(g:List D->M D)(a:DA):DE:=λρ=>a ρ>>=g
def EV:D->M Bool
 | .bl b=>aa b
 |_=>af
def da(a:DE):DT:=λρ=>a ρ>>=EV
def oj(a b:DT):DT:=λρ=>a ρ>>=λx=>if x then aa true else b ρ
def dj(a:DT):DT:=λρ=>a ρ>>=λx=>aa (!x)
def Kt(c:DT)(a b:DE):DE:=λρ=>c ρ>>=λx=>if x then a ρ else b ρ
def eI(a b:DE):DE:=λρ=>a ρ>>=λx=>EV x>>=λc=>if c then b ρ else aa (.bl false)
def Ku(a:DE):DE:=λρ=>a ρ>>=λx=>EV x>>=λc=>aa (.bl (!c))
section
variable{X:Cx}{Xw:Nat->Hp->Prop}{a b:Expr}{δa δb:DE}{pos:Pos}
def ae(h:PE X (.Name x pos) (g7 i)):PD X Xw (.Name x pos) (dV i):=PE.weak h λσ H Q ⟨F,ρ,s,w⟩=>by
 unfold dV at w;split at w
 ·rename_i d e;obtain⟨v,h1,h2⟩:=s.den i _ e;exact⟨v,h1,WP.now w s.fh h2⟩
 ·exact w.elim
def iY(h:PE X e (tC v))(hd:∀F,Den X.K F d v):PD X Xw e (dC d):=PE.weak h λσ H Q ⟨F,ρ,s,w⟩=>WP.now w s.fh (hd F)
def aw:PD X Xw (.Constant (.int i) j pos) (dC (.int i)):=iY Mi λ_=>rfl
def ma:PD X Xw (.Constant (.bool i) j pos) (dC (.bl i)):=iY OY λ_=>rfl
def BD:PD X Xw (.Constant .none j pos) (dC .non):=iY Mj λ_=>rfl
def mH(h:x.length<=lim:=by decide):PD X Xw (.Constant (.str x) j pos) (dC (.str x)):=iY Mn λ_=>⟨rfl,h⟩
def As(K:V9)(r:R2)(g:D->D->M D):Prop:=∀(Xw:Nat->Hp->Prop) (F H:Hp) (x y:V) (dx dy:D) (Q:VK),Same F H->Den K F dx x->Den K F dy y->WP K Xw F H (g dx dy) Q->r x y H Q
def yh(hg:As X.K r g):∀σ H Q,tD X.K Xw (d2 g δa δb) σ H Q->Po r (tD X.K Xw δa) (tD X.K Xw δb) σ H Q:=λσ H Q ⟨F,ρ,s,w⟩=>by
 refine⟨F,ρ,s,WP.mono (WP.bind w) λv H1 ⟨F1,d,e1,q1,w1⟩=>?_⟩;refine⟨F1,ρ,s.ext e1,WP.mono (WP.bind w1) λu H2 ⟨F2,d',e2,q2,w2⟩=>?_⟩;exact hg Xw F2 H2 v u d d' Q e2.fh (Den.mono e2.ff q1) q2 w2
def vK(ho:OpR X (Zy op) r)(hg:As X.K r g)(ha:PD X Xw a δa)(hb:PD X Xw b δb):PD X Xw (.BinOp a op b pos) (d2 g δa δb):=
 PE.weak (OZ ho ha hb) (yh hg)
def xE(ho:OpR X (W7 op) r)(hg:As X.K r g)(ha:PD X Xw a δa)(hb:PD X Xw b δb)(hm:Xh op b=false:=by first | exact GK _ | rfl):PD X Xw (.Compare a [op] [b] pos) (d2 g δa δb):=
 PE.weak (JI ho ha hb hm) (yh hg)
def gp(ho:OpR X (W7 op) r)(hg:As X.K r g)(ha:PD X Xw a δa)(hb:PD X Xw b δb)(hm:Xh op b=false:=by first | exact GK _ | rfl):qA X Xw (.Compare a [op] [b] pos) (da (d2 g δa δb)):=
 PT.weak (JS ho ha hb hm) λσ H Q ⟨F,ρ,s,w⟩=>by
  refine yh hg σ H _ ⟨F,ρ,s,WP.mono (WPB.bind w) λv H1 ⟨F1,d,e1,q1,w1⟩=>?_⟩;cases d with
  |bl k=>exact⟨k,q1,w1 _ _ (Ext.refl e1.fh)⟩
  |_=>exact w1.elim
def CL(hr:Ng X r)(hg:As X.K r g)(ha:PD X Xw a δa)(hb:PD X Xw b δb)(hs:jc b:=by intro _ _;rfl):PD X Xw (.Subscript a b pos) (d2 g δa δb):=
 PE.weak (K0 hr ha hb hs) (yh hg)
def ah:lC X Xw [] aN:=PA.weak oO λσ H Q ⟨F,ρ,s,w⟩=>w [] H F (Ext.refl s.fh) rfl
def ab(ha:PD X Xw a δa)(hr:lC X Xw es δs)(hs:Wf (a::es) X.env=(false,eval a X.env)::Wf es X.env:=by rfl):lC X Xw (a::es) (aC δa δs):=
 PA.weak (nR ha hr hs) λσ H Q ⟨F,ρ,s,w⟩=>by
  refine⟨F,ρ,s,WP.mono (WPL.bind w) λv H1 ⟨F1,d,e1,q1,w1⟩=>?_⟩;refine⟨F1,ρ,s.ext e1,WPL.mono (WPL.bindL w1) λvs H2 ⟨F2,ds,e2,q2,w2⟩=>?_⟩;exact w2 _ _ _ (Ext.refl e2.fh) (.cons (Den.mono e2.ff q1) q2)
def fX(ds:List D):M D:=if ds.length<=lim then aa (.tup ds) else af
def jI(ds:List D):M D:=if ds.length<=lim then aa (.lst ds) else af
def Bj{f:List D->D}(w:WP X.K Xw F H (if ds.length<=lim then aa (f ds) else af) Q):ds.length<=lim/\WP X.K Xw F H (aa (f ds)) Q:=by
 split at w
 ·rename_i h;exact⟨h,w⟩
 ·exact w.elim
def jt(h:lC X Xw es δs):PD X Xw (.Tuple es x1 pos) (dA fX δs):=PE.weak (Mo h) λσ H Q ⟨F,ρ,s,w⟩=>by
 refine⟨F,ρ,s,WPL.mono (WP.bindL w) λvs H1 ⟨F1,ds,e1,q1,w1⟩=>?_⟩;obtain⟨hl,w1⟩:=Bj w1;have hv:=q1.len;refine⟨by have:=eZ;omega,λp hp=>WP.fin w1 (Ext.lay e1.fh hp) ⟨p,vs,rfl,aH,DenL.mono (Ext.lay e1.fh hp).ff q1,hl⟩⟩
def sP(h:lC X Xw es δs):PD X Xw (.List es pos) (dA jI δs):=PE.weak (xK h) λσ H Q ⟨F,ρ,s,w⟩=>by
 refine⟨F,ρ,s,WPL.mono (WP.bindL w) λvs H1 ⟨F1,ds,e1,q1,w1⟩=>?_⟩;obtain⟨hl,w1⟩:=Bj w1;have hv:=q1.len;refine⟨by have:=eZ;omega,λp hp=>WP.fin w1 (Ext.lay e1.fh hp) ⟨p,vs,rfl,aH,DenL.mono (Ext.lay e1.fh hp).ff q1,hl⟩⟩
end
def ItD(K:V9)(F:Hp)(J:It)(ds:List D):Prop:=∀(F' H':Hp) (i:Nat),Same F F'->Same F' H'->
 (∀d,ds[i]? =some d->J.go i H'/\∀x H'',J.yld i H' x H''->∃F'',Ext F' H' F'' H''/\Den K F'' d x)/\(ds.length<=i->J.stop i H')
def ItD.mono{K:V9}(h:ItD K F J ds)(e:Same F F1):ItD K F1 J ds:=λF' H' i s1 s2=>h F' H' i (e.trans s1) s2
def WPI(K:V9)(Xw:Nat->Hp->Prop)(F H:Hp)(m:M (List D))(R:It->Hp->Prop):Prop:=
 match m with
 |none=>False
 |some (.ok ds)=>∀J H' F',Ext F H F' H'->ItD K F' J ds->R J H'
 |some (.ex n)=>∀F' H',Ext F H F' H'->Xw n H'
def Vx(K:V9)(Xw:Nat->Hp->Prop)(δ:DA):TI:=λσ H R=>∃F ρ,StE K F H σ ρ/\WPI K Xw F H (δ ρ) R
def yz(X:Cx)(Xw:Nat->Hp->Prop)(tg iter:Expr)(δ:DA):Prop:=PI X tg iter (Vx X.K Xw δ)
def PI.weak{X:Cx}(h:PI X tg e t)(k:∀σ H Q,t' σ H Q->t σ H Q):PI X tg e t':=λf8 s σ H Q I w=>h f8 s σ H Q I (k σ H Q w)
def WPI.bind{K:V9}(h:WPI K Xw F H (m>>=k) R):
 WP K Xw F H m λv H1=>∃F1 d,Ext F H F1 H1/\Den K F1 d v/\WPI K Xw F1 H1 (k d) R:=by
 match m,h with
 |none,h=>exact h
 |some (.ok d),h=>
  refine λv H2 F2 e2 q=>⟨F2,d,e2,q,?_⟩
  have h:WPI K Xw F H (k d) R:=h;show WPI K Xw F2 H2 (k d) R
  match k d,h with
  |none,h=>exact h
  |some (.ok ds),h=>exact λJ H3 F3 e3 q3=>h J H3 F3 (e2.trans e3) q3
  |some (.ex n),h=>exact λF3 H3 e3=>h F3 H3 (e2.trans e3)
 |some (.ex n),h=>exact h
def WPI.bindL{K:V9}(h:WPI K Xw F H (m>>=k) R):
 WPL K Xw F H m λv H1=>∃F1 d,Ext F H F1 H1/\DenL K F1 d v/\WPI K Xw F1 H1 (k d) R:=by
 match m,h with
 |none,h=>exact h
 |some (.ok d),h=>
  refine λv H2 F2 e2 q=>⟨F2,d,e2,q,?_⟩
  have h:WPI K Xw F H (k d) R:=h;show WPI K Xw F2 H2 (k d) R
  match k d,h with
  |none,h=>exact h
  |some (.ok ds),h=>exact λJ H3 F3 e3 q3=>h J H3 F3 (e2.trans e3) q3
  |some (.ex n),h=>exact λF3 H3 e3=>h F3 H3 (e2.trans e3)
 |some (.ex n),h=>exact h
def lstM:D->M (List D)
 | .lst ds=>aa ds
 |_=>af
def Sm:D->M (List D)
 | .tup ds=>aa ds
 |_=>af
def fC(a:DE):DA:=λρ=>a ρ>>=lstM
def yN(a:DE):DA:=λρ=>a ρ>>=Sm
def Gd{K:V9}(h:SqL K F a vs)(hd:DenL K F ds vs):ItD K F (Qo K a) ds:=λF' H' i s1 s2=>by
 have hs:=Same.seq s2 (Same.seq s1 h);refine⟨λd e=>?_,λhl=>⟨vs,hs,by rw[<-hd.len];exact hl⟩⟩;obtain⟨v,e1,q⟩:=hd.get e;refine⟨⟨vs,v,hs,e1⟩,λx H'' y=>?_⟩;obtain⟨e2,y⟩:=y;subst e2;have:=y vs hs;rw[e1] at this;cases this;exact⟨F',Ext.refl s2,Den.mono s1 q⟩
def IV{K:V9}(h:SqT K F a vs)(hd:DenL K F ds vs):ItD K F (Qp K a) ds:=λF' H' i s1 s2=>by
 have hs:=Same.tup s2 (Same.tup s1 h);refine⟨λd e=>?_,λhl=>⟨vs,hs,by rw[<-hd.len];exact hl⟩⟩;obtain⟨v,e1,q⟩:=hd.get e;refine⟨⟨vs,v,hs,e1⟩,λx H'' y=>?_⟩;obtain⟨e2,y⟩:=y;subst e2;have:=y vs hs;rw[e1] at this;cases this;exact⟨F',Ext.refl s2,Den.mono s1 q⟩
def i8(lo:Int)(n:Nat):List D:=(Wy n).map λ(i:Nat)=>D.int (lo+(i:Int))
def vg{K:V9}{F:Hp}(lo:Int)(n:Nat):ItD K F (Nf lo n) (i8 lo n):=λF' H' i s1 s2=>by
 refine⟨λd e=>?_,λhl=>show n<=i by simpa[i8] using hl⟩;unfold i8 at e;rw[Wb] at e;have hi:i<n:=by
  by_cases hi:i<n
  ·exact hi
  ·rw[Y1 (by simpa using hi)] at e;cases e
 rw[YF hi] at e;cases e;refine⟨hi,λx H'' y=>?_⟩;obtain⟨e2,y⟩:=y;subst e2 y;exact⟨F',Ext.refl s2,rfl⟩
section
variable{X:Cx}{Xw:Nat->Hp->Prop}{tg l:Expr}{δ:DE}{pos:Pos}
def c8(h:PD X Xw l δ):yz X Xw tg l (fC δ):=PI.weak (JM h) λσ H R ⟨F,ρ,s,w⟩=>by
 refine⟨F,ρ,s,WP.mono (WPI.bind w) λv H1 ⟨F1,d,e1,q1,w1⟩=>?_⟩;cases d with
 |lst ds=>
  obtain⟨a,vs,h1,h2,h3,h4⟩:=q1;exact⟨a,h1,⟨vs,Same.seq e1.fh (SqL.of h2)⟩,w1 _ _ _ (Ext.refl e1.fh) (Gd (SqL.of h2) h3)⟩
 |_=>exact w1.elim
def xJ(h:PD X Xw l δ):yz X Xw tg l (yN δ):=PI.weak (Ms h) λσ H R ⟨F,ρ,s,w⟩=>by
 refine⟨F,ρ,s,WP.mono (WPI.bind w) λv H1 ⟨F1,d,e1,q1,w1⟩=>?_⟩;cases d with
 |tup ds=>
  obtain⟨a,vs,h1,h2,h3,h4⟩:=q1;exact⟨a,h1,⟨vs,Same.tup e1.fh (SqT.of h2)⟩,w1 _ _ _ (Ext.refl e1.fh) (IV (SqT.of h2) h3)⟩
 |_=>exact w1.elim
def md:List D->M (List D)
 |[.int j]=>if -4096<=j/\j<=4096 then aa (i8 0 j.toNat) else af
 |_=>af
def vZ:List D->M (List D)
 |[.int i, .int j]=>if (-4096<=i/\i<=4096)/\(-4096<=j/\j<=4096) then aa (i8 i (j - i).toNat) else af
 |_=>af
def DenL.one{K:V9}(h:DenL K F [d] vs):∃v,vs=[v]/\Den K F d v:=by
 obtain⟨v,r,h1,h2,h3⟩:=h;cases (show r=[] from h3);exact⟨v,h1,h2⟩
def DenL.two{K:V9}(h:DenL K F [d,d'] vs):∃v v',vs=[v,v']/\Den K F d v/\Den K F d' v':=by
 obtain⟨v,r,h1,h2,h3⟩:=h;obtain⟨v',h4,h5⟩:=h3.one;subst h4;exact⟨v,v',h1,h2,h5⟩
def fL{a:Expr}(hg:Gl X "range")(hm:X.mg "range"=none)(ha:lC X Xw [a] δs)(hs:Wf [a] X.env=[(false,eval a X.env)]:=by rfl):yz X Xw tg (.Call (.Name "range" p) [a] [] pos) (λρ=>δs ρ>>=md):=
 PI.weak (Et hg hm ha hs) λσ H R ⟨F,ρ,s,w⟩=>by
  refine⟨F,ρ,s,WPL.mono (WPI.bindL w) λvs H1 ⟨F1,ds,e1,q1,w1⟩=>?_⟩;unfold md at w1;split at w1
  ·rename_i j;obtain⟨v,h1,h2⟩:=q1.one;cases (show v=_ from h2);split at w1
   ·exact⟨j,h1,by omega,by omega,w1 _ _ _ (Ext.refl e1.fh) (vg 0 _)⟩
   ·exact w1.elim
  ·exact w1.elim
def sS{a b:Expr}(hg:Gl X "range")(hm:X.mg "range"=none)(ha:lC X Xw [a,b] δs)(hs:Wf [a,b] X.env=[(false,eval a X.env),(false,eval b X.env)]:=by rfl)
 (E3:Wf [b] X.env=[(false,eval b X.env)]:=by rfl):yz X Xw tg (.Call (.Name "range" p) [a,b] [] pos) (λρ=>δs ρ>>=vZ):=
 PI.weak (Eu hg hm ha hs E3) λσ H R ⟨F,ρ,s,w⟩=>by
  refine⟨F,ρ,s,WPL.mono (WPI.bindL w) λvs H1 ⟨F1,ds,e1,q1,w1⟩=>?_⟩;unfold vZ at w1;split at w1
  ·rename_i i j;obtain⟨v,v',h1,h2,h3⟩:=q1.two;cases (show v=_ from h2);cases (show v'=_ from h3);split at w1
   ·exact⟨i,j,h1,⟨by omega,by omega,by omega,by omega⟩,w1 _ _ _ (Ext.refl e1.fh) (vg i _)⟩
   ·exact w1.elim
  ·exact w1.elim
end
def eO(tg N:List Str):List Str:=N.map λy=>if tg.contains y then y++(" ":Str) else y
def lH(X:Cx)(scope:Scope)(tn:List Str)(f8:List (Addr×Obj))(cl:List (Str×Addr))(C:Addr)(fp:List Addr)(v0:Wa)(H:Hp):Cx:=
 {X with N:=tn++eO tn X.N,acJ:=v0,acI:=H,env:=compEnvC scope cl C X.env,outer:=X.stack,ex:=fp,fn:=λ_=>false,pn:=X.pn++f8,xe:=λ_ _=>False}
structure CompSc (X:Cx) (scope:Scope) (tn:List Str):Prop where
 kind:scope.kind= .function
 nocell:∀y∈scope.names,y.2≠ .cell
 names:∀y∈scope.names,y.2= .local->scope.names.lookup y.1=some .local
 frees:∀y∈scope.names,y.2= .free->X.env.kindOf y.1=some .cell\/X.env.kindOf y.1=some .free
 vis:∀p∈(eO tn X.N).zip X.N,scope.names.lookup p.1=none\/(p.1=p.2/\scope.names.lookup p.1=some .free)
def ml{env:Env}:∀(names:List (Str×Zz)) (acc:List (Str×Addr)),(∀y∈names,y.2= .free->∃c,env.cells.lookup y.1=some c)->
 (∀x c,acc.lookup x=some c->env.cells.lookup x=some c)->
 ∃cl,(forIn names acc (λ(x:Str×Zz) (r:List (Str×Addr))=>do
   let __x:=x
   if (__x.2==acx)=true then do let c<-cellOf env __x.1;pure (Xf ((__x.1,c)::r)) else pure (Xf r)):Sem (List (Str×Addr)))=pure cl/\
  (∀x c,cl.lookup x=some c->env.cells.lookup x=some c)/\(∀x c,acc.lookup x=some c->∃c',cl.lookup x=some c')/\(∀x,names.lookup x=some .free->∃c,cl.lookup x=some c)
 |[],acc,_,h2=>⟨acc,rfl,h2,λx c e=>⟨c,e⟩,λx e=>by simp at e⟩
 |(n,k)::r,acc,h1,h2=>by
  by_cases hk:k= .free
  ·subst hk;obtain⟨c,hc⟩:=h1 (n, .free) V6 rfl;obtain⟨cl,e,a1,a2,a3⟩:=ml r ((n,c)::acc) (λy hy=>h1 y (V3 _ hy)) (λx c' q=>by
    rw[Xj] at q;split at q
    ·rename_i hx;cases q;rw[show x=n from by simpa using hx];exact hc
    ·exact h2 x c' q)
   refine⟨cl,?_,a1,λx c' q=>?_,λx q=>?_⟩
   ·rw[ZJ];have:cellOf env n=pure c:=by unfold cellOf;rw[hc]
    simp only[beq_self_eq_true,if_true,this,pure_bind];exact e
   ·by_cases hx:x=n
    ·subst hx;exact a2 x c (by simp[Xj])
    ·exact a2 x c' (by rw[Xj,show (x==n)=false from by simpa using hx];exact q)
   ·rw[Xj] at q;split at q
    ·rename_i hx;exact a2 x c (by rw[Xj,hx])
    ·exact a3 x q
  ·obtain⟨cl,e,a1,a2,a3⟩:=ml r acc (λy hy=>h1 y (V3 _ hy)) h2;refine⟨cl,?_,a1,a2,λx q=>?_⟩
   ·rw[ZJ];have:((k==acx)=true)=False:=by simpa using hk
    simp only[this,if_false,pure_bind];exact e
   ·rw[Xj] at q;split at q
    ·cases q;exact acC rfl hk
    ·exact a3 x q
def rb{scope:Scope}(h:∀y∈scope.names,y.2= .free->∃c,env.cells.lookup y.1=some c):
 ∃cl,closureFor scope env=pure cl/\(∀x c,cl.lookup x=some c->env.cells.lookup x=some c)/\(∀x,scope.names.lookup x=some .free->∃c,cl.lookup x=some c):=by
 obtain⟨cl,e,a1,_,a3⟩:=ml scope.names [] h (λx c q=>by simp at q);refine⟨cl,?_,a1,a3⟩;unfold closureFor;show (forIn scope.names [] _>>=λr=>pure r)=_;rw[bind_pure];exact e
def noex:M α->M α
 |some (.ok a)=>some (.ok a)
 |_=>none
def dU(f:D->M (Option D)):List D->M (List D)
 |[]=>aa []
 |d::ds=>f d>>=λo=>dU f ds>>=λr=>aa (match o with | some y=>y::r | none=>r)
def TB(n:Nat):D->M (List D):=λd=>match n,d with
 |0,d=>aa [d]
 |n, .tup ds=>if ds.length=n then aa ds else af
 |_,_=>af
def jH(n:Nat)(δt:DT)(δe:DE)(ρ:bb):D->M (Option D):=λd=>
 TB n d>>=λts=>δt (ts.map (λt=>some (Sl.fz t))++ρ)>>=λb=>if b then δe (ts.map (λt=>some (Sl.fz t))++ρ)>>=λy=>aa (some y) else aa none
def cn(n:Nat)(δi:DA)(δt:DT)(δe:DE):DE:=λρ=>δi ρ>>=λds=>noex (dU (jH n δt δe ρ) ds)>>=jI
def dW:DT:=λ_=>aa true
def fG(f:D->M (Option D))(d:D)(ds:List D):dU f (d::ds)=(f d>>=λo=>dU f ds>>=λr=>aa (match o with | some y=>y::r | none=>r)):=rfl
def AM(hd:ds[i]? =some d)
 (h:dU f ds=(dU f (ds.drop i)>>=λr=>aa (ys++r)))(hR:dU f ds=aa R):
 ∃o,f d=aa o/\dU f ds=(dU f (ds.drop (i+1))>>=λr=>aa ((match o with | some y=>ys++[y] | none=>ys)++r)):=by
 have e:ds.drop i=d::ds.drop (i+1):=by
  obtain⟨hi,e⟩:=We.mp hd;rw[Zk hi,e]
 rw[e,fG] at h;have h':=h.symm.trans hR;obtain⟨r,h1,h2⟩:=bX h';obtain⟨o,h3,h4⟩:=bX h1;refine⟨o,h3,?_⟩;obtain⟨r',h5,h6⟩:=bX h4;rw[h5,hR];rw[<-h2,<-el h6];show aa _=aa _;cases o with
 |none=>rfl
 |some y=>simp
def Dv(I:Nat->Wa->Prop)
 (turn:∀n s,I n s->wpAny (model prog w) A (ZG it) (λr v6=>match r with
  |none=>R (.ok .next) v6
  |some v=>wpAny (model prog w) A (Z0 target it v) (λ_ Tx=>wpAny (model prog w) A (assign target env v) (λ_ v0=>
    wpAny (model prog w) A (forIn ifs true λc r=>if r=true then do let ok<-isTrue c env (eval c env);pure (Xf ok) else pure (Xf r)) (λok s₃=>
     if ok=true then wpAny (model prog w) A (eval elt env) (λx s₄=>
      wpAny (model prog w) A (call (.builtin "list.append") [acc,x]) (λ_ s₅=>∃m,m<n/\I m s₅) (ab_ (model prog w) A env λe s'=>R (.error e) s') s₄) (ab_ (model prog w) A env λe s'=>R (.error e) s') s₃
     else∃m,m<n/\I m s₃) (ab_ (model prog w) A env λe s'=>R (.error e) s') v0) (ab_ (model prog w) A env λe s'=>R (.error e) s') Tx) (ab_ (model prog w) A env λe s'=>R (.error e) s') v6) (ab_ (model prog w) A env λe s'=>R (.error e) s') s)
 (n:Nat) (h:I n s):
 Z1 (model prog w) A (.compLoop (.ListComp elt [⟨target,iter,ifs,0⟩] scope pos) 0 it acc env) R s:=by
 refine codeAny_loop rfl I (λn s hI=>?_) n h;show wpAny _ A ((compTurn (.ListComp elt [⟨target,iter,ifs,0⟩] scope pos) 0 it acc env).onRaise (λx=>do noteFrame x env;theTreesLotGoes x)) _ _ s;refine wpAny_noted ?_;rw[compTurn_list];refine V2 (wpAny_standAt (V2 (Xl (turn n s hI) (λr v6 h₁=>?_) λ_ _ h'=>h')));cases r with
 |none=>exact V_ h₁
 |some v=>
  refine V2 (Xl h₁ (λ_ Tx h₁=>?_) λ_ _ h'=>h');refine V2 (Xl h₁ (λ_ v0 h₂=>V2 (Xl h₂ (λok s₃ h₃=>?_) λ_ _ h'=>h')) λ_ _ h'=>h');cases ok with
  |false=>exact V_ ⟨rfl,h₃⟩
  |true=>
   exact V2 (V2 (Xl h₃ (λx s₄ h₄=>V2 (Xl h₄ (λ_ s₅ h₅=>V_ (V_ ⟨rfl,h₅⟩)) λ_ _ h'=>h')) λ_ _ h'=>h'))
def E5(X:Cx)(tg:Expr)(n:Nat)(σ:St):Prop:=∀(f8:List (Addr×Obj)) (s:Wa) (σ':St) (F H:Hp) (d:D) (ts:List D) (v:V) (u:Value),Inv X f8 σ' H s->Same F H->σ'.drop (max n 1)=σ->RelV v u->Den X.K F d v->TB n d=aa ts->
 wpAny (model X.prog X.w) X.A (assign tg X.env u) (λ_ s'=>∃vs,Inv X f8 (vs.map some++σ) H s'/\DenL X.K F ts vs) X.xe s
def og(X:Cx)(ifs:List Expr)(δt:DT):Prop:=∀(f8:List (Addr×Obj)) (s:Wa) (σ:St) (H:Hp) (Q:Bool->Hp->Prop),Inv X f8 σ H s->R_ X.K (λ_ _=>False) δt σ H Q->
 wpAny (model X.prog X.w) X.A (forIn ifs true λc r=>if r=true then do let ok<-isTrue c X.env (eval c X.env);pure (Xf ok) else pure (Xf r)) (TP X f8 σ Q) X.xe s
def fZ:og X [] dW:=λf8 s σ H Q I ⟨F,ρ,S,w⟩=>wpAny_tests_nil ⟨H,I,w H F (Ext.refl S.fh)⟩
def tK(h:qA X (λ_ _=>False) c δ):og X [c] δ:=λf8 s σ H Q I w=>wpAny_tests_one (h f8 s σ H Q I w)
def StE.cons{K:V9}(s:StE K F H σ ρ)(h:DenL K F ts vs):StE K F H (vs.map some++σ) (ts.map (λt=>some (Sl.fz t))++ρ):=by
 refine⟨s.fh,λi sl e=>?_⟩;have hl:=h.len;by_cases hi:i<ts.length
 ·rw[WB (by simpa using hi),Wb] at e;cases q:ts[i]? with
  |none=>rw[q] at e;cases e
  |some t=>
   rw[q] at e;cases e;obtain⟨v,e1,e2⟩:=h.get q;exact⟨v,by rw[WB (by simp;omega),Wb,e1];rfl,e2⟩
 ·rw[WJ (by simpa using hi)] at e;obtain⟨v,e1,e2⟩:=s.den _ _ e;refine⟨v,?_,e2⟩;rw[WJ (by simp;omega)];simpa[hl] using e1
def WPB.take:WPB Xw F H (aa b) λb' H'=>b'=b/\∃F',Ext F H F' H':=λH' F' e=>⟨rfl,F',e⟩
def WP.take{K:V9}:WP K Xw F H (aa d) λv H'=>∃F',Ext F H F' H'/\Den K F' d v:=λv H' F' e q=>⟨F',e,q⟩
def oU(env:Env)(p:Str×Zz):Str×Zz:=if (p.2== .free&&env.scope.kind== .function&&env.kindOf p.1==some .cell) then(p.1, .cell) else(p.1,p.2)
def ix(scope:Scope)(env:Env):(relabel scope env).names=scope.names.map (oU env):=rfl
def Hq(env:Env)(p:Str×Zz):(oU env p).1=p.1:=by unfold oU;split<;>rfl
def jl(env:Env)(x:Str):∀ns:List (Str×Zz),(ns.map (oU env)).lookup x=(ns.lookup x).map λk=>(oU env (x,k)).2
 |[]=>rfl
 |(m,k)::r=>by
  rw[Wg,Xj,Xj];have e:oU env (m,k)=(m,(oU env (m,k)).2):=ach (Hq env (m,k)) rfl;rw[e]
  dsimp only
  by_cases hx:(x==m)=true
  ·have hm:x=m:=by simpa using hx
   subst hm;rw[hx];rfl
  ·have hx:(x==m)=false:=by simpa using hx
   rw[hx];exact jl env x r
def xV(h:scope.names.lookup x=none):(relabel scope env).names.lookup x=none:=by
 rw[ix,jl,h];rfl
def xU(hc:∀y∈scope.names,y.2≠ .cell)(h:(relabel scope env).names.lookup x=some .cell\/(relabel scope env).names.lookup x=some .free):scope.names.lookup x=some .free:=by
 rw[ix,jl] at h;cases q:scope.names.lookup x with
 |none=>rw[q] at h;rcases h with h | h<;>cases h
 |some k=>
  rw[q] at h;have hk:k≠ .cell:=hc _ (XN q);have h:(oU env (x,k)).2= .cell\/(oU env (x,k)).2= .free:=by simpa using h
  by_cases hf:k= .free
  ·rw[hf]
  ·have:(oU env (x,k)).2=k:=by
    unfold oU;rw[acA];simp[hf]
   rw[this] at h;rcases h with h | h
   ·exact acC h hk
   ·exact acC h hf
def oV(h:scope.names.lookup x=some .free):¬(relabel scope env).names.lookup x=some .local:=by
 rw[ix,jl,h];intro z;have z:(oU env (x, .free)).2= .local:=by simpa using z
 unfold oU at z;split at z<;>cases z
structure BlockEnd (X:Cx) (f8:List (Addr×Obj)) (C:Addr) (H':Hp) (s1:Wa):Prop where
 ns:∃m,s1.heap.Ns C m
 free:H' C=none
 nl:C≠X.env.locals
 nw:X.acJ.heap.objs.size<=C
 nc:∀x c,X.env.cells.lookup x=some c->c≠C
 np:∀p∈X.pn++f8,p.1≠C
def yK{RR:Value->Addr->Result->Wa->Prop}
 (sc:CompSc X scope tn)(hn:tn.length=max n 1)(hc:X.calm=true)(hi:yz X Xw tg iter δi)
 (hg:∀f8 cl C fp v0 H σ,E5 (lH X scope tn f8 cl C fp v0 H) tg n σ)
 (ht:∀f8 cl C fp v0 H,og (lH X scope tn f8 cl C fp v0 H) ifs δt)
 (he:∀f8 cl C fp v0 H,PD (lH X scope tn f8 cl C fp v0 H) (λ_ _=>False) elt δe)
 (I:Inv X f8 σ H s)(S:StE X.K F H σ ρ)(w:WP X.K Xw F H (cn n δi δt δe ρ) Q)
 (Fh:∀x c,cl.lookup x=some c->X.env.cells.lookup x=some c)(MS:∀x,scope.names.lookup x=some .free->∃c,cl.lookup x=some c)
 (Ue:∀(s1:Wa) (C D:Addr) (H':Hp),Inv X f8 σ H' s1->Q (.ref D) H'->BlockEnd X f8 C H' s1->RR (.ref D) C (.ok .next) s1):
 wpAny (model X.prog X.w) X.A (eval iter X.env) (λx v6=>wpAny (model X.prog X.w) X.A (abZ x) (λit v0=>wpAny (model X.prog X.w) X.A (newList []) (λacc s₃=>
  wpAny (model X.prog X.w) X.A (newFunctionEnv scope X.env.globals cl [] X.env.qual none .none (some X.env)) (λNm s₄=>
   Z1 (model X.prog X.w) X.A (.compStart (.ListComp elt [⟨tg,iter,ifs,0⟩] scope pos) 0 it acc {Nm with scope:=relabel scope X.env}) (RR acc Nm.locals) s₄) X.xe s₃) X.xe v0) X.xe v6) X.xe s:=by
 refine ck (hi f8 s σ H (λJ H2=>∃F2 ds,Ext F H F2 H2/\ItD X.K F2 J ds/\WP X.K Xw F2 H2 (noex (dU (jH n δt δe ρ) ds)>>=jI) Q) I ⟨F,ρ,S,?_⟩) λxv v6 h₁=>ck h₁ λit v0 h₂=>?_
 ·unfold cn at w;rcases(δi ρ).cs with hq | ⟨m,hq⟩ | ⟨ds,hq⟩
  ·rw[hq] at w;exact w.elim
  ·rw[hq] at w⊢;exact w
  ·rw[hq] at w⊢;exact λJ H' F' e q=>⟨F',ds,e,q,WP.ext e w⟩
 obtain⟨ia,fp,TC,J,H2,rfl,I2,T,BW,f2,F2,ds,e2,To,w2⟩:=h₂;obtain⟨R,hR,SX,w2⟩:∃R,dU (jH n δt δe ρ) ds=aa R/\R.length<=lim/\WP X.K Xw F2 H2 (aa (.lst R)) Q:=by
  rcases(dU (jH n δt δe ρ) ds).cs with hq | ⟨m,hq⟩ | ⟨R,hq⟩
  ·rw[hq] at w2;exact w2.elim
  ·rw[hq] at w2;exact w2.elim
  ·rw[hq] at w2;obtain⟨h1,h2⟩:=Bj (show WP X.K Xw F2 H2 (jI R) Q from w2);exact⟨R,hq,h1,h2⟩
 refine XB (wpAny_newFunctionEnv sc.nocell (by intro y hy;simp at hy) (λh₁ LH IP=>?_) sc.kind)
 dsimp only at LH IP⊢
 generalize QP:v0.heap.push {cls:= .type "list",dict:=none,data:= .seq ([]:List Value).toArray}=HL at LH IP⊢;have hC:HL.objs.size=v0.heap.objs.size+1:=by rw[<-QP,Yd]
 have DI:v0.heap.objs.size<HL.objs.size:=by rw[hC];exact YE _
 have old:∀b o,v0.heap.get? b=some o->h₁.get? b=some o:=λb o e=>IP.extBut b o (WA (YJ (Wl e) DI)) (V8 _ (QP▸V8 _ e));have FP:h₁.get? v0.heap.objs.size=some {cls:= .type "list",data:= .seq ([]:List Value).toArray}:=IP.extBut _ _ (WA DI) (V8 _ (QP▸Wm _ rfl));have nD:H2 v0.heap.objs.size=none:=I2.hok.fresh (Wj _);have nC:H2 HL.objs.size=none:=I2.hok.fresh (X8 DI);have gC:v0.heap.get? HL.objs.size=none:=abW (X8 DI);have fl:∀b∈fp,b<v0.heap.objs.size:=λb hb=>by
  obtain⟨o,e,_⟩:=T.obj 0 _ BW b hb;exact Wl e
 generalize y_:lH X scope tn f8 cl HL.objs.size fp v0 H2=X';have Tv:X'.Ok:=by
  subst y_;refine⟨I2.ok.mod,sc.kind,I2.ok.glob,I2.ok.blt,X8 DI,λx y c h1 h2=>I2.ok.inj x y c (Fh _ _ h1) (Fh _ _ h2),λx hx=>?_,λ_ _ h=>(by cases h),I2.ok.hd,I2.ok.frames, .inl rfl,
   λb hb=>⟨WA (YJ (fl b hb) DI),λx c h=>(f2 b hb).2.2.2.2.1 x c (Fh _ _ h)⟩,I2.bs,WZ I2.ok.bsz I2.sz,λb o e hb=>?_,λb hb z=>?_,I2.stack,I2.stkFree⟩
  ·have hx:(relabel scope X.env).names.lookup x=some .cell\/(relabel scope X.env).names.lookup x=some .free:=hx;exact MS x (xU sc.nocell hx)
  ·rcases(f2 b hb).2.2.2.1 with z | z
   ·exact I2.ok.noex b o e z
   ·exact acC (WH (Wl (I2.ok.bs b o e).1) z) (Xe _)
  ·rcases Wc.mp (I2.stkSub b z) with q | q
   ·exact(f2 b hb).2.1 q
   ·exact(f2 b hb).2.2.1 q
 have RO:∀b o,H2 b=some o->b≠v0.heap.objs.size:=λb o e=>bw e nD;have Lu:∀{H':Hp},(∀b∈fp,H' b=none)->∀b∈fp,t6 X' [] H' b:=λUR b hb=>by
  subst y_;refine⟨UR b hb,WA (YJ (fl b hb) DI),λz=>Tv.exfs b hb z, .inl hb,λx c h=>(f2 b hb).2.2.2.2.1 x c (Fh _ _ h),λp hp=>?_⟩;rw[W5] at hp;exact(f2 b hb).2.2.2.2.2 p hp
 have I0:Inv X' [] (Wx (max n 1) none++σ) (upd H2 v0.heap.objs.size (.lst [])) {v0 with heap:=h₁,toks:=v0.toks+([]:List (Str×Value)).length}:=by
  subst y_;have Rl:HOk X.prog X.w (upd H2 v0.heap.objs.size (.lst [])) h₁:=I2.hok.laid old (Wj _) ⟨W8 _,[],_, .nil,FP⟩;refine⟨Tv,rfl,I2.bare,Un.laid old (Wj _) nD,⟨_,LH,λi x v h1 h2 h3=>?_⟩,λx c h=>?_,?_,λx c h=>?_,λp hp=>?_,Rl,?_⟩
  ·by_cases hi:i<max n 1
   ·rw[WB (by simpa using hi),Xd,acz hi] at h2;cases h2
   ·have Q5:tn.length<=i:=by omega
    have h1:(tn++eO tn X.N)[i]? =some x:=h1;rw[WJ Q5] at h1;rw[WJ (by simpa using hi),Y0,<-hn] at h2;have hN:∃y,X.N[i - tn.length]? =some y/\(x,y)∈(eO tn X.N).zip X.N:=by
     have f_:=(We.mp h1).1;have II:i - tn.length<X.N.length:=by simpa[eO] using f_
     refine⟨X.N[i - tn.length],V5 II,?_⟩;refine List.mem_iff_getElem?.mpr ⟨i - tn.length,?_⟩;rw[aa_];exact⟨h1,V5 II⟩
    obtain⟨y,hy,hm⟩:=hN;have hV:(relabel scope X.env).names.lookup x=some .local\/(relabel scope X.env).names.lookup x=some .cell\/(relabel scope X.env).names.lookup x=some .free:=h3;rcases sc.vis _ hm with wN | ⟨Ia,KG⟩
    ·have wN:scope.names.lookup x=none:=wN;have:(relabel scope X.env).names.lookup x=none:=xV wN;rw[this] at hV;rcases hV with z | z | z<;>cases z
    ·have Ia:x=y:=Ia;subst Ia;have KG:scope.names.lookup x=some .free:=KG;have hk:=sc.frees (x, .free) (XN KG) rfl;obtain⟨m,N8,M0⟩:=I2.loc;obtain⟨u,ru,lk⟩:=M0 _ x v hy h2 (by rcases hk with z | z;exact .inr (.inl z);exact .inr (.inr z));refine⟨u,ru, .inr ⟨?_,?_⟩⟩
     ·rcases hV with z | z | z
      ·exact acC z (oV KG)
      ·exact .inl z
      ·exact .inr z
     ·rcases lk with⟨z,_⟩ | ⟨_,c,Uj,H9⟩
      ·rcases hk with q | q
       ·rw[show X.env.kindOf x=some .local from z] at q;cases q
       ·rw[show X.env.kindOf x=some .local from z] at q;cases q
      ·obtain⟨c',KA⟩:=MS x KG;have:=Fh _ _ KA;rw[Uj] at this;cases this;obtain⟨o,ho,hd⟩:=H9;exact⟨c,KA,o,old _ _ ho,hd⟩
  ·obtain⟨v,o,ho,hd⟩:=I2.cell x c (Fh _ _ h);exact⟨v,o,old _ _ ho,hd⟩
  ·show upd H2 v0.heap.objs.size (.lst []) HL.objs.size=none;rw[az (XM DI)];exact nC
  ·have S2:=Fh _ _ h;obtain⟨v,q⟩:=I2.cell x c S2;rw[az (WA q.lt)];exact I2.freeC x c S2
  ·rw[W5] at hp;obtain⟨e,nn,ne,nf,d⟩:=I2.pin p hp;have f_:=Wl e;refine⟨old _ _ e,by rw[az (WA f_)];exact nn,WA (YJ f_ DI),λz=>?_,d⟩;rcases Wc.mp (I2.stkSub p.1 z) with q | q
   ·exact ne q
   ·exact nf q
  ·show (Wx (max n 1) none++σ).length=(tn++eO tn X.N).length;rw[Wh,Wh,Y0,hn,show (eO tn X.N).length=X.N.length from by simp[eO],I2.len]
 have loop:∀s₃:Wa,s₃={v0 with heap:=h₁,toks:=v0.toks+([]:List (Str×Value)).length}->
  Z1 (model X.prog X.w) X.A (.compLoop (.ListComp elt [⟨tg,iter,ifs,0⟩] scope pos) 0 (.ref ia) (.ref v0.heap.objs.size) (compEnvC scope cl HL.objs.size X.env))
   (RR (.ref v0.heap.objs.size) HL.objs.size) s₃:=by
  intro s₃ LM;have Fw:X'.env=compEnvC scope cl HL.objs.size X.env:=by subst y_;rfl
  have hA:X'.A=X.A:=by subst y_;rfl
  have hP:X'.prog=X.prog:=by subst y_;rfl
  have hw:X'.w=X.w:=by subst y_;rfl
  have hK:X'.K=X.K:=by subst y_;rfl
  have Va:X'.xe=λ_ _=>False:=by subst y_;rfl
  have KC:X'.calm=true:=by subst y_;exact hc
  have Ut:X'.fs=qD X.stack:=by subst y_;rfl
  have hex:X'.ex=fp:=by subst y_;rfl
  have Ua:X'.acI=H2:=by subst y_;rfl
  have Te:X'.acJ=v0:=by subst y_;rfl
  have pass:∀{α:Type}{t:Sem α}{P:α->Wa->Prop}{E':Value->Wa->Prop}{s:Wa},wpAny (model X'.prog X'.w) X'.A t P X'.xe s->wpAny (model X.prog X.w) X.A t P E' s:=λ{α t P E' s} h=>by
   rw[hP,hw,hA,Va] at h;exact Xl h (λ_ _ q=>q) λ_ _ q=>q.elim
  refine Dv (λm s'=>∃(i:Nat) (F' H':Hp) (vs:List V) (ys:List D) (σt:St),m=ds.length - i/\i<=ds.length/\σt.length=max n 1/\Inv X' [] (σt++σ) H' s'/\TC i s'.heap/\(∀b∈fp,H' b=none)/\Ext F2 H2 F' H'/\
   H' v0.heap.objs.size=some (.lst vs)/\F' v0.heap.objs.size=none/\DenL X.K F' ys vs/\dU (jH n δt δe ρ) ds=(dU (jH n δt δe ρ) (ds.drop i)>>=λr=>aa (ys++r))) ?_ ds.length ?_
  ·rintro m s' ⟨i,F',H',vs,ys,σt,rfl,N0,Vg,I',p5,SK,AV,hD,fD,P8,heq⟩;by_cases f_:i<ds.length
   ·
    obtain⟨d,hd⟩:∃d,ds[i]? =some d:=⟨_,V5 f_⟩
    obtain⟨NX,FY⟩:=(To F' H' i AV.ff AV.fh).1 d hd;obtain⟨o,ho,NU⟩:=AM hd heq hR;have RA:ys.length<=lim:=by
     rw[heq] at hR;obtain⟨r,_,hr⟩:=bX hR;rw[<-el hr,Wh] at SX;omega
    obtain⟨ts,U5,ho⟩:=bX ho;refine pass ?_;rw[hP,hw];refine ck (T.item X' hP hw hK KC i [] s' (σt++σ) H' X'.xe I' (Lu SK) p5 NX) ?_;rintro r s1 ⟨u,rfl,h1⟩;refine pass ?_;rw[hP,hw];refine ck h1 ?_;rintro _ s2 ⟨x,H3,I3,rx,y3,M8,PK⟩;obtain⟨F3,EY,q3⟩:=FY x H3 y3;have SQ:H3 v0.heap.objs.size=some (.lst vs):=EY.hh _ _ hD;have T3:F3 v0.heap.objs.size=none:=by rw[EY.old hD (λ_ z=>nomatch z)];exact fD
    have I3':=I3.pinned (Lu PK) (T.obj _ _ M8);have Cz:∀{σ7:St}{H7:Hp}{s7:Wa},Inv X' ([]++sU fp s2.heap) σ7 H7 s7->TC (i+1) s7.heap/\∀b∈fp,H7 b=none:=λ{σ7 H7 s7} I7=>
     ⟨T.keep _ _ _ M8 λb hb o e=>(I7.pin (b,o) (Ww _ (Ww _ (jm hb e)))).1,λb hb=>by
      obtain⟨o,e,_⟩:=T.obj _ _ M8 b hb;exact(I7.pin (b,o) (Ww _ (Ww _ (jm hb e)))).2.1⟩
    have Uu:E5 X' tg n σ:=by subst y_;exact hg _ _ _ _ _ _ _
    have U3:og X' ifs δt:=by subst y_;exact ht _ _ _ _ _ _
    have Uq:PD X' (λ_ _=>False) elt δe:=by subst y_;exact he _ _ _ _ _ _
    refine pass ?_;rw[<-Fw];refine ck (Uu _ s2 (σt++σ) F3 H3 d ts x u I3' EY.fh (by rw[<-Vg];simp) rx (by rw[hK];exact q3) U5) ?_;rintro _ s4 ⟨vt,I4,dt⟩;rw[hK] at dt;have S4:StE X.K F3 H3 (vt.map some++σ) (ts.map (λt=>some (Sl.fz t))++ρ):=StE.cons ((S.ext e2).ext (AV.trans EY)) dt;obtain⟨b,hb,ho⟩:=bX ho;refine pass ?_
    try rw[<-Fw]
    refine ck (U3 _ s4 _ H3 (λb' H5=>b'=b/\∃F5,Ext F3 H3 F5 H5) I4 ⟨F3,_,by rw[hK];exact S4,by rw[hb];exact WPB.take⟩) ?_;rintro b' s5 ⟨H5,I5,rfl,F5,Lr⟩;have QO:H5 v0.heap.objs.size=some (.lst vs):=Lr.hh _ _ SQ;have SH:F5 v0.heap.objs.size=none:=by rw[Lr.old SQ (λ_ z=>nomatch z)];exact T3
    cases b' with
    |false=>
     rw[acA Wt] at ho⊢;obtain rfl:=el ho;refine⟨ds.length - (i+1),by omega,i+1,F5,H5,vs,ys,vt.map some,rfl,f_,?_,I5.unpinned,(Cz I5).1,(Cz I5).2,AV.trans (EY.trans Lr),QO,SH,DenL.mono (EY.trans Lr).ff P8,NU⟩;have h1:=I5.len;have h2:=I3.len;rw[Wh] at h1 h2;omega
    |true=>
     rw[acz rfl] at ho⊢;obtain⟨yv,hy,ho⟩:=bX ho;obtain rfl:=el ho;refine pass ?_
     try rw[<-Fw]
     refine ck (Uq _ s5 _ H5 (λv H6=>∃F6,Ext F5 H5 F6 H6/\Den X.K F6 yv v) I5 ⟨F5,_,by rw[hK];exact S4.ext Lr,by rw[hy,hK];exact WP.take⟩) ?_;rintro xv s6 ⟨v,H6,I6,rv,F6,PJ,qv⟩;have T_:H6 v0.heap.objs.size=some (.lst vs):=PJ.hh _ _ QO;have SI:F6 v0.heap.objs.size=none:=by rw[PJ.old QO (λ_ z=>nomatch z)];exact SH
     have Ru:vs.length<Wr:=by
      have:=P8.len;have:=eZ;omega
     refine pass ?_;refine ck (oJ _ s6 _ H6 (.ref v0.heap.objs.size) [v] (.ref v0.heap.objs.size) [xv] (λ_ H7=>H7=upd H6 v0.heap.objs.size (.lst (vs++[v]))) I6 rfl (.cons rv .nil) ⟨_,vs,v,rfl,rfl,T_,Ru,rfl⟩) ?_;rintro _ s7 ⟨_,H7,I7,_,rfl⟩;have T2:Ext F2 H2 F6 (upd H6 v0.heap.objs.size (.lst (vs++[v]))):=by
      have e:=AV.trans (EY.trans (Lr.trans PJ));refine⟨λb u q=>?_,e.ff,λb u q=>?_,e.new⟩
      ·rw[az (RO b u q)];exact e.hh b u q
      ·rw[az (λz=>by rw[z,SI] at q;cases q)];exact e.fh b u q
     refine⟨ds.length - (i+1),by omega,i+1,F6,_,vs++[v],ys++[yv],vt.map some,rfl,f_,?_,I7.unpinned,(Cz I7).1,(Cz I7).2,T2,aH,SI,
      DenL.append (DenL.mono (EY.trans (Lr.trans PJ)).ff P8) (.cons qv .nil),NU⟩
     have h1:=I5.len;have h2:=I3.len;rw[Wh] at h1 h2;omega
   ·
    have hi:i=ds.length:=by omega
    subst hi;rw[aap] at heq;have Ug:R=ys:=by
     rw[heq] at hR;have hR:aa (ys++[])=aa R:=hR;rw[<-el hR,W5]
    subst Ug;refine pass ?_;rw[hP,hw];refine ck (T.done X' hP hw hK KC ds.length [] s' (σt++σ) H' X'.xe I' (Lu SK) p5 ((To F' H' ds.length AV.ff AV.fh).2 (Wj _))) ?_;rintro r s1 ⟨rfl,I1⟩;obtain⟨m,hm,_⟩:=I1.loc;rw[Fw] at hm;have T9:H' HL.objs.size=none:=by
     have:=I1.free;rw[Fw] at this;exact this
    have u:=I1.base;rw[Ut,hex,Ua,Te] at u;have Rm:s1.os=v0.os:=by have:=I1.os;rw[Te] at this;exact this
    have NY:=I1.hok;rw[hP,hw] at NY;refine Ue s1 HL.objs.size v0.heap.objs.size H' (I2.call' Rm u NY I1.bare (λb hb=>⟨(f2 b hb).2.2.2.1,(f2 b hb).2.1,(f2 b hb).2.2.2.2.1,(f2 b hb).2.2.2.2.2⟩)) ?_
     ⟨⟨m,hm⟩,T9,XM (YJ I2.lt DI),WZ I2.sz (X8 DI),λx c q z=>?_,λp hp z=>?_⟩
    rotate_left
    ·obtain⟨v,q'⟩:=I2.cell x c q;exact acC (YJ q'.lt DI) (by rw[z];exact Xe _)
    ·exact acC (YJ (Wl (I2.pin p hp).1) DI) (by rw[z];exact Xe _)
    refine WP.fin w2 (F':=upd F' v0.heap.objs.size (.lst vs)) ⟨AV.hh,λb u q=>?_,λb u q=>?_,λa ha=>?_⟩ ⟨_,vs,rfl,aH,DenL.mono (λb u q=>?_) P8,SX⟩
    ·rw[az (λz=>by have:=AV.ff b u q;rw[z,fD] at this;cases this)];exact AV.ff b u q
    ·by_cases z:b=v0.heap.objs.size
     ·rw[z,aH] at q;rw[z,hD];exact q
     ·rw[az z] at q;exact AV.fh b u q
    ·rcases AV.new a ha with q | q
     ·exact .inl (by rw[az (λz=>ha (by rw[z];exact nD))];exact q)
     ·exact .inr q
    ·rw[az (λz=>by rw[z,fD] at q;cases q)];exact q
  ·rw[LM];refine⟨0,F2,_,[],[],Wx (max n 1) none,by simp,W8 _,by simp,I0,T.keep _ _ _ BW (λb hb o e=>old b o e),λb hb=>?_,⟨λb u q=>?_,Same.refl _,λb u q=>?_,λ_ _=> .inl rfl⟩,aH,Same.free e2.fh nD,rfl,?_⟩
   ·rw[az (WA (fl b hb))];exact(f2 b hb).1
   ·rw[az (RO b u q)];exact q
   ·rw[az (RO b u (e2.fh b u q))];exact e2.fh b u q
   ·rw[List.drop_zero];rcases(dU (jH n δt δe ρ) ds).cs with hq | ⟨m,hq⟩ | ⟨R,hq⟩<;>rw[hq]<;>rfl
 exact codeAny_compStart_list (loop _ rfl) (T.self X.A 0 _ _ _ (T.keep _ _ _ BW (λb hb o e=>old b o e)) (loop _ rfl))
def Inv.block{C:Addr}(I:Inv X f8 σ H' s1)(b:BlockEnd X f8 C H' s1)(Of:Xo C s1.heap h'):Inv X f8 σ H' {s1 with heap:=h'}:=
 I.turned (λa o ha e=>(Of.2 a ha).trans e) b.free b.nl (.inr b.nw) b.nc b.np
section
variable{X:Cx}{Xw:Nat->Hp->Prop}{elt iter tg:Expr}{ifs:List Expr}{scope:Scope}{pos:Pos}{tn:List Str}{n:Nat}{δi:DA}{δt:DT}{δe:DE}
def ie(sc:CompSc X scope tn)(hn:tn.length=max n 1)(hc:X.calm=true)(hi:yz X Xw tg iter δi)
 (hg:∀f8 cl C fp v0 H σ,E5 (lH X scope tn f8 cl C fp v0 H) tg n σ)
 (ht:∀f8 cl C fp v0 H,og (lH X scope tn f8 cl C fp v0 H) ifs δt)
 (he:∀f8 cl C fp v0 H,PD (lH X scope tn f8 cl C fp v0 H) (λ_ _=>False) elt δe)
 (hs:∀x,Y3 iter X.env x=pure x:=by intro _;rfl):
 PD X Xw (.ListComp elt [⟨tg,iter,ifs,0⟩] scope pos) (cn n δi δt δe):=by
 intro f8 s σ H Q I ⟨F,ρ,S,w⟩;obtain⟨cl,FR,Fh,MS⟩:=rb λy hy hf=>I.ok.has y.1 (sc.frees y hy hf);rw[eval_ListComp];refine abY rfl hs FR sc.kind sc.names (yK (RR:=λacc C=>compPost (model X.prog X.w) X.A X.xe none (EP X f8 σ Q) acc C) sc hn hc hi hg ht he I S w Fh MS λs1 C D H' I1 q b=>?_);obtain⟨m,hm⟩:=b.ns;exact⟨m,hm,λh' Of=>⟨.ref D,H',Inv.block I1 b Of,rfl,q⟩⟩
end
inductive Out where
 |nx (ρ:bb) | rt (d:D)
abbrev DS:=bb->M Out
structure StOk (K:V9) (t0 acI F H:Hp) (σ:St) (ρ:bb):Prop where
 ext:Ext t0 acI F H
 st:StE K F H σ ρ
 len:ρ.length=σ.length
 own:∀(i:Nat) (c:C) (a:Addr),ρ[i]? =some (some (.ow c))->σ[i]? =some (some (.ref a))->acI a=none
 sep:∀(i j:Nat) (sl mN:Sl) (v v':V) (b:Addr),ρ[i]? =some (some sl)->ρ[j]? =some (some mN)->σ[i]? =some (some v)->σ[j]? =some (some v')->b∈sl.foot H v->b∈mN.foot H v'->i=j
def WPS(K:V9)(Xw:Nat->Hp->Prop)(t0 acI:Hp)(m:M Out)(Dn:Ends):Prop:=
 match m with
 |none=>False
 |some (.ok (.nx ρ))=>∀σ F H,StOk K t0 acI F H σ ρ->Dn.nx σ H
 |some (.ok (.rt d))=>∀v F H,Ext t0 acI F H->Den K F d v->Dn.rt v H
 |some (.ex n)=>∀F H,Ext t0 acI F H->Xw n H
def tS(K:V9)(Xw:Nat->Hp->Prop)(t0 acI:Hp)(τ:DS):TS:=λDn σ H=>∃F ρ,StOk K t0 acI F H σ ρ/\WPS K Xw t0 acI (τ ρ) Dn
def qB(X:Cx)(Xw:Nat->Hp->Prop)(st:Stmt)(τ:DS):Prop:=∀t0 acI,PS X st (tS X.K Xw t0 acI τ)
def PSDs(X:Cx)(Xw:Nat->Hp->Prop)(st:List Stmt)(τ:DS):Prop:=∀t0 acI,PSs X st (tS X.K Xw t0 acI τ)
def PS.weak{st:Stmt}(h:PS X st t)(k:∀D σ H,t' D σ H->t D σ H):PS X st t':=λf8 s σ H D I w=>h f8 s σ H D I (k D σ H w)
def PSs.weak{st:List Stmt}(h:PSs X st t)(k:∀D σ H,t' D σ H->t D σ H):PSs X st t':=λf8 s σ H D I w=>h f8 s σ H D I (k D σ H w)
section
variable{K:V9}{t0 acI F H F' H':Hp}{σ:St}{ρ:bb}
def StOk.foot(s:StOk K t0 acI F H σ ρ){i:Nat}{sl:Sl}{v:V}(h:ρ[i]? =some (some sl))(hv:σ[i]? =some (some v)):DenO K F H sl v:=by
 obtain⟨u,h1,h2⟩:=s.st.den i sl h;rw[hv] at h1;cases h1;exact h2
def StOk.ext'(s:StOk K t0 acI F H σ ρ)(e:Ext F H F' H'):StOk K t0 acI F' H' σ ρ:=by
 have k:∀{i:Nat}{sl:Sl}{v:V},ρ[i]? =some (some sl)->σ[i]? =some (some v)->sl.foot H' v=sl.foot H v:=λh1 h2=>((s.foot h1 h2).ext' e).2;exact⟨s.ext.trans e,s.st.ext e,s.len,s.own,λi j sl mN v v' b h1 h2 h3 h4 h5 h6=>s.sep i j sl mN v v' b h1 h2 h3 h4 (k h1 h3▸h5) (k h2 h4▸h6)⟩
def StOk.put(s:StOk K t0 acI F H σ ρ){nsl:Sl}{nv:V}(hd:DenO K F' H' nsl nv)(ext:Ext t0 acI F' H')(ff:Same F F')(keep:∀(j:Nat) (sl:Sl) (v:V),j≠i->ρ[j]? =some (some sl)->σ[j]? =some (some v)->∀b∈sl.foot H v,H' b=H b/\F' b=none/\b∉nsl.foot H' nv)
 (new:∀c b,nsl= .ow c->nv= .ref b->acI b=none):StOk K t0 acI F' H' (σ.set i (some nv)) (ρ.set i (some nsl)):=by
 have hl:=s.len;have get:∀(j:Nat) (sl:Sl),(ρ.set i (some nsl))[j]? =some (some sl)->(j=i/\i<ρ.length/\sl=nsl)\/(j≠i/\ρ[j]? =some (some sl)):=λj sl e=>by
  by_cases hj:j=i
  ·subst hj;have hi:j<ρ.length:=by
    have:=(We.mp e).1;simpa using this
   rw[WQ hi] at e;cases e;exact .inl ⟨rfl,hi,rfl⟩
  ·rw[W0 (XR hj)] at e;exact .inr ⟨hj,e⟩
 have gv:∀(j:Nat) (v:V),(σ.set i (some nv))[j]? =some (some v)->(j=i/\v=nv)\/(j≠i/\σ[j]? =some (some v)):=λj v e=>by
  by_cases hj:j=i
  ·subst hj;have hi:j<σ.length:=by
    have:=(We.mp e).1;simpa using this
   rw[WQ hi] at e;cases e;exact .inl ⟨rfl,rfl⟩
  ·rw[W0 (XR hj)] at e;exact .inr ⟨hj,e⟩
 have mv:∀{j:Nat}{sl:Sl}{v:V},j≠i->ρ[j]? =some (some sl)->σ[j]? =some (some v)->DenO K F' H' sl v/\sl.foot H' v=sl.foot H v:=λhj h1 h2=>
  (s.foot h1 h2).move ff (λb hb=>(keep _ _ _ hj h1 h2 b hb).1) λb hb=>(keep _ _ _ hj h1 h2 b hb).2.1
 refine⟨ext,⟨ext.fh,λj sl e=>?_⟩,by simp[hl],λj c b e e'=>?_,λj k sl mN v v' b e1 e2 e3 e4 hb wL=>?_⟩
 ·rcases get j sl e with⟨rfl,hi,rfl⟩ | ⟨hj,e⟩
  ·exact⟨nv,by rw[WQ (by omega)],hd⟩
  ·obtain⟨u,h1,_⟩:=s.st.den j sl e;exact⟨u,by rw[W0 (XR hj)];exact h1,(mv hj e h1).1⟩
 ·rcases get j _ e with⟨rfl,hi,r1⟩ | ⟨hj,g1⟩
  ·rcases gv j _ e' with⟨_,r2⟩ | ⟨z,_⟩
   ·exact new c b r1.symm r2.symm
   ·exact acC rfl z
  ·rcases gv j _ e' with⟨z,_⟩ | ⟨_,g2⟩
   ·exact acC z hj
   ·exact s.own j c b g1 g2
 ·rcases get j sl e1 with⟨j1,_,r1⟩ | ⟨hj,g1⟩
  ·rcases get k mN e2 with⟨k1,_,_⟩ | ⟨hk,g2⟩
   ·rw[j1,k1]
   ·rcases gv k v' e4 with⟨z,_⟩ | ⟨_,g4⟩
    ·exact acC z hk
    ·rcases gv j v e3 with⟨_,r3⟩ | ⟨z,_⟩
     ·rw[r1,r3] at hb;exact acC hb (keep k mN v' hk g2 g4 b ((mv hk g2 g4).2▸wL)).2.2
     ·exact acC j1 z
  ·rcases gv j v e3 with⟨z,_⟩ | ⟨_,g3⟩
   ·exact acC z hj
   ·rcases get k mN e2 with⟨k1,_,r2⟩ | ⟨hk,g2⟩
    ·rcases gv k v' e4 with⟨_,r4⟩ | ⟨z,_⟩
     ·rw[r2,r4] at wL;exact acC wL (keep j sl v hj g1 g3 b ((mv hj g1 g3).2▸hb)).2.2
     ·exact acC k1 z
    ·rcases gv k v' e4 with⟨z,_⟩ | ⟨_,g4⟩
     ·exact acC z hk
     ·exact s.sep j k sl mN v v' b g1 g2 g3 g4 ((mv hj g1 g3).2▸hb) ((mv hk g2 g4).2▸wL)
def StOk.set(s:StOk K t0 acI F H σ ρ){d:D}(h:Den K F d v):StOk K t0 acI F H (σ.set i (some v)) (ρ.set i (some (.fz d))):=
 s.put (nsl:= .fz d) h s.ext (Same.refl _) (λj sl v hj h1 h2 b hb=>⟨rfl,((s.foot h1 h2).cell b hb).1,λq=>by cases q⟩) λc b hb=>by cases hb
def StOk.setNew(s:StOk K t0 acI F H σ ρ){o:HO}(n:H a=none)(h:DenC K F c₀ o):
 StOk K t0 acI F (upd H a o) (σ.set i (some (.ref a))) (ρ.set i (some (.ow c₀))):=by
 have e0:=Ext.free (o:=o) s.st.fh n;have nF:F a=none:=Same.free s.st.fh n;refine s.put (nsl:= .ow c₀) (nv:= .ref a) ⟨a,_,rfl,aH,nF,h⟩ (s.ext.trans e0) (Same.refl _) (λj sl v hj h1 h2 b hb=>?_) λc b _ hb=>?_
 ·obtain⟨q1,u,q2,_⟩:=(s.foot h1 h2).cell b hb;have gk:b≠a:=λz=>by rw[z,n] at q2;cases q2
  exact⟨az gk,q1,λq=>gk (Wo.mp q)⟩
 ·cases hb;exact Same.free s.ext.hh n
def set_same{α:Type}:∀{l:List α}{i:Nat}{x:α},l[i]? =some x->l.set i x=l
 |[],_,_,h=>by cases h
 |a::l,0,x,h=>by cases h;rfl
 |a::l,i+1,x,h=>by rw[Zi,set_same (i:=i) (by simpa using h)]
def StOk.chg(s:StOk K t0 acI F H σ ρ){c c₀:C}(hi:ρ[i]? =some (some (.ow c)))(ha:σ[i]? =some (some (.ref a)))(h:DenC K F c₀ o₀):
 StOk K t0 acI F (upd H a o₀) σ (ρ.set i (some (.ow c₀))):=by
 have h0:=s.own i c a hi ha;obtain⟨a',o,q2,q3,q4,q5⟩:=s.foot hi ha;cases q2;have fh:Same F (upd H a o₀):=λb o e=>by
  rw[az (λz=>by rw[z,q4] at e;cases e)];exact s.st.fh b o e
 have:=s.put (i:=i) (nsl:= .ow c₀) (nv:= .ref a) (H':=upd H a o₀) ⟨a,_,rfl,aH,q4,h⟩ ⟨λb o e=>by rw[az (λz=>by rw[z,h0] at e;cases e)];exact s.ext.hh b o e,s.ext.ff,fh,s.ext.new⟩ (Same.refl _) (λj sl v hj h1 h2 b hb=>by
  have gk:b≠a:=λz=>hj (s.sep j i sl (.ow c) v (.ref a) b h1 hi h2 ha hb (Wo.mpr z));exact⟨az gk,((s.foot h1 h2).cell b hb).1,λq=>gk (Wo.mp q)⟩) λc b _ hb=>by
  cases hb;exact h0
 rw[set_same ha] at this;exact this
def frz(i:Nat)(ρ:bb):bb:=match ρ[i]? with
 |some (some (.ow c))=>ρ.set i (some (.fz c.d))
 |_=>ρ
def StOk.frz(s:StOk K t0 acI F H σ ρ)(i:Nat)(obj:Addr->Obj):(∃a o,H a=some o/\DenC K F (ρ[i]?.elim (.lst []) λx=>x.elim (.lst []) λy=>match y with | .ow c=>c | _=> .lst []) o/\σ[i]? =some (some (.ref a))/\StOk K t0 acI (upd F a (jY (obj a) o)) (upd H a (jY (obj a) o)) σ (frz i ρ))\/frz i ρ=ρ:=by
 unfold L3.frz;split
 ·rename_i c₀ hi;have hle:=s.len;obtain⟨u,ha,a,o,rfl,q3,q4,S6⟩:=s.st.den i _ hi;refine .inl ⟨a,o,q3,by rw[hi];exact S6,ha,?_⟩;have h0:=s.own i _ a hi ha;have ff:Same F (upd F a (jY (obj a) o)):=λb o e=>by rw[az (λz=>by rw[z,q4] at e;cases e)];exact e
  have fh:Same (upd F a (jY (obj a) o)) (upd H a (jY (obj a) o)):=λb o e=>by
   by_cases z:b=a
   ·rw[z,aH] at e⊢;exact e
   ·rw[az z] at e⊢;exact s.st.fh b o e
  have:=s.put (i:=i) (nsl:= .fz c₀.d) (nv:= .ref a) (F':=upd F a (jY (obj a) o)) (H':=upd H a (jY (obj a) o)) (DenC.den S6 ff aH) ⟨λb u q=>by rw[az (λz=>by rw[z,h0] at q;cases q)];exact s.ext.hh b u q,s.ext.ff.trans ff,fh,λb hb=>by
   rcases s.ext.new b hb with q | q
   ·exact .inl (by rw[az (λz=>hb (by rw[z];exact h0))];exact q)
   ·exact .inr q⟩ ff (λj sl v hj h1 h2 b hb=>by
   have gk:b≠a:=λz=>hj (s.sep j i sl (.ow c₀) v (.ref a) b h1 hi h2 ha hb (Wo.mpr z));exact⟨az gk,by rw[az gk];exact((s.foot h1 h2).cell b hb).1,λq=>by cases q⟩) λc b hb=>by cases hb
  rw[set_same ha] at this;exact this
 ·exact .inr rfl
end
def join(F H:Hp):Hp:=λa=>match F a with
 |some o=>some o
 |none=>H a
def StOk.rebase{K:V9}{t0 acI F H:Hp}(s:StOk K t0 acI F H σ ρ):StOk K F (join F acI) F H σ ρ/\∀F' H',Ext F (join F acI) F' H'->Ext t0 acI F' H':=by
 have hj:Same (join F acI) H:=λb o e=>by
  unfold join at e;cases q:F b with
  |some u=>rw[q] at e;cases e;exact s.st.fh b _ q
  |none=>rw[q] at e;exact s.ext.hh b o e
 have h0:Same acI (join F acI):=λb o e=>by
  unfold join;cases q:F b with
  |some u=>
   have h1:=s.st.fh b u q;rw[s.ext.hh b o e] at h1;exact h1.symm
  |none=>exact e
 refine⟨⟨⟨hj,Same.refl _,s.st.fh,λ_ _=> .inl rfl⟩,s.st,s.len,λi c a e e'=>?_,s.sep⟩,λF' H' x=>⟨h0.trans x.hh,s.ext.ff.trans x.ff,x.fh,λa ha=>?_⟩⟩
 ·have h1:=s.own i c a e e';obtain⟨_,_,r1,_,q4,_⟩:=s.foot e e';cases r1;unfold join;rw[q4];exact h1
 ·have:join F acI a≠none:=by
   cases q:acI a with
   |none=>exact acC q ha
   |some o=>rw[h0 a o q];exact λz=>nomatch z
  rcases s.ext.new a ha with p | p
  ·rcases x.new a this with q | ⟨ts,q⟩
   ·exact .inl (q.trans p)
   ·cases z:acI a with
    |none=>exact acC z ha
    |some o=>
     rw[h0 a o z] at q;exact .inr ⟨ts,q⟩
  ·exact .inr p
def StOk.unbase{K:V9}{t0 acI F U F' H':Hp}(k:∀F' H',Ext F U F' H'->Ext t0 acI F' H')(s:StOk K F U F' H' σ ρ)(h:Same acI U):StOk K t0 acI F' H' σ ρ:=
 ⟨k _ _ s.ext,s.st,s.len,λi c a e e'=>Same.free h (s.own i c a e e'),s.sep⟩
def oC{K:V9}{t0 acI F H:Hp}(s:StOk K t0 acI F H σ ρ):Same acI (join F acI):=λb o e=>by
 unfold join;cases q:F b with
 |some u=>
  have h1:=s.st.fh b u q;rw[s.ext.hh b o e] at h1;exact h1.symm
 |none=>exact e
def Inv.refrz(I:Inv X f8 σ H s)(e:H a=some o)
 (ho:o'=o\/∃u,o'= .frz ((s.heap.get? a).getD {cls:= .none,data:= .fields #[]}) u/\((∃k,o= .dT k/\u= .dT k)\/∃k,o= .dK k/\u= .dK k)):Inv X f8 σ (upd H a o') s:=by
 rcases ho with rfl | ⟨u,rfl,hu⟩
 ·have:upd H a o'=H:=by
   funext b;by_cases z:b=a
   ·rw[z,aH,e]
   ·rw[az z]
  rw[this];exact I
 have UW:o=u:=by rcases hu with⟨k,h1,h2⟩ | ⟨k,h1,h2⟩<;>rw[h1,h2]
 subst UW;have nt:∀ts,o≠ .tup ts:=λts z=>by rcases hu with⟨k,h1,_⟩ | ⟨k,h1,_⟩<;>rw[h1] at z<;>cases z
 have nf:∀ob v,o≠ .frz ob v:=λob v z=>by rcases hu with⟨k,h1,_⟩ | ⟨k,h1,_⟩<;>rw[h1] at z<;>cases z
 have nb:∀p,o≠ .tbl p:=λp z=>by rcases hu with⟨k,h1,_⟩ | ⟨k,h1,_⟩<;>rw[h1] at z<;>cases z
 have no:∀p,o≠ .own p:=λp z=>by rcases hu with⟨k,h1,_⟩ | ⟨k,h1,_⟩<;>rw[h1] at z<;>cases z
 have ne:∀b,H b=none->b≠a:=λb hb z=>by rw[z,e] at hb;cases hb
 have hk:=I.hok a o e;have f_:=hk.lt;obtain⟨ob,LI⟩:∃ob,s.heap.get? a=some ob:=by
  rcases hu with⟨k,h1,_⟩ | ⟨k,h1,_⟩
  ·subst h1;obtain⟨_,_,_,_,ob,_,_,q,_⟩:=hk;exact⟨ob,q⟩
  ·subst h1;obtain⟨_,_,_,_,ob,_,_,q,_⟩:=hk;exact⟨ob,q⟩
 rw[LI];refine⟨I.ok,I.os,I.bare,⟨I.base.keep,I.base.slot,λb q h1 h2 h3=>?_,I.base.there,λb xs q=>?_,λb q1 v q=>?_,λb ps q=>?_⟩,I.loc,I.cell,?_,λx c q=>?_,λp hp=>?_,λb v q=>?_,I.len⟩
 ·have:=I.base.free b q h1 h2 h3;rw[az (ne b this)];exact this
 ·have:=I.base.tups b xs q;rw[az (λz=>by rw[z,e] at this;exact nt xs (WC this))];exact this
 ·have:=I.base.frzs b q1 v q;rw[az (λz=>by rw[z,e] at this;exact nf _ _ (WC this))];exact this
 ·obtain⟨m,this⟩:=I.base.tbls b ps q;exact⟨m,by rw[az (λz=>by rw[z,e] at this;exact nb _ (WC this))];exact this⟩
 ·rw[az (ne _ I.free)];exact I.free
 ·rw[az (ne _ (I.freeC x c q))];exact I.freeC x c q
 ·obtain⟨h1,h2,h3⟩:=I.pin p hp;exact⟨h1,by rw[az (ne _ h2)];exact h2,h3⟩
 ·have st:∀{c:Addr}{v:HO},ObjOk X.prog X.w H s.heap c v->ObjOk X.prog X.w (upd H a (.frz ob o)) s.heap c v:=λ{c v} k=>k.stay (λ_ _ _ q=>q)
   (λc' q=>by rw[az (λz=>by rw[z,e] at q;exact no _ (WC q))];exact q) λc' xs q=>by rw[az (λz=>by rw[z,e] at q;exact nt _ (WC q))];exact q
  by_cases z:b=a
  ·subst z;rw[show (some ob).getD _=ob from rfl,aH] at q;cases q;exact⟨LI,st hk⟩
  ·rw[az z] at q;exact st (I.hok b v q)
def aV(a b:DS):DS:=λρ=>a ρ>>=λo=>match o with | .nx ρ'=>b ρ' | .rt d=>aa (.rt d)
def dQ:DS:=λρ=>aa (.nx ρ)
def bM(δ:DE):DS:=λρ=>δ ρ>>=λd=>aa (.rt d)
def gP(δ:DE):DS:=λρ=>δ ρ>>=λ_=>aa (.nx ρ)
def bS(i:Nat)(δ:DE):DS:=λρ=>δ ρ>>=λd=>aa (.nx (ρ.set i (some (.fz d))))
def jK(c:DT)(a b:DS):DS:=λρ=>c ρ>>=λx=>if x then a ρ else b ρ
def C1(i:Nat)(a:DS):DS:=λρ=>a (frz i ρ)
def xY(i:Nat):DS:=λρ=>aa (.nx (ρ.set i (some (.ow (.lst [])))))
def Ek(ρ:bb)(i:Nat):Option (List D):=match ρ[i]? with
 |some (some (.ow (.lst ds)))=>some ds
 |_=>none
def vF{i:Nat}(h:Ek ρ i=some ds):ρ[i]? =some (some (.ow (.lst ds))):=by
 unfold Ek at h;split at h
 ·rename_i ds' e;cases h;exact e
 ·cases h
def n0(i:Nat)(δ:DE):DS:=λρ=>match Ek ρ i with
 |some ds=>δ ρ>>=λd=>if ds.length<lim then aa (.nx (ρ.set i (some (.ow (.lst (ds++[d])))))) else af
 |none=>af
def Hu(i:Nat)(δ:DE):DS:=λρ=>match Ek ρ i with
 |some ds=>δ ρ>>=λd=>lstM d>>=λes=>if ds.length+es.length<=lim then aa (.nx (ρ.set i (some (.ow (.lst (ds++es)))))) else af
 |none=>af
def forL(put:D->bb->Option bb)(body:DS):List D->DS
 |[],ρ=>aa (.nx ρ)
 |d::ds,ρ=>(match put d ρ with | none=>af | some ρ1=>body ρ1>>=λo=>match o with | .nx ρ2=>forL put body ds ρ2 | .rt v=>aa (.rt v))
def putN(i:Nat):D->bb->Option bb:=λd ρ=>some (ρ.set i (some (.fz d)))
def gc(put:D->bb->Option bb)(δi:DA)(body:DS):DS:=λρ=>δi ρ>>=λds=>forL put body ds ρ
section
variable{X:Cx}{Xw:Nat->Hp->Prop}{t0 acI:Hp}{st:Stmt}{W1:List Stmt}{τ τ':DS}{e:Expr}{δ:DE}{pos:Pos}
def bJ:PSDs X Xw [] dQ:=λt0 acI=>PSs.weak JR λD σ H ⟨F,ρ,s,w⟩=>w σ F H s
def ar(h1:qB X Xw st τ)(h2:PSDs X Xw W1 τ'):PSDs X Xw (st::W1) (aV τ τ'):=λt0 acI=>PSs.weak (sX (h1 t0 acI) (h2 t0 acI)) λD σ H ⟨F,ρ,s,w⟩=>by
 refine⟨F,ρ,s,?_⟩;unfold aV at w
 match τ ρ,w with
 |none,w=>exact w
 |some (.ok (.nx ρ')),w=>exact λσ' F' H' s'=>⟨F',ρ',s',w⟩
 |some (.ok (.rt d)),w=>exact w
 |some (.ex n),w=>exact w
def ax(h1:qB X Xw st τ):PSDs X Xw [st] τ:=λt0 acI=>qM (h1 t0 acI)
def fe{i:Nat}(h:qB X Xw st τ):qB X Xw st (C1 i τ):=λt0 acI f8 sh σ H D I ⟨F,ρ,s,w⟩=>by
 rcases s.frz i (λa=>(sh.heap.get? a).getD {cls:= .none,data:= .fields #[]}) with⟨a,o,ha,hc,hσ,s'⟩ | e
 ·refine h t0 acI f8 sh σ _ D (L3.Inv.refrz I ha ?_) ⟨_,_,s',w⟩;generalize (ρ[i]?.elim (C.lst []) λx=>x.elim (.lst []) λy=>match y with | .ow c=>c | _=> .lst [])=c at hc;cases c with
  |lst ds=>obtain⟨vs,rfl,_⟩:=hc;exact .inl rfl
  |dct ks ds=>obtain⟨vs,rfl,_⟩:=hc;exact .inr ⟨_,rfl, .inl ⟨_,rfl,rfl⟩⟩
  |dci ks ds=>obtain⟨vs,rfl,_⟩:=hc;exact .inr ⟨_,rfl, .inr ⟨_,rfl,rfl⟩⟩
 ·exact h t0 acI f8 sh σ H D I ⟨F,ρ,s,by unfold C1 at w;rw[e] at w;exact w⟩
def aI(h:PD X Xw e δ):qB X Xw (.Return (some e) pos) (bM δ):=λt0 acI=>PS.weak (xN h) λD σ H ⟨F,ρ,s,w⟩=>by
 refine⟨F,ρ,s.st,?_⟩;unfold bM at w
 match δ ρ,w with
 |none,w=>exact w
 |some (.ok d),w=>exact λv H' F' e' q=>w v F' H' (s.ext.trans e') q
 |some (.ex n),w=>exact λF' H' e'=>w F' H' (s.ext.trans e')
def b9(h:PD X Xw e δ)(hs:Yn e none pos.line X.env=pure false:=by rfl):qB X Xw (.Expr e pos) (gP δ):=λt0 acI=>PS.weak (ju h hs) λD σ H ⟨F,ρ,s,w⟩=>by
 refine⟨F,ρ,s.st,?_⟩;unfold gP at w
 match δ ρ,w with
 |none,w=>exact w
 |some (.ok d),w=>exact λv H' F' e' q=>w σ F' H' (s.ext' e')
 |some (.ex n),w=>exact λF' H' e'=>w F' H' (s.ext.trans e')
def aZ{x:Str}(hN:X.N.Nodup)(hi:X.N[i]? =some x)(hx:Loc X.env.scope x)(he:PD X Xw e δ)(hf:X.fn x=true\/X.env.scope.names.lookup x=some .local:=by first | exact .inl rfl | exact .inr rfl)
 (hs:aas [.Name x pos'] e pos.line X.env=pure false:=by rfl):
 qB X Xw (.Assign [.Name x pos'] e pos) (bS i δ):=λt0 acI=>PS.weak (sW he (bI hN hi hx hf) hs) λD σ H ⟨F,ρ,s,w⟩=>by
 refine⟨F,ρ,s.st,?_⟩;unfold bS at w
 match δ ρ,w with
 |none,w=>exact w
 |some (.ok d),w=>exact λv H' F' e' q=>w _ F' H' ((s.ext' e').set q)
 |some (.ex n),w=>exact λF' H' e'=>w F' H' (s.ext.trans e')
def kG(hN:X.N.Nodup)(Q5:X.N[i]? =some x)(hx:Loc X.env.scope x)
 (sc:CompSc X scope tn)(hn:tn.length=max n 1)(hc:X.calm=true)(hi:yz X Xw tg iter δi)
 (hg:∀f8 cl C fp v0 H σ,E5 (lH X scope tn f8 cl C fp v0 H) tg n σ)
 (ht:∀f8 cl C fp v0 H,og (lH X scope tn f8 cl C fp v0 H) ifs δt)
 (he:∀f8 cl C fp v0 H,PD (lH X scope tn f8 cl C fp v0 H) (λ_ _=>False) elt δe)
 (hf:X.fn x=true\/X.env.scope.names.lookup x=some .local:=by first | exact .inl rfl | exact .inr rfl)
 (U1:Yn (.ListComp elt [⟨tg,iter,ifs,0⟩] scope aY) (some (.Name x pos')) pos.line X.env=pure true:=by rfl)
 (hs:∀x,Y3 iter X.env x=pure x:=by intro _;rfl):
 qB X Xw (.Assign [.Name x pos'] (.ListComp elt [⟨tg,iter,ifs,0⟩] scope aY) pos) (bS i (cn n δi δt δe)):=λt0 acI f8 s σ H D I ⟨F,ρ,S,w⟩=>by
 obtain⟨cl,FR,Fh,MS⟩:=rb λy hy hf=>I.ok.has y.1 (sc.frees y hy hf);have w':WP X.K Xw F H (cn n δi δt δe ρ) (λv H'=>D.nx (σ.set i (some v)) H'):=by
  have w:WPS X.K Xw t0 acI (cn n δi δt δe ρ>>=λd=>aa (.nx (ρ.set i (some (.fz d))))) D:=w
  match cn n δi δt δe ρ,w with
  |none,w=>exact w
  |some (.ok d),w=>exact λv H' F' e' q=>w _ F' H' ((S.ext' e').set q)
  |some (.ex n),w=>exact λF' H' e'=>w F' H' (S.ext.trans e')
 rw[exec_Assign_Name_used _ _ _ _ U1];refine V2 (wpAny_standAt (V2 ?_));show wpAny _ X.A (do let _<-comprehension (.ListComp elt [⟨tg,iter,ifs,0⟩] scope aY) scope X.env _ (newList []) false (eval iter X.env) (some (assign (.Name x pos') X.env))) _ _ s;refine V2 (Xl (abY rfl hs FR sc.kind sc.names
  (yK sc hn hc hi hg ht he I S.st w' Fh MS λs1 C D' H' I1 q b=>?_)) (λ_ s' hq=>V_ (V_ hq)) λ_ _ e=>e)
 show wpAny _ X.A (assign (.Name x pos') X.env (.ref D')) _ _ _;refine aaQ (v9 I1 hN Q5 hx (v:= .ref D') rfl (λs2 I2 ⟨a,sb,ha⟩=>?_) hf);have T8:C≠a:=by
  rcases ha with z | z
  ·rw[z];exact b.nl
  ·exact XR (b.nc x a z)
 obtain⟨m,hm⟩:=b.ns;have N8:s2.heap.Ns C m:=hm.sameBut sb T8;refine⟨m,N8,λh' Of=>⟨_,H',Inv.block I2 ⟨⟨m,N8⟩,b.free,b.nl,b.nw,b.nc,b.np⟩ Of,q⟩⟩
def cu{a b:List Stmt}(hc:qA X Xw c tc)(ha:PSDs X Xw a τ)(hb:PSDs X Xw b τ'):qB X Xw (.If c a b pos) (jK tc τ τ'):=λt0 acI=>PS.weak (K3 hc (ha t0 acI) (hb t0 acI)) λD σ H ⟨F,ρ,s,w⟩=>by
 refine⟨F,ρ,s.st,?_⟩;unfold jK at w
 match tc ρ,w with
 |none,w=>exact w
 |some (.ok true),w=>exact λH' F' e'=>⟨F',ρ,s.ext' e',w⟩
 |some (.ok false),w=>exact λH' F' e'=>⟨F',ρ,s.ext' e',w⟩
 |some (.ex n),w=>exact λF' H' e'=>w F' H' (s.ext.trans e')
def jw{pos' xM:Pos}(hN:X.N.Nodup)(hi:X.N[i]? =some x)(hx:Loc X.env.scope x)(hf:X.fn x=true\/X.env.scope.names.lookup x=some .local:=by first | exact .inl rfl | exact .inr rfl):
 qB X Xw (.Assign [.Name x pos'] (.List [] xM) pos) (xY i):=λt0 acI=>PS.weak (sW (xK oO) (bI hN hi hx hf) rfl) λD σ H ⟨F,ρ,s,w⟩=>by
 refine⟨W8 _,λp hp=>?_⟩;exact w _ F _ (s.setNew hp ⟨[],rfl,rfl,W8 _⟩)
def E4(K:V9)(g:TG)(put:D->bb->Option bb):Prop:=∀(t0 acI F H:Hp) (σ:St) (ρ ρ':bb) (d:D) (v:V) (Q:St->Hp->Prop),StOk K t0 acI F H σ ρ->Den K F d v->put d ρ=some ρ'->
 (∀σ',StOk K t0 acI F H σ' ρ'->Q σ' H)->g v σ H Q
def c9{K:V9}{i:Nat}:E4 K (Cu i) (putN i):=λt0 acI F H σ ρ ρ' d v Q s q e k=>by
 cases e;exact k _ (s.set q)
def VA(K:V9)(Xw:Nat->Hp->Prop)(τ:DS):TS:=λD σ H=>∃t0 acI,tS K Xw t0 acI τ D σ H
def PSDs.ex{body:List Stmt}(h:PSDs X Xw body τ):PSs X body (VA X.K Xw τ):=λf8 s σ H D I ⟨t0,acI,w⟩=>h t0 acI f8 s σ H D I w
def dB{tg iter:Expr}{body:List Stmt}(hp:aby (model X.prog X.w) X.A X.env X.xe)(hc:X.calm=true)(hi:yz X Xw tg iter δi)(hg:PG X tg g)(LK:E4 X.K g put)(hb:PSDs X Xw body τ)
 (hs:∀x,Y3 iter X.env x=pure x:=by intro _;rfl):qB X Xw (.For tg iter body [] pos) (gc put δi τ):=λt0 acI=>PS.weak (He hp hc hi hg hb.ex hs) λD σ H ⟨F,ρ,s,w⟩=>by
 refine⟨F,ρ,s.st,?_⟩;unfold gc at w
 match δi ρ,w with
 |none,w=>exact w
 |some (.ex n),w=>exact λF' H' e'=>w F' H' (s.ext.trans e')
 |some (.ok ds),w=>
  have w:WPS X.K Xw t0 acI (forL put τ ds ρ) D:=w;intro J H1 F1 e1 Oz;obtain⟨s1,back⟩:=(s.ext' e1).rebase;have hU:=oC (s.ext' e1);generalize join F1 acI=U at s1 back hU;refine⟨λi m σ H=>m=ds.length - i/\i<=ds.length/\∃F ρ,StOk X.K F1 U F H σ ρ/\WPS X.K Xw t0 acI (forL put τ (ds.drop i) ρ) D,⟨ds.length,by simp,W8 _,F1,ρ,s1,by simpa using w⟩,?_⟩;rintro i m σ2 H2 ⟨rfl,N0,F2,ρ2,s2,w2⟩;by_cases f_:i<ds.length
  ·obtain⟨d,hd⟩:∃d,ds[i]? =some d:=⟨_,V5 f_⟩
   obtain⟨NX,FY⟩:=(Oz F2 H2 i s2.ext.ff s2.st.fh).1 d hd;have ed:ds.drop i=d::ds.drop (i+1):=by
    obtain⟨hi,e⟩:=We.mp hd;rw[Zk hi,e]
   rw[ed] at w2;unfold forL at w2;refine .inr ⟨NX,λσ' H'=>∃F' ρ',StOk X.K F1 U F' H' σ' ρ'/\WPS X.K Xw t0 acI (forL put τ (ds.drop (i+1)) ρ') D,λσ' H' ⟨F',ρ',h2,h3⟩=>⟨ds.length - (i+1),by omega,rfl,f_,F',ρ',h2,h3⟩,λx H3 y3=>?_⟩;obtain⟨F3,EY,q3⟩:=FY x H3 y3
   match Rp:put d ρ2,w2 with
   |none,w2=>exact w2.elim
   |some ρ3,w2=>
    refine LK F1 U F3 H3 σ2 ρ2 ρ3 d x _ (s2.ext' EY) q3 Rp λσ3 s3=>⟨F1,U,F3,ρ3,s3,?_⟩
    have w2:WPS X.K Xw t0 acI (τ ρ3>>=λo=>match o with | .nx ρ2=>forL put τ (ds.drop (i+1)) ρ2 | .rt v=>aa (.rt v)) D:=w2
    match τ ρ3,w2 with
    |none,w2=>exact w2
    |some (.ok (.nx ρ')),w2=>exact λσ' F' H' s'=>⟨F',ρ',s',w2⟩
    |some (.ok (.rt d)),w2=>exact λv F' H' e q=>w2 v F' H' (back _ _ e) q
    |some (.ex n),w2=>exact λF' H' e=>w2 F' H' (back _ _ e)
  ·have hi:i=ds.length:=by omega
   subst hi;rw[aap] at w2;exact .inl ⟨(Oz F2 H2 ds.length s2.ext.ff s2.st.fh).2 (Wj _),w2 σ2 F2 H2 (s2.unbase back hU)⟩
end
def gI(f:Int->Int->D):D->D->M D
 | .int i, .int j=>aa (f i j)
 |_,_=>af
def NG(c:Int->Int->Bool)(f:Int->Int->D):D->D->M D
 | .int i, .int j=>if c i j then aa (f i j) else af
 |_,_=>af
def vD{K:V9}{gd:Int->Int->D}(h:∀F i j,Den K F (gd i j) (gv i j)):As K (BJ gv) (gI gd):=λXw F H x y dx dy Q s hx hy w=>by
 unfold gI at w;split at w
 ·rename_i i j;exact⟨i,j,hx,hy,WP.now w s (h F i j)⟩
 ·exact w.elim
def Bx{K:V9}{C:Int->Int->Prop}(h:∀F i j,Den K F (gd i j) (gv i j))(hc:∀i j,c i j=true->C i j):As K (rI C gv) (NG c gd):=λXw F H x y dx dy Q s hx hy w=>by
 unfold NG at w;split at w
 ·rename_i i j;split at w
  ·rename_i PR;exact⟨i,j,hx,hy,hc i j PR,WP.now w s (h F i j)⟩
  ·exact w.elim
 ·exact w.elim
def cp:=gI λi j=> .int (i+j)
def jO:=gI λi j=> .int (i - j)
def ir:=NG (λi j=>decide ((-(2 ^ 64)<i/\i<2 ^ 64)\/(-(2 ^ 64)<j/\j<2 ^ 64))) λi j=> .int (i*j)
def um:=NG (λ_ j=>decide (0<j/\j<1073741824)) λi j=> .int (i / j)
def m8:=NG (λ_ j=>decide (0<j)) λi j=> .int (i % j)
def FH:=gI λi j=> .bl (decide (i<j))
def QK:=gI λi j=> .bl (decide (j<i))
def PL:=gI λi j=> .bl (decide (j<=i))
section
variable{X:Cx}{Xw:Nat->Hp->Prop}{a b:Expr}{δa δb:DE}{pos:Pos}
def bV(ha:PD X Xw a δa)(hb:PD X Xw b δb):PD X Xw (.BinOp a .Add b pos) (d2 cp δa δb):=vK L7 (vD λ_ _ _=>rfl) ha hb
def kE(ha:PD X Xw a δa)(hb:PD X Xw b δb):PD X Xw (.BinOp a .Sub b pos) (d2 jO δa δb):=vK Ma (vD λ_ _ _=>rfl) ha hb
def js(ha:PD X Xw a δa)(hb:PD X Xw b δb):PD X Xw (.BinOp a .Mult b pos) (d2 ir δa δb):=vK L_ (Bx (λ_ _ _=>rfl) λi j h=>by unfold CMul;exact acF h) ha hb
def xF(ha:PD X Xw a δa)(hb:PD X Xw b δb):PD X Xw (.BinOp a .FloorDiv b pos) (d2 um δa δb):=vK Jp (Bx (λ_ _ _=>rfl) λi j h=>by unfold Nb;exact acF h) ha hb
def oR(ha:PD X Xw a δa)(hb:PD X Xw b δb):PD X Xw (.BinOp a .Mod b pos) (d2 m8 δa δb):=vK L9 (Bx (λ_ _ _=>rfl) λi j h=>acF h) ha hb
def Hh(ha:PD X Xw a δa)(hb:PD X Xw b δb):qA X Xw (.Compare a [.Lt] [b] pos) (da (d2 FH δa δb)):=gp GS (vD λ_ _ _=>rfl) ha hb
def eC:D->D->M D
 | .lst ds, .int i=>match atI ds i with | some d=>aa d | none=>af
 |_,_=>af
def bO:D->D->M D
 | .tup ds, .int i=>match atI ds i with | some d=>aa d | none=>af
 |_,_=>af
def FF:D->D->M D
 | .scr ns, .int i=>match atI ns i with | some n=>aa (.int n) | none=>af
 |_,_=>af
def ro:D->D->M D
 | .str x, .int i=>match atI x.cps.toList i with | some c=>aa (.str ⟨#[c]⟩) | none=>af
 |_,_=>af
def DenL.atI{K:V9}(h:DenL K F ds vs){d:D}(e:L2.atI ds i=some d):∃v,L2.atI vs i=some v/\Den K F d v:=by
 unfold L2.atI at e⊢;rw[<-h.len];cases q:Gg ds.length i with
 |none=>rw[q] at e;cases e
 |some j=>
  rw[q] at e;exact h.get e
def Jr{K:V9}:As K (JY K) eC:=λXw F H x y dx dy Q s hx hy w=>by
 unfold eC at w;split at w
 ·rename_i ds i;obtain⟨a,vs,h1,h2,h3,h4⟩:=hx;split at w
  ·rename_i d e;obtain⟨v,e1,q⟩:=h3.atI e;exact⟨a,vs,i,v,h1,hy,SqL.of (s _ _ h2),e1,WP.now w s q⟩
  ·exact w.elim
 ·exact w.elim
def Ju{K:V9}:As K (O9 K) bO:=λXw F H x y dx dy Q s hx hy w=>by
 unfold bO at w;split at w
 ·rename_i ds i;obtain⟨a,vs,h1,h2,h3,h4⟩:=hx;split at w
  ·rename_i d e;obtain⟨v,e1,q⟩:=h3.atI e;exact⟨a,vs,i,v,h1,hy,SqT.of (s _ _ h2),e1,WP.now w s q⟩
  ·exact w.elim
 ·exact w.elim
def Js{K:V9}:As K (JY K) FF:=λXw F H x y dx dy Q s hx hy w=>by
 unfold FF at w;split at w
 ·rename_i ns i;obtain⟨a,h1,h2,h3⟩:=hx;split at w
  ·rename_i n e;refine⟨a,_,i, .int n,h1,hy,Same.seq s h2,?_,WP.now w s rfl⟩;unfold L2.atI at e⊢;rw[V4];cases q:Gg ns.length i with
   |none=>rw[q] at e;cases e
   |some j=>
    rw[q] at e;have e:ns[j]? =some n:=e;show (ns.map V.int)[j]? =some (.int n);rw[Wb,e];rfl
  ·exact w.elim
 ·exact w.elim
def Jt{K:V9}:As K O8 ro:=λXw F H x y dx dy Q s hx hy w=>by
 unfold ro at w;split at w
 ·rename_i z i;obtain⟨h1,h2⟩:=hx;split at w
  ·rename_i c e;exact⟨z,i,c,h1,hy,by have:=eZ;omega,e,WP.now w s ⟨rfl,by show 1<=lim;decide⟩⟩
  ·exact w.elim
 ·exact w.elim
def iw(ha:PD X Xw a δa)(hb:PD X Xw b δb)(hs:jc b:=by intro _ _;rfl):PD X Xw (.Subscript a b pos) (d2 eC δa δb):=CL wY Jr ha hb hs
def Md(ha:PD X Xw a δa)(hb:PD X Xw b δb)(hs:jc b:=by intro _ _;rfl):PD X Xw (.Subscript a b pos) (d2 FF δa δb):=CL wY Js ha hb hs
def b8(ha:PD X Xw a δa)(hb:PD X Xw b δb)(hs:jc b:=by intro _ _;rfl):PD X Xw (.Subscript a b pos) (d2 bO δa δb):=CL LV Ju ha hb hs
def BB(ha:PD X Xw a δa)(hb:PD X Xw b δb)(hs:jc b:=by intro _ _;rfl):PD X Xw (.Subscript a b pos) (d2 ro δa δb):=CL LU Jt ha hb hs
def k8(x y:Str):(x++y).length=x.length+y.length:=by
 show (x.cps++y.cps).size=_;simp[Str.length]
end
end L3
namespace L3
open PySem PySem.Spec L2 SeqAt
open PyProof.Rows hiding St
def yS(f:D->D->Option Bool):List D->List D->Option Bool
 |[],[]=>some true
 |x::xs,y::ys=>match f x y,yS f xs ys with
  |some b,some r=>some (b&&r)
  |_,_=>none
 |[],_::_=>some false
 |_::_,[]=>some false
def AN:D->D->Option Bool
 | .non, .non=>some true
 | .bl a, .bl b=>some (a==b)
 | .bl a, .int j=>some ((if a then 1 else 0)==j)
 | .int i, .bl b=>some (i==(if b then 1 else 0))
 | .int i, .int j=>some (i==j)
 | .str x, .str y=>some (x==y)
 | .non, .bl _=>some false
 | .non, .int _=>some false
 | .non, .str _=>some false
 | .non, .lst _=>some false
 | .non, .tup _=>some false
 | .bl _, .non=>some false
 | .bl _, .str _=>some false
 | .bl _, .lst _=>some false
 | .bl _, .tup _=>some false
 | .int _, .non=>some false
 | .int _, .str _=>some false
 | .int _, .lst _=>some false
 | .int _, .tup _=>some false
 | .str _, .non=>some false
 | .str _, .bl _=>some false
 | .str _, .int _=>some false
 | .str _, .lst _=>some false
 | .str _, .tup _=>some false
 | .lst _, .non=>some false
 | .lst _, .bl _=>some false
 | .lst _, .int _=>some false
 | .lst _, .str _=>some false
 | .lst _, .tup _=>some false
 | .tup _, .non=>some false
 | .tup _, .bl _=>some false
 | .tup _, .int _=>some false
 | .tup _, .str _=>some false
 | .tup _, .lst _=>some false
 |_,_=>none
def u4:Nat->D->D->Option Bool
 |n+1, .tup xs, .tup ys=>yS (u4 n) xs ys
 |n+1, .lst xs, .lst ys=>yS (u4 n) xs ys
 |n+1, .scr xs, .lst ys=>yS (u4 n) (xs.map D.int) ys
 |_,x,y=>AN x y
structure EqAll (A:Xa) (s:Wa) (u v:Value) (b:Bool):Prop where
 rc:RcAt A s u v b
 ne:RcNeAt A s u v (!b)
 eq:EqAt A s u v b
section
variable{X:Cx}{f8:List (Addr×Obj)}{σ:St}{F H:Hp}{s:Wa}{A:Xa}
def yi(I:Inv X f8 σ H s)(hs:Same F H)(h:Den X.K F (.tup ds) v)(r:RelV v u):∃a vs aR,u= .ref a/\v= .ref a/\F a=some (.tup vs)/\DenL X.K F ds vs/\Vals vs aR/\s.heap.IsTuple a aR.toArray:=by
 obtain⟨a,vs,rfl,h2,h3,h4⟩:=h;obtain⟨aR,r1,p1,_⟩:=I.tuple (SqT.of (hs _ _ h2));exact⟨a,vs,aR,r,rfl,h2,h3,r1,p1⟩
def rN(I:Inv X f8 σ H s)(hs:Same F H)(h:Den X.K F (.lst ds) v)(r:RelV v u):∃a vs aR,u= .ref a/\v= .ref a/\F a=some (.lst vs)/\DenL X.K F ds vs/\Vals vs aR/\s.heap.IsList a aR.toArray:=by
 obtain⟨a,vs,rfl,h2,h3,h4⟩:=h;obtain⟨aR,r1,p1,_⟩:=I.list (SqL.of (hs _ _ h2));exact⟨a,vs,aR,r,rfl,h2,h3,r1,p1.isList⟩
def MC(I:Inv X f8 σ H s)(hs:Same F H)(h:Den X.K F (.scr ns) v)(r:RelV v u):∃a aR,u= .ref a/\v= .ref a/\SqL X.K F a (ns.map V.int)/\Vals (ns.map V.int) aR/\s.heap.IsList a aR.toArray:=by
 obtain⟨a,rfl,h2,h3⟩:=h;obtain⟨aR,r1,p1,_⟩:=I.list (Same.seq hs h2);exact⟨a,aR,r,rfl,h2,r1,p1.isList⟩
def yU(I:Inv X f8 σ H s)(hs:Same F H)(hu:A.units<cLine)(hx:Den X.K F x v)(hy:Den X.K F y w)(rx:RelV v u)(ry:RelV w t)(e:AN x y=some b):EqAll A s u t b:=by
 cases x<;>cases y<;>cases e<;>(first | (cases (show _=V.non from hx);cases rx) | (cases (show _=V.bl _ from hx);cases rx) | (cases (show _=V.int _ from hx);obtain⟨_,rfl⟩:=rx) | (cases (show _=V.str _ from hx.1);obtain⟨_,rfl⟩:=rx) | (have q:=yi I hs hx rx;obtain⟨_,_,_,rfl,_,_,_,_,p1⟩:=q) | (have q:=rN I hs hx rx;obtain⟨_,_,_,rfl,_,_,_,_,p1⟩:=q))<;>(first | (cases (show _=V.non from hy);cases ry) | (cases (show _=V.bl _ from hy);cases ry) | (cases (show _=V.int _ from hy);obtain⟨_,rfl⟩:=ry) | (cases (show _=V.str _ from hy.1);obtain⟨_,rfl⟩:=ry) | (have q:=yi I hs hy ry;obtain⟨_,_,_,rfl,_,_,_,_,p2⟩:=q) | (have q:=rN I hs hy ry;obtain⟨_,_,_,rfl,_,_,_,_,p2⟩:=q))
 ·exact⟨RcAt.none_none,RcNeAt.none_none,EqAt.same _⟩
 ·exact⟨RcAt.none_bool _,RcNeAt.none_bool _,EqAt.none_bool _⟩
 ·exact⟨RcAt.none_int _ _,RcNeAt.none_int _ _,EqAt.none_int _ _⟩
 ·exact⟨RcAt.none_str _ _,RcNeAt.none_str _ _,EqAt.none_str _ _⟩
 ·exact⟨RcAt.none_tuple p2 hu,RcNeAt.none_tuple p2 hu,EqAt.none_tuple p2 hu⟩
 ·exact⟨RcAt.none_list p2 hu,RcNeAt.none_list p2 hu,EqAt.none_list p2 hu⟩
 ·exact⟨RcAt.bool_none _,RcNeAt.bool_none _,EqAt.bool_none _⟩
 ·exact⟨RcAt.bool_bool _ _,RcNeAt.bool_bool _ _,EqAt.bool_bool _ _⟩
 ·exact⟨RcAt.bool_int _ _ _,RcNeAt.bool_int _ _ _,EqAt.bool_int _ _ _⟩
 ·exact⟨RcAt.bool_str _ _ _,RcNeAt.bool_str _ _ _,EqAt.bool_str _ _ _⟩
 ·exact⟨RcAt.bool_tuple _ p2 hu,RcNeAt.bool_tuple _ p2 hu,EqAt.bool_tuple _ p2 hu⟩
 ·exact⟨RcAt.bool_list _ p2 hu,RcNeAt.bool_list _ p2 hu,EqAt.bool_list _ p2 hu⟩
 ·exact⟨RcAt.int_none _ _,RcNeAt.int_none _ _,EqAt.int_none _ _⟩
 ·exact⟨RcAt.int_bool _ _ _,RcNeAt.int_bool _ _ _,EqAt.int_bool _ _ _⟩
 ·exact⟨RcAt.int_int _ _ _ _,RcNeAt.int_int _ _ _ _,EqAt.int_int _ _ _ _⟩
 ·exact⟨RcAt.int_str _ _ _ _,RcNeAt.int_str _ _ _ _,EqAt.int_str _ _ _ _⟩
 ·exact⟨RcAt.int_tuple _ _ p2 hu,RcNeAt.int_tuple _ _ p2 hu,EqAt.int_tuple _ _ p2 hu⟩
 ·exact⟨RcAt.int_list _ _ p2 hu,RcNeAt.int_list _ _ p2 hu,EqAt.int_list _ _ p2 hu⟩
 ·exact⟨RcAt.str_none _ _,RcNeAt.str_none _ _,EqAt.str_none _ _⟩
 ·exact⟨RcAt.str_bool _ _ _,RcNeAt.str_bool _ _ _,EqAt.str_bool _ _ _⟩
 ·exact⟨RcAt.str_int _ _ _ _,RcNeAt.str_int _ _ _ _,EqAt.str_int _ _ _ _⟩
 ·exact⟨RcAt.str_str _ _ _ _,RcNeAt.str_str _ _ _ _,EqAt.str_str _ _ _ _⟩
 ·exact⟨RcAt.str_tuple _ _ p2 hu,RcNeAt.str_tuple _ _ p2 hu,EqAt.str_tuple _ _ p2 hu⟩
 ·exact⟨RcAt.str_list _ _ p2 hu,RcNeAt.str_list _ _ p2 hu,EqAt.str_list _ _ p2 hu⟩
 ·exact⟨RcAt.tuple_none p1 hu,RcNeAt.tuple_none p1 hu,EqAt.tuple_none p1 hu⟩
 ·exact⟨RcAt.tuple_bool _ p1 hu,RcNeAt.tuple_bool _ p1 hu,EqAt.tuple_bool _ p1 hu⟩
 ·exact⟨RcAt.tuple_int _ _ p1 hu,RcNeAt.tuple_int _ _ p1 hu,EqAt.tuple_int _ _ p1 hu⟩
 ·exact⟨RcAt.tuple_str _ _ p1 hu,RcNeAt.tuple_str _ _ p1 hu,EqAt.tuple_str _ _ p1 hu⟩
 ·exact⟨RcAt.tuple_list p1 p2 hu,RcNeAt.tuple_list p1 p2 hu,EqAt.tuple_list p1 p2 hu⟩
 ·exact⟨RcAt.list_none p1 hu,RcNeAt.list_none p1 hu,EqAt.list_none p1 hu⟩
 ·exact⟨RcAt.list_bool _ p1 hu,RcNeAt.list_bool _ p1 hu,EqAt.list_bool _ p1 hu⟩
 ·exact⟨RcAt.list_int _ _ p1 hu,RcNeAt.list_int _ _ p1 hu,EqAt.list_int _ _ p1 hu⟩
 ·exact⟨RcAt.list_str _ _ p1 hu,RcNeAt.list_str _ _ p1 hu,EqAt.list_str _ _ p1 hu⟩
 ·exact⟨RcAt.list_tuple p1 p2 hu,RcNeAt.list_tuple p1 p2 hu,EqAt.list_tuple p1 p2 hu⟩
end
def ev(f:D->D->Option Bool)(xs ys:List D)(j:Nat):Bool:=match xs[j]?,ys[j]? with
 |some x,some y=>(f x y).getD false
 |_,_=>false
def yT:∀{xs ys:List D}{b:Bool},yS f xs ys=some b->∀(j:Nat) (x y:D),xs[j]? =some x->ys[j]? =some y->∃c,f x y=some c
 |[],_,_,_,_,_,_,h,_=>by simp at h
 |_::_,[],_,_,_,_,_,_,h=>by simp at h
 |x::xs,y::ys,b,e,j,x',y',hx,hy=>by
  unfold yS at e;split at e
  ·rename_i b1 r1 e1 e2;cases j with
   |zero=>simp at hx hy;subst hx hy;exact⟨_,e1⟩
   |succ j=>exact yT e2 j x' y' (by simpa using hx) (by simpa using hy)
  ·cases e
def wJ:∀{xs ys:List D}{b:Bool},yS f xs ys=some b->b=((Wy (min xs.length ys.length)).all (ev f xs ys)&&xs.length==ys.length)
 |[],[],_,e=>by cases e;rfl
 |[],_::_,_,e=>by cases e;simp
 |_::_,[],_,e=>by cases e;simp
 |x::xs,y::ys,b,e=>by
  unfold yS at e;split at e
  ·rename_i b1 r1 e1 e2;cases e;have h:=wJ e2;rw[V7,V7,Nat.succ_min_succ,YU,YO,YI];have e0:ev f (x::xs) (y::ys) 0=b1:=by unfold ev;simp[e1]
   have e3:(ev f (x::xs) (y::ys)∘Nat.succ)=ev f xs ys:=by funext j;simp[ev,aaJ]
   have e4:(xs.length+1==ys.length+1)=(xs.length==ys.length):=by simp
   rw[e0,e3,e4,h,Bool.and_assoc]
  ·cases e
section
variable{X:Cx}{f8:List (Addr×Obj)}{σ:St}{F H:Hp}{s:Wa}
def mZ(h:∀x y v b,Den X.K F x v->Den X.K F y v->f x y=some b->b=true):∀{xs ys:List D}{vs:List V}{b:Bool},DenL X.K F xs vs->DenL X.K F ys vs->yS f xs ys=some b->b=true
 |[],[],_,_,_,_,e=>by cases e;rfl
 |[],_::_,_,_,h1,h2,_=>by
  cases (show _=_ from h1);obtain⟨v,r,z,_⟩:=h2;cases z
 |_::_,[],_,_,h1,h2,_=>by
  cases (show _=_ from h2);obtain⟨v,r,z,_⟩:=h1;cases z
 |x::xs,y::ys,_,b,⟨v,r,e1,q1,q2⟩,⟨v',r',e2,q3,q4⟩,e=>by
  subst e1;cases e2;unfold yS at e;split at e
  ·rename_i b1 r1 f1 f2;cases e;rw[h x y v b1 q1 q3 f1,mZ h q2 q4 f2];rfl
  ·cases e
def u6(hx:Den X.K F x v)(hy:Den X.K F y v)(e:AN x y=some b):b=true:=by
 cases x<;>cases y<;>first
  |(cases e;done)
  |(cases e;cases (show _=_ from hx);cases (show _=_ from hy);first | rfl | simp)
  |(cases e;cases (show _=_ from hx.1);cases (show _=_ from hy.1);simp)
  |(cases e;cases (show _=_ from hx);cases (show _=_ from hy.1))
  |(cases e;cases (show _=_ from hx.1);cases (show _=_ from hy))
  |(cases e;obtain⟨_,_,z,_⟩:=hx;subst z;cases (show _=_ from hy);done)
  |(cases e;obtain⟨_,_,z,_⟩:=hx;subst z;cases (show _=_ from hy.1);done)
  |(cases e;obtain⟨_,z,_⟩:=hx;subst z;cases (show _=_ from hy);done)
  |(cases e;obtain⟨_,z,_⟩:=hx;subst z;cases (show _=_ from hy.1);done)
  |(cases e;obtain⟨_,_,z,_⟩:=hy;subst z;cases (show _=_ from hx);done)
  |(cases e;obtain⟨_,_,z,_⟩:=hy;subst z;cases (show _=_ from hx.1);done)
  |(cases e;obtain⟨_,z,_⟩:=hy;subst z;cases (show _=_ from hx);done)
  |(cases e;obtain⟨_,z,_⟩:=hy;subst z;cases (show _=_ from hx.1);done)
  |(cases e;obtain⟨_,_,z,h2,_⟩:=hx;obtain⟨_,_,z',PM,_⟩:=hy;subst z;cases z';rw[h2] at PM;cases PM;done)
  |(cases e;cases (show _=_ from hx);cases (show _=_ from hy);done)
  |(cases e;cases (show _=_ from hx.1);cases (show _=_ from hy.1);done)
def mY(I:Inv X f8 σ H s)(hs:Same F H):∀(n:Nat) (x y:D) (v:V) (b:Bool),Den X.K F x v->Den X.K F y v->u4 n x y=some b->b=true
 |0,x,y,v,b,hx,hy,e=>u6 hx hy (by unfold u4 at e;exact e)
 |n+1,x,y,v,b,hx,hy,e=>by
  unfold u4 at e;split at e
  ·rename_i xs ys _;obtain⟨a,vs,rfl,h2,h3,_⟩:=hx;obtain⟨a',vs',z,k2,k3,_⟩:=hy;cases z;rw[h2] at k2;cases k2;exact mZ (mY I hs _) h3 k3 (by simpa using e)
  ·rename_i xs ys _;obtain⟨a,vs,rfl,h2,h3,_⟩:=hx;obtain⟨a',vs',z,k2,k3,_⟩:=hy;cases z;rw[h2] at k2;cases k2;exact mZ (mY I hs _) h3 k3 (by simpa using e)
  ·rename_i xs ys _;obtain⟨a,rfl,h2,_⟩:=hx;obtain⟨a',vs',z,k2,k3,_⟩:=hy;cases z;have hv:=I.list_inj (Same.seq hs h2) (SqL.of (hs _ _ k2));rw[<-hv] at k3;exact mZ (mY I hs _) (DenL.ints xs) k3 (by simpa using e)
  ·exact u6 hx hy e
def Vals.at(r:Vals vs aR)(h:j<aR.toArray.size):∃v,vs[j]? =some v/\RelV v aR.toArray[j]:=by
 have hl:=r.length;have hj:j<vs.length:=by rw[Wi] at h;omega
 obtain⟨u,e1,e2⟩:=r.get (V5 hj);refine⟨vs[j],V5 hj,?_⟩;have:aR.toArray[j]=u:=by
  have:=(We.mp e1).2;simpa using this
 rw[this];exact e2
def qC(h1:DenL X.K F xs vs)(h2:DenL X.K F ys ws)(r1:Vals vs aR)(r2:Vals ws j0)(e:yS f xs ys=some b)
 (ih:∀x y v w u t c,Den X.K F x v->Den X.K F y w->RelV v u->RelV w t->f x y=some c->EqAt A s u t c):
 ∀j (k1:j<aR.toArray.size) (k2:j<j0.toArray.size),EqAt A s aR.toArray[j] j0.toArray[j] (ev f xs ys j):=λj k1 k2=>by
 obtain⟨v,e1,q1⟩:=Vals.at r1 k1;obtain⟨w,e2,q2⟩:=Vals.at r2 k2;obtain⟨x,e3,q3⟩:=h1.at e1;obtain⟨y,e4,q4⟩:=h2.at e2;obtain⟨c,hc⟩:=yT e j x y e3 e4;have:ev f xs ys j=c:=by unfold ev;rw[e3,e4];simp[hc]
 rw[this];exact ih x y v w _ _ c q3 q4 q1 q2 hc
def vq(hu:A.units<cLine)(h1:DenL X.K F xs vs)(h2:DenL X.K F ys ws)(r1:Vals vs aR)(r2:Vals ws j0)
 (p1:s.heap.IsList a aR.toArray)(p2:s.heap.IsList a' j0.toArray)(e:yS f xs ys=some b)(hr:a=a'->b=true)
 (ih:∀x y v w u t c,Den X.K F x v->Den X.K F y w->RelV v u->RelV w t->f x y=some c->EqAt A.in1 s u t c):EqAll A s (.ref a) (.ref a') b:=by
 have l1:=h1.len;have l2:=h2.len;have l3:=r1.length;have l4:=r2.length;have hv:=wJ e;have core:RcAt A s (.ref a) (.ref a') b/\RcNeAt A s (.ref a) (.ref a') (!b):=by
  by_cases hl:xs.length=ys.length
  ·have hsz:aR.toArray.size=j0.toArray.size:=by rw[Wi,Wi];omega
   have hb:b=(Wy aR.toArray.size).all (ev f xs ys):=by
    rw[hv,hl,Nat.min_self,beq_self_eq_true,abm];congr 2;rw[Wi];omega
   rw[hb];exact⟨RcAt.lists p1 p2 hsz hu (qC h1 h2 r1 r2 e ih),RcNeAt.lists p1 p2 hsz hu (qC h1 h2 r1 r2 e ih)⟩
  ·have hb:b=false:=by rw[hv,show (xs.length==ys.length)=false from by simpa using hl,Bool.and_false]
   have hsz:(aR.toArray.size !=j0.toArray.size)=true:=by
    rw[Wi,Wi];simp;omega
   rw[hb];exact⟨RcAt.lists_lengths p1 p2 hsz hu,RcNeAt.lists_lengths p1 p2 hsz hu⟩
 refine⟨core.1,core.2,?_⟩;by_cases hq:a=a'
 ·rw[hr hq];subst hq;exact EqAt.same _
 ·exact EqAt.of_refs hq core.1
def BY(hu:A.units<cLine)(h1:DenL X.K F xs vs)(h2:DenL X.K F ys ws)(r1:Vals vs aR)(r2:Vals ws j0)
 (p1:s.heap.IsTuple a aR.toArray)(p2:s.heap.IsTuple a' j0.toArray)(e:yS f xs ys=some b)(hr:a=a'->b=true)
 (ih:∀x y v w u t c,Den X.K F x v->Den X.K F y w->RelV v u->RelV w t->f x y=some c->EqAt A.in1 s u t c):EqAll A s (.ref a) (.ref a') b:=by
 have l1:=h1.len;have l2:=h2.len;have l3:=r1.length;have l4:=r2.length;have hb:b=((Wy (min aR.toArray.size j0.toArray.size)).all (ev f xs ys)&&aR.toArray.size==j0.toArray.size):=by
  rw[wJ e,Wi,Wi,<-l3,<-l4,<-l1,<-l2]
 have core:RcAt A s (.ref a) (.ref a') b/\RcNeAt A s (.ref a) (.ref a') (!b):=by
  rw[hb];exact⟨RcAt.tuples p1 p2 hu (qC h1 h2 r1 r2 e ih),RcNeAt.tuples p1 p2 hu (qC h1 h2 r1 r2 e ih)⟩
 refine⟨core.1,core.2,?_⟩;by_cases hq:a=a'
 ·rw[hr hq];subst hq;exact EqAt.same _
 ·exact EqAt.of_refs hq core.1
def AR(I:Inv X f8 σ H s)(hs:Same F H):∀(n:Nat) (A:Xa) (x y:D) (v w:V) (u t:Value) (b:Bool),A.units+n<cLine->Den X.K F x v->Den X.K F y w->RelV v u->RelV w t->u4 n x y=some b->EqAll A s u t b
 |0,A,x,y,v,w,u,t,b,hu,hx,hy,rx,ry,e=>yU I hs (by omega) hx hy rx ry (by unfold u4 at e;exact e)
 |n+1,A,x,y,v,w,u,t,b,hu,hx,hy,rx,ry,e=>by
  have P6:A.units<cLine:=by omega
  have U7:A.in1.units+n<cLine:=by show A.units+1+n<cLine;omega
  have hrefl:=mY I hs (n+1) x y;have ih:∀x y v w u t c,Den X.K F x v->Den X.K F y w->RelV v u->RelV w t->u4 n x y=some c->EqAt A.in1 s u t c:=λx y v w u t c q1 q2 q3 q4 q5=>(AR I hs n A.in1 x y v w u t c U7 q1 q2 q3 q4 q5).eq;have e0:=e;unfold u4 at e;split at e
  ·rename_i xs ys heq;cases heq;obtain⟨a,vs,aR,rfl,NB,h2,h3,r1,p1⟩:=yi I hs hx rx;obtain⟨a',vs',its',rfl,NC,k2,k3,O3,OS⟩:=yi I hs hy ry;exact BY P6 h3 k3 r1 O3 p1 OS e (λz=>by subst z;exact hrefl v b hx (by rw[NB,<-NC];exact hy) e0) ih
  ·rename_i xs ys heq;cases heq;obtain⟨a,vs,aR,rfl,NB,h2,h3,r1,p1⟩:=rN I hs hx rx;obtain⟨a',vs',its',rfl,NC,k2,k3,O3,OS⟩:=rN I hs hy ry;exact vq P6 h3 k3 r1 O3 p1 OS e (λz=>by subst z;exact hrefl v b hx (by rw[NB,<-NC];exact hy) e0) ih
  ·rename_i xs ys heq;cases heq;obtain⟨a,aR,rfl,NB,h2,r1,p1⟩:=MC I hs hx rx;obtain⟨a',vs',its',rfl,NC,k2,k3,O3,OS⟩:=rN I hs hy ry;exact vq P6 (DenL.ints _) k3 r1 O3 p1 OS e (λz=>by subst z;exact hrefl v b hx (by rw[NB,<-NC];exact hy) e0) ih
  ·exact yU I hs P6 hx hy rx ry e
end
def jZ(x y:D):M D:=match u4 6 x y with | some b=>aa (.bl b) | none=>af
def pe(x y:D):M D:=match u4 6 x y with | some b=>aa (.bl (!b)) | none=>af
def O5(K:V9):R2:=λx y H Q=>∃F dx dy b,Same F H/\Den K F dx x/\Den K F dy y/\u4 6 dx dy=some b/\Q (.bl b) H
def O_(K:V9):R2:=λx y H Q=>∃F dx dy b,Same F H/\Den K F dx x/\Den K F dy y/\u4 6 dx dy=some b/\Q (.bl (!b)) H
section
variable{X:Cx}{Xw:Nat->Hp->Prop}{a b:Expr}{δa δb:DE}{pos:Pos}
def GR(hu:X.A.units+64<cLine):OpR X (W7 .Eq) (O5 X.K):=by
 intro f8 s σ H x y v u Q I rx ry h;obtain⟨F,dx,dy,b,hs,hx,hy,e,q⟩:=h;exact(AR I hs 6 X.A dx dy x y v u b (by omega) hx hy rx ry e).rc _ _ _ _ ⟨.bl b,H,I,rfl,q⟩
def GU(hu:X.A.units+64<cLine):OpR X (W7 .NotEq) (O_ X.K):=by
 intro f8 s σ H x y v u Q I rx ry h;obtain⟨F,dx,dy,b,hs,hx,hy,e,q⟩:=h;exact(AR I hs 6 X.A dx dy x y v u b (by omega) hx hy rx ry e).ne _ _ _ _ ⟨.bl (!b),H,I,rfl,q⟩
def GV{K:V9}:As K (O5 K) jZ:=λXw F H x y dx dy Q s hx hy w=>by
 unfold jZ at w;split at w
 ·rename_i b e;exact⟨F,dx,dy,b,s,hx,hy,e,WP.now w s rfl⟩
 ·exact w.elim
def GW{K:V9}:As K (O_ K) pe:=λXw F H x y dx dy Q s hx hy w=>by
 unfold pe at w;split at w
 ·rename_i b e;exact⟨F,dx,dy,b,s,hx,hy,e,WP.now w s rfl⟩
 ·exact w.elim
def vN(hu:X.A.units+64<cLine)(ha:PD X Xw a δa)(hb:PD X Xw b δb):qA X Xw (.Compare a [.Eq] [b] pos) (da (d2 jZ δa δb)):=gp (GR hu) GV ha hb
def vO(hu:X.A.units+64<cLine)(ha:PD X Xw a δa)(hb:PD X Xw b δb):qA X Xw (.Compare a [.NotEq] [b] pos) (da (d2 pe δa δb)):=gp (GU hu) GW ha hb
def sN(hu:X.A.units+64<cLine)(ha:PD X Xw a δa)(hb:PD X Xw b δb):PD X Xw (.Compare a [.Eq] [b] pos) (d2 jZ δa δb):=xE (GR hu) GV ha hb
def OV(hu:X.A.units+64<cLine)(ha:PD X Xw a δa)(hb:PD X Xw b δb):PD X Xw (.Compare a [.NotEq] [b] pos) (d2 pe δa δb):=xE (GU hu) GW ha hb
end
def PDW(X:Cx)(Xw:Nat->Hp->Prop)(e:Expr)(δ:DT):Prop:=PW X e (R_ X.K Xw δ)
def PW.weak(h:PW X e t)(k:∀σ H Q,t' σ H Q->t σ H Q):PW X e t':=λwh f8 s σ H Q I w=>h wh f8 s σ H Q I (k σ H Q w)
section
variable{X:Cx}{Xw:Nat->Hp->Prop}{a b c:Expr}{W1:List Expr}{δa δb δc:DE}{τa τb:DT}{pos:Pos}
def ig(ha:qA X Xw a τa):PDW X Xw (.BoolOp .Or [a] pos) τa:=Mx ha
def kF(ha:qA X Xw a τa)(hb:PDW X Xw (.BoolOp .Or (b::W1) pos) τb):PDW X Xw (.BoolOp .Or (a::b::W1) pos) (oj τa τb):=PW.weak (O2 ha hb) λσ H Q ⟨F,ρ,s,w⟩=>by
 refine⟨F,ρ,s,WPB.mono (WPB.bindB w) λv H1 ⟨F1,e1,w1⟩=>?_⟩;cases v with
 |false=>exact⟨F1,ρ,s.ext e1,w1⟩
 |true=>exact w1 _ _ (Ext.refl e1.fh)
def PDW.t(h:PDW X Xw a τa):qA X Xw a τa:=PW.pt h
def dw(ha:qA X Xw a τa):qA X Xw (.UnaryOp .Not a pos) (dj τa):=PT.weak (Mv ha) λσ H Q ⟨F,ρ,s,w⟩=>
 ⟨F,ρ,s,WPB.mono (WPB.bindB w) λv H1 ⟨F1,e1,w1⟩=>w1 _ _ (Ext.refl e1.fh)⟩
def Ae:D->M Bool
 | .non=>aa false
 | .bl b=>aa b
 | .lst ds=>aa (!ds.isEmpty)
 | .tup ds=>aa (!ds.isEmpty)
 |_=>af
def cO(δ:DE):DT:=λρ=>δ ρ>>=Ae
def DenL.isEmpty{K:V9}(h:DenL K F ds vs):ds.isEmpty=vs.isEmpty:=by
 have:=h.len;cases ds<;>cases vs<;>simp_all
def dz(ha:PD X Xw a δa)(he:∀whole,isTrue a X.env whole=(do let v<-whole;aak a.pos;holding [v] (truthy v)):=by intro _;rfl):qA X Xw a (cO δa):=PT.weak (Hi ha he) λσ H Q ⟨F,ρ,s,w⟩=>by
 refine⟨F,ρ,s,WP.mono (WPB.bind (K:=X.K) w) λv H1 ⟨F1,d,e1,q1,w1⟩=>?_⟩;cases d with
 |non=>cases (show _=_ from q1);exact⟨false,rfl,w1 _ _ (Ext.refl e1.fh)⟩
 |bl b=>cases (show _=_ from q1);exact⟨b,rfl,w1 _ _ (Ext.refl e1.fh)⟩
 |lst ds=>
  obtain⟨a,vs,rfl,h2,h3,_⟩:=q1;exact⟨!ds.isEmpty, .inl ⟨vs,SqL.of (e1.fh _ _ h2),by rw[h3.isEmpty]⟩,w1 _ _ (Ext.refl e1.fh)⟩
 |tup ds=>
  obtain⟨a,vs,rfl,h2,h3,_⟩:=q1;exact⟨!ds.isEmpty, .inr (.inl ⟨vs,SqT.of (e1.fh _ _ h2),by rw[h3.isEmpty]⟩),w1 _ _ (Ext.refl e1.fh)⟩
 |_=>exact w1.elim
def sR(h:PD X Xw a δa):PD X Xw (.BoolOp op [a] pos) δa:=Mm h
def mG(ha:PD X Xw a δa)(hb:PD X Xw (.BoolOp .And (b::W1) pos) δb):PD X Xw (.BoolOp .And (a::b::W1) pos) (eI δa δb):=PE.weak (Mf ha hb) λσ H Q ⟨F,ρ,s,w⟩=>by
 refine⟨F,ρ,s,WP.mono (WP.bind w) λv H1 ⟨F1,d,e1,q1,w1⟩=>?_⟩;cases d with
 |bl k=>
  refine⟨k,q1,?_⟩;cases k with
  |true=>exact⟨F1,ρ,s.ext e1,w1⟩
  |false=>exact WP.now w1 e1.fh rfl
 |_=>exact w1.elim
def Me(ha:PD X Xw a δa):PD X Xw (.UnaryOp .Not a pos) (Ku δa):=PE.weak (Ml ha) λσ H Q ⟨F,ρ,s,w⟩=>by
 refine⟨F,ρ,s,WP.mono (WP.bind w) λv H1 ⟨F1,d,e1,q1,w1⟩=>?_⟩;cases d with
 |bl k=>exact⟨k,q1,WP.now w1 e1.fh rfl⟩
 |_=>exact w1.elim
def OU(hc:qA X Xw c τa)(ha:PD X Xw a δa)(hb:PD X Xw b δb):PD X Xw (.IfExp c a b pos) (Kt τa δa δb):=PE.weak (zO hc ha hb) λσ H Q ⟨F,ρ,s,w⟩=>by
 refine⟨F,ρ,s,WPB.mono (WP.bindB w) λv H1 ⟨F1,e1,w1⟩=>?_⟩;cases v with
 |true=>exact⟨F1,ρ,s.ext e1,w1⟩
 |false=>exact⟨F1,ρ,s.ext e1,w1⟩
def Av(p q:Int->Int->Bool)(a b c:DE):DE:=λρ=>a ρ>>=λx=>b ρ>>=λy=>match x,y with
 | .int i, .int j=>if p i j then c ρ>>=λz=>gI (λi j=> .bl (q i j)) y z else aa (.bl false)
 |_,_=>af
def v_{p q:Int->Int->Bool}:∀σ H Q,tD X.K Xw (Av p q δa δb δc) σ H Q->BX (BJ λi j=> .bl (p i j)) (BJ λi j=> .bl (q i j)) (tD X.K Xw δa) (tD X.K Xw δb) (tD X.K Xw δc) σ H Q:=λσ H Q ⟨F,ρ,s,w⟩=>by
 refine⟨F,ρ,s,WP.mono (WP.bind w) λv H1 ⟨F1,d,e1,q1,w1⟩=>?_⟩;refine⟨F1,ρ,s.ext e1,WP.mono (WP.bind w1) λu H2 ⟨F2,d',e2,q2,w2⟩=>?_⟩;cases d with
 |int i=>
  cases d' with
  |int j=>
   refine⟨i,j,q1,q2,p i j,rfl,?_⟩;have w2:WP X.K Xw F2 H2 (if p i j then δc ρ>>=λz=>gI (λi j=> .bl (q i j)) (.int j) z else aa (.bl false)) Q:=w2;cases hp:p i j with
   |false=>
    rw[hp] at w2;exact WP.now w2 e2.fh rfl
   |true=>
    rw[hp] at w2;refine⟨F2,ρ,(s.ext e1).ext e2,WP.mono (WP.bind w2) λu' H3 ⟨F3,TM,e3,q3,w3⟩=>?_⟩;exact vD (gd:=λi j=> .bl (q i j)) (λ_ _ _=>rfl) Xw F3 H3 u u' (.int j) TM Q e3.fh q2 q3 w3
  |_=>exact w2.elim
 |_=>exact w2.elim
def G1(ho:OpR X (W7 op) (BJ λi j=> .bl (p i j)))(u_:OpR X (W7 Ef) (BJ λi j=> .bl (q i j)))(ha:PD X Xw a δa)(hb:PD X Xw b δb)(hc:PD X Xw c δc)
 (hm:lastMarks [op,Ef] [b,c]=false:=by with_unfolding_all rfl):PD X Xw (.Compare a [op,Ef] [b,c] pos) (Av p q δa δb δc):=PE.weak (G8 ho u_ ha hb hc hm) v_
def BG(ho:OpR X (W7 op) (BJ λi j=> .bl (p i j)))(u_:OpR X (W7 Ef) (BJ λi j=> .bl (q i j)))(ha:PD X Xw a δa)(hb:PD X Xw b δb)(hc:PD X Xw c δc)
 (hm:lastMarks [op,Ef] [b,c]=false:=by with_unfolding_all rfl):qA X Xw (.Compare a [op,Ef] [b,c] pos) (da (Av p q δa δb δc)):=PT.weak (Hg ho u_ ha hb hc hm) λσ H Q ⟨F,ρ,s,w⟩=>by
 refine v_ σ H _ ⟨F,ρ,s,WP.mono (WPB.bind w) λv H1 ⟨F1,d,e1,q1,w1⟩=>?_⟩;cases d with
 |bl k=>exact⟨k,q1,w1 _ _ (Ext.refl e1.fh)⟩
 |_=>exact w1.elim
def yy(K:V9)(r:List V->Hp->VK->Prop)(g:List D->M D):Prop:=∀(Xw:Nat->Hp->Prop) (F H:Hp) (vs:List V) (ds:List D) (Q:VK),Same F H->DenL K F ds vs->WP K Xw F H (g ds) Q->r vs H Q
variable{x:Str}{p:Pos}{e:Expr}{es:List Expr}{δs:DA}{id T:String}{r:List V->Hp->VK->Prop}{g:List D->M D}
def HH(h:yy X.K r g):∀σ H Q,tD X.K Xw (dA g δs) σ H Q->R8 r (Tz X.K Xw δs) σ H Q:=λσ H Q ⟨F,ρ,s,w⟩=>
 ⟨F,ρ,s,WPL.mono (WP.bindL w) λvs H1 ⟨F1,ds,e1,q1,w1⟩=>h Xw F1 H1 vs ds Q e1.fh q1 w1⟩
def d5(hc:CallR X (.builtin id) r)(hd:yy X.K r g)(hg:Gl X x)(hm:X.mg x=none)(hv:WX x=some (.builtin id))(ha:lC X Xw (e::es) δs)(hn:x≠"__name__":=by decide)(rq:(x==("__debug__":Str))=false:=by decide)
 (he:Wf (e::es) X.env=(false,eval e X.env)::Wf es X.env:=by rfl)(mS:(Xv pos (Wf es X.env)).any (·.1)=false:=by rfl):PD X Xw (.Call (.Name x p) (e::es) [] pos) (dA g δs):=
 PE.weak (zN hc hg hm hv ha hn rq he mS) (HH hd)
def En(hc:CallR X (.type T) r)(hd:yy X.K r g)(hg:Gl X x)(hm:X.mg x=none)(hv:WX x=some (.type T))(ha:lC X Xw (e::es) δs)(hn:x≠"__name__":=by decide)(rq:(x==("__debug__":Str))=false:=by decide)
 (he:Wf (e::es) X.env=(false,eval e X.env)::Wf es X.env:=by rfl)(mS:(Xv pos (Wf es X.env)).any (·.1)=false:=by rfl):PD X Xw (.Call (.Name x p) (e::es) [] pos) (dA g δs):=
 PE.weak (Es hc hg hm hv ha hn rq he mS) (HH hd)
def bc:List D->M D
 |[.lst ds]=>aa (.int ds.length)
 |[.tup ds]=>aa (.int ds.length)
 |[.str x]=>aa (.int x.length)
 |[.scr ns]=>aa (.int ns.length)
 |_=>af
def DY:yy X.K (λxs H Q=>(∃p ys,xs=[.ref p]/\(SqL X.K H p ys\/SqT X.K H p ys)/\Q (.int ys.length) H)\/∃z,xs=[.str z]/\z.length<=Wr/\Q (.int z.length) H) bc:=λXw F H vs ds Q s h w=>by
 unfold bc at w;split at w
 ·obtain⟨v,rfl,h1⟩:=h.one;obtain⟨a,vs,rfl,h2,h3,_⟩:=h1;exact .inl ⟨a,vs,rfl, .inl (SqL.of (s _ _ h2)),by rw[<-h3.len];exact WP.now w s rfl⟩
 ·obtain⟨v,rfl,h1⟩:=h.one;obtain⟨a,vs,rfl,h2,h3,_⟩:=h1;exact .inl ⟨a,vs,rfl, .inr (SqT.of (s _ _ h2)),by rw[<-h3.len];exact WP.now w s rfl⟩
 ·obtain⟨v,rfl,h1⟩:=h.one;cases (show _=_ from h1.1);exact .inr ⟨_,rfl,by have:=h1.2;have:=eZ;omega,WP.now w s rfl⟩
 ·obtain⟨v,rfl,h1⟩:=h.one;obtain⟨a,rfl,h2,_⟩:=h1;exact .inl ⟨a,_,rfl, .inl (Same.seq s h2),by rw[V4];exact WP.now w s rfl⟩
 ·exact w.elim
def bD(hg:Gl X "len")(hm:X.mg "len"=none)(ha:lC X Xw [e] δs)(he:Wf [e] X.env=[(false,eval e X.env)]:=by rfl):PD X Xw (.Call (.Name "len" p) [e] [] pos) (dA bc δs):=
 d5 (mV.or wA) DY hg hm PySem.boot_len ha (by decide) (by decide) he rfl
def E7:List D->M D
 |[.int i]=>aa (.int (if i<0 then -i else i))
 |_=>af
def Bd:List D->M D
 |[.int i, .int j]=>aa (.int (if j>i then j else i))
 |_=>af
def D7:List D->M D
 |[.int i, .int j]=>aa (.int (if j<i then j else i))
 |_=>af
def GZ(hg:Gl X "abs")(hm:X.mg "abs"=none)(ha:lC X Xw [e] δs)(hb:WX "abs"=some (.builtin "abs"))(he:Wf [e] X.env=[(false,eval e X.env)]:=by rfl):PD X Xw (.Call (.Name "abs" p) [e] [] pos) (dA E7 δs):=
 d5 Fd (λXw F H vs ds Q s h w=>by
  unfold E7 at w;split at w
  ·obtain⟨v,rfl,h1⟩:=h.one;cases (show _=_ from h1);exact⟨_,rfl,WP.now w s rfl⟩
  ·exact w.elim) hg hm hb ha (by decide) (by decide) he rfl
end
def WP.xw{K:V9}(h:WP K Xw F H m Q)(k:∀n H,Xw n H->Xw' n H):WP K Xw' F H m Q:=by
 match m,h with
 |none,h=>exact h
 |some (.ok d),h=>exact h
 |some (.ex n),h=>exact λF' H' e=>k n H' (h F' H' e)
def fg{X:Cx}{st:Stmt}(h:qB X.nox (λ_ _=>False) st τ):qB X Xw st (λρ=>noex (τ ρ)):=λt0 acI f8 s σ H D I ⟨F,ρ,S,w⟩=>by
 have w:WPS X.K Xw t0 acI (noex (τ ρ)) D:=w;have w':tS X.K (λ_ _=>False) t0 acI τ D σ H:=by
  refine⟨F,ρ,S,?_⟩;rcases(τ ρ).cs with e | ⟨n,e⟩ | ⟨o,e⟩
  ·rw[e] at w;exact w.elim
  ·rw[e] at w;exact w.elim
  ·rw[e] at w⊢;cases o with
   |nx ρ'=>exact w
   |rt d=>exact w
 refine Xl (h t0 acI f8 s σ H D (I.wish _) w') (λf s' q=>SP.unwish q) λ_ _ z=>z.elim
def EX(cv:Nat->Value)(Xw:Nat->Hp->Prop):XK:=λc _ H=>∃n,c=cv n/\Xw n H
def MG(K:V9)(cv:Nat->Value)(k:Nat)(f:List D->M D):Sp:=λvs H Q E=>∃F ds,Same F H/\DenL K F ds vs/\vs.length=k/\WP K (λn H'=>E (cv n) none H') F H (f ds) Q
def cx(n:Nat)(τ:DS):List D->M D:=λds=>τ (ds.map (λd=>some (Sl.fz d))++Wx (n - ds.length) none)>>=λo=>match o with
 | .nx _=>aa .non
 | .rt d=>aa d
section
variable{P:Wz}{w:World}{K:V9}{mg:Str->Option Value}{base:Heap}{CX:B7}{cv:Nat->Value}
def QH{x qual:Str}{st:Stmt}(Fn:Fun K x qual st f fd)(S:FnScope N ps (ai st))
 (dI:∀(de:Value) (A:Xa) (outer:List Env) (s:Wa) (H:Hp) (E:XK),Room k (A.deeper (YZ qual (ai st) s.heap.objs.size f de))->
  PSDs (f7 CX P w K mg base N qual (ai st) f de A outer s H E) (λn H'=>E (cv n) none H') (aF st) τ):FnOk P w K mg base CX (k+1) f fd ps (MG K cv ps.length (cx N.length τ)):=by
 obtain⟨oc,od,kV,doc,pm,an,de,ct,Ej,rfl,lk,qF⟩:=Fn.ex;refine u7 lk qF S (λvs H Q E ⟨_,_,_,_,hl,_⟩=>hl) λA outer s H vs Q E hr yx=>?_;obtain⟨F,ds,fh,hd,hl,hw⟩:=yx;refine⟨_,dI de A outer s H E hr F H,F,ds.map (λd=>some (Sl.fz d))++Wx (N.length - ds.length) none,⟨Ext.refl fh,⟨fh,λi sl e=>?_⟩,?_,λi c a e=>?_,λi j sl mN v v' b e _ _ _ hb _=>?_⟩,?_⟩
 ·have P3:=hd.len;by_cases hi:i<ds.length
  ·rw[WB (by simpa using hi),Wb] at e;cases q:ds[i]? with
   |none=>rw[q] at e;cases e
   |some d=>
    rw[q] at e;cases e;obtain⟨v,e1,e2⟩:=hd.get q;refine⟨v,?_,e2⟩;unfold L2.start;rw[WB (by simp;omega),Wb,e1];rfl
  ·rw[WJ (by simpa using hi),Xd] at e;split at e<;>cases e
 ·have P3:=hd.len;unfold L2.start;simp[P3]
 ·exfalso
  by_cases hi:i<ds.length
  ·rw[WB (by simpa using hi),Wb] at e;cases q:ds[i]? with
   |none=>rw[q] at e;cases e
   |some d=>rw[q] at e;cases e
  ·rw[WJ (by simpa using hi),Xd] at e;split at e<;>cases e
 ·exfalso
  by_cases hi:i<ds.length
  ·rw[WB (by simpa using hi),Wb] at e;cases q:ds[i]? with
   |none=>rw[q] at e;cases e
   |some d=>rw[q] at e;cases e;cases hb
  ·rw[WJ (by simpa using hi),Xd] at e;split at e<;>cases e
 ·have hw:WP K (λn H'=>E (cv n) none H') F H (τ (ds.map (λd=>some (Sl.fz d))++Wx (N.length - ds.length) none)>>=λo=>match o with | .nx _=>aa .non | .rt d=>aa d) Q:=hw;rcases(τ (ds.map (λd=>some (Sl.fz d))++Wx (N.length - ds.length) none)).cs with e | ⟨n,e⟩ | ⟨o,e⟩
  ·rw[e] at hw;exact hw.elim
  ·rw[e] at hw⊢;exact hw
  ·rw[e] at hw⊢;cases o with
   |nx ρ'=>exact λσ' F' H' s'=>hw .non H' F' s'.ext rfl
   |rt d=>exact λv F' H' e' q=>hw v H' F' e' q
end
section
variable{X:Cx}{Xw:Nat->Hp->Prop}{CX:B7}{cv:Nat->Value}{k m:Nat}{f:Addr}{fd:Ys}{ps:List Str}{g:List D->M D}{x:Str}{p pos:Pos}{e:Expr}{es:List Expr}{δs:DA}
def Jw(F:FnOk X.prog X.w X.K X.mg X.base CX k f fd ps (MG X.K cv m g))(hr:Room k X.A)(hg:Gl X x)(hm:X.mg x=some (.ref f))(hk:W2 X.K (.ref f)=true)(hb:Binds X.K fd ps [])(hx:Passes CX X (EX cv Xw))
 (ha:lC X Xw (e::es) δs)(hl:(e::es).length=m)(rq:(x==("__debug__":Str))=false:=by decide)(he:Wf (e::es) X.env=(false,eval e X.env)::Wf es X.env:=by rfl)(mS:(Xv pos (Wf es X.env)).any (·.1)=false:=by rfl):
 PD X Xw (.Call (.Name x p) (e::es) [] pos) (λρ=>δs ρ>>=λds=>if ds.length=m then g ds else af):=PE.weak (JH F hr hg hm hk hb .nil hx ha rq he mS) λσ H Q ⟨F,ρ,s,w⟩=>by
 refine⟨F,ρ,s,WPL.mono (WP.bindL w) λvs H1 ⟨F1,ds,e1,q1,w1⟩=>?_⟩;split at w1
 ·rename_i N4;refine⟨F1,ds,e1.fh,by simpa using q1,by rw[W5,<-q1.len];exact N4,WP.xw w1 λn H h=>⟨n,rfl,h⟩⟩
 ·exact w1.elim
def CJ{x:Str}(hg:Gl X x)(hm:X.mg x=some u)(r:RelV v u)(hd:∀F,Den X.K F d v)(rq:(x==("__debug__":Str))=false:=by decide):PD X Xw (.Name x pos) (dC d):=
 iY (JK hg hm r rq) hd
end
def obj_some(x:ObjOk P w H h a o):∃ob,h.get? a=some ob:=by
 cases o with
 |lst xs=>obtain⟨_,_,_,_,e⟩:=x;exact⟨_,e⟩
 |tup xs=>obtain⟨_,_,_,ob,e,_⟩:=x;exact⟨_,e⟩
 |dK aB=>obtain⟨_,_,_,_,o,_,_,e,_⟩:=x;exact⟨_,e⟩
 |dT aB=>obtain⟨_,_,_,_,o,_,_,e,_⟩:=x;exact⟨_,e⟩
 |set S n=>obtain⟨o,_,_,_,e,_⟩:=x;exact⟨_,e⟩
 |ins C dx fs=>obtain⟨_,_,_,e,_⟩:=x;exact⟨_,e⟩
 |own y=>obtain⟨_,e⟩:=x;exact⟨_,e⟩
 |xd fs=>obtain⟨_,⟨_,_,_,e,_⟩,_⟩:=x;exact⟨_,e⟩
 |rng lo hi=>obtain⟨_,_,_,e⟩:=x;exact⟨_,e⟩
 |frz ob u=>obtain⟨e,_⟩:=x;exact⟨_,e⟩
 |tbl ps=>exact⟨_,(show h.get? a=some _ from x)⟩
 |met f y=>exact⟨_,(show h.get? a=some _ from x)⟩
 |ext φ=>obtain⟨_,⟨_,e⟩,_⟩:=x;exact⟨_,e⟩
def jN(P:Wz)(w:World)(cv:Nat->Value):B7:=λouter H s E e s'=>∃(ea:Addr) (n:Nat) (a0:Value) (B:Heap) (H':Hp),e= .ref ea/\s'.os=s.os/\Z8 s'.gens/\HOk P w H' s'.heap/\Un (qD outer) [] H H' s.heap s'.heap/\
 Heap.FlyingW B outer ea (cv n) a0 s'.heap/\(∀b o,s'.heap.get? b=some o->(H' b≠none\/(s.heap.get? b).isSome=true)->b∉qD outer->B.get? b=some o)/\E (cv n) none H'
section
variable{P:Wz}{w:World}{fs:List Addr}{acI H:Hp}{h₀ h h':Heap}
def Ki(u:Un fs [] acI H h₀ h)(ka:∀b o,h.get? b=some o->b∉fs->(H b≠none\/(h₀.get? b).isSome=true)->h'.get? b=some o)(kb:∀b o,h.get? b=some o->b∈fs->∃sl,h'.get? b=some {o with slots:=sl}):Un fs [] acI H h₀ h' where
 keep:=λb o e n hb hx=>ka b o (u.keep b o e n hb hx) hb (.inr (by rw[e];rfl))
 slot:=λb o e n hb hx=>by
  obtain⟨sl,q⟩:=u.slot b o e n hb hx;obtain⟨mN,q'⟩:=kb b _ q hb;exact⟨mN,q'⟩
 free:=u.free
 there:=λb o e hx=>by
  obtain⟨o',q⟩:=u.there b o e hx;by_cases hb:b∈fs
  ·obtain⟨sl,q'⟩:=kb b _ q hb;exact⟨_,q'⟩
  ·exact⟨o',ka b o' q hb (.inr (by rw[e];rfl))⟩
 tups:=u.tups
 frzs:=u.frzs
 tbls:=u.tbls
def FW(x:HOk P w H h)(hf:∀b∈fs,H b=none)(ka:∀b o,h.get? b=some o->b∉fs->H b≠none->h'.get? b=some o):HOk P w H h':=λa o e=>by
 refine(x a o e).stay (λb u hb q=>ka b u q (λz=>?_) ?_) (λ_ q=>q) λ_ _ q=>q
 ·have hz:=hf b z;rcases hb with rfl | hb
  ·rw[hz] at e;cases e
  ·rw[hz] at hb;cases hb
 ·rcases hb with rfl | hb
  ·rw[e];exact λz=>nomatch z
  ·rw[hb];exact λz=>nomatch z
end
section
variable{P:Wz}{w:World}{K:V9}{mg:Str->Option Value}{base:Heap}{N:List Str}{qual:Str}{scope:Scope}{f:Addr}{cd:Value}{A:Xa}{outer:List Env}{acJ:Wa}{acI:Hp}{E:XK}{cv:Nat->Value}
def aJ:Passes (jN P w cv) (f7 (jN P w cv) P w K mg base N qual scope f cd A outer acJ acI E) (EX cv λn H'=>E (cv n) none H'):=by
 intro f8 σ H s e s' I ⟨ea,n,a0,B,H',he,Rm,hg,hok,un,SJ,hB,m,hm,hE⟩;subst he;have LC:((f7 (jN P w cv) P w K mg base N qual scope f cd A outer acJ acI E)).env.locals=acJ.heap.objs.size:=rfl;have IQ:qD ((f7 (jN P w cv) P w K mg base N qual scope f cd A outer acJ acI E)).stack=acJ.heap.objs.size::qD outer:=rfl;show wpAny (model P w) (A.deeper (YZ qual scope acJ.heap.objs.size f cd)) (leaving (YZ qual scope acJ.heap.objs.size f cd) (.ref ea)) _ _ s';refine wpAny_leaves_onW I.ok.frames rfl SJ λh' Ls ups=>?_;have KG:∀b∈qD ((f7 (jN P w cv) P w K mg base N qual scope f cd A outer acJ acI E)).stack,H' b=none:=λb hb=>by
  obtain⟨o,ho⟩:∃o,s.heap.get? b=some o:=by
   obtain⟨_,o,ho,_⟩:=I.stack.mem hb;exact⟨o,ho⟩
  exact un.free b o ho (I.stkFree b hb) (by simp)
 have KQ:∀b o,s'.heap.get? b=some o->b∉qD ((f7 (jN P w cv) P w K mg base N qual scope f cd A outer acJ acI E)).stack->(H' b≠none\/(s.heap.get? b).isSome=true)->h'.get? b=some o:=λb o e hb hc=>Ls.1 b o (hB b o e hc hb);have unA:Un (qD outer) [] acI H' acJ.heap s'.heap:=by
  have u1:Un (qD outer) [] acI H acJ.heap s.heap:=I.base;refine⟨λb o e nn hb hx=>?_,λb o e nn hb hx=>?_,λb o e nn hx=>?_,λb o e hx=>?_,λb xs q=>un.tups b xs (u1.tups b xs q),λb o u q=>un.frzs b o u (u1.frzs b o u q),λb ps q=>?_⟩
  ·refine un.keep b o (u1.keep b o e nn hb hx) (u1.free b o e nn hx) (λz=>?_) (by simp);rw[IQ] at z;rcases Wc.mp z with z | z
   ·exact acC (Wl e) (by rw[z];exact Xe _)
   ·exact hb z
  ·obtain⟨sl,q⟩:=u1.slot b o e nn hb hx;obtain⟨mN,q'⟩:=un.slot b _ q (u1.free b o e nn hx) (by rw[IQ];exact V3 _ hb) (by simp);exact⟨mN,q'⟩
  ·obtain⟨o',q⟩:=u1.there b o e hx;exact un.free b o' q (u1.free b o e nn hx) (by simp)
  ·obtain⟨o',q⟩:=u1.there b o e hx;exact un.there b o' q (by simp)
  ·obtain⟨m1,q1⟩:=u1.tbls b ps q;obtain⟨m2,q2⟩:=un.tbls b _ q1;exact⟨m1++m2,by rw[q2,Z7]⟩
 have Tj:∀b,(acJ.heap.get? b).isSome=true->(s.heap.get? b).isSome=true:=λb hb=>by
  obtain⟨o,ho⟩:=YA.mp hb;obtain⟨o',q⟩:=(show Un (qD outer) [] acI H acJ.heap s.heap from I.base).there b o ho (by simp);rw[q];rfl
 have RP:∀b,(acJ.heap.get? b).isSome=true->b≠acJ.heap.objs.size:=λb hb z=>by
  obtain⟨o,ho⟩:=YA.mp hb;exact acC (Wl ho) (by rw[z];exact Xe _)
 have OJ:∀b,b∉qD outer->(H' b≠none\/(acJ.heap.get? b).isSome=true)->b∉qD ((f7 (jN P w cv) P w K mg base N qual scope f cd A outer acJ acI E)).stack:=λb hb hc z=>by
  rcases hc with hc | hc
  ·exact hc (KG b z)
  ·rw[IQ] at z;rcases Wc.mp z with z | z
   ·exact RP b hc z
   ·exact hb z
 refine⟨ea,n,a0,B,H',rfl,Rm.trans I.os,hg,FW hok KG (λb o e hb hc=>KQ b o e hb (.inl hc)),Ki unA (λb o e hb hc=>KQ b o e (OJ b hb hc) (hc.imp id (Tj b))) (λb o e hb=>?_),Ls,λb o e hc hb=>?_,?_⟩
 ·obtain⟨_,o',u_,hd⟩:=SJ.2.2.1.mem (show b∈qD ((f7 (jN P w cv) P w K mg base N qual scope f cd A outer acJ acI E)).stack by rw[IQ];exact V3 _ hb);rw[e] at u_;cases u_;exact ups b o e hd
 ·have wL:=OJ b hb hc;obtain⟨o',u_⟩:∃o',s'.heap.get? b=some o':=by
   rcases hc with hc | hc
   ·cases q:H' b with
    |none=>exact acC q hc
    |some u=>
     exact obj_some (hok b u q)
   ·obtain⟨o1,h1⟩:=YA.mp hc;exact unA.there b o1 h1 (by simp)
  have:=hB b o' u_ (hc.imp id (Tj b)) wL;rw[Ls.1 b o' this] at e;cases e;exact this
 ·rw[hm];exact hE
end
def KR:D->Option String
 | .non=>some "NoneType"
 | .bl _=>some "bool"
 | .int _=>some "int"
 | .str _=>some "str"
 | .tup _=>some "tuple"
 | .lst _=>some "list"
 |_=>none
def LQ(k T:String):Option Bool:=if T="str"\/T="int"\/T="bool"\/T="tuple"\/T="list" then some (decide (k=T)||(decide (k="bool")&&decide (T="int"))) else none
def jP:List D->M D
 |[d, .raw (.ty T)]=>match KR d with
  |some k=>match LQ k T with
   |some b=>aa (.bl b)
   |none=>af
  |none=>af
 |_=>af
def L1{K:V9}(hk:k="NoneType"\/k="bool"\/k="int"\/k="str"\/k="tuple"\/k="list")(h:LQ k T=some b):aay K (.type k) (.type T)=some b:=by
 unfold LQ at h;split at h
 ·rename_i hT;cases h;rcases hk with rfl | rfl | rfl | rfl | rfl | rfl<;>rcases hT with rfl | rfl | rfl | rfl | rfl<;>with_unfolding_all rfl
 ·cases h
section
variable{X:Cx}{Xw:Nat->Hp->Prop}{a b e e2:Expr}{δs:DA}{pos p:Pos}
def O7(K:V9):List V->Hp->VK->Prop:=λxs H Q=>∃x T t b,xs=[x, .ty T]/\TyOf K H x t/\aay K t (.type T)=some b/\Q (.bl b) H
def Fe:CallR X (.builtin "isinstance") (O7 X.K):=by
 intro f8 s σ H xs us Q I r h;obtain⟨x,T,t,b,rfl,ty,e,q⟩:=h;obtain⟨u,w',rfl,r1,r2⟩:=vals2 r;cases (show w'=_ from r2);exact DR I r1 ty e λtk=>⟨.bl b,H,I.tok tk,rfl,q⟩
def HP{K:V9}(s:Same F H)(h:Den K F d v)(hk:KR d=some k):TyOf K H v (.type k)/\(k="NoneType"\/k="bool"\/k="int"\/k="str"\/k="tuple"\/k="list"):=by
 cases d with
 |non=>cases hk;cases (show _=_ from h);exact⟨.non, .inl rfl⟩
 |bl x=>cases hk;cases (show _=_ from h);exact⟨.bl x, .inr (.inl rfl)⟩
 |int x=>cases hk;cases (show _=_ from h);exact⟨.int x, .inr (.inr (.inl rfl))⟩
 |str x=>cases hk;cases (show _=_ from h.1);exact⟨.str x, .inr (.inr (.inr (.inl rfl)))⟩
 |tup x=>cases hk;obtain⟨a,vs,rfl,h2,_⟩:=h;exact⟨.tup (s _ _ h2), .inr (.inr (.inr (.inr (.inl rfl))))⟩
 |lst x=>cases hk;obtain⟨a,vs,rfl,h2,_⟩:=h;exact⟨.lst (s _ _ h2), .inr (.inr (.inr (.inr (.inr rfl))))⟩
 |_=>cases hk
def DQ{K:V9}:yy K (O7 K) jP:=λXw F H vs ds Q s h w=>by
 unfold jP at w;split at w
 ·rename_i d T;obtain⟨v,v',rfl,h1,h2⟩:=h.two;cases (show _=_ from h2);split at w
  ·rename_i k hk;split at w
   ·rename_i b hb;obtain⟨ty,MZ⟩:=HP s h1 hk;exact⟨v,T, .type k,b,rfl,ty,L1 MZ hb,WP.now w s rfl⟩
   ·exact w.elim
  ·exact w.elim
 ·exact w.elim
def oQ(hg:Gl X "isinstance")(hm:X.mg "isinstance"=none)(hb:WX "isinstance"=some (.builtin "isinstance"))(ha:lC X Xw [e,e2] δs)(he:Wf [e,e2] X.env=(false,eval e X.env)::Wf [e2] X.env:=by rfl)
 (mS:(Xv pos (Wf [e2] X.env)).any (·.1)=false:=by rfl):PD X Xw (.Call (.Name "isinstance" p) [e,e2] [] pos) (dA jP δs):=
 d5 Fe DQ hg hm hb ha (by decide) (by decide) he mS
def vL{x:Str}(hg:Gl X x)(hm:X.mg x=none)(hv:WX x=some (.type T))(hn:x≠"__name__":=by decide)(hd:(x==("__debug__":Str))=false:=by decide):PD X Xw (.Name x pos) (dC (.raw (.ty T))):=
 iY (JG hg hm hv (show RelV (.ty T) (.type T) from rfl) hn hd) λ_=>rfl
def bools:List D->Option (List Bool)
 |[]=>some []
 | .bl b::r=>(bools r).map (b:: ·)
 |_=>none
def allM:List D->M D
 |[.lst ds]=>match bools ds with
  |some bs=>aa (.bl (bs.all id))
  |none=>af
 |_=>af
def uU{K:V9}:∀{ds:List D}{vs:List V}{bs:List Bool},bools ds=some bs->DenL K F ds vs->vs=bs.map V.bl
 |[],_,_,e,h=>by cases e;exact h
 | .bl b::r,_,_,e,⟨v,r',h1,h2,h3⟩=>by
   unfold bools at e;cases q:bools r with
   |none=>rw[q] at e;cases e
   |some bs=>rw[q] at e;cases e;subst h1;rw[uU q h3,show v= .bl b from h2];rfl
 | .non::_,_,_,e,_=>by cases e
 | .int _::_,_,_,e,_=>by cases e
 | .str _::_,_,_,e,_=>by cases e
 | .raw _::_,_,_,e,_=>by cases e
 | .exc _::_,_,_,e,_=>by cases e
 | .scr _::_,_,_,e,_=>by cases e
 | .tup _::_,_,_,e,_=>by cases e
 | .lst _::_,_,_,e,_=>by cases e
def C_:∀{bs:List Bool}{aR:List Value},Vals (bs.map V.bl) aR->aR=bs.map YR
 |[],_,r=>by cases r;rfl
 |b::bs,_,r=>by
  cases r with
  |cons r1 r2=>cases (show _=_ from r1);rw[C_ r2];rfl
def RV:List V->Hp->VK->Prop:=λxs H Q=>∃(a:Addr) (bs:List Bool),xs=[.ref a]/\H a=some (.lst (bs.map V.bl))/\Q (.bl (bs.all id)) H
def all_range{bs:List Bool}:(Wy bs.length).all (λi=>bs.getD i false)=bs.all id:=by
 induction bs with
 |nil=>rfl
 |cons b bs ih=>
  rw[V7,YU,YO,YI,YO];congr 1
def Dp(hc:X.calm=true):CallR X (.builtin "all") RV:=by
 intro f8 s σ H xs us Q I r h;obtain⟨a,bs,rfl,hH,q⟩:=h;obtain⟨u,rfl,r1⟩:=vals1 r;cases (show u=_ from r1);obtain⟨aR,r2,pl,hz⟩:=I.list (SqL.of hH);obtain rfl:=C_ r2;have gk:a≠s.heap.objs.size:=WA (I.hok.lt hH);refine call_all_walk (aaP pl.isList ?_);refine⟨s.heap.objs.size,_,_,_,_,_,λi=>bs.getD i false,rfl,acb (show X.A.in1.handled=none from I.ok.hd hc) s.heap.objs.size a gk (bs.map YR).toArray,⟨⟨_,Wm _ rfl,rfl,rfl⟩,Heap.IsList.at pl.isList λo e=>V8 _ e⟩,?_,λh' tk k=>?_⟩
 ·intro i v s' Q' E' hv hq;have hv:(bs.map YR).toArray[i]? =some v:=hv;rw[abF,Wb] at hv;cases q':bs[i]? with
  |none=>rw[q'] at hv;cases hv
  |some b=>
   rw[q'] at hv;cases hv;have:bs.getD i false=b:=by rw[Wq,q'];rfl
   have hq:Q' (bs.getD i false) s':=hq;rw[this] at hq;exact XA hq
 ·have e:(Wy (bs.map YR).toArray.size).all (λi=>bs.getD i false)=bs.all id:=by
   rw[Wi,V4];exact all_range
  rw[e];refine⟨.bl (bs.all id),H,I.kept λb o e'=>k b o (λz=>?_) (V8 _ e'),rfl,q⟩;have z:b=s.heap.objs.size:=by simpa using z
  exact acC (Wl e') (by rw[z];exact Xe _)
def BA(hc:X.calm=true)(hg:Gl X "all")(hm:X.mg "all"=none)(hb:WX "all"=some (.builtin "all"))(ha:lC X Xw [e] δs)(he:Wf [e] X.env=[(false,eval e X.env)]:=by rfl):PD X Xw (.Call (.Name "all" p) [e] [] pos) (dA allM δs):=
 d5 (Dp hc) (λXw F H vs ds Q s h w=>by
  unfold allM at w;split at w
  ·rename_i ds;obtain⟨v,rfl,h1⟩:=h.one;obtain⟨a,ws,rfl,h2,h3,_⟩:=h1;split at w
   ·rename_i bs hb;exact⟨a,bs,rfl,by rw[<-uU hb h3];exact s _ _ h2,WP.now w s rfl⟩
   ·exact w.elim
  ·exact w.elim) hg hm hb ha (by decide) (by decide) he rfl
end
section
variable{X:Cx}{Xw:Nat->Hp->Prop}{a b e e2:Expr}{es:List Expr}{δ δa δb:DE}{pos p u8 aY:Pos}
def Kc:∀t0 acI D σ H,tS X.K Xw t0 acI (n0 i δ) D σ H->HJ (R6 X.K "list" xR (g7 i) (HI (tD X.K Xw δ) Ke)) D σ H:=λt0 acI D σ H ⟨F,ρ,s,w⟩=>by
 unfold n0 at w;cases ho:Ek ρ i with
 |none=>rw[ho] at w;exact w.elim
 |some ds=>
  rw[ho] at w;have hi:=vF ho;obtain⟨v,hv,a,o,rfl,hH,hF,vs,rfl,hd,hl⟩:=s.st.den i _ hi;have w:WPS X.K Xw t0 acI (δ ρ>>=λd=>if ds.length<lim then aa (.nx (ρ.set i (some (.ow (.lst (ds++[d])))))) else af) D:=w;refine⟨.ref a,hv, .inl ⟨rfl,vs,SqL.of hH⟩,F,ρ,s.st,?_⟩;rcases(δ ρ).cs with q | ⟨n,q⟩ | ⟨d,q⟩
  ·rw[q] at w;exact w.elim
  ·rw[q] at w⊢;exact λF' H' e'=>w F' H' (s.ext.trans e')
  ·rw[q] at w⊢;intro u H1 F1 e1 hq;have w:WPS X.K Xw t0 acI (if ds.length<lim then aa (.nx (ρ.set i (some (.ow (.lst (ds++[d])))))) else af) D:=w;split at w
   ·rename_i f_;have P3:=hd.len;refine⟨a,vs,u,rfl,rfl,e1.hh _ _ hH,by have:=eZ;omega,?_⟩;exact w σ F1 _ ((s.ext' e1).chg hi hv ⟨_,rfl,DenL.append (DenL.mono e1.ff hd) (.cons hq .nil),by rw[Wh];exact f_⟩)
   ·exact w.elim
def Kd:∀t0 acI D σ H,tS X.K Xw t0 acI (Hu i δ) D σ H->HJ (R6 X.K "list" CY (g7 i) (HI (tD X.K Xw δ) Ke)) D σ H:=λt0 acI D σ H ⟨F,ρ,s,w⟩=>by
 unfold Hu at w;cases ho:Ek ρ i with
 |none=>rw[ho] at w;exact w.elim
 |some ds=>
  rw[ho] at w;have hi:=vF ho;obtain⟨v,hv,a,o,rfl,hH,hF,vs,rfl,hd,hl⟩:=s.st.den i _ hi;have w:WPS X.K Xw t0 acI (δ ρ>>=λd=>lstM d>>=λes=>if ds.length+es.length<=lim then aa (.nx (ρ.set i (some (.ow (.lst (ds++es)))))) else af) D:=w;refine⟨.ref a,hv, .inl ⟨rfl,vs,SqL.of hH⟩,F,ρ,s.st,?_⟩;rcases(δ ρ).cs with q | ⟨n,q⟩ | ⟨d,q⟩
  ·rw[q] at w;exact w.elim
  ·rw[q] at w⊢;exact λF' H' e'=>w F' H' (s.ext.trans e')
  ·rw[q] at w⊢;intro u H1 F1 e1 hq;cases d with
   |lst es=>
    obtain⟨b,ws,rfl,k2,k3,k4⟩:=hq;have w:WPS X.K Xw t0 acI (if ds.length+es.length<=lim then aa (.nx (ρ.set i (some (.ow (.lst (ds++es)))))) else af) D:=w;split at w
    ·rename_i f_;have P3:=hd.len;have Ta:=k3.len;refine⟨a,b,vs,ws,rfl,rfl,e1.hh _ _ hH,e1.fh _ _ k2,by have:=eZ;omega,?_⟩;exact w σ F1 _ ((s.ext' e1).chg hi hv ⟨_,rfl,DenL.append (DenL.mono e1.ff hd) k3,by rw[Wh];exact f_⟩)
    ·exact w.elim
   |_=>exact w.elim
def jv(hv:PE X (.Name x p) (g7 i))(he:PD X Xw e δ)(hs:Yn (.Call (.Attribute (.Name x p) "append" u8) [e] [] aY) none pos.line X.env=pure false:=by rfl)
 (dY:WR (.Name x p) "append" X.env (eval (.Name x p) X.env)=eval (.Name x p) X.env:=by rfl)
 (mx:((Xv aY (Wf [e] X.env)).all (λx=>!x.1)&&(X7 aY (Xi [] X.env)).all (λx=>x.1.isSome)&&decide ([e].length+([]:List Yp).length+(if ([]:List Yp).isEmpty then 0 else 1)<30))=true:=by rfl)
 (dZ:(u8.endLine==aY.line)=true:=by rfl)(qa:Wf [e] X.env=[(false,eval e X.env)]:=by rfl):qB X Xw (.Expr (.Call (.Attribute (.Name x p) "append" u8) [e] [] aY) pos) (n0 i δ):=λt0 acI=>
 PS.weak (ju (CO X5 aaD aaC oJ hv (nR he oO qa) dY mx dZ qa rfl) hs) λD σ H w=>Kc t0 acI D σ H w
def JP(hv:PE X (.Name x p) (g7 i))(he:PD X Xw e δ)(hs:Yn (.Call (.Attribute (.Name x p) "extend" u8) [e] [] aY) none pos.line X.env=pure false:=by rfl)
 (dY:WR (.Name x p) "extend" X.env (eval (.Name x p) X.env)=eval (.Name x p) X.env:=by rfl)
 (mx:((Xv aY (Wf [e] X.env)).all (λx=>!x.1)&&(X7 aY (Xi [] X.env)).all (λx=>x.1.isSome)&&decide ([e].length+([]:List Yp).length+(if ([]:List Yp).isEmpty then 0 else 1)<30))=true:=by rfl)
 (dZ:(u8.endLine==aY.line)=true:=by rfl)(qa:Wf [e] X.env=[(false,eval e X.env)]:=by rfl):qB X Xw (.Expr (.Call (.Attribute (.Name x p) "extend" u8) [e] [] aY) pos) (Hu i δ):=λt0 acI=>
 PS.weak (ju (CO X5 PySem.F.slot_list_extend PySem.F.type_list_extend D8 hv (nR he oO qa) dY mx dZ qa rfl) hs) λD σ H w=>Kd t0 acI D σ H w
def GQ:OpR X (Zy .Add) (λx y H Q=>∃a b ys,x= .ref a/\y= .ref b/\SqT X.K H a []/\SqT X.K H b ys/\Q (.ref b) H):=by
 intro f8 s σ H x y v u Q I rx ry h;obtain⟨a,b,ys,rfl,rfl,ha,hb,q⟩:=h;cases rx;cases ry;obtain⟨aR,r1,p1,_⟩:=I.tuple ha;obtain⟨j0,r2,p2,_⟩:=I.tuple hb;cases r1;obtain⟨⟨cls,dd,data,sl⟩,ho,hc,n,hd⟩:=id p1;obtain⟨⟨Np,Dz,data2,K5⟩,Cv,H9,n2,hd2⟩:=id p2;simp only at hc hd H9 hd2;subst hc hd H9 hd2;exact concat_meets ⟨_,ho,rfl⟩ ⟨_,Cv,rfl⟩ abe ab9 Zv Zo (Zh _ _)
  (tuple_addW0 a b _ _ n n2 dd Dz sl K5 (by simp)) ⟨ho,Cv,⟨.ref b,H,I,rfl,q⟩⟩
def Ct:D->D->M D
 | .tup x, .tup y=>if x.length+y.length<=lim then aa (.tup (x++y)) else af
 |_,_=>af
def Jx(ha:PD X Xw a δa)(hb:PD X Xw b δb):PD X Xw (.BinOp a .Add b pos) (d2 Ct δa δb):=vK (GQ.or Jo) (λXw F H x y dx dy Q s hx hy w=>by
 unfold Ct at w;split at w
 ·rename_i i j;obtain⟨a,vs,h1,h2,h3,h4⟩:=hx;obtain⟨a',vs',k1,k2,k3,k4⟩:=hy;split at w
  ·rename_i hl;have e1:=h3.len;have e2:=k3.len;have:=eZ;by_cases hv:vs=[]
   ·subst hv;have:i=[]:=by cases i with | nil=>rfl | cons _ _=>simp at e1
    subst this;exact .inl ⟨a,a',vs',h1,k1,SqT.of (s _ _ h2),SqT.of (s _ _ k2),WP.now w s ⟨a',vs',k1▸rfl,k2,k3,k4⟩⟩
   ·refine .inr ⟨a,a',vs,vs',h1,k1,SqT.of (s _ _ h2),SqT.of (s _ _ k2),hv,by omega,λz=>?_,λz p hp=>?_⟩
    ·subst z;have:j=[]:=by cases j with | nil=>rfl | cons _ _=>simp at e2
     subst this;rw[W5] at w;exact WP.now w s ⟨a,vs,rfl,h2,h3,h4⟩
    ·exact WP.fin w (Ext.lay s hp) ⟨p,_,rfl,aH,DenL.mono (Ext.lay s hp).ff (h3.append k3),by rw[Wh];exact hl⟩
  ·exact w.elim
 ·exact w.elim) ha hb
end
section
variable{X:Cx}{Xw:Nat->Hp->Prop}{a b e e2 o:Expr}{es:List Expr}{δa δb δo:DE}{δs:DA}{pos p u8 aY:Pos}
def dM(kd:D->Bool)(g:D->List D->M D)(o:DE)(s:DA):DE:=λρ=>o ρ>>=λd=>if kd d then s ρ>>=λds=>g d ds else af
def G0{id:String}(pa:PlainAttrs T)(slot:Slot T name id)(Ol:typeOf (.builtin id)=pure (.type "method_descriptor"))(hm:MP X id r)
 (hk:∀(F H:Hp) (x:V) (d:D),kd d=true->Same F H->Den X.K F d x->Na X.K T x H)
 (hd:∀(Xw:Nat->Hp->Prop) (F H:Hp) (x:V) (vs:List V) (d:D) (ds:List D) (Q:VK),Same F H->Den X.K F d x->DenL X.K F ds vs->WP X.K Xw F H (g d ds) Q->r x vs H Q)
 (ho:PD X Xw o δo)(ha:lC X Xw (e::es) δs)
 (dY:WR o name X.env (eval o X.env)=eval o X.env:=by rfl)
 (mx:((Xv aY (Wf (e::es) X.env)).all (λx=>!x.1)&&(X7 aY (Xi [] X.env)).all (λx=>x.1.isSome)
  &&decide ((e::es).length+([]:List Yp).length+(if ([]:List Yp).isEmpty then 0 else 1)<30))=true:=by rfl)
 (dZ:(u8.endLine==aY.line)=true:=by rfl) (hs:Wf (e::es) X.env=(false,eval e X.env)::Wf es X.env:=by rfl) (A4:(Xv aY (Wf es X.env)).any (·.1)=false:=by rfl):
 PD X Xw (.Call (.Attribute o name u8) (e::es) [] aY) (dM kd g δo δs):=PE.weak (CO pa slot Ol hm ho ha dY mx dZ hs A4) λσ H Q ⟨F,ρ,s,w⟩=>by
 refine⟨F,ρ,s,WP.mono (WP.bind w) λv H1 ⟨F1,d,e1,q1,w1⟩=>?_⟩;split at w1
 ·rename_i UC;refine⟨hk F1 H1 v d UC e1.fh q1,F1,ρ,s.ext e1,WPL.mono (WP.bindL w1) λvs H2 ⟨F2,ds,e2,q2,w2⟩=>?_⟩;exact hd Xw F2 H2 v vs d ds Q e2.fh (Den.mono e2.ff q1) q2 w2
 ·exact w1.elim
def DP:D->Bool
 | .str _=>true
 |_=>false
def vf:D->Bool
 | .lst _=>true
 |_=>false
def F9{K:V9}(F H:Hp)(x:V)(d:D)(h:DP d=true)(s:Same F H)(q:Den K F d x):Na K "str" x H:=by
 cases d with
 |str z=>cases (show _=_ from q.1);exact rfl
 |_=>cases h
def F8{K:V9}(F H:Hp)(x:V)(d:D)(h:vf d=true)(s:Same F H)(q:Den K F d x):Na K "list" x H:=by
 cases d with
 |lst z=>obtain⟨a,vs,rfl,h2,_⟩:=q;exact .inl ⟨rfl,vs,SqL.of (s _ _ h2)⟩
 |_=>cases h
def qx:List D->Option (List Str)
 |[]=>some []
 | .str x::r=>(qx r).map (x:: ·)
 |_=>none
def tL{K:V9}:∀{ds:List D}{vs:List V}{xs:List Str},qx ds=some xs->DenL K F ds vs->vs=xs.map V.str
 |[],_,_,e,h=>by cases e;exact h
 | .str b::r,_,_,e,⟨v,r',h1,h2,h3⟩=>by
   unfold qx at e;cases q:qx r with
   |none=>rw[q] at e;cases e
   |some bs=>rw[q] at e;cases e;subst h1;rw[tL q h3,show v= .str b from h2.1];rfl
 | .non::_,_,_,e,_=>by cases e
 | .int _::_,_,_,e,_=>by cases e
 | .bl _::_,_,_,e,_=>by cases e
 | .raw _::_,_,_,e,_=>by cases e
 | .exc _::_,_,_,e,_=>by cases e
 | .scr _::_,_,_,e,_=>by cases e
 | .tup _::_,_,_,e,_=>by cases e
 | .lst _::_,_,_,e,_=>by cases e
def tO:∀{xs:List Str}{aR:List Value},Vals (xs.map V.str) aR->StrsAre aR xs
 |[],_,r=>by cases r;exact .nil
 |b::bs,_,r=>by
  cases r with
  |cons r1 r2=>obtain⟨t,rfl⟩:=r1;exact .cons b t (tO r2)
def eW:List Str->Str
 |[]=>⟨#[]⟩
 |x::r=>x++eW r
def joinM:D->List D->M D
 | .str sep,[.lst ds]=>match qx ds with
   |some xs=>if sep.length=0/\(xs.map (·.length)).sum<=lim then aa (.str (eW xs)) else af
   |none=>af
 | .str sep,[.tup ds]=>match qx ds with
   |some xs=>if sep.length=0/\(xs.map (·.length)).sum<=lim then aa (.str (eW xs)) else af
   |none=>af
 |_,_=>af
def ra:∀xs:List Str,(eW xs).length=(xs.map (·.length)).sum
 |[]=>rfl
 |x::r=>by
  show (x++eW r).length=_;rw[k8,ra r,Wg,ZA]
def J_{x:Str}(h:x.length=0):x=⟨#[]⟩:=by
 obtain⟨⟨l⟩⟩:=x;have:l.length=0:=h;cases l with
 |nil=>rfl
 |cons _ _=>simp at this
def p6(x:Str):x++(⟨#[]⟩:Str)=x:=by
 obtain⟨c⟩:=x;show (⟨c++ #[]⟩:Str)=⟨c⟩
 simp
def pf(sep:Str)(h:sep.length=0):∀xs:List Str,Txt.join sep xs=eW xs:=by
 have e:=J_ h;subst e;intro xs;show Builtin.Str.glued _ xs=_;rw[StrLaws.glued_eq_join];induction xs with
 |nil=>rfl
 |cons x r ih=>
  cases r with
  |nil=>show x=x++(⟨#[]⟩:Str);rw[p6]
  |cons y r=>show x++(⟨#[]⟩:Str)++Str.join _ (y::r)=x++eW (y::r);rw[p6,ih]
def rJoin(K:V9):V->List V->Hp->VK->Prop:=λx vs H Q=>∃(sep:Str) (a:Addr) (xs:List Str),x= .str sep/\vs=[.ref a]/\(H a=some (.lst (xs.map V.str))\/H a=some (.tup (xs.map V.str)))/\sep.length=0/\(xs.map (·.length)).sum<=lim/\Q (.str (eW xs)) H
def Jk:MP X "str.join" (rJoin X.K):=by
 intro f8 s σ H x vs v us Q I rx rv h;obtain⟨sep,a,xs,rfl,rfl,hH,hs,hl,q⟩:=h;obtain⟨t,rfl⟩:=rx;obtain⟨u,rfl,r1⟩:=rv.one;cases (show u=_ from r1);have hok:(xs.map (·.length)).sum+xs.length*sep.length<=16777216:=by
  rw[hs,Nat.mul_zero];unfold lim at hl;omega
 rcases hH with hH | hH
 ·obtain⟨aR,r2,pl,hz⟩:=I.list (SqL.of (K:=X.K) hH);refine join_list pl.isList (by simpa using tO r2) hok λt' k=>⟨.str (eW xs),H,I.tok k,⟨t',by rw[pf sep hs]⟩,q⟩
 ·obtain⟨aR,r2,pl,hz⟩:=I.tuple (SqT.of hH);refine join_tuple pl (by simpa using tO r2) hok λt' k=>⟨.str (eW xs),H,I.tok k,⟨t',by rw[pf sep hs]⟩,q⟩
def CM(ho:PD X Xw o δo)(ha:lC X Xw [e] δs)(dY:WR o "join" X.env (eval o X.env)=eval o X.env:=by rfl)
 (mx:((Xv aY (Wf [e] X.env)).all (λx=>!x.1)&&(X7 aY (Xi [] X.env)).all (λx=>x.1.isSome)&&decide ([e].length+([]:List Yp).length+(if ([]:List Yp).isEmpty then 0 else 1)<30))=true:=by rfl)
 (dZ:(u8.endLine==aY.line)=true:=by rfl)(qa:Wf [e] X.env=[(false,eval e X.env)]:=by rfl):PD X Xw (.Call (.Attribute o "join" u8) [e] [] aY) (dM DP joinM δo δs):=
 G0 aa8 PySem.F.slot_str_join PySem.F.type_str_join Jk F9 (λXw F H x vs d ds Q s hx hv w=>by
  unfold joinM at w;split at w
  ·rename_i sep ds;obtain⟨v,rfl,h1⟩:=hv.one;obtain⟨a,ws,rfl,h2,h3,_⟩:=h1;split at w
   ·rename_i xs Oo;split at w
    ·rename_i hc;exact⟨sep,a,xs,hx.1,rfl, .inl (by rw[<-tL Oo h3];exact s _ _ h2),hc.1,hc.2,WP.now w s ⟨rfl,by rw[ra];exact hc.2⟩⟩
    ·exact w.elim
   ·exact w.elim
  ·rename_i sep ds;obtain⟨v,rfl,h1⟩:=hv.one;obtain⟨a,ws,rfl,h2,h3,_⟩:=h1;split at w
   ·rename_i xs Oo;split at w
    ·rename_i hc;exact⟨sep,a,xs,hx.1,rfl, .inr (by rw[<-tL Oo h3];exact s _ _ h2),hc.1,hc.2,WP.now w s ⟨rfl,by rw[ra];exact hc.2⟩⟩
    ·exact w.elim
   ·exact w.elim
  ·exact w.elim) ho ha dY mx dZ qa rfl
def HN:List D->M D
 |[.lst ds]=>aa (.tup ds)
 |[.tup ds]=>aa (.tup ds)
 |_=>af
def G4(hg:Gl X "tuple")(hm:X.mg "tuple"=none)(hb:WX "tuple"=some (.type "tuple"))(ha:lC X Xw [e] δs)(he:Wf [e] X.env=[(false,eval e X.env)]:=by rfl):PD X Xw (.Call (.Name "tuple" p) [e] [] pos) (dA HN δs):=
 En ui (λXw F H vs ds Q s h w=>by
  unfold HN at w;split at w
  ·rename_i ds;obtain⟨v,rfl,h1⟩:=h.one;obtain⟨a,ws,rfl,h2,h3,h4⟩:=h1;exact⟨a,ws,rfl, .inl ⟨SqL.of (s _ _ h2),λl hl=>WP.fin w (Ext.lay s hl) ⟨l,ws,rfl,aH,DenL.mono (Ext.lay s hl).ff h3,h4⟩⟩⟩
  ·rename_i ds;obtain⟨v,rfl,h1⟩:=h.one;obtain⟨a,ws,rfl,h2,h3,h4⟩:=h1;exact⟨a,ws,rfl, .inr ⟨SqT.of (s _ _ h2),WP.now w s ⟨a,ws,rfl,h2,h3,h4⟩⟩⟩
  ·exact w.elim) hg hm hb ha (by decide) (by decide) he rfl
def BC(hc:X.calm=true)(hg:Gl X "max")(hm:X.mg "max"=none)(hb:WX "max"=some (.builtin "max"))(ha:lC X Xw [e,e2] δs)(he:Wf [e,e2] X.env=(false,eval e X.env)::Wf [e2] X.env:=by rfl)
 (mS:(Xv pos (Wf [e2] X.env)).any (·.1)=false:=by rfl):PD X Xw (.Call (.Name "max" p) [e,e2] [] pos) (dA Bd δs):=
 d5 (Dq hc) (λXw F H vs ds Q s h w=>by
  unfold Bd at w;split at w
  ·obtain⟨v,v',rfl,h1,h2⟩:=h.two;cases (show _=_ from h1);cases (show _=_ from h2);exact⟨_,_,rfl,WP.now w s rfl⟩
  ·exact w.elim) hg hm hb ha (by decide) (by decide) he mS
def G2(hc:X.calm=true)(hg:Gl X "min")(hm:X.mg "min"=none)(hb:WX "min"=some (.builtin "min"))(ha:lC X Xw [e,e2] δs)(he:Wf [e,e2] X.env=(false,eval e X.env)::Wf [e2] X.env:=by rfl)
 (mS:(Xv pos (Wf [e2] X.env)).any (·.1)=false:=by rfl):PD X Xw (.Call (.Name "min" p) [e,e2] [] pos) (dA D7 δs):=
 d5 (Dr hc) (λXw F H vs ds Q s h w=>by
  unfold D7 at w;split at w
  ·obtain⟨v,v',rfl,h1,h2⟩:=h.two;cases (show _=_ from h1);cases (show _=_ from h2);exact⟨_,_,rfl,WP.now w s rfl⟩
  ·exact w.elim) hg hm hb ha (by decide) (by decide) he mS
def nums:List D->Option (List Int)
 |[]=>some []
 | .int x::r=>(nums r).map (x:: ·)
 |_=>none
def iU{K:V9}:∀{ds:List D}{vs:List V}{xs:List Int},nums ds=some xs->DenL K F ds vs->vs=xs.map V.int
 |[],_,_,e,h=>by cases e;exact h
 | .int b::r,_,_,e,⟨v,r',h1,h2,h3⟩=>by
   unfold nums at e;cases q:nums r with
   |none=>rw[q] at e;cases e
   |some bs=>rw[q] at e;cases e;subst h1;rw[iU q h3,show v= .int b from h2];rfl
 | .non::_,_,_,e,_=>by cases e
 | .str _::_,_,_,e,_=>by cases e
 | .bl _::_,_,_,e,_=>by cases e
 | .raw _::_,_,_,e,_=>by cases e
 | .exc _::_,_,_,e,_=>by cases e
 | .scr _::_,_,_,e,_=>by cases e
 | .tup _::_,_,_,e,_=>by cases e
 | .lst _::_,_,_,e,_=>by cases e
def A0(neg:Bool):D->D->M D
 | .int i, .tup ds=>match nums ds with | some ns=>aa (.bl (if neg then !ns.contains i else ns.contains i)) | none=>af
 |_,_=>af
def F0(i:Int)(ns:List Int):P_ (.int i) (ns.map V.int)=ns.contains i:=by
 unfold P_;rw[List.any_map];induction ns with
 |nil=>rfl
 |cons n ns ih=>
  rw[Y9,List.contains_cons,ih];congr 1;show H0 (.int n) (.int i)=(i==n)
  unfold H0;exact Bool.beq_comm
def FZ{neg:Bool}{K:V9}:As K (RW K neg) (A0 neg):=λXw F H x y dx dy Q s hx hy w=>by
 unfold A0 at w;split at w
 ·rename_i i ds;obtain⟨a,vs,h1,h2,h3,h4⟩:=hy;split at w
  ·rename_i ns hn;have hv:=iU hn h3;subst hv;cases (show _=_ from hx);refine⟨a,ns.map V.int,h1, .inr (SqT.of (s _ _ h2)),rfl,?_,?_⟩
   ·rw[YI];exact WT.mpr λ_ _=>rfl
   ·rw[F0];exact WP.now w s rfl
  ·exact w.elim
 ·exact w.elim
def Ex(ha:PD X Xw a δa)(hb:PD X Xw b δb)(hm:Xh .NotIn b=false:=by rfl):qA X Xw (.Compare a [.NotIn] [b] pos) (da (d2 (A0 true) δa δb)):=gp xD FZ ha hb hm
def FD(neg:Bool):D->D->M D
 | .str x, .str y=>aa (.bl (if neg then !(!(XC y x 0 y.length 1).isEmpty) else !(XC y x 0 y.length 1).isEmpty))
 |_,_=>af
def Mc(ha:PD X Xw a δa)(hb:PD X Xw b δb)(hm:Xh .In b=false:=by rfl):PD X Xw (.Compare a [.In] [b] pos) (d2 (FD false) δa δb):=xE Eh (λXw F H x y dx dy Q s hx hy w=>by
 unfold FD at w;split at w
 ·exact⟨_,_,hx.1,hy.1,WP.now w s rfl⟩
 ·exact w.elim) ha hb hm
end
end L3
namespace L3
open PySem PySem.Spec L2 SeqAt HT
open PyProof.Rows hiding St
section
variable{Xw:Nat->Hp->Prop}{b:Expr}{lo hi:Option Expr}
def WPO(Xw:Nat->Hp->Prop)(F H:Hp)(m:M (Option Int))(Q:Option Int->Hp->Prop):Prop:=
 match m with
 |none=>False
 |some (.ok b)=>∀H' F',Ext F H F' H'->Q b H'
 |some (.ex n)=>∀F' H',Ext F H F' H'->Xw n H'
def WPO.mono{Xw:Nat->Hp->Prop}{F H:Hp}{m:M (Option Int)}{Q Q':Option Int->Hp->Prop}(h:WPO Xw F H m Q)(k:∀v H',Q v H'->Q' v H'):WPO Xw F H m Q':=by
 match m,h with
 |none,h=>exact h
 |some (.ok d),h=>exact λH2 F2 e2=>k _ _ (h H2 F2 e2)
 |some (.ex n),h=>exact h
def cutD(ds:List D)(lo hi:Option Int):List D:=(ds.drop (sIx ds.length 0 lo)).take (sIx ds.length ds.length hi - sIx ds.length 0 lo)
end
def Pu(x:Str):It:=⟨λi _=>i<x.cps.size,λi H v H'=>H'=H/\∃c,x.cps[i]? =some c/\v= .str ⟨#[c]⟩,λi _=>x.cps.size<=i⟩
def EM{P:Wz}{K:V9}(it:Addr)(x:Str)(t:Tok):Turn P w K tg (Pu x) [it] it (λi h=>i<=x.cps.size/\h.IsStrIter it "str_ascii_iterator" x t i) where
 mem:=by simp
 obj:=λi h st b hb=>by
  have e:b=it:=by simpa using hb
  subst e;obtain⟨_,o,e,c,d⟩:=st;exact⟨o,e,λv z=>by rw[d] at z;cases z⟩
 keep:=λi h h' st k=>⟨st.1,let ⟨o,e,r⟩:=st.2;⟨o,k it (by simp) o e,r⟩⟩
 item:=by
  intro X hP hw hK hc i f8 s σ H E I hf st hg;subst hP hw hK;obtain⟨f0,f1,f2,f3,f4,f5⟩:=hf it (by simp);have hi:i<x.cps.size:=hg;refine(Walks.strAscii (I.ok.hd hc) it x t).item i s _ _ hi st.2 λv h' tk hv p5 kk=>?_;obtain⟨c,u,QU,rfl⟩:=hv;have I1:Inv X f8 σ H {s with heap:=h',toks:=tk}:=I.turned (λb o hb e=>kk b o (by simpa using hb) e) f0 f1 f3 f4 f5;obtain⟨o,e,cc,dd⟩:=id p5;exact⟨_,rfl,rp e cc dd (by decide) ⟨.str ⟨#[c]⟩,H,I1,⟨u,rfl⟩,⟨rfl,c,QU,rfl⟩,⟨hi,p5⟩,λb hb=>(hf b hb).1⟩⟩
 done:=by
  intro X hP hw hK hc i f8 s σ H E I hf st hg;subst hP hw hK;obtain⟨f0,f1,f2,f3,f4,f5⟩:=hf it (by simp);have hi:i=x.cps.size:=aaX st.1 hg;subst hi;exact(Walks.strAscii (I.ok.hd hc) it x t).done s _ _ st.2 λh' tk kk=>⟨rfl,I.turned (λb o hb e=>kk b o (by simpa using hb) e) f0 f1 f3 f4 f5⟩
 self:=λ_ _ _ _ _ st h=>wpAny_pyIter_striter_ascii st.2 h
def EN{P:Wz}{K:V9}(it:Addr)(x:Str)(t:Tok):Turn P w K tg (Pu x) [it] it (λi h=>i<=x.cps.size/\h.IsStrIter it "str_iterator" x t i) where
 mem:=by simp
 obj:=λi h st b hb=>by
  have e:b=it:=by simpa using hb
  subst e;obtain⟨_,o,e,c,d⟩:=st;exact⟨o,e,λv z=>by rw[d] at z;cases z⟩
 keep:=λi h h' st k=>⟨st.1,let ⟨o,e,r⟩:=st.2;⟨o,k it (by simp) o e,r⟩⟩
 item:=by
  intro X hP hw hK hc i f8 s σ H E I hf st hg;subst hP hw hK;obtain⟨f0,f1,f2,f3,f4,f5⟩:=hf it (by simp);have hi:i<x.cps.size:=hg;refine(Walks.strWide (I.ok.hd hc) it x t).item i s _ _ hi st.2 λv h' tk hv p5 kk=>?_;obtain⟨c,u,QU,rfl⟩:=hv;have I1:Inv X f8 σ H {s with heap:=h',toks:=tk}:=I.turned (λb o hb e=>kk b o (by simpa using hb) e) f0 f1 f3 f4 f5;obtain⟨o,e,cc,dd⟩:=id p5;exact⟨_,rfl,rp e cc dd (by decide) ⟨.str ⟨#[c]⟩,H,I1,⟨u,rfl⟩,⟨rfl,c,QU,rfl⟩,⟨hi,p5⟩,λb hb=>(hf b hb).1⟩⟩
 done:=by
  intro X hP hw hK hc i f8 s σ H E I hf st hg;subst hP hw hK;obtain⟨f0,f1,f2,f3,f4,f5⟩:=hf it (by simp);have hi:i=x.cps.size:=aaX st.1 hg;subst hi;exact(Walks.strWide (I.ok.hd hc) it x t).done s _ _ st.2 λh' tk kk=>⟨rfl,I.turned (λb o hb e=>kk b o (by simpa using hb) e) f0 f1 f3 f4 f5⟩
 self:=λ_ _ _ _ _ st h=>wpAny_pyIter_striter_wide st.2 h
section
variable{X:Cx}{Xw:Nat->Hp->Prop}{tg a b e l o:Expr}{δ:DE}
def RB(tl:TE):TI:=λσ H R=>tl σ H λx H1=>∃z,x= .str z/\R (Pu z) H1
def Mr{tl:TE}(hl:PE X l tl):PI X tg l (RB tl):=by
 intro f8 s σ H R I h;refine ck (hl f8 s σ H _ I h) λv s1 ⟨x,H1,I1,r1,q1⟩=>?_;obtain⟨z,e,q⟩:=q1;subst e;obtain⟨t,rfl⟩:=r1;have fp:∀b∈[s1.heap.objs.size],t6 X f8 H1 b:=λb hb=>by
  have e:b=s1.heap.objs.size:=by simpa using hb
  subst e;exact I1.fpOk (Wj _) (I1.hok.fresh (Wj _))
 cases ha:z.cps.all (· <128)
 ·exact wpAny_pyIter_wide ha ⟨s1.heap.objs.size,[s1.heap.objs.size],_,_,H1,rfl,I1.kept (t':=s1.toks) λb o e=>V8 _ e,EN _ z t,⟨W8 _,_,Wm _ rfl,rfl,rfl⟩,fp,q⟩
 ·exact wpAny_pyIter_ascii ha ⟨s1.heap.objs.size,[s1.heap.objs.size],_,_,H1,rfl,I1.kept λb o e=>V8 _ e,EM _ z t,⟨W8 _,_,Wm _ rfl,rfl,rfl⟩,fp,q⟩
def signs(x:Str):List D:=x.cps.toList.map λc=>D.str ⟨#[c]⟩
def ME:D->M (List D)
 | .str x=>aa (signs x)
 |_=>af
def IU{K:V9}{F:Hp}(x:Str):ItD K F (Pu x) (signs x):=λF' H' i s1 s2=>by
 refine⟨λd e=>?_,λhl=>show x.cps.size<=i by simpa[signs] using hl⟩;unfold signs at e;rw[Wb] at e;cases q:x.cps.toList[i]? with
 |none=>rw[q] at e;cases e
 |some c=>
  rw[q] at e;cases e;have hi:i<x.cps.size:=by
   have:=(We.mp q).1;simpa using this
  refine⟨hi,λv H'' y=>?_⟩;obtain⟨e2,c',KA,rfl⟩:=y;subst e2;have:c'=c:=by
   have q':x.cps[i]? =some c:=by simpa using q
   rw[q'] at KA;exact(WC KA).symm
  subst this;exact⟨F',Ext.refl s2,rfl,by show 1<=lim;decide⟩
def JF(h:PD X Xw l δ):yz X Xw tg l (λρ=>δ ρ>>=ME):=PI.weak (Mr h) λσ H R ⟨F,ρ,s,w⟩=>by
 refine⟨F,ρ,s,WP.mono (WPI.bind w) λv H1 ⟨F1,d,e1,q1,w1⟩=>?_⟩;cases d with
 |str z=>exact⟨z,q1.1,w1 _ _ _ (Ext.refl e1.fh) (IU z)⟩
 |_=>exact w1.elim
end
end L3
namespace L3
open PySem PySem.Spec L2 SeqAt HT
open PyProof.Rows hiding St
open PySem.W (Frag Looks InstAt findIn mroIn)
open PySem.Builtin PySem.Builtin.ObjectAttr PySem.Builtin.Getset_descriptor
end L3
namespace L3
open PySem PySem.Spec L2 SeqAt HT
open PyProof.Rows hiding St
structure RoomH (k:Nat) (A:Xa):Prop where
 dp:A.depth+3*k+5<abK
 un:A.units+16*k+200<cLine
def RoomH.deeper(r:RoomH (k+1) A)(env:Env):RoomH k (A.deeper env):=
 ⟨by have:=r.dp;show A.depth+1+3*k+5<_;omega,by have:=r.un;show A.units+3+16*k+200<_;omega⟩
def RoomH.units(r:RoomH k A):A.units+64<cLine:=by have:=r.un;omega
def HE{K:V9}(fh:Same F H)(hd:DenL K F ds vs):StOk K F H F H (L2.start N vs) (ds.map (λd=>some (Sl.fz d))++Wx (N.length - ds.length) none):=by
 have P3:=hd.len;have get:∀(i:Nat) (sl:Sl),(ds.map (λd=>some (Sl.fz d))++Wx (N.length - ds.length) none)[i]? =some (some sl)->∃d,ds[i]? =some d/\sl= .fz d:=λi sl e=>by
  by_cases hi:i<ds.length
  ·rw[WB (by simpa using hi),Wb] at e;cases q:ds[i]? with
   |none=>rw[q] at e;cases e
   |some d=>rw[q] at e;cases e;exact⟨d,rfl,rfl⟩
  ·rw[WJ (by simpa using hi),Xd] at e;split at e<;>cases e
 refine⟨Ext.refl fh,⟨fh,λi sl e=>?_⟩,?_,λi c a e=>?_,λi j sl mN v v' b e _ _ _ hb _=>?_⟩
 ·obtain⟨d,q,rfl⟩:=get i sl e;obtain⟨v,e1,e2⟩:=hd.get q;have hi:=(We.mp q).1;refine⟨v,?_,e2⟩;unfold L2.start;rw[WB (by simp;omega),Wb,e1];rfl
 ·unfold L2.start;simp[P3]
 ·obtain⟨d,_,z⟩:=get i _ e;cases z
 ·obtain⟨d,_,z⟩:=get i _ e;rw[z] at hb;cases hb
def Ce(N:List Str)(osc scope:Scope)(tn:List Str):Bool:=
 decide (scope.kind= .function)&&scope.names.all (λy=>decide (y.2≠ .cell))&&scope.names.all (λy=>decide (y.2= .local->scope.names.lookup y.1=some .local))&&
 scope.names.all (λy=>decide (y.2= .free->(osc.names.lookup y.1=some .cell\/osc.names.lookup y.1=some .free)))&&
 ((eO tn N).zip N).all (λp=>decide (scope.names.lookup p.1=none\/(p.1=p.2/\scope.names.lookup p.1=some .free)))
def cM(hN:X.N=N)(ho:X.env.scope=osc)(h:Ce N osc scope tn=true):CompSc X scope tn:=by
 unfold Ce at h;simp only[WU,WT,acE] at h;obtain⟨⟨⟨⟨h1,h2⟩,h3⟩,h4⟩,h5⟩:=h;refine⟨h1,h2,h3,λy hy hf=>?_,?_⟩
 ·have:=h4 y hy hf;rw[<-ho] at this;exact this
 ·rw[hN];exact h5
def fw(hN:X.N.Nodup)(h0:X.N[0]? =some x)(LC:X.env.scope.names.lookup x=some .local):E5 X (.Name x px) 0 σ:=λf8 s σ' F H d ts v u I fh hd rv q e=>by
 have e:aa [d]=aa ts:=e;have e:=el e;subst e;refine aaQ (Ab I hN h0 (.inl LC) rv (λs' I'=>⟨[v],?_, .cons q .nil⟩) (.inr LC));have hl:0<σ'.length:=by rw[I.len];exact(We.mp h0).1
 have:σ'.set 0 (some v)=[v].map some++σ:=by
  cases σ' with
  |nil=>simp at hl
  |cons a r=>
   have hd:r=σ:=by simpa using hd
   subst hd;rfl
 rw[<-this];exact I'
def bN:Passes (jN P w cv) X (EX cv λ_ _=>False):=λ_ _ _ _ _ _ _ ⟨_,_,_,_,_,_,_,_,_,_,_,_,_,_,z⟩=>z.elim
def bF(K:V9)(mg:Str->Option Value)(x:Str)(st:Stmt)(f:Addr):Prop:=mg x=some (.ref f)/\∃fd,Fun K x x st f fd
def ao(P:Wz)(w:World)(K:V9)(mg:Str->Option Value)(base:Heap)(cv:Nat->Value)(k:Nat)(x:Str)(m:Nat)(g:List D->M D):Prop:=
 ∃f fd ps,mg x=some (.ref f)/\W2 K (.ref f)=true/\Binds K fd ps []/\FnOk P w K mg base (jN P w cv) k f fd ps (MG K cv m g)
section
variable{X:Cx}{Xw:Nat->Hp->Prop}{cv:Nat->Value}{k m:Nat}{g:List D->M D}{x:Str}{p pos:Pos}{e:Expr}{es:List Expr}{δs:DA}
def au(m:Nat)(g:List D->M D)(δs:DA):DE:=λρ=>δs ρ>>=λds=>if ds.length=m then g ds else af
def a7(F:ao X.prog X.w X.K X.mg X.base cv k x m g)(hr:Room k X.A)(hg:Gl X x)(hx:Passes (jN X.prog X.w cv) X (EX cv Xw))
 (ha:lC X Xw (e::es) δs)(hl:(e::es).length=m)(rq:(x==("__debug__":Str))=false:=by decide)(he:Wf (e::es) X.env=(false,eval e X.env)::Wf es X.env:=by rfl)(mS:(Xv pos (Wf es X.env)).any (·.1)=false:=by rfl):
 PD X Xw (.Call (.Name x p) (e::es) [] pos) (au m g δs):=by
 obtain⟨f,fd,ps,h1,h2,h3,h4⟩:=F;exact Jw h4 hr hg h1 h2 h3 hx ha hl rq he mS
end
def aE{K:V9}{st:Stmt}(T:bF K mg x st f)(S:FnScope N ps (ai st))
 (IE:∀(kV doc pm:Value) (an:Option Addr) (de ct:Value) (us:List Value),us.length=ps.length->aav (W6 x x (aQ st) (aF st) (ai st) .none kV doc pm an de ct) ⟨us,[]⟩=pure (ps.zip us))
 (dI:∀(de:Value) (A:Xa) (outer:List Env) (s:Wa) (H:Hp) (E:XK),Room k (A.deeper (YZ x (ai st) s.heap.objs.size f de))->
  PSDs (f7 (jN P w cv) P w K mg base N x (ai st) f de A outer s H E) (λn H'=>E (cv n) none H') (aF st) τ):ao P w K mg base cv (k+1) x ps.length (cx N.length τ):=by
 obtain⟨h1,fd,Fn⟩:=T;exact⟨f,fd,ps,h1,Fn.kp,Fn.binds IE,QH Fn S dI⟩
section
variable{X:Cx}{Xw:Nat->Hp->Prop}{a:Expr}{δ:DE}{pos:Pos}
def uq:D->M D
 | .int i=>aa (.int (-i))
 |_=>af
def sQ(ha:PD X Xw a δ):PD X Xw (.UnaryOp .USub a pos) (d1 uq δ):=PE.weak (O0 MO ha) λσ H Q ⟨F,ρ,s,w⟩=>by
 refine⟨F,ρ,s,WP.mono (WP.bind w) λv H1 ⟨F1,d,e1,q,w1⟩=>?_⟩;cases d with
 |int i=>
  have q:v= .int i:=q;subst q;exact⟨i,rfl,WP.now w1 e1.fh rfl⟩
 |_=>exact w1.elim
end
section
variable{X:Cx}{Xw:Nat->Hp->Prop}{pos:Pos}
def xI{x z:Str}(hg:Gl X x)(h:∃t,X.mg x=some (.str z t))(hz:z.length<=lim)(rq:(x==("__debug__":Str))=false:=by decide):PD X Xw (.Name x pos) (dC (.str z)):=by
 obtain⟨t,h⟩:=h;exact CJ (v:= .str z) hg h ⟨t,rfl⟩ (λ_=>⟨rfl,hz⟩) rq
def xG{x:Str}{i:Int}(hg:Gl X x)(h:∃t,X.mg x=some (.int i t))(rq:(x==("__debug__":Str))=false:=by decide):PD X Xw (.Name x pos) (dC (.int i)):=by
 obtain⟨t,h⟩:=h;exact CJ (v:= .int i) hg h ⟨t,rfl⟩ (λ_=>rfl) rq
end
def JZ(sc osc:Scope):Scope:={sc with names:=sc.names.map λ(n,k)=>if (k== .free&&osc.kind== .function&&osc.names.lookup n==some .cell) then(n, .cell) else(n,k)}
def Pp{l:acg}{n k:Nat}{q:Wz}{loose:List Str}{XP:(Str->Option Value)->Heap->Prop}{YP:World->Heap->Prop}{d:DefRec}{K:abz->V9}{x:Str}{g:List D->M D}
 (hn:l.most=some n)(LF:n<=lim)(NT:d.params.defaults=[])(hr:Room k aaT)
 (hY:∀(w:World) (h:Heap),YP w h->(K w.params).In h)(hg:∀ns:List Int,ns.length<=n->g [.scr ns]=aa (.bl true))
 (F:∀(w:World) (mg:Str->Option Value) (fa:Addr) (h:Heap),(K w.params).In h->h.Ns Ws mg->mg d.name=some (.ref fa)->
  ∃(cv:Nat->Value) (fd:Ys),(∀(s:Wa) (u:Value),acp s fd ⟨[u],[]⟩ [(x,u)])/\
   ∀base:Heap,(K w.params).In base->base.Ns Ws mg->FnOk l.prog w (K w.params) mg base (jN l.prog w cv) k fa fd [x] (MG (K w.params) cv 1 g)):
 PySem.W.WalkO q loose XP YP l.row.toRowW d [] (λf vs=>acf f vs):=by
 refine Att.attach_call hn NT λw acJ v6 mg mb fa o pm cd doc a vs ns G Y ho hd qF LD FV hints P3 Uw=>?_;have KX:=hY w _ Y;obtain⟨cv,fd,hb,hF⟩:=F w mg fa _ KX G.T.g LD;refine zh KX G.T.g G.T.b G.T.builtins G.T.nolimit Uw FV hints (WZ P3 (WZ LF (X8 eZ))) hr hF hb (λH hO hS=>?_) λH e s' z=>?_
 ·refine⟨H,[.scr ns],λ_ _ e=>e,⟨_,_,rfl,⟨a,rfl,hS,WZ P3 LF⟩,rfl⟩,rfl,?_⟩;rw[hg ns P3];exact λv H' F' e q=>q
 ·obtain⟨_,_,_,_,_,_,_,_,_,_,_,_,_,_,y⟩:=z
section
variable{X:Cx}{Xw:Nat->Hp->Prop}{e:Expr}
variable{o:Expr}{δo:DE}{δl:DA}{u8 aY:Pos}
def AK(x y:Str):Nat:=(XC x y 0 x.length (x.length+1)).length
def Cf:D->List D->M D
 | .str x,[.str y]=>aa (.int (AK x y))
 |_,_=>af
def Ji:MP X "str.count" (λx vs H Q=>∃y z:Str,x= .str y/\vs=[.str z]/\Q (.int (AK y z)) H):=by
 intro f8 s σ H x vs v us Q I rx rv h;obtain⟨y,z,rfl,rfl,q⟩:=h;obtain⟨t,rfl⟩:=rx;obtain⟨u,rfl,r1⟩:=rv.one;obtain⟨t2,rfl⟩:=r1;exact call_gives F.slot_str_count (typeIs_str _ _ _) F.entry_str_count (F.args_str_count_2 _ _) (gives_str_count y z t t2) ⟨.int (AK y z),H,I.tok _,⟨_,rfl⟩,q⟩
def Jy(ho:PD X Xw o δo)(ha:lC X Xw [e] δl)(dY:WR o "count" X.env (eval o X.env)=eval o X.env:=by rfl)
 (mx:((Xv aY (Wf [e] X.env)).all (λx=>!x.1)&&(X7 aY (Xi [] X.env)).all (λx=>x.1.isSome)&&decide ([e].length+([]:List Yp).length+(if ([]:List Yp).isEmpty then 0 else 1)<30))=true:=by rfl)
 (dZ:(u8.endLine==aY.line)=true:=by rfl)(qa:Wf [e] X.env=[(false,eval e X.env)]:=by rfl):PD X Xw (.Call (.Attribute o "count" u8) [e] [] aY) (dM DP Cf δo δl):=
 G0 aa8 PySem.F.slot_str_count PySem.F.type_str_count Ji F9 (λXw F H x vs d ds Q s hx hv w=>by
  unfold Cf at w;split at w
  ·rename_i y z;obtain⟨v,rfl,h1⟩:=hv.one;exact⟨y,z,hx.1,by rw[h1.1],WP.now w s rfl⟩
  ·exact w.elim) ho ha dY mx dZ qa rfl
end
def IsTupRev(h:Heap)(it t:Addr)(i:Int):Prop:=∃o,h.get? it=some o/\o.cls= .type "reversed"/\o.data= .fields #[.ref t,ZZ i]
section
variable{s:Wa}
def IsTupRev.typeIs{it t:Addr}{i:Int}(x:IsTupRev s.heap it t i):s.TypeIs (.ref it) "reversed":=let ⟨o,ho,hc,_⟩:=x;⟨o,ho,hc⟩
def IsTupRev.at{h h':Heap}{it t:Addr}{i:Int}(x:IsTupRev h it t i)(e:∀o,h.get? it=some o->h'.get? it=some o):IsTupRev h' it t i:=let ⟨o,ho,r⟩:=x;⟨o,e _ ho,r⟩
end
section
variable{e:Expr}
end
def Gh:D->Option Key
 | .int i=>some (.inl i)
 | .str x=>some (.inr x)
 |_=>none
def I8:List D->Option (List Key)
 |[]=>some []
 |d::ds=>match Gh d,I8 ds with
  |some k,some ks=>some (k::ks)
  |_,_=>none
def lD:D->Option (List Key)
 | .tup ds=>I8 ds
 |_=>none
def rJ{K:V9}{F:Hp}(e:Gh d=some k)(h:Den K F d v):v=kV k:=by
 cases d<;>first | cases e | skip
 ·exact h
 ·exact h.1
def nh{K:V9}{F:Hp}:∀{ds:List D}{vs:List V}{ks:List Key},I8 ds=some ks->DenL K F ds vs->vs=ks.map kV
 |[],_,_,e,h=>by cases e;exact h
 |d::ds,_,_,e,⟨v,r,h1,h2,h3⟩=>by
  unfold I8 at e;split at e
  ·rename_i k ks e1 e2;cases e;subst h1;rw[Wg,rJ e1 h2,nh e2 h3]
  ·cases e
section
variable{κ:Type}[DecidableEq κ]
def f6:List κ->List D->κ->Option D
 |k'::ks,d::ds,k=>if k'=k then some d else f6 ks ds k
 |_,_,_=>none
def oW:List κ->List D->κ->D->List D
 |k'::ks,d'::ds,k,d=>(if k'=k then d else d')::oW ks ds k d
 |_,_,_,_=>[]
def n6{K:V9}{F:Hp}:∀{ks:List κ}{ds:List D}{vs:List V}(k:κ),DenL K F ds vs->ks.length=ds.length->
 (match f6 ks ds k with | some d=>∃v,n9 (ks.zip vs) k=some v/\Den K F d v | none=>n9 (ks.zip vs) k=none)
 |[],[],_,_,_,_=>rfl
 |k'::ks,d::ds,_,k,⟨v,r,h1,h2,h3⟩,hl=>by
  subst h1;unfold f6;rw[XY];by_cases e:k'=k
  ·rw[acz e,oa e];exact⟨v,rfl,h2⟩
  ·rw[acA e,n_ e];exact n6 k h3 (by simpa using hl)
 |[],_::_,_,_,_,hl=>by simp at hl
 |_::_,[],_,_,_,hl=>by simp at hl
def k9{K:V9}{F:Hp}(k:κ)(h:DenL K F ds vs)(hl:ks.length=ds.length):(n9 (ks.zip vs) k).isSome=(f6 ks ds k).isSome:=by
 have:=n6 k h hl;split at this
 ·rename_i d e;obtain⟨v,e1,_⟩:=this;rw[e1,e];rfl
 ·rename_i e;rw[this,e];rfl
def zY{K:V9}{F:Hp}(hd:Den K F d v):∀{ks:List κ}{ds:List D}{vs:List V}(k:κ),DenL K F ds vs->ks.length=ds.length->
 ∃ws,(ks.zip vs).map (λkv=>if kv.1=k then(kv.1,v) else kv)=ks.zip ws/\DenL K F (oW ks ds k d) ws
 |[],[],_,_,h,_=>⟨[],rfl,rfl⟩
 |k'::ks,d'::ds,_,k,⟨v',r,h1,h2,h3⟩,hl=>by
  subst h1;obtain⟨ws,e1,e2⟩:=zY hd k h3 (by simpa using hl);by_cases e:k'=k
  ·refine⟨v::ws,?_,?_⟩
   ·rw[XY,Wg,e1,acz e];rfl
   ·unfold oW;rw[acz e];exact .cons hd e2
  ·refine⟨v'::ws,?_,?_⟩
   ·rw[XY,Wg,e1,acA e];rfl
   ·unfold oW;rw[acA e];exact .cons h2 e2
 |[],_::_,_,_,_,hl=>by simp at hl
 |_::_,[],_,_,_,hl=>by simp at hl
def kI:∀(ks:List κ) (ds:List D) (k:κ) (d:D),ks.length=ds.length->(oW ks ds k d).length=ds.length
 |[],[],_,_,_=>rfl
 |_::ks,_::ds,k,d,h=>by unfold oW;rw[V7,V7,kI ks ds k d (by simpa using h)]
 |[],_::_,_,_,h=>by simp at h
 |_::_,[],_,_,h=>by simp at h
def dR(ks:List κ)(ds:List D)(k:κ):List κ:=if (f6 ks ds k).isSome then ks else ks++[k]
def cT(ks:List κ)(ds:List D)(k:κ)(d:D):List D:=if (f6 ks ds k).isSome then oW ks ds k d else ds++[d]
def xO{K:V9}(hd:Den K F d v)(k:κ)(h:DenL K F ds vs)(hl:ks.length=ds.length):
 ∃ws,putK (ks.zip vs) k v=(dR ks ds k).zip ws/\DenL K F (cT ks ds k d) ws/\(dR ks ds k).length=(cT ks ds k d).length:=by
 have hs:=k9 k h hl;unfold putK dR cT;have ha:((ks.zip vs).any λkv=>decide (kv.1=k))=(n9 (ks.zip vs) k).isSome:=tN ..;rw[ha,hs];cases e:(f6 ks ds k).isSome with
 |true=>
  rw[acz rfl,acz rfl,acz rfl];obtain⟨ws,e1,e2⟩:=zY hd k h hl;exact⟨ws,e1,e2,by rw[kI ks ds k d hl];exact hl⟩
 |false=>
  rw[acA Wt,acA Wt,acA Wt];refine⟨vs++[v],?_,h.append (.cons hd .nil),by simp[hl]⟩;rw[List.zip_append (by rw[hl];exact h.len)];rfl
end
def Dc{κ:Type}{K:V9}{ks:List κ}(h:DenL K F ds vs)(hl:ks.length=ds.length):(ks.zip vs).length=ds.length:=by
 rw[Zd,hl,<-h.len];omega
def tH(ρ:bb)(i:Nat):Option D:=match ρ[i]? with
 |some (some (.fz d))=>some d
 |some (some (.ow c))=>some c.d
 |_=>none
def Hy{K:V9}(s:StE K F H σ ρ)(e:tH ρ i=some (.dct ks ds)):
 ∃a vs,σ[i]? =some (some (.ref a))/\Rd H a (.dT (ks.zip vs))/\DenL K F ds vs/\ks.length=ds.length/\ds.length<=lim:=by
 unfold tH at e;split at e
 ·rename_i d e1;cases e;obtain⟨v,h1,a,ob,vs,rfl,h2,h3,h4,h5⟩:=s.den i _ e1;exact⟨a,vs,h1, .inr ⟨ob,s.fh _ _ h2⟩,h3,h4,h5⟩
 ·rename_i c e1;cases c<;>cases e
  obtain⟨v,h1,a,o,rfl,h2,_,vs,rfl,h3,h4,h5⟩:=s.den i _ e1;exact⟨a,vs,h1, .inl h2,h3,h4,h5⟩
 ·cases e
def Hx{K:V9}(s:StE K F H σ ρ)(e:tH ρ i=some (.dci ks ds)):
 ∃a vs,σ[i]? =some (some (.ref a))/\Rd H a (.dK (ks.zip vs))/\DenL K F ds vs/\ks.length=ds.length/\ds.length<=lim:=by
 unfold tH at e;split at e
 ·rename_i d e1;cases e;obtain⟨v,h1,a,ob,vs,rfl,h2,h3,h4,h5⟩:=s.den i _ e1;exact⟨a,vs,h1, .inr ⟨ob,s.fh _ _ h2⟩,h3,h4,h5⟩
 ·rename_i c e1;cases c<;>cases e
  obtain⟨v,h1,a,o,rfl,h2,_,vs,rfl,h3,h4,h5⟩:=s.den i _ e1;exact⟨a,vs,h1, .inl h2,h3,h4,h5⟩
 ·cases e
def EU:D->D->Option (Option D)
 | .dct ks ds,k=>(lD k).map (f6 ks ds)
 | .dci ks ds,k=>(Gh k).map (f6 ks ds)
 |_,_=>none
def Ca{K:V9}(s:StE K F H σ ρ)(hi:tH ρ i=some d)(hk:Den K F k y)(e:EU d k=some o):
 ∃a ov,σ[i]? =some (some (.ref a))/\mf H a y ov/\ov.isSome=o.isSome/\∀d',o=some d'->∃v,ov=some v/\Den K F d' v:=by
 unfold EU at e;split at e
 ·rename_i ks ds;cases q:lD k with
  |none=>rw[q] at e;cases e
  |some kk=>
   rw[q] at e;cases e;obtain⟨a,vs,h1,h2,h3,h4,h5⟩:=Hy s hi;unfold lD at q;split at q
   ·rename_i es;obtain⟨b,ws,rfl,k2,k3,_⟩:=hk;have e1:=nh q k3;subst e1;refine⟨a,_,h1, .inr ⟨_,kk,b,h2,rfl,s.fh _ _ k2,rfl⟩,k9 kk h3 h4,λd' qG=>?_⟩;have:=n6 kk h3 h4;rw[qG] at this;exact this
   ·cases q
 ·rename_i ks ds;cases q:Gh k with
  |none=>rw[q] at e;cases e
  |some kk=>
   rw[q] at e;cases e;obtain⟨a,vs,h1,h2,h3,h4,h5⟩:=Hx s hi;have e1:=rJ q hk;subst e1;refine⟨a,_,h1, .inl ⟨_,kk,h2,rfl,rfl⟩,k9 kk h3 h4,λd' qG=>?_⟩;have:=n6 kk h3 h4;rw[qG] at this;exact this
 ·cases e
section
variable{X:Cx}{Xw:Nat->Hp->Prop}{a b:Expr}{δa δb:DE}{pos:Pos}
def OT(ha:PD X Xw a δa)(hb:PD X Xw b δb):PD X Xw (.Compare a [.Gt] [b] pos) (d2 QK δa δb):=xE OQ (vD λ_ _ _=>rfl) ha hb
end
section
variable{X:Cx}{Xw:Nat->Hp->Prop}{a e:Expr}{δ δk δv:DE}{pos p pos' xM:Pos}{x:Str}{i:Nat}
def Nv(neg:Bool)(i:Nat)(δ:DE):DE:=λρ=>δ ρ>>=λk=>match tH ρ i with
 |some d=>match EU d k with
  |some o=>aa (.bl (if neg then !o.isSome else o.isSome))
  |none=>af
 |none=>af
def LO{neg:Bool}{σ:St}(h:tD X.K Xw (Nv neg i δ) σ H Q):(λσ H Q=>tD X.K Xw δ σ H λy H1=>g7 i σ H1 λx H2=>∃a o,x= .ref a/\mf H2 a y o/\Q (.bl (if neg then !o.isSome else o.isSome)) H2) σ H Q:=by
 obtain⟨F,ρ,s,w⟩:=h;refine⟨F,ρ,s,WP.mono (WP.bind w) λy H1 ⟨F1,k,e1,q1,w1⟩=>?_⟩;have s1:=s.ext e1;cases hi:tH ρ i with
 |none=>rw[hi] at w1;exact w1.elim
 |some d=>
  rw[hi] at w1;have w1:WP X.K Xw F1 H1 (match EU d k with | some o=>aa (.bl (if neg then !o.isSome else o.isSome)) | none=>af) Q:=w1;cases he:EU d k with
  |none=>rw[he] at w1;exact w1.elim
  |some o=>
   rw[he] at w1;obtain⟨a,ov,h1,h2,h3,_⟩:=Ca s1 hi q1 he;refine⟨.ref a,h1,a,ov,rfl,h2,?_⟩;rw[h3];exact WP.now w1 e1.fh rfl
def RU(hu:X.A.units+64<cLine)(ha:PD X Xw a δ)(hv:PE X (.Name x p) (g7 i))(hm:Xh .In (.Name x p)=false:=by rfl):PD X Xw (.Compare a [.In] [.Name x p] pos) (Nv false i δ):=
 PE.weak (Mh (Mb (by omega) ha hv) hm) λσ H Q h=>LO (neg:=false) h
def z4(i:Nat):DS:=λρ=>aa (.nx (ρ.set i (some (.ow (.dct [] [])))))
def nT(hN:X.N.Nodup)(hi:X.N[i]? =some x)(hx:Loc X.env.scope x)(hf:X.fn x=true\/X.env.scope.names.lookup x=some .local:=by first | exact .inl rfl | exact .inr rfl):
 qB X Xw (.Assign [.Name x pos'] (.Dict [] [] xM) pos) (z4 i):=λt0 acI=>PS.weak (sW Ha (bI hN hi hx hf) rfl) λD σ H ⟨F,ρ,s,w⟩=>λq hq=>
 w _ F _ (s.setNew (c₀:= .dct [] []) hq ⟨[],rfl,rfl,rfl,W8 _⟩)
def nV:C->D->D->Option C
 | .dct ks ds,k,d=>match lD k with
   |some kk=>if ds.length<lim then some (.dct (dR ks ds kk) (cT ks ds kk d)) else none
   |none=>none
 | .dci ks ds,k,d=>match Gh k with
   |some kk=>if ds.length<lim then some (.dci (dR ks ds kk) (cT ks ds kk d)) else none
   |none=>none
 |_,_,_=>none
def Bz(ρ:bb)(i:Nat):Option C:=match ρ[i]? with
 |some (some (.ow c))=>some c
 |_=>none
def vE{ρ:bb}{i:Nat}(h:Bz ρ i=some c):ρ[i]? =some (some (.ow c)):=by
 unfold Bz at h;split at h
 ·rename_i c' e;cases h;exact e
 ·cases h
def kK(i:Nat)(δk δv:DE):DS:=λρ=>match Bz ρ i with
 |some c=>δv ρ>>=λv=>δk ρ>>=λk=>match nV c k v with
  |some c'=>aa (.nx (ρ.set i (some (.ow c'))))
  |none=>af
 |none=>af
def vQ{κ:Type}[DecidableEq κ]{ks:List κ}{k:κ}(hl:ks.length=ds.length)(h:ds.length<lim):(cT ks ds k d).length<=lim:=by
 unfold cT;split
 ·rw[kI ks ds k d hl];omega
 ·rw[Wh];exact h
def Hk{K:V9}{F H:Hp}(hs:Same F H)(hb:H b=some o)(hc:DenC K F c o)(hk:Den K F k y)(hd:Den K F d v)(e:nV c k d=some c'):∃o',DPut H b y v (upd H b o')/\DenC K F c' o':=by
 have IH:=eZ;unfold nV at e;split at e
 ·rename_i ks ds k d;obtain⟨vs,rfl,h3,h4,h5⟩:=hc;split at e
  ·rename_i kk q;split at e
   ·rename_i f_;cases e;unfold lD at q;split at q
    ·rename_i es;obtain⟨b2,ws,rfl,k2,k3,_⟩:=hk;have e1:=nh q k3;subst e1;obtain⟨us,e2,e3,e4⟩:=xO hd kk h3 h4;refine⟨_,DPut.t hb (hs _ _ k2) (by rw[Dc h3 h4];omega),us,?_,e3,e4,vQ h4 f_⟩;rw[e2]
    ·cases q
   ·cases e
  ·cases e
 ·rename_i ks ds k d;obtain⟨vs,rfl,h3,h4,h5⟩:=hc;split at e
  ·rename_i kk q;split at e
   ·rename_i f_;cases e;have e1:=rJ q hk;subst e1;obtain⟨us,e2,e3,e4⟩:=xO hd kk h3 h4;refine⟨_,DPut.k hb (by rw[Dc h3 h4];omega),us,?_,e3,e4,vQ h4 f_⟩;rw[e2]
   ·cases e
  ·cases e
 ·cases e
def nU(hu:X.A.units+64<cLine)(hv:PE X (.Name x p) (g7 i))(hk:PD X Xw a δk)(he:PD X Xw e δv)(hs:Yn e (some (.Subscript (.Name x p) a pos')) pos.line X.env=pure false:=by rfl):
 qB X Xw (.Assign [.Subscript (.Name x p) a pos'] e pos) (kK i δk δv):=λt0 acI=>PS.weak (JO (by omega) hv hk he hs) λD σ H ⟨F,ρ,s,w⟩=>by
 unfold kK at w;cases ho:Bz ρ i with
 |none=>rw[ho] at w;exact w.elim
 |some c=>
  rw[ho] at w;have hi:=vE ho;have w:WPS X.K Xw t0 acI (δv ρ>>=λv=>δk ρ>>=λk=>match nV c k v with | some c'=>aa (.nx (ρ.set i (some (.ow c')))) | none=>af) D:=w;refine⟨F,ρ,s.st,?_⟩;rcases(δv ρ).cs with q | ⟨n,q⟩ | ⟨dv,q⟩
  ·rw[q] at w;exact w.elim
  ·rw[q] at w⊢;exact λF' H' e'=>w F' H' (s.ext.trans e')
  ·rw[q] at w⊢;intro v H1 F1 e1 hq;have s1:=s.ext' e1;obtain⟨u,h1,b,o,rfl,h2,h3,h4⟩:=s1.st.den i _ hi;have w:WPS X.K Xw t0 acI (δk ρ>>=λk=>match nV c k dv with | some c'=>aa (.nx (ρ.set i (some (.ow c')))) | none=>af) D:=w;refine⟨.ref b,h1,F1,ρ,s1.st,?_⟩;rcases(δk ρ).cs with q2 | ⟨n,q2⟩ | ⟨dk,q2⟩
   ·rw[q2] at w;exact w.elim
   ·rw[q2] at w⊢;exact λF' H' e'=>w F' H' (s1.ext.trans e')
   ·rw[q2] at w⊢;intro y H2 F2 e2 hy;have w:WPS X.K Xw t0 acI (match nV c dk dv with | some c'=>aa (.nx (ρ.set i (some (.ow c')))) | none=>af) D:=w;cases hp:nV c dk dv with
    |none=>rw[hp] at w;exact w.elim
    |some c'=>
     rw[hp] at w;have s2:=s1.ext' e2;obtain⟨u2,k1,b2,o2,MY,k2,k3,k4⟩:=s2.st.den i _ hi;rw[h1] at k1;cases k1;cases MY;obtain⟨o',g,hc⟩:=Hk s2.st.fh k2 k4 hy (Den.mono e2.ff hq) hp;exact⟨b,_,rfl,g,w σ F2 _ (s2.chg hi h1 hc)⟩
end
def fM(c:DT)(body:DS):Nat->DS
 |0,_=>af
 |n+1,ρ=>c ρ>>=λb=>if b then body ρ>>=λo=>match o with | .nx ρ'=>fM c body n ρ' | .rt d=>aa (.rt d) else aa (.nx ρ)
def BL(c:DT)(body:DS):DS:=λρ=>fM c body lim ρ
section
variable{X:Cx}{Xw:Nat->Hp->Prop}{τ:DS}{tc:DT}{pos:Pos}
def vM(hp:aby (model X.prog X.w) X.A X.env X.xe)(hc:qA X Xw c tc)(hb:PSDs X Xw body τ):qB X Xw (.While c body [] pos) (BL tc τ):=λt0 acI=>PS.weak (Hf hp hc hb.ex) λD σ H ⟨F,ρ,s,w⟩=>by
 refine⟨λm σ H=>∃F ρ,StOk X.K t0 acI F H σ ρ/\WPS X.K Xw t0 acI (fM tc τ m ρ) D,⟨lim,F,ρ,s,w⟩,?_⟩;rintro m σ H ⟨F,ρ,s,w⟩;cases m with
 |zero=>exact w.elim
 |succ m=>
  refine⟨F,ρ,s.st,?_⟩;unfold fM at w
  match tc ρ,w with
  |none,w=>exact w
  |some (.ex n),w=>exact λF' H' e'=>w F' H' (s.ext.trans e')
  |some (.ok false),w=>exact λH' F' e'=>w σ F' H' (s.ext' e')
  |some (.ok true),w=>
   intro H' F' e';have w:WPS X.K Xw t0 acI (τ ρ>>=λo=>match o with | .nx ρ'=>fM tc τ m ρ' | .rt d=>aa (.rt d)) D:=w;refine⟨λσ' H'=>∃F' ρ',StOk X.K t0 acI F' H' σ' ρ'/\WPS X.K Xw t0 acI (fM tc τ m ρ') D,λσ' H' h=>⟨m,YE m,h⟩,t0,acI,F',ρ,s.ext' e',?_⟩
   match τ ρ,w with
   |none,w=>exact w
   |some (.ok (.nx ρ')),w=>exact λσ' F' H' s'=>⟨F',ρ',s',w⟩
   |some (.ok (.rt d)),w=>exact w
   |some (.ex n),w=>exact w
end
end L3
namespace L3
open PySem PySem.W PyProof.Rows
def d7(b:Nat->Nat->Bool):KasT α->α
 | .ret a=>a
 | .ask i j k=>d7 b (k (b i j))
def gA(b:Nat->Nat->Bool)(f:α->KasT β):∀t:KasT α,d7 b (t.bind f)=d7 b (f (d7 b t))
 | .ret _=>rfl
 | .ask i j k=>gA b f (k (b i j))
structure Lt (n:Nat) (b:Nat->Nat->Bool):Prop where
 tr:∀i j k,b i j=true->b j k=true->b i k=true
 VM:∀i j,b i j=true->b j i=false
 tot:∀i j,i<n->j<n->i≠j->b i j=true\/b j i=true
abbrev at'(p:Array Nat)(i:Nat):Nat:=p.getD i 0
def Ri(b:Nat->Nat->Bool)(p:Array Nat)(k:Nat):Prop:=∀i j,i<j->j<k->b (at' p i) (at' p j)=true
def Fa(b:Nat->Nat->Bool)(p:Array Nat)(k:Nat):Prop:=∀i j,i<j->j<k->b (at' p j) (at' p i)=true
structure PN (n:Nat) (p:Array Nat):Prop where
 sz:p.size=n
 lt:∀i,i<n->at' p i<n
 inj:∀i j,i<n->j<n->at' p i=at' p j->i=j
section
variable{n:Nat}{b:Nat->Nat->Bool}(L:Lt n b)
include L
theorem Ri.more(h:Ri b p k)(h1:1<=k)(e:b (at' p (k - 1)) (at' p k)=true):Ri b p (k+1):=λi j za hj=>by
 by_cases hk:j<k
 ·exact h i j za hk
 ·have:j=k:=by omega
  subst this;by_cases hi:i=j - 1
  ·subst hi;exact e
  ·exact L.tr _ _ _ (h i (j - 1) (by omega) (by omega)) e
theorem Fa.more(h:Fa b p k)(h1:1<=k)(e:b (at' p k) (at' p (k - 1))=true):Fa b p (k+1):=λi j za hj=>by
 by_cases hk:j<k
 ·exact h i j za hk
 ·have:j=k:=by omega
  subst this;by_cases hi:i=j - 1
  ·subst hi;exact e
  ·exact L.tr _ _ _ e (h i (j - 1) (by omega) (by omega))
theorem wk(P:PN n p):∀(f k:Nat),1<=k->k+f<=n->Ri b p k->k<=d7 b (kas_asc p f k)/\d7 b (kas_asc p f k)<=k+f/\Ri b p (d7 b (kas_asc p f k))/\(d7 b (kas_asc p f k)<k+f->b (at' p (d7 b (kas_asc p f k))) (at' p (d7 b (kas_asc p f k) - 1))=true)
 |0,k,h1,hn,h=>⟨Wj _,Wj _,h,λz=>acC z (Xe _)⟩
 |f+1,k,h1,hn,h=>by
  have e:d7 b (kas_asc p (f+1) k)=d7 b (if b (at' p k) (at' p (k - 1))=true then KasT.ret k else kas_asc p f (k+1)):=rfl;rw[e];by_cases hb:b (at' p k) (at' p (k - 1))=true
  ·rw[acz hb];exact⟨Wj _,by show k<=_;omega,h,λ_=>hb⟩
  ·rw[acA hb];have hr:b (at' p (k - 1)) (at' p k)=true:=by
    rcases L.tot (at' p (k - 1)) (at' p k) (P.lt _ (by omega)) (P.lt _ (by omega)) (λz=>by have:=P.inj _ _ (by omega) (by omega) z;omega) with q | q
    ·exact q
    ·exact acC q hb
   obtain⟨a1,a2,a3,a4⟩:=wk P f (k+1) (by omega) (by omega) (Ri.more L h h1 hr);exact⟨by omega,by omega,a3,λz=>a4 (by omega)⟩
theorem yP(P:PN n p):∀(f k:Nat),1<=k->k+f<=n->Fa b p k->∃m,d7 b (kas_desc f p k 0)=(p,m,0)/\k<=m/\m<=k+f/\Fa b p m
 |0,k,h1,hn,h=>⟨k,rfl,Wj _,Wj _,h⟩
 |f+1,k,h1,hn,h=>by
  have e:d7 b (kas_desc (f+1) p k 0)=d7 b (if b (at' p k) (at' p (k - 1))=true then(if 0>0 then kas_desc f (kas_rev p (k - (0+1)) k) (k+1) 0 else kas_desc f p (k+1) 0)
   else .ask (p.getD (k - 1) 0) (p.getD k 0) λd=>if d=true then .ret (p,k,0) else kas_desc f p (k+1) (0+1)):=rfl
  rw[e];by_cases hb:b (at' p k) (at' p (k - 1))=true
  ·rw[acz hb,acA (by omega)];obtain⟨m,e1,e2,e3,e4⟩:=yP P f (k+1) (by omega) (by omega) (Fa.more L h h1 hb);exact⟨m,e1,by omega,by omega,e4⟩
  ·rw[acA hb];have hr:b (at' p (k - 1)) (at' p k)=true:=by
    rcases L.tot (at' p (k - 1)) (at' p k) (P.lt _ (by omega)) (P.lt _ (by omega)) (λz=>by have:=P.inj _ _ (by omega) (by omega) z;omega) with q | q
    ·exact q
    ·exact acC q hb
   refine⟨k,?_,Wj _,by omega,h⟩;show d7 b (if b (at' p (k - 1)) (at' p k)=true then KasT.ret (p,k,0) else kas_desc f p (k+1) (0+1))=_;rw[acz hr];rfl
end
def f9(p:Array Nat)(k:Nat):at' p k=(p[k]?).getD 0:=by
 unfold at';rw[Array.getD_eq_getD_getElem?]
def Hr(hm:m<=p.size)(k:Nat):at' (kas_rev p 0 m) k=if k<m then at' p (m - 1 - k) else at' p k:=by
 have e:=getElem?_mirror_all (i:=0) hm k;rw[f9];show (((mirror p 0 m ((m - 0) / 2))[k]?).getD 0)=_;rw[e];by_cases h:k<m
 ·rw[acz ⟨W8 _,h⟩,acz h,f9,ZO]
 ·rw[acA (λz=>h z.2),acA h,f9]
def E9(hk:k<p.size)(hl:l<=k)(j:Nat):at' (bubble p k (k - l)) j=if j=l then at' p k else if l<j/\j<=k then at' p (j - 1) else at' p j:=by
 have e:=getElem?_bubble hk (k - l) (by omega) j;have e2:k - (k - l)=l:=by omega
 rw[e2] at e;rw[f9 (bubble p k (k - l)),e,f9 p k,f9 p (j - 1),f9 p j];by_cases c1:j=l
 ·rw[acz c1,acz c1]
 ·rw[acA c1,acA c1];by_cases c2:l<j/\j<=k
  ·rw[acz c2,acz c2]
  ·rw[acA c2,acA c2]
section
variable{n:Nat}{b:Nat->Nat->Bool}
def PN.rev(P:PN n p)(hm:m<=n):PN n (kas_rev p 0 m):=by
 have ha:=Hr (by rw[P.sz];exact hm);refine⟨(mirror_size ..).trans P.sz,λi hi=>?_,λi j hi hj e=>?_⟩
 ·rw[ha];split
  ·exact P.lt _ (by omega)
  ·exact P.lt _ hi
 ·rw[ha,ha] at e;split at e<;>split at e
  ·have:=P.inj _ _ (by omega) (by omega) e;omega
  ·have:=P.inj _ _ (by omega) hj e;omega
  ·have:=P.inj _ _ hi (by omega) e;omega
  ·exact P.inj _ _ hi hj e
def PN.bub(P:PN n p)(hk:k<n)(hl:l<=k):PN n (bubble p k (k - l)):=by
 have ha:=E9 (by rw[P.sz];exact hk) hl;refine⟨(bubble_size ..).trans P.sz,λi hi=>?_,λi j hi hj e=>?_⟩
 ·rw[ha];split
  ·exact P.lt _ hk
  ·split
   ·exact P.lt _ (by omega)
   ·exact P.lt _ hi
 ·rw[ha,ha] at e;split at e
  ·split at e
   ·omega
   ·split at e
    ·have:=P.inj _ _ hk (by omega) e;omega
    ·have:=P.inj _ _ hk hj e;omega
  ·split at e
   ·split at e
    ·have:=P.inj _ _ (by omega) hk e;omega
    ·split at e
     ·have:=P.inj _ _ (by omega) (by omega) e;omega
     ·have:=P.inj _ _ (by omega) hj e;omega
   ·split at e
    ·have:=P.inj _ _ hi hk e;omega
    ·split at e
     ·have:=P.inj _ _ hi (by omega) e;omega
     ·exact P.inj _ _ hi hj e
def Fa.rev(P:PN n p)(hm:m<=n)(h:Fa b p m):Ri b (kas_rev p 0 m) m:=λi j za hj=>by
 have ha:=Hr (by rw[P.sz];exact hm);rw[ha,ha,acz (by omega),acz hj];exact h _ _ (by omega) (by omega)
variable(L:Lt n b)
include L
theorem HM(P:PN n p)(h1:1<=m)(hm:m<=n)(h:Fa b p m):∃k q,d7 b (kas_tail3 m n p)=(k,q)/\PN n q/\1<=k/\k<=n/\Ri b q k:=by
 unfold kas_tail3;rw[gA];obtain⟨a1,a2,a3,_⟩:=wk L (P.rev hm) (n - m) m h1 (by omega) (Fa.rev P hm h);exact⟨_,_,rfl,P.rev hm,by omega,by omega,a3⟩
theorem Dw(P:PN n p)(h2:2<=n):∃k q,d7 b (kas_count n p)=(k,q)/\PN n q/\1<=k/\k<=n/\Ri b q k:=by
 unfold kas_count;rw[gA];obtain⟨a1,a2,a3,a4⟩:=wk L P (n - 1) 1 (Wj _) (by omega) (λi j za hj=>by omega);generalize d7 b (kas_asc p (n - 1) 1)=m at a1 a2 a3 a4;by_cases he:m=n
 ·subst he;rw[acz (by simp)];exact⟨m,p,rfl,P,by omega,Wj _,a3⟩
 ·rw[acA (by simpa using he)];by_cases hg:m>1
  ·rw[acz hg];have hb:b (p.getD 0 0) (p.getD (m - 1) 0)=true:=a3 0 (m - 1) (by omega) (by omega);show∃k q,d7 b (if b (p.getD 0 0) (p.getD (m - 1) 0)=true then KasT.ret (m,p) else kas_descPart m n (kas_rev p 0 m))=(k,q)/\_;rw[acz hb];exact⟨m,p,rfl,P,by omega,by omega,a3⟩
  ·rw[acA hg];have hm:m=1:=by omega
   subst hm;have hb:=a4 (by omega);unfold kas_descPart;rw[gA];obtain⟨m,e1,e2,e3,e4⟩:=yP L P (n - (1+1)) (1+1) (by omega) (by omega) (λi j za hj=>by
    have hi:i=0:=by omega
    have hj:j=1:=by omega
    subst hi hj;exact hb)
   rw[e1]
   dsimp only
   rw[acA (by omega)];exact HM L P (by omega) (by omega) e4
theorem oS(P:PN n p)(hk:k<n)(h:Ri b p k):∀(f l r:Nat),l<=r->r<=k->r - l<=f->(∀i,i<l->b (at' p i) (at' p k)=true)->(∀i,r<=i->i<k->b (at' p k) (at' p i)=true)->
 d7 b (kas_place p k f l r)<=k/\(∀i,i<d7 b (kas_place p k f l r)->b (at' p i) (at' p k)=true)/\∀i,d7 b (kas_place p k f l r)<=i->i<k->b (at' p k) (at' p i)=true
 |0,l,r,h1,h2,h3,h4,h5=>by
  have:r=l:=by omega
  subst this;exact⟨h2,h4,h5⟩
 |f+1,l,r,h1,h2,h3,h4,h5=>by
  unfold kas_place;by_cases Tb:l>=r
  ·rw[acz Tb];have:r=l:=by omega
   subst this;exact⟨h2,h4,h5⟩
  ·rw[acA Tb];have hm:(l+r) / 2<r:=by omega
   have N8:l<=(l+r) / 2:=by omega
   show d7 b (if b (at' p k) (at' p ((l+r) / 2))=true then kas_place p k f l ((l+r) / 2) else kas_place p k f ((l+r) / 2+1) r)<=k/\(∀i,i<d7 b (if b (at' p k) (at' p ((l+r) / 2))=true then kas_place p k f l ((l+r) / 2) else kas_place p k f ((l+r) / 2+1) r)->_)/\∀i,d7 b (if b (at' p k) (at' p ((l+r) / 2))=true then kas_place p k f l ((l+r) / 2) else kas_place p k f ((l+r) / 2+1) r)<=i->_;by_cases hb:b (at' p k) (at' p ((l+r) / 2))=true
   ·rw[acz hb];refine oS P hk h f l ((l+r) / 2) N8 (by omega) (by omega) h4 λi hi Uy=>?_;by_cases e:i=(l+r) / 2
    ·rw[e];exact hb
    ·exact L.tr _ _ _ hb (h _ _ (by omega) Uy)
   ·rw[acA hb];have hr:b (at' p ((l+r) / 2)) (at' p k)=true:=by
     rcases L.tot (at' p ((l+r) / 2)) (at' p k) (P.lt _ (by omega)) (P.lt _ hk) (λz=>by have:=P.inj _ _ (by omega) hk z;omega) with q | q
     ·exact q
     ·exact acC q hb
    refine oS P hk h f ((l+r) / 2+1) r (by omega) h2 (by omega) (λi hi=>?_) h5;by_cases e:i=(l+r) / 2
    ·rw[e];exact hr
    ·exact L.tr _ _ _ (h i ((l+r) / 2) (by omega) (by omega)) hr
theorem Cc:∀(f:Nat) {p:Array Nat}{k:Nat},PN n p->k+f<=n->Ri b p k->PN n (d7 b (kas_bin f p k))/\Ri b (d7 b (kas_bin f p k)) (k+f)
 |0,p,k,P,_,h=>⟨P,h⟩
 |f+1,p,k,P,hn,h=>by
  have hk:k<n:=by omega
  unfold kas_bin;rw[gA];obtain⟨a1,a2,a3⟩:=oS L P hk h k 0 k (W8 _) (Wj _) (by omega) (λi hi=>by omega) (λi h1 h2=>by omega);generalize d7 b (kas_place p k k 0 k)=l at a1 a2 a3;have ha:=E9 (by rw[P.sz];exact hk) a1;have hR:Ri b (bubble p k (k - l)) (k+1):=λi j za hj=>by
   rw[ha,ha];by_cases c1:i=l
   ·rw[acz c1,acA (by omega),acz ⟨by omega,by omega⟩];exact a3 _ (by omega) (by omega)
   ·rw[acA c1];by_cases c2:j=l
    ·rw[acz c2,acA (by omega)];exact a2 _ (by omega)
    ·rw[acA c2];by_cases c3:l<i/\i<=k
     ·rw[acz c3,acz ⟨by omega,by omega⟩];exact h _ _ (by omega) (by omega)
     ·rw[acA c3];by_cases c4:l<j/\j<=k
      ·rw[acz c4];exact h _ _ (by omega) (by omega)
      ·rw[acA c4];exact h _ _ za (by omega)
  have:=Cc f (P.bub hk a1) (by omega) hR;rw[show k+(f+1)=k+1+f by omega];exact this
theorem HA(h2:2<=n):PN n (d7 b (kas_sort n))/\Ri b (d7 b (kas_sort n)) n:=by
 have P0:PN n (XI (Wy n)):=by
  have e:∀i,i<n->at' (XI (Wy n)) i=i:=λi hi=>by rw[f9];simp[hi]
  exact⟨by simp,λi hi=>by rw[e i hi];exact hi,λi j hi hj z=>by rw[e i hi,e j hj] at z;exact z⟩
 unfold kas_sort;rw[gA];obtain⟨k,q,e,P,k1,kn,hR⟩:=Dw L P0 h2;rw[e]
 dsimp only
 by_cases f_:k<n
 ·rw[acz f_];have:=Cc L (n - max k 1) (k:=max k 1) P (by omega) (by rw[show max k 1=k by omega];exact hR);rw[show max k 1+(n - max k 1)=n by omega] at this;exact this
 ·rw[acA f_];have:k=n:=by omega
  subst this;exact⟨P,hR⟩
end
def Asks{α:Type}(n:Nat)(P:α->Prop):KasT α->Prop
 | .ret a=>P a
 | .ask i j k=>i<n/\j<n/\∀c,Asks n P (k c)
def Asks.bind{α β:Type}{n:Nat}{P:α->Prop}{Q:β->Prop}{f:α->KasT β}:∀{t:KasT α},Asks n P t->(∀a,P a->Asks n Q (f a))->Asks n Q (t.bind f)
 | .ret a,h,hf=>hf a h
 | .ask i j k,h,hf=>⟨h.1,h.2.1,λc=>Asks.bind (h.2.2 c) hf⟩
def wp_run{α:Type}{n:Nat}{P:α->Prop}{b:Nat->Nat->Bool}{cmp:Nat->Nat->(Bool->Wa->Prop)->Wa->Prop}{Q:α->Wa->Prop}{s:Wa}(hc:∀i j C,i<n->j<n->C (b i j) s->cmp i j C s):∀{t:KasT α},Asks n P t->Q (d7 b t) s->t.kasWp cmp Q s
 | .ret a,_,h=>h
 | .ask i j k,ha,h=>hc i j _ ha.1 ha.2.1 (wp_run hc (ha.2.2 _) h)
def Below(n:Nat)(p:Array Nat):Prop:=∀x∈p,x<n
section
variable{n:Nat}(hn:0<n)
include hn
theorem Below.at{p:Array Nat}(h:Below n p)(i:Nat):at' p i<n:=by
 rw[f9];cases e:p[i]? with
 |none=>exact hn
 |some x=>exact h x (Array.mem_of_getElem? e)
theorem Below.rev{p:Array Nat}(h:Below n p)(i j:Nat):Below n (kas_rev p i j):=λx hx=>h x ((mirror_perm p i j ((j - i) / 2)).mem_iff.mp hx)
theorem Below.bub{p:Array Nat}(h:Below n p)(k d:Nat):Below n (bubble p k d):=λx hx=>h x ((bubble_perm p k d).mem_iff.mp hx)
theorem qS{p:Array Nat}(h:Below n p):∀f k,Asks n (λ_=>True) (kas_asc p f k)
 |0,k=>trivial
 |f+1,k=>⟨Below.at hn h _,Below.at hn h _,λc=>by
  show Asks n _ (if c=true then KasT.ret k else kas_asc p f (k+1));cases c
  ·exact qS h f (k+1)
  ·exact trivial⟩
theorem la:∀f {p:Array Nat} k q,Below n p->Asks n (λr=>Below n r.1) (kas_desc f p k q)
 |0,p,k,q,h=>h
 |f+1,p,k,q,h=>⟨Below.at hn h _,Below.at hn h _,λc=>by
  cases c
  ·refine⟨Below.at hn h _,Below.at hn h _,λd=>?_⟩;cases d
   ·exact la f _ _ h
   ·exact h
  ·show Asks n _ (if q>0 then kas_desc f (kas_rev p (k - (q+1)) k) (k+1) 0 else kas_desc f p (k+1) 0);split
   ·exact la f _ _ (Below.rev hn h _ _)
   ·exact la f _ _ h⟩
theorem uP{p:Array Nat}(h:Below n p)(m r:Nat):Asks n (λx=>Below n x.2) (kas_tail3 m r p):=Asks.bind (qS hn (Below.rev hn h 0 m) _ _) λ_ _=>Below.rev hn h 0 m
theorem qT{p:Array Nat}(h:Below n p)(m r:Nat):Asks n (λx=>Below n x.2) (kas_descPart m r p):=Asks.bind (la hn _ _ _ h) λx hx=>by
 split
 ·exact uP hn (Below.rev hn hx _ _) _ _
 ·exact uP hn hx _ _
theorem AA{p:Array Nat}(h:Below n p)(r:Nat):Asks n (λx=>Below n x.2) (kas_count r p):=Asks.bind (qS hn h _ _) λm _=>by
 split
 ·exact h
 ·split
  ·refine⟨Below.at hn h _,Below.at hn h _,λc=>?_⟩;cases c
   ·exact qT hn (Below.rev hn h _ _) _ _
   ·exact h
  ·exact qT hn h _ _
theorem mi{p:Array Nat}(h:Below n p)(k:Nat):∀f l r,Asks n (λ_=>True) (kas_place p k f l r)
 |0,l,r=>trivial
 |f+1,l,r=>by
  unfold kas_place;split
  ·exact trivial
  ·refine⟨Below.at hn h _,Below.at hn h _,λc=>?_⟩;cases c
   ·exact mi h k f _ _
   ·exact mi h k f _ _
theorem yA:∀f {p:Array Nat} k,Below n p->Asks n (λ_=>True) (kas_bin f p k)
 |0,p,k,h=>trivial
 |f+1,p,k,h=>Asks.bind (mi hn h k _ _ _) λl _=>yA f _ (Below.bub hn h _ _)
theorem Df:Asks n (λ_=>True) (kas_sort n):=by
 have h0:Below n (XI (Wy n)):=λx hx=>by simpa using hx
 refine Asks.bind (AA hn h0 n) λx hx=>?_;split
 ·exact yA hn _ _ hx
 ·exact trivial
end
def fI:List Int->List Int->Bool
 |[],[]=>false
 |[],_::_=>true
 |_::_,[]=>false
 |x::xs,y::ys=>if x=y then fI xs ys else decide (x<y)
def w9:∀a b c:List Int,fI a b=true->fI b c=true->fI a c=true
 |[],[],_,h,_=>by cases h
 |[],_::_,[],_,h=>by cases h
 |[],_::_,_::_,_,_=>rfl
 |_::_,[],_,h,_=>by cases h
 |_::_,_::_,[],_,h=>by cases h
 |x::a,y::b,z::c,h1,h2=>by
  unfold fI at h1 h2⊢;by_cases e1:x=y
  ·subst e1;rw[acz rfl] at h1;by_cases e2:x=z
   ·subst e2;rw[acz rfl] at h2⊢;exact w9 a b c h1 h2
   ·rw[acA e2] at h2⊢;exact h2
  ·rw[acA e1] at h1;have h1:=acF h1;by_cases e2:y=z
   ·subst e2;rw[acA e1];exact acB h1
   ·rw[acA e2] at h2;have h2:=acF h2;rw[acA (by omega)];exact acB (by omega)
def nj:∀a b:List Int,fI a b=true->fI b a=false
 |[],[],h=>by cases h
 |[],_::_,_=>rfl
 |_::_,[],h=>by cases h
 |x::a,y::b,h=>by
  unfold fI at h⊢;by_cases e:x=y
  ·subst e;rw[acz rfl] at h⊢;exact nj a b h
  ·rw[acA e] at h;have h:=acF h;rw[acA (λz=>e z.symm)];exact acD (by omega)
def rL:∀a b:List Int,a≠b->fI a b=true\/fI b a=true
 |[],[],h=>acC rfl h
 |[],_::_,_=> .inl rfl
 |_::_,[],_=> .inr rfl
 |x::a,y::b,h=>by
  unfold fI;by_cases e:x=y
  ·subst e;rw[acz rfl,acz rfl];exact rL a b λz=>h (by rw[z])
  ·rw[acA e,acA (λz=>e z.symm)];by_cases q:x<y
   ·exact .inl (acB q)
   ·exact .inr (acB (by omega))
section
variable{prog:Wz}{w:World}{A:Xa}{E:Value->Wa->Prop}{s:Wa}
def zj{Q:Bool->Wa->Prop}:∀{us vs:List Value}{xs ys:List Int}(i:Nat) {fin:Bool},X6 us xs->X6 vs ys->fin=decide (xs.length<ys.length)->Q (fI xs ys) s->KatLex prog w A true fin Q (us.zip vs) i s
 |_,_,_,_,i,_, .nil, .nil,e,h=>by subst e;exact kat_nil h
 |_,_,_,_,i,_, .nil, .cons y t r,e,h=>by subst e;exact kat_nil h
 |_,_,_,_,i,_, .cons x t r, .nil,e,h=>by subst e;exact kat_nil h
 |_,_,_,_,i,_, .cons (vs:=us) (ns:=xs) x t r, .cons (vs:=vs) (ns:=ys) y u r',e,h=>by
  refine kat_cons (wpAny_eqBool_int ?_);by_cases q:x=y
  ·subst q;rw[show (x==x)=true by simp];refine kat_yes (zj (i+1) r r' (by rw[e];simp) ?_);unfold fI at h;rw[acz rfl] at h;exact h
  ·rw[show (x==y)=false by simpa using q];unfold fI at h;rw[acA q] at h;refine kat_no ?_;by_cases hi:(i==0)=true
   ·rw[hi];exact oneLt_int h
   ·rw[show (i==0)=false by simpa using hi];exact kat_one _ _ (aaF h)
def TupsAt(h:Heap):List Value->List (List Int)->Prop
 |[],[]=>True
 |v::vs,k::ks=>(∃a o us m,v= .ref a/\h.get? a=some o/\o.cls= .type "tuple"/\o.data= .seq (XI us) m/\X6 us k/\k≠[])/\TupsAt h vs ks
 |_,_=>False
def TupsAt.len{h:Heap}:∀{vs:List Value}{ks:List (List Int)},TupsAt h vs ks->vs.length=ks.length
 |[],[],_=>rfl
 |v::vs,k::ks,t=>by rw[V7,V7,TupsAt.len t.2]
 |[],_::_,t=>t.elim
 |_::_,[],t=>t.elim
def TupsAt.get{h:Heap}:∀{vs:List Value}{ks:List (List Int)}{i:Nat},TupsAt h vs ks->i<vs.length->∃a o us m,vs.getD i W9= .ref a/\h.get? a=some o/\o.cls= .type "tuple"/\o.data= .seq (XI us) m/\X6 us (ks.getD i [])/\ks.getD i []≠[]
 |v::vs,k::ks,0,t,_=>t.1
 |v::vs,k::ks,i+1,t,hi=>TupsAt.get (i:=i) t.2 (by simpa using hi)
 |[],_,_,_,hi=>by simp at hi
 |_::_,[],_,t,_=>t.elim
def TupsAt.keep{h h':Heap}{a:Addr}(k:∀b o,b≠a->h.get? b=some o->h'.get? b=some o)(ha:∀o,h.get? a=some o->o.cls≠ .type "tuple"):∀{vs:List Value}{ks:List (List Int)},TupsAt h vs ks->TupsAt h' vs ks
 |[],[],_=>trivial
 |v::vs,x::ks,⟨⟨b,o,us,m,e1,e2,e3,e4⟩,t⟩=>⟨⟨b,o,us,m,e1,k b o (λz=>ha o (by rw[<-z];exact e2) e3) e2,e3,e4⟩,TupsAt.keep k ha t⟩
 |[],_::_,t=>t.elim
 |_::_,[],t=>t.elim
def rB:∀{us:List Value}{xs:List Int},X6 us xs->us.length=xs.length
 |_,_, .nil=>rfl
 |_,_, .cons x t r=>by rw[V7,V7,rB r]
def TupsAt.firsts{M:Model}{h:Heap}:∀{vs:List Value}{ks:List (List Int)},TupsAt h vs ks->∃fs,KatTups h vs fs/\fs.length=vs.length/\∀v∈fs,Looks M h (typeOf v) (.type "int")
 |[],[],_=>⟨[],KatTups.nil,rfl,λ_ z=>by cases z⟩
 |v::vs,k::ks,⟨⟨a,o,us,m,e1,e2,e3,e4,e5,e6⟩,t⟩=>by
  obtain⟨fs,q1,q2,q3⟩:=TupsAt.firsts (M:=M) t;subst e1;cases e5 with
  |nil=>exact acC rfl e6
  |cons x t r=>
   refine⟨.int x t::fs,KatTups.cons e2 e3 e4 (by simp) q1,by simp[q2],λv hv=>?_⟩;rcases Wc.mp hv with rfl | hv
   ·exact show Looks M h (pure (aa6 "int")) (aa6 "int") from .now
   ·exact q3 v hv
 |[],_::_,t=>t.elim
 |_::_,[],t=>t.elim
def asked{vs:List Value}{ks:List (List Int)}(t:TupsAt s.heap vs ks)(i j:Nat)(C:Bool->Wa->Prop)(hi:i<vs.length)(hj:j<vs.length)(h:C (fI (ks.getD i []) (ks.getD j [])) s):kas_ask prog w A (tuples' true) vs i j C s:=by
 obtain⟨a,o,us,m,e1,e2,_,e4,e5,_⟩:=t.get hi;obtain⟨a',o',V1,m',EW,MT,_,TR,SF,_⟩:=t.get hj;unfold kas_ask;rw[e1,EW];refine kat_lt e2 e4 MT TR (zj 0 e5 SF ?_ h);rw[Wi,Wi,rB e5,rB SF]
def GI{α:Type}{l:List α}(h:l.Nodup){i j:Nat}(hi:i<l.length)(hj:j<l.length)(e:l[i]=l[j]):i=j:=by
 rcases Nat.lt_trichotomy i j with q | q | q
 ·exact acC e (X1.mp h i j hi hj q)
 ·exact q
 ·exact acC e.symm (X1.mp h j i hj hi q)
def ED{a:Addr}{c:Nat}{vs:List Value}{ks:List (List Int)}{P:PySem.Fin->Wa->Prop}(ho:s.heap.get? a=some (YY "list" vs.toArray c))(ht:TupsAt s.heap vs ks)(hd:ks.Nodup)(QL:vs.length<64)
 (h:∀(p:Array Nat) (h':Heap) (c':Nat),PN vs.length p->Ri (λi j=>fI (ks.getD i []) (ks.getD j [])) p vs.length->h'.get? a=some (YY "list" (XI (p.toList.map λi=>vs.getD i W9)) c')->
  (∀b o,b≠a->s.heap.get? b=some o->h'.get? b=some o)->P (.done (.ret .none)) {s with heap:=h'}):wpAny (model prog w) A (aa3.«list.sort» ⟨[.ref a],[]⟩) P E s:=by
 have KO:Wr=16777216:=Yi;have s1:=WS s.heap a (Yg λ_=>(#[]:Array Value));obtain⟨e1,Tc⟩:∃e1,(s.heap.update a (Yg λ_=>(#[]:Array Value))).get? a=some (YY "list" #[] e1):=⟨_,get?_update_seq ho λ_=> #[]⟩
 have k1:∀b o,b≠a->s.heap.get? b=some o->(((s.heap.update a (Yg λ_=>(#[]:Array Value))).push (YY "tuple" vs.toArray 0)).push (YY "list" #[] 0)).get? b=some o:=λb o hb e=>
  V8 _ (V8 _ ((s1.2 b hb).trans e))
 have Rh:=V8 (YY "list" #[] 0) (V8 (YY "tuple" vs.toArray 0) Tc);have t3:=ht.keep k1 (λo e z=>by rw[ho] at e;cases e;exact acC (Value.type.inj z) (by decide));have fin:∀(st:SortSt) (p:Array Nat),PN vs.length p->Ri (λi j=>fI (ks.getD i []) (ks.getD j [])) p vs.length->(arrOf st).map (·.2)=XI (p.toList.map λi=>vs.getD i W9)->failedOf st=none->
  wpAny (model prog w) A (do
   let touched:=(<-seqEpoch a) !=e1
   Builtin.List.listUpdate (.ref a) λ_=>(arrOf st).map (·.2)
   if let some e:=failedOf st then rule "list.sort.comparison-raised";throw e
   if touched then rule "list.sort.modified";raiseError "ValueError" "list modified during sort"
   ret .none) P E {s with heap:=((s.heap.update a (Yg λ_=>(#[]:Array Value))).push (YY "tuple" vs.toArray 0)).push (YY "list" #[] 0)}:=λst p hp hr he hf=>by
  have hz:(XI (p.toList.map λi=>vs.getD i W9)).size=vs.length:=by rw[Wi,V4,Wu,hp.sz]
  rw[he,hf];refine V2 (seqEpoch_at Rh rfl (V2 (listUpdate_at Rh rfl ?_ (W8 _) (by rw[hz,KO];omega))));simp only[bne_self_eq_false,WO,if_false];have s2:=WS (((s.heap.update a (Yg λ_=>(#[]:Array Value))).push (YY "tuple" vs.toArray 0)).push (YY "list" #[] 0)) a (Yg λ_=>XI (p.toList.map λi=>vs.getD i W9));exact V_ (h p _ _ hp hr (get?_update_seq Rh λ_=>XI (p.toList.map λi=>vs.getD i W9)) λb o hb e=>(s2.2 b hb).trans (k1 b o hb e))
 rw[list_sort_plain];refine V2 (listItems_at ho rfl (V2 (listUpdate_at ho rfl (V2 (seqEpoch_at Tc rfl ?_)) (by rw[Wi,KO];omega) (W8 _))));refine V2 (wpAny_newTuple (V2 (wpAny_newList (Yz ?_) (W8 _))) (by show vs.length<=_;rw[KO];omega));show wpAny (model prog w) A _ P E {s with heap:=((s.heap.update a (Yg λ_=>(#[]:Array Value))).push (YY "tuple" vs.toArray 0)).push (YY "list" #[] 0)}
 dsimp only
 by_cases hs:vs.toArray.size<2
 ·rw[acz hs,acz hs];have M0:vs.length<2:=by simpa using hs
  refine V2 (V_ (V2 (V_ ?_)));refine fin (SortSt.mk' general' (vs.toArray.zip vs.toArray) #[] 7 none) (XI (Wy vs.length)) ⟨by simp,λi hi=>?_,λi j hi hj _=>by omega⟩ (λi j za hj=>by omega) ?_ rfl
  ·rw[f9];simp[hi]
  ·show (vs.toArray.zip vs.toArray).map (·.2)=_;apply Array.toList_inj.mp;refine List.ext_getElem (by simp) λi a1 a2=>?_;simp at a1;simp[a1]
 ·rw[acA hs,acA hs];have M0:2<=vs.length:=by
   have:¬vs.length<2:=by simpa using hs
   omega
  obtain⟨fs,q1,q2,q3⟩:=t3.firsts (M:=model prog w);refine V2 (kat_kind q1 (by omega) q3 rfl ?_);have hb:Lt vs.length (λi j=>fI (ks.getD i []) (ks.getD j [])):=⟨λi j k=>w9 _ _ _,λi j=>nj _ _,λi j hi hj za=>rL _ _ λz=>za (by
   rw[ht.len] at hi hj;rw[Wq,Wq,V5 hi,V5 hj] at z;exact GI hd hi hj (by simpa using z))⟩
  obtain⟨r1,r2⟩:=HA hb M0;have run:=kat_run (prog:=prog) (w:=w) (A:=A) (E:=E) (ks:=vs) (vs:=vs) (κ:=tuples' true) (Q:=λst s'=>s'={s with heap:=((s.heap.update a (Yg λ_=>(#[]:Array Value))).push (YY "tuple" vs.toArray 0)).push (YY "list" #[] 0)}/\∃p,PN vs.length p/\Ri (λi j=>fI (ks.getD i []) (ks.getD j [])) p vs.length/\(arrOf st).map (·.2)=XI (p.toList.map λi=>vs.getD i W9)/\failedOf st=none)
   (G:=λp s'=>s'={s with heap:=((s.heap.update a (Yg λ_=>(#[]:Array Value))).push (YY "tuple" vs.toArray 0)).push (YY "list" #[] 0)}/\PN vs.length p/\Ri (λi j=>fI (ks.getD i []) (ks.getD j [])) p vs.length) rfl M0 QL
   (λp p5 s' a1 a2 a3 a4=>⟨a4.1,p,a4.2.1,a4.2.2,kat_snds rfl a2,a3⟩)
   (wp_run (s:={s with heap:=((s.heap.update a (Yg λ_=>(#[]:Array Value))).push (YY "tuple" vs.toArray 0)).push (YY "list" #[] 0)}) (λi j C hi hj hC=>asked t3 i j C hi hj hC) (Df (by omega)) ⟨rfl,r1,r2⟩)
  refine V2 (Xl run ?_ λ_ _ e=>e);rintro⟨⟨⟩,p5⟩ s' ⟨rfl,p,a1,a2,a3,a4⟩;exact fin p5 p a1 a2 a3 a4
end
section
variable{prog:Wz}{w:World}{A:Xa}{E:Value->Wa->Prop}{s:Wa}
def vi(lo:(d==Xq)=false)(ho:s.heap.get? d=some od)(hx:od.ExactDict)(hd:od.data= .dict es ep)
 (hQ:Q (.ref s.heap.objs.size) {s with heap:=s.heap.push {cls:= .type "dict_keyiterator",data:= .fields #[.ref d, .int 0 0, .int es.size 0, .int ep 0]} }):wpAny (model prog w) A (abZ (.ref d)) Q E s:=by
 have hT:s.TypeIs (.ref d) "dict":=⟨od,ho,hx.1⟩
 refine aaO hT F.slot_dict_iter (Xu F.slot_dict_iter hT F.entry_dict_iter ?_ (F.args_dict_iter_1 _));unfold aa3.«dict.__iter__» Builtin.Dict.dictSlotNone;refine V2 (V2 (ZX hT ?_));show wpAny _ _ (pure (Wv d)) _ _ s;refine V_ ?_;show wpAny _ _ (X9 d>>=_) _ _ s;unfold X9;rw[acA (by rw[lo];exact Wt)];refine V2 (V_ (V2 (Xg ho hd (V2 (X_ ho hd ?_)))));refine V2 (XB (V_ ⟨_,rfl,"dict_keyiterator",_,⟨_,Wm _ rfl,rfl⟩,F.slot_dict_keyiterator_next.lookup,?_⟩));simpa[ZZ] using hQ
def zq(hit:s.heap.IsKeyIter it d i es.size ep)(wO:s.heap.get? d=some od)(jQ:od.data= .dict es ep)(hx:es[i]? =some e)
 (hQ:∀h',h'.IsKeyIter it d (i+1) es.size ep->Xo it s.heap h'->Q (some e.key) {s with heap:=h'}):wpAny (model prog w) A (ZG (.ref it)) Q E s:=by
 obtain⟨o,ho,hc,hd⟩:=id hit;have f_:i<es.size:=(aaN.mp hx).1;have wQ:Xs "dict_keyiterator"=false:=by decide
 unfold ZG;refine V2 (aaq (YX hit.typeIs Yo
  (Xu Yo hit.typeIs aa2 ?_ (aaL _))))
 refine V2 (V_ (V2 (V2 ?_)))
 first | refine V2 (Yl hit.typeIs (V_ ?_)) | refine V2 (YQ hit.typeIs (V_ ?_))
 refine V2 (aah ho hd ?_);simp only[wQ,WO,if_false];show wpAny _ _ (if (Wv d==W9)=true then _ else _) _ _ s;rw[acA (show¬((Wv d==W9)=true) from Wt)];refine V2 (V_ (V2 (Xg wO jQ ?_)));rw[acA (by simp)];refine V2 (V_ (V2 (X_ wO jQ ?_)));rw[acA (by simp)];refine V_ ?_;simp only[show¬((i:Int)<0) from by omega,if_false,Zw,hx];refine V2 ?_
 first | refine V2 (Yl hit.typeIs (V_ ?_)) | refine V2 (YQ hit.typeIs (V_ ?_))
 refine V2 (wpAny_isOneOf_keyiter hit.typeIs ?_);show wpAny _ _ (setField (.ref it) 1 (ZZ ((i:Int)+1))>>=_) _ _ s;refine V2 (abI ho hd (by simp) ?_);have IF:(s.heap.update it (Obj.mapFields (·.setIfInBounds 1 (ZZ ((i:Int)+1))))).IsKeyIter it d (i+1) es.size ep:=
  ⟨_,X0 _ ho (Obj.isFreed_of_fields (acv hd _)),(Obj.cls_mapFields ..).trans hc,by rw[acv hd];simp[ZZ]⟩
 refine V2 (Yz (V2 (wpAny_isOneOf_keyiter IF.typeIs ?_)));show wpAny _ _ (pure e.key) _ _ _;exact V_ (V_ ⟨_,rfl,V_ (hQ _ IF (WS ..))⟩)
def u3(hh:A.handled=none)(hit:s.heap.IsKeyIter it d i es.size ep)(hi:es.size<=i)(wO:s.heap.get? d=some od)(jQ:od.data= .dict es ep)
 (hQ:∀h',ab6 it s.heap h'->Q none {s with heap:=h'}):wpAny (model prog w) A (ZG (.ref it)) Q E s:=by
 obtain⟨o,ho,hc,hd⟩:=id hit;have wQ:Xs "dict_keyiterator"=false:=by decide
 unfold ZG;refine V2 (aaq (YX hit.typeIs Yo
  (Xu Yo hit.typeIs aa2 ?_ (aaL _))))
 refine V2 (V_ (V2 (V2 ?_)))
 first | refine V2 (Yl hit.typeIs (V_ ?_)) | refine V2 (YQ hit.typeIs (V_ ?_))
 refine V2 (aah ho hd ?_);simp only[wQ,WO,if_false];show wpAny _ _ (if (Wv d==W9)=true then _ else _) _ _ s;rw[acA (show¬((Wv d==W9)=true) from Wt)];refine V2 (V_ (V2 (Xg wO jQ ?_)));rw[acA (by simp)];refine V2 (V_ (V2 (X_ wO jQ ?_)));rw[acA (by simp)];refine V_ ?_;simp only[show¬((i:Int)<0) from by omega,if_false,Zw,abn hi];refine V2 ?_
 first | refine V2 (Yl hit.typeIs (V_ ?_)) | refine V2 (YQ hit.typeIs (V_ ?_))
 show wpAny _ _ (setField (.ref it) 0 .none>>=_) _ _ s;refine V2 (abI ho hd (by simp) ?_);show wpAny _ _ (newExc (.type "StopIteration") []>>=_) _ _ _;refine V2 ?_;simp only[newExc,newTuple];refine V2 (XB ?_ (by size_fits));refine V2 (wpAny_of_eq (by first | rfl | (simp only[abL];rfl)) ?_);refine XB ?_ (by size_fits);simp only[raiseNew];refine V2 (wpAny_handled ?_);rw[show A.in1.handled=none from hh];refine V2 (V_ (wpAny_throw ?_));refine V2 (abc ⟨_,Wm _ rfl,rfl⟩ isSubtype_stop ?_);exact V_ (hQ _ (((WS ..).extBut.push _).push _))
def Fu(hh:A.handled=none)(hit:s.heap.IsKeyIter it d es.size es.size ep)(wO:s.heap.get? d=some od)(jQ:od.data= .dict es ep)
 (hQ:∀h',ab6 it s.heap h'->Q none {s with heap:=h'}):wpAny (model prog w) A (ZG (.ref it)) Q E s:=u3 hh hit (Wj _) wO jQ hQ
def Kn(es:Array Yb):Nat->Value->Prop:=λi v=>∃e,es[i]? =some e/\v=e.key
def B3(hh:A.handled=none)(I d:Addr)(gk:d≠I)(jQ:od.data= .dict es ep):
 Walks prog w A I [I,d] [I] es.size (Kn es) (λi h=>h.IsKeyIter I d i es.size ep/\h.get? d=some od) where
 sub:=λb hb=>by simp at hb;simp[hb]
 frame:=λ_ _ _ st hk=>⟨st.1.at λo e=>hk I (by simp) o e,hk d (by simp) _ st.2⟩
 item:=λi s Q E hi st hQ=>by
  have hx:es[i]? =some es[i]:=Yv hi;exact zq st.1 st.2 jQ hx λh' IF E0=>hQ _ h' s.toks ⟨_,hx,rfl⟩ ⟨IF,(E0.2 d gk).trans st.2⟩ λb o hb e=>E0.extBut b o (λh=>hb (by simp[h])) e
 done:=λs Q E st hQ=>Fu hh st.1 st.2 jQ λh' Up=>hQ h' s.toks λb o hb e=>Up b o (λh=>hb (by simp[h])) e
 self:=λ_ _ _ _ st hQ=>wpAny_pyIter_keyiter st.1 hQ
def HB(lo:(d==Xq)=false)(hx:od.ExactDict)(jQ:od.data= .dict es ep):KdlSrc prog w "dict" d d es.size (Kn es) (λh=>h.get? d=some od) where
 type:=λ_ hm=>⟨od,hm,hx.1⟩
 there:=λ_ hm=>⟨Wl hm,Wl hm⟩
 keep:=λ_ _ hm hk=>hk d (.inl rfl) od hm
 notList:=by decide
 notTuple:=by decide
 hint:=λ_ _ s _ hm hq=>kdl_hint_dict ⟨od,hm,hx.1⟩ hq
 iter:=λ_ _ hh hm=>⟨_,_,(λ_ _ hq=>vi lo hm hx jQ hq),B3 hh _ d (WA (Wl hm)) jQ,⟨⟨_,Wm _ rfl,rfl,rfl⟩,V8 _ hm⟩⟩
end
end L3
namespace L3
open PySem
def insI(k:List Int):List (List Int)->List (List Int)
 |[]=>[k]
 |x::r=>if fI k x then k::x::r else x::insI k r
def sortI:List (List Int)->List (List Int)
 |[]=>[]
 |k::r=>insI k (sortI r)
def Ay(l:List (List Int)):Prop:=l.Pairwise λa b=>fI a b=true
def rA:∀{l:List (List Int)},x∈insI k l↔x=k\/x∈l
 |[]=>by simp[insI]
 |y::r=>by
  unfold insI;split
  ·simp
  ·rw[Wc,rA,Wc];constructor
   ·rintro(h | h | h)<;>simp[h]
   ·rintro(h | h | h)<;>simp[h]
def va:∀{l:List (List Int)},Ay l->k∉l->Ay (insI k l)
 |[],_,_=>List.pairwise_singleton _ _
 |x::r,h,hk=>by
  have h:=Xn.mp h;unfold insI;split
  ·rename_i q;refine Xn.mpr ⟨λy hy=>?_,Xn.mpr h⟩;rcases Wc.mp hy with rfl | hy
   ·exact q
   ·exact w9 _ _ _ q (h.1 y hy)
  ·rename_i q;have hx:fI x k=true:=by
    rcases rL k x (λz=>hk (by rw[z];exact V6 ..)) with z | z
    ·exact acC z q
    ·exact z
   refine Xn.mpr ⟨λy hy=>?_,va h.2 λz=>hk (V3 _ z)⟩;rcases rA.mp hy with rfl | hy
   ·exact hx
   ·exact h.1 y hy
def i_:∀{l:List (List Int)},x∈sortI l↔x∈l
 |[]=>Iff.rfl
 |k::r=>by unfold sortI;rw[rA,i_,Wc]
def mP:∀{l:List (List Int)},l.Nodup->Ay (sortI l)
 |[],_=>aaY
 |k::r,h=>by
  have h:=WV.mp h;exact va (mP h.2) λz=>h.1 (i_.mp z)
def s9:∀{a b:List (List Int)},Ay a->Ay b->(∀x,x∈a↔x∈b)->a=b
 |[],[],_,_,_=>rfl
 |[],y::b,_,_,h=>by have:=(h y).mpr (V6 ..);cases this
 |x::a,[],_,_,h=>by have:=(h x).mp (V6 ..);cases this
 |x::a,y::b,ha,hb,h=>by
  have ha:=Xn.mp ha;have hb:=Xn.mp hb;have e:x=y:=by
   rcases Wc.mp ((h x).mp (V6 ..)) with q | q
   ·exact q
   ·rcases Wc.mp ((h y).mpr (V6 ..)) with p | p
    ·exact p.symm
    ·have z1:=hb.1 x q;have z2:=ha.1 y p;rw[nj _ _ z1] at z2;cases z2
  subst e;have Tn:∀k,fI k k≠true:=λk z=>by have:=nj _ _ z;rw[z] at this;cases this
  rw[s9 ha.2 hb.2 λz=>?_];constructor
  ·intro hz;rcases Wc.mp ((h z).mp (V3 _ hz)) with q | q
   ·subst q;exact acC (ha.1 z hz) (Tn z)
   ·exact q
  ·intro hz;rcases Wc.mp ((h z).mpr (V3 _ hz)) with q | q
   ·subst q;exact acC (hb.1 z hz) (Tn z)
   ·exact q
def BF:∀(n:Nat) (l:List Nat),l.Nodup->(∀x∈l,x<n)->l.length=n->∀k,k<n->k∈l
 |0,_,_,_,_,k,hk=>by omega
 |n+1,l,hd,hl,hn,k,hk=>by
  by_cases h:n∈l
  ·by_cases e:k=n
   ·subst e;exact h
   ·refine List.mem_of_mem_erase (BF n (l.erase n) (hd.erase n) (λx hx=>?_) (by rw[abj h,hn];rfl) k (by omega));have hx:=hd.mem_erase_iff.mp hx;have:=hl x hx.2;have:=hx.1;omega
  ·cases l with
   |nil=>simp at hn
   |cons x r=>
    have hd:=WV.mp hd;have lt:∀y∈x::r,y<n:=λy hy=>by
     have:=hl y hy;have:y≠n:=λz=>h (by rw[<-z];exact hy);omega
    exact acC (BF n r hd.2 (λy hy=>lt y (V3 _ hy)) (by simpa using hn) x (lt x (V6 ..))) hd.1
def EE(hd:ks.Nodup)(P:PN ks.length p)(R:Ri (λi j=>fI (ks.getD i []) (ks.getD j [])) p ks.length):(p.toList.map λi=>ks.getD i [])=sortI ks:=by
 have hsz:p.toList.length=ks.length:=by rw[Wu];exact P.sz
 have u9:∀i (h:i<p.toList.length),p.toList[i]=at' p i:=λi h=>by
  have h':i<p.size:=by rw[Wu] at h;exact h
  rw[f9,Yv h'];simp
 refine s9 ?_ (mP hd) λx=>?_
 ·refine X1.mpr λi j hi hj za=>?_;rw[V4] at hi hj;rw[List.getElem_map,List.getElem_map,u9 i hi,u9 j hj];exact R i j za (by omega)
 ·rw[i_];constructor
  ·intro hx;obtain⟨i,hi,rfl⟩:=Wn.mp hx;obtain⟨j,hj,rfl⟩:=Y5.mp hi;have:=P.lt j (by omega);rw[u9 j hj,Wq,V5 this];exact YC this
  ·intro hx;obtain⟨k,hk,rfl⟩:=Y5.mp hx;have Oc:k∈p.toList:=by
    have hn:p.toList.Nodup:=X1.mpr λi j hi hj za z=>by
     rw[u9 i hi,u9 j hj] at z;have:=P.inj i j (by omega) (by omega) z;omega
    exact BF ks.length p.toList hn (λx hx=>by
     obtain⟨j,hj,rfl⟩:=Y5.mp hx;rw[u9 j hj];exact P.lt j (by omega)) hsz k hk
   refine Wn.mpr ⟨k,Oc,?_⟩;rw[Wq,V5 hk];rfl
end L3
namespace L3
open PySem PySem.Spec L2 SeqAt HT
open PyProof.Rows hiding St
def tupI(k:List Int):D:= .tup (k.map D.int)
def KP:D->Option (List Int)
 | .tup ds=>nums ds
 |_=>none
def my:List D->Option (List (List Int))
 |[]=>some []
 |d::ds=>match KP d,my ds with
  |some k,some ks=>some (k::ks)
  |_,_=>none
def km(ks:List (List Int)):Bool:=decide ks.Nodup&&decide (ks.length<64)&&ks.all λk=>!k.isEmpty
def eA(H:Hp):List V->List (List Int)->Prop:=aaz λv k=>∃a,v= .ref a/\H a=some (.tup (k.map V.int))
def ve{K:V9}(hs:Same F H):∀{ds:List D}{vs:List V}{ks:List (List Int)},my ds=some ks->DenL K F ds vs->eA H vs ks/\eA F vs ks
 |[],_,_,e,h=>by cases e;cases (show _=_ from h);exact⟨.nil, .nil⟩
 |d::ds,_,_,e,⟨v,r,h1,h2,h3⟩=>by
  subst h1;unfold my at e;split at e
  ·rename_i k ks e1 e2;cases e;obtain⟨Vh,Vi⟩:=ve hs e2 h3;cases d with
   |tup es=>
    obtain⟨a,ws,rfl,k2,k3,_⟩:=h2;have:=iU e1 k3;subst this;exact⟨.cons ⟨a,rfl,hs _ _ k2⟩ Vh, .cons ⟨a,rfl,k2⟩ Vi⟩
   |_=>cases e1
  ·cases e
def zW{K:V9}:∀{ws:List V}{ks:List (List Int)},eA F ws ks->(∀k∈ks,k.length<=lim)->DenL K F (ks.map tupI) ws
 |_,_, .nil,_=>rfl
 |_,_, .cons (b:=k) h t,hl=>by
  obtain⟨a,rfl,h⟩:=h;exact .cons ⟨a,_,rfl,h,DenL.ints k,by rw[V4];exact hl k (V6 ..)⟩ (zW t λk hk=>hl k (V3 _ hk))
def vW(I:Inv X f8 σ H s):∀{vs:List V}{aR:List Value}{ks:List (List Int)},eA H vs ks->Vals vs aR->(∀k∈ks,k≠[])->TupsAt s.heap aR ks
 |_,_,_, .nil,r,_=>by cases r;exact trivial
 |_,_,_, .cons (b:=k) h t,r,hn=>by
  obtain⟨a,rfl,h⟩:=h;cases r with
  |cons r1 r2=>
   cases (show _=_ from r1);obtain⟨us,ru,pt,_⟩:=I.tuple (SqT.of h);obtain⟨o,q1,q2,m,q3⟩:=pt;exact⟨⟨a,o,us,m,rfl,q1,q2,q3,intsAre_of ru,hn k (V6 ..)⟩,vW I t r2 λk hk=>hn k (V3 _ hk)⟩
def nX:∀{vs:List V}{ks:List (List Int)}{i:Nat},eA H vs ks->i<vs.length->∃a,vs.getD i .non= .ref a/\H a=some (.tup ((ks.getD i []).map V.int))
 |_,_,i, .nil,hi=>by simp at hi
 |_,_,0, .cons h t,_=>h
 |_,_,i+1, .cons h t,hi=>nX (i:=i) t (by simpa using hi)
def nY:∀{vs:List V}{ks:List (List Int)},eA H vs ks->vs.length=ks.length
 |_,_, .nil=>rfl
 |_,_, .cons h t=>by rw[V7,V7,nY t]
def vV(h:eA H vs ks):∀{is:List Nat},(∀i∈is,i<vs.length)->eA H (is.map λi=>vs.getD i .non) (is.map λi=>ks.getD i [])
 |[],_=> .nil
 |i::is,hi=> .cons (nX h (hi i (V6 ..))) (vV h λj hj=>hi j (V3 _ hj))
def lz:∀{vs:List V}{us:List Value}(i:Nat),Vals vs us->i<vs.length->RelV (vs.getD i .non) (us.getD i W9)
 |_,_,i, .nil,hi=>by simp at hi
 |_,_,0, .cons h t,_=>h
 |_,_,i+1, .cons h t,hi=>lz i t (by simpa using hi)
def wb(h:Vals vs us):∀{is:List Nat},(∀i∈is,i<vs.length)->Vals (is.map λi=>vs.getD i .non) (is.map λi=>us.getD i W9)
 |[],_=> .nil
 |i::is,hi=> .cons (lz i h (hi i (V6 ..))) (wb h λj hj=>hi j (V3 _ hj))
def v8:∀l:List (List Int),(sortI l).length=l.length
 |[]=>rfl
 |k::r=>by
  have ins:∀(k:List Int) (l:List (List Int)),(insI k l).length=l.length+1:=by
   intro k l;induction l with
   |nil=>rfl
   |cons x l ih=>
    unfold insI;split
    ·rfl
    ·rw[V7,ih,V7]
  unfold sortI;rw[ins,v8 r,V7]
def rG(k:List Int):List Key:=k.map aal
def Pa:List V->Hp->VK->Prop:=λxs H Q=>∃p aB ks,xs=[.ref p]/\Rd H p (.dT aB)/\aB.map (·.1)=ks.map rG/\km ks=true/\∀(q:Addr) (ws:List V),H q=none->eA H ws (sortI ks)->Q (.ref q) (upd H q (.lst ws))
def vm:∀{aB:List (List Key×V)}{xs:List (List Key×Addr×Value)}{ks:List (List Int)},aaz (λ(p:List Key×V) (q:List Key×Addr×Value)=>p.1=q.1/\H q.2.1=some (.tup (p.1.map kV))/\RelV p.2 q.2.2) aB xs->
 aB.map (·.1)=ks.map rG->eA H (xs.map λx=>V.ref x.2.1) ks
 |_,_,[], .nil,_=> .nil
 |_,_,_::_, .nil,e=>by simp at e
 |_,_,[], .cons h t,e=>by simp at e
 |_,_,k::ks, .cons h t,e=>by
  rw[Wg,Wg] at e;injection e with e1 e2
  refine .cons ⟨_,rfl,?_⟩ (vm t e2);have hk:(rG k).map kV=k.map V.int:=by unfold rG;rw[WY];rfl
  rw[h.2.1,e1,hk]
section
variable{X:Cx}{Xw:Nat->Hp->Prop}{e:Expr}{δs:DA}{pos p:Pos}
def Dt(hc:X.calm=true):CallR X (.builtin "sorted") Pa:=by
 intro f8 s σ H xs us Q I r h;obtain⟨a,aB,ks,rfl,hH,KI,hk,q⟩:=h;obtain⟨u,rfl,r1⟩:=r.one;cases (show u=_ from r1);obtain⟨z,lo,xs,rel,o,es,ep,g1,g2,g3,g4,g5⟩:=(show ObjOk X.prog X.w H s.heap a (.dT aB) from hH.ok I.hok)
 unfold km at hk;rw[WU,WU] at hk;have hd:ks.Nodup:=acF hk.1.1;have QL:ks.length<64:=acF hk.1.2;have gk:∀k∈ks,k≠[]:=λk MZ z=>by have:=WT.mp hk.2 k MZ;rw[z] at this;cases this
 have hr:=vm rel KI;have N4:=nY hr;rw[V4] at N4;have S8:es.size=xs.length:=by rw[<-Wu,g4,V4]
 have KO:Wr=16777216:=Yi;refine Calls.call_function_entry kind_sorted plain_sorted entry_sorted (args_sorted1 _) ?_;unfold aa3.«sorted»;refine V2 (V_ (V2 (PySem.W.kdu_collect (HB lo g2 g3) (I.ok.hd hc) g1 (by rw[S8,KO];omega) λh1 tk acc OC FP=>?_)));have NN:acc.toList.length=xs.length:=by rw[Wu,<-S8];exact FP.1
 have I1:Inv X f8 σ H {s with heap:=h1,toks:=tk}:=I.kept λb ob e=>OC b ob e;have rv:Vals (xs.map λx=>V.ref x.2.1) acc.toList:=by
  have ext:∀{vs:List V}{us:List Value},vs.length=us.length->(∀(i:Nat) (v:V) (u:Value),vs[i]? =some v->us[i]? =some u->RelV v u)->Vals vs us:=by
   intro vs;induction vs with
   |nil=>intro us h _;cases us with | nil=>exact .nil | cons _ _=>simp at h
   |cons v vs ih=>
    intro us h hh;cases us with
    |nil=>simp at h
    |cons u us=>exact .cons (hh 0 v u rfl rfl) (ih (by simpa using h) λi v u h1 h2=>hh (i+1) v u h1 h2)
  refine ext (by rw[V4,NN]) λi v u e1 e2=>?_;rw[Xx] at e2;obtain⟨en,q1,q2⟩:=FP.2 i u e2;rw[<-Xx,g4,Wb] at q1;rw[Wb] at e1;cases w:xs[i]? with
  |none=>rw[w] at e1;cases e1
  |some x=>
   rw[w] at e1 q1;cases e1;cases q1;exact q2
 have ht:=vW I1 hr rv gk;refine V2 (wpAny_newList ?_ (by rw[KO];omega));have P1:(h1.push (YY "list" acc.toList.toArray 0)).get? h1.objs.size=some (YY "list" acc.toList.toArray 0):=Wm _ rfl;refine V2 (Yz (Xu slot_list_sort ⟨_,P1,rfl⟩ entry_list_sort (ED P1
  (ht.keep (λb o _ e=>V8 _ e) (λo e=>acC (Wl e) (Xe _))) hd (by omega) λP h' c' hP hR Q4 N1=>?_) (args_list_sort _)))
 have NL:∀i∈P.toList,i<(xs.map λx=>V.ref x.2.1).length:=λi hi=>by
  obtain⟨j,hj,rfl⟩:=Y5.mp hi;have h':j<P.size:=by rw[Wu] at hj;exact hj
  have:=hP.lt j (by rw[hP.sz] at h';exact h');rw[f9,Yv h'] at this;have e:P.toList[j]=P[j]:=by simp
  rw[e,V4];have:P[j]<acc.toList.length:=this;omega
 have Uc:PN ks.length P:=by rw[<-N4,<-NN];exact hP
 have Ud:Ri (λi j=>fI (ks.getD i []) (ks.getD j [])) P ks.length:=by rw[<-N4,<-NN];exact hR
 have P5:=EE hd Uc Ud;have Th:=vV hr NL;rw[P5] at Th;refine⟨_,rfl,V_ ⟨_,rfl,⟨.ref h1.objs.size,_,I1.laid (λb ob e=>N1 b ob (WA (Wl e)) (V8 _ e)) (Wj _) ?_,rfl,q _ _ (I1.hok.fresh (Wj _)) Th⟩⟩⟩;exact⟨by rw[V4,Wu,hP.sz,KO];omega,_,c',wb rv NL,Q4⟩
def vU(e:Same F F'):∀{ws:List V}{ks:List (List Int)},eA F ws ks->eA F' ws ks
 |_,_, .nil=> .nil
 |_,_, .cons ⟨b,q1,q2⟩ t=> .cons ⟨b,q1,e _ _ q2⟩ (vU e t)
def zX(hs:Same F H):∀{ws:List V}{ks:List (List Int)},eA H ws ks->∃F',Ext F H F' H/\eA F' ws ks
 |_,_, .nil=>⟨F,Ext.refl hs, .nil⟩
 |_,_, .cons h t=>by
  obtain⟨a,rfl,h⟩:=h;obtain⟨F1,e1,r1⟩:=zX hs t;have e2:=Ext.tup e1.fh h;refine⟨_,e1.trans e2, .cons ⟨a,rfl,aH⟩ ?_⟩;exact vU e2.ff r1
def vc:List Key->Option (List Int)
 |[]=>some []
 | .inl i::r=>(vc r).map (i:: ·)
 |_=>none
def gL:List (List Key)->Option (List (List Int))
 |[]=>some []
 |k::r=>match vc k,gL r with
  |some x,some xs=>some (x::xs)
  |_,_=>none
def zd:∀{k:List Key}{x:List Int},vc k=some x->k=rG x
 |[],_,e=>by cases e;rfl
 | .inl i::r,_,e=>by
   unfold vc at e;cases q:vc r with
   |none=>rw[q] at e;cases e
   |some y=>rw[q] at e;cases e;rw[zd q];rfl
 | .inr _::r,_,e=>by cases e
def oz:∀{kk:List (List Key)}{ks:List (List Int)},gL kk=some ks->kk=ks.map rG
 |[],_,e=>by cases e;rfl
 |k::r,_,e=>by
  unfold gL at e;split at e
  ·rename_i x xs e1 e2;cases e;rw[Wg,<-zd e1,<-oz e2]
  ·cases e
def Aa:List D->M D
 |[.dct kk ds]=>match gL kk with
  |some ks=>if km ks&&ks.all (λk=>decide (k.length<=lim)) then aa (.lst ((sortI ks).map tupI)) else af
  |none=>af
 |_=>af
def lA:∀{a:List α}{b:List β},a.length=b.length->(a.zip b).map (·.1)=a
 |[],[],_=>rfl
 |x::a,y::b,h=>by rw[XY,Wg,lA (by simpa using h)]
 |[],_::_,h=>by simp at h
 |_::_,[],h=>by simp at h
def JB(hc:X.calm=true)(hg:Gl X "sorted")(hm:X.mg "sorted"=none)(hb:WX "sorted"=some (.builtin "sorted"))(ha:lC X Xw [e] δs)(he:Wf [e] X.env=[(false,eval e X.env)]:=by rfl):PD X Xw (.Call (.Name "sorted" p) [e] [] pos) (dA Aa δs):=
 d5 (Dt hc) (λXw F H vs ds Q s h w=>by
  unfold Aa at w;split at w
  ·rename_i kk ds;obtain⟨v,rfl,h1⟩:=h.one;obtain⟨a,ob,ws,rfl,h2,h3,h4,h5⟩:=h1;split at w
   ·rename_i ks Q9;split at w
    ·rename_i hok;rw[WU] at hok;have hl:∀k∈ks,k.length<=lim:=λk hk=>acF (WT.mp hok.2 k hk);have QL:ks.length<64:=by
      have:=hok.1;unfold km at this;rw[WU,WU] at this;exact acF this.1.2
     refine⟨a,_,ks,rfl, .inr ⟨ob,s _ _ h2⟩,by rw[lA (by rw[h4];exact h3.len),oz Q9],hok.1,λq us hq hr=>?_⟩;obtain⟨F1,e1,r1⟩:=zX s hr;have e2:=Ext.lay (o:= .lst us) e1.fh hq;exact WP.fin w (e1.trans e2) ⟨q,_,rfl,aH,DenL.mono e2.ff (zW r1 λk hk=>hl k (i_.mp hk)),by rw[V4,v8];unfold lim;omega⟩
    ·exact w.elim
   ·exact w.elim
  ·exact w.elim) hg hm hb ha (by decide) (by decide) he rfl
end
end L3
namespace L3
open PySem PySem.Spec L2
open PyProof.Rows hiding St
def orM(a b:M α):M α:=match a with
 |none=>b
 |some r=>some r
def LN(a b:DA):DA:=λρ=>orM (a ρ) (b ρ)
section
variable{X:Cx}{Xw:Nat->Hp->Prop}{e tg:Expr}{δi δi':DA}
def JE(h:yz X Xw tg e δi)(h':yz X Xw tg e δi'):yz X Xw tg e (LN δi δi'):=λf8 s σ H Q I ⟨F,ρ,S,w⟩=>by
 unfold LN orM at w;cases q:δi ρ with
 |none=>rw[q] at w;exact h' f8 s σ H Q I ⟨F,ρ,S,w⟩
 |some r=>rw[q] at w;exact h f8 s σ H Q I ⟨F,ρ,S,by rw[q];exact w⟩
def gz{st:Stmt}:qB X Xw st (λ_=>af):=λt0 acI f8 s σ H D I ⟨F,ρ,S,w⟩=>w.elim
end
def fgt:List Nat->bb->bb
 |[],ρ=>ρ
 |i::is,ρ=>fgt is (ρ.set i none)
def OR(f:bb->bb):Out->M Out
 | .nx ρ=>aa (.nx (f ρ))
 | .rt d=>aa (.rt d)
def eF(is:List Nat)(τ:DS):DS:=λρ=>τ ρ>>=OR (fgt is)
def StOk.fgt1{K:V9}(s:StOk K t0 acI F H σ ρ)(i:Nat):StOk K t0 acI F H σ (ρ.set i none):=by
 have get:∀(j:Nat) (sl:Sl),(ρ.set i none)[j]? =some (some sl)->ρ[j]? =some (some sl):=λj sl e=>by
  by_cases hj:j=i
  ·subst hj;by_cases hl:j<ρ.length
   ·rw[WQ hl] at e;cases e
   ·rw[Y1 (by simpa using hl)] at e;cases e
  ·rw[W0 (XR hj)] at e;exact e
 exact⟨s.ext,⟨s.st.fh,λj sl e=>s.st.den j sl (get j sl e)⟩,by simp[s.len],λj c a e e'=>s.own j c a (get j _ e) e',λj k sl mN v v' b e1 e2 e3 e4 h5 h6=>s.sep j k sl mN v v' b (get j _ e1) (get k _ e2) e3 e4 h5 h6⟩
def StOk.fgt{K:V9}:∀(is:List Nat) {ρ:bb},StOk K t0 acI F H σ ρ->StOk K t0 acI F H σ (L3.fgt is ρ)
 |[],_,s=>s
 |i::is,_,s=>StOk.fgt is (s.fgt1 i)
def WPS.fgt{K:V9}(w:WPS K Xw t0 acI (m>>=OR (L3.fgt is)) Dn):WPS K Xw t0 acI m Dn:=by
 match m,w with
 |none,w=>exact w
 |some (.ok (.nx ρ)),w=>exact λσ F H s=>w σ F H (s.fgt is)
 |some (.ok (.rt d)),w=>exact w
 |some (.ex n),w=>exact w
section
variable{X:Cx}{Xw:Nat->Hp->Prop}{Tw:List Stmt}{τ:DS}{is:List Nat}
def cq(h:PSDs X Xw Tw τ):PSDs X Xw Tw (eF is τ):=λt0 acI=>PSs.weak (h t0 acI) λD σ H ⟨F,ρ,s,w⟩=>⟨F,ρ,s,WPS.fgt w⟩
end
def T5:Option Sl->Option Sl
 |some (.ow c)=>some (.fz c.d)
 |some (.ob _ _)=>none
 |x=>x
def AY(ρ:bb):bb:=ρ.map T5
def refA(h:Heap)(P:Addr->Prop)[DecidablePred P](H:Hp):Hp:=λb=>if P b then(H b).map (jY ((h.get? b).getD {cls:= .none,data:= .fields #[]})) else H b
def AZ(ob:Obj)(o:HO):jY ob o=o\/((∃k,o= .dT k)\/∃k,o= .dK k)/\jY ob o= .frz ob o:=by
 cases o<;>first | exact .inl rfl | exact .inr ⟨.inl ⟨_,rfl⟩,rfl⟩ | exact .inr ⟨.inr ⟨_,rfl⟩,rfl⟩
section
variable{X:Cx}{f8:List (Addr×Obj)}{σ:St}{H:Hp}{s:Wa}{P:Addr->Prop}[DecidablePred P]
def i7(e:H b=none):refA h P H b=none:=by
 unfold refA;split
 ·rw[e];rfl
 ·exact e
def vT(e:H b=some o):refA h P H b=some o\/((∃k,o= .dT k)\/∃k,o= .dK k)/\P b/\refA h P H b=some (.frz ((h.get? b).getD {cls:= .none,data:= .fields #[]}) o):=by
 unfold refA;split
 ·rename_i hp;rw[e];rcases AZ ((h.get? b).getD {cls:= .none,data:= .fields #[]}) o with q | ⟨q1,q2⟩
  ·exact .inl (by show some _=_;rw[q])
  ·exact .inr ⟨q1,hp,by show some _=_;rw[q2]⟩
 ·exact .inl e
def i6(e:H b=some o)(n1:∀k,o≠ .dT k)(n2:∀k,o≠ .dK k):refA h P H b=some o:=by
 rcases vT (P:=P) e with q | ⟨⟨k,q⟩ | ⟨k,q⟩,_⟩
 ·exact q
 ·exact acC q (n1 k)
 ·exact acC q (n2 k)
def Inv.refA(I:Inv X f8 σ H s):Inv X f8 σ (L3.refA s.heap P H) s:=by
 have obj:∀b o,H b=some o->((∃k,o=HO.dT k)\/∃k,o= .dK k)->∃ob,s.heap.get? b=some ob:=λb o e hu=>by
  have hk:=I.hok b o e;rcases hu with⟨k,h1⟩ | ⟨k,h1⟩
  ·subst h1;obtain⟨_,_,_,_,ob,_,_,q,_⟩:=hk;exact⟨ob,q⟩
  ·subst h1;obtain⟨_,_,_,_,ob,_,_,q,_⟩:=hk;exact⟨ob,q⟩
 refine⟨I.ok,I.os,I.bare,⟨I.base.keep,I.base.slot,λb q h1 h2 h3=>i7 (I.base.free b q h1 h2 h3),I.base.there,λb xs q=>i6 (I.base.tups b xs q) (λ_ z=>nomatch z) (λ_ z=>nomatch z),
  λb q1 v q=>i6 (I.base.frzs b q1 v q) (λ_ z=>nomatch z) (λ_ z=>nomatch z),λb ps q=>?_⟩,I.loc,I.cell,i7 I.free,λx c q=>i7 (I.freeC x c q),λp hp=>?_,λb v q=>?_,I.len⟩
 ·obtain⟨m,this⟩:=I.base.tbls b ps q;exact⟨m,i6 this (λ_ z=>nomatch z) (λ_ z=>nomatch z)⟩
 ·obtain⟨h1,h2,h3⟩:=I.pin p hp;exact⟨h1,i7 h2,h3⟩
 ·have st:∀{c:Addr}{v:HO},ObjOk X.prog X.w H s.heap c v->ObjOk X.prog X.w (L3.refA s.heap P H) s.heap c v:=λ{c v} k=>k.stay (λ_ _ _ q=>q)
   (λc' q=>i6 q (λ_ z=>nomatch z) (λ_ z=>nomatch z)) λc' xs q=>i6 q (λ_ z=>nomatch z) (λ_ z=>nomatch z)
  cases e:H b with
  |none=>rw[i7 e] at q;cases q
  |some o=>
   rcases vT (P:=P) e with z | ⟨hu,hp,z⟩
   ·rw[z] at q;cases q;exact st (I.hok b _ e)
   ·rw[z] at q;cases q;obtain⟨ob,LI⟩:=obj b o e hu;rw[LI];exact⟨LI,st (I.hok b o e)⟩
def unA(P:Addr->Prop)[DecidablePred P](H:Hp):Hp:=λb=>if P b then(match H b with | some (.frz _ u)=>some u | x=>x) else H b
def Inv.unA(I:Inv X f8 σ H s)(hP:∀b,P b->∀o u,X.acI b≠some (.frz o u))(hQ:∀b,P b->∀o u,H b=some (.frz o u)->(∃k,u= .dT k)\/∃k,u= .dK k):Inv X f8 σ (L3.unA P H) s:=by
 have non:∀b,H b=none->L3.unA P H b=none:=λb e=>by unfold L3.unA;rw[e];split<;>rfl
 have keep:∀b o,H b=some o->(∀q u,o≠ .frz q u)->L3.unA P H b=some o:=λb o e n=>by
  unfold L3.unA;split
  ·rw[e];cases o<;>first | rfl | exact acC rfl (n _ _)
  ·exact e
 refine⟨I.ok,I.os,I.bare,⟨I.base.keep,I.base.slot,λb q h1 h2 h3=>non b (I.base.free b q h1 h2 h3),I.base.there,λb xs q=>keep b _ (I.base.tups b xs q) (λ_ _ z=>nomatch z),
  λb q1 v q=>?_,λb ps q=>?_⟩,I.loc,I.cell,non _ I.free,λx c q=>non _ (I.freeC x c q),λp hp=>?_,λb v q=>?_,I.len⟩
 ·have:=I.base.frzs b q1 v q;unfold L3.unA;rw[acA (λhp=>hP b hp q1 v q)];exact this
 ·obtain⟨m,this⟩:=I.base.tbls b ps q;exact⟨m,keep b _ this (λ_ _ z=>nomatch z)⟩
 ·obtain⟨h1,h2,h3⟩:=I.pin p hp;exact⟨h1,non _ h2,h3⟩
 ·have st:∀{c:Addr}{v:HO},ObjOk X.prog X.w H s.heap c v->ObjOk X.prog X.w (L3.unA P H) s.heap c v:=λ{c v} k=>k.stay (λ_ _ _ q=>q)
   (λc' q=>keep c' _ q (λ_ _ z=>nomatch z)) λc' xs q=>keep c' _ q (λ_ _ z=>nomatch z)
  cases e:H b with
  |none=>rw[non b e] at q;cases q
  |some o=>
   have ko:=I.hok b o e;by_cases hf:∃ob u,o= .frz ob u
   ·obtain⟨ob,u,rfl⟩:=hf;unfold L3.unA at q;split at q
    ·rw[e] at q;cases q;obtain⟨_,k2⟩:=ko;exact st k2
    ·rw[e] at q;cases q;exact st ko
   ·rw[keep b o e (λq u z=>hf ⟨q,u,z⟩)] at q;cases q;exact st ko
end
mutual
def Cr:D->Bool
 | .non=>true
 | .bl _=>true
 | .int _=>true
 | .str _=>true
 | .tup ds=>Cs ds
 | .raw _=>false
 | .exc _=>false
 | .scr _=>false
 | .lst _=>false
 | .dct _ _=>false
 | .dci _ _=>false
def Cs:List D->Bool
 |[]=>true
 |d::ds=>Cr d&&Cs ds
end
def rl(d:D):M D:=if Cr d then aa d else af
def OwnAt(σ:St)(ρ:bb)(b:Addr):Prop:=∃(i:Nat) (c:C),ρ[i]? =some (some (Sl.ow c))/\σ[i]? =some (some (V.ref b))
section
variable{K:V9}{F H F' H':Hp}{σ:St}{ρ:bb}{h:Heap}{b:Addr}
def OwnAt.obj(S:StE K F H σ ρ)(p:OwnAt σ ρ b):F b=none/\∃o,H b=some o/\((∃x,o= .lst x)\/(∃x,o= .dT x)\/∃x,o= .dK x):=by
 obtain⟨i,c,h1,h2⟩:=p;obtain⟨v,h3,a,o,rfl,h4,h5,h6⟩:=S.den i _ h1;rw[h3] at h2;cases h2;refine⟨h5,o,h4,?_⟩;cases c with
 |lst ds=>obtain⟨vs,rfl,_⟩:=h6;exact .inl ⟨_,rfl⟩
 |dct ks ds=>obtain⟨vs,rfl,_⟩:=h6;exact .inr (.inl ⟨_,rfl⟩)
 |dci ks ds=>obtain⟨vs,rfl,_⟩:=h6;exact .inr (.inr ⟨_,rfl⟩)
open Classical in
noncomputable def fA(σ:St)(ρ:bb)(H1 F:Hp):Hp:=λb=>if OwnAt σ ρ b then H1 b else F b
open Classical in
def Cq(S:StE K F H σ ρ):Same F (fA σ ρ H1 F):=λb u e=>by
 unfold fA;rw[acA (λp=>by rw[(OwnAt.obj S p).1] at e;cases e)];exact e
open Classical in
def FC(S:StE K F H σ ρ):StE K (fA σ ρ (refA h (OwnAt σ ρ) H) F) (refA h (OwnAt σ ρ) H) σ (AY ρ):=by
 refine⟨λb u e=>?_,λj sl e=>?_⟩
 ·unfold fA at e;split at e
  ·exact e
  ·rename_i hp;unfold refA;rw[acA hp];exact S.fh b u e
 ·unfold AY at e;rw[Wb] at e;cases q:ρ[j]? with
  |none=>rw[q] at e;cases e
  |some x=>
   rw[q] at e;cases x with
   |none=>cases e
   |some y=>
    cases y with
    |fz d=>
     cases e;obtain⟨v,h1,h2⟩:=S.den j _ q;exact⟨v,h1,Den.mono (Cq S) h2⟩
    |ow c=>
     cases e;obtain⟨v,h1,a,o,rfl,h4,h5,h6⟩:=S.den j _ q;refine⟨_,h1,DenC.den (ob:=(h.get? a).getD {cls:= .none,data:= .fields #[]}) h6 (Cq S) ?_⟩;have hp:OwnAt σ ρ a:=⟨j,c,q,h1⟩
     unfold fA refA;rw[acz hp,acz hp,h4];rfl
    |ob a o=>cases e
open Classical in
def yY(S:StE K F H σ ρ)(E:Ext (fA σ ρ (refA h (OwnAt σ ρ) H) F) (refA h (OwnAt σ ρ) H) F' H'):
 Ext F H (λb=>if OwnAt σ ρ b then none else F' b) (unA (OwnAt σ ρ) H')/\∀b,OwnAt σ ρ b->∀o u,H' b=some (.frz o u)->(∃k,u= .dT k)\/∃k,u= .dK k:=by
 have SA:∀b,OwnAt σ ρ b->∃o,H b=some o/\H' b=some (jY ((h.get? b).getD {cls:= .none,data:= .fields #[]}) o)/\((∃x,o= .lst x)\/(∃x,o= .dT x)\/∃x,o= .dK x):=λb hp=>by
  obtain⟨_,o,h1,h2⟩:=OwnAt.obj S hp;refine⟨o,h1,E.hh b _ ?_,h2⟩;unfold refA;rw[acz hp,h1];rfl
 refine⟨⟨λb o e=>?_,λb u e=>?_,λb u e=>?_,λb hb=>?_⟩,λb hp o u e=>?_⟩
 ·unfold unA;by_cases hp:OwnAt σ ρ b
  ·obtain⟨o',h1,h2,h3⟩:=SA b hp;rw[e] at h1;cases h1;rw[acz hp,h2];rcases h3 with⟨x,rfl⟩ | ⟨x,rfl⟩ | ⟨x,rfl⟩<;>rfl
  ·rw[acA hp];refine E.hh b o ?_;unfold refA;rw[acA hp];exact e
 ·have hp:¬OwnAt σ ρ b:=λp=>by rw[(OwnAt.obj S p).1] at e;cases e
  show (if OwnAt σ ρ b then none else F' b)=_;rw[acA hp];refine E.ff b u ?_;unfold fA;rw[acA hp];exact e
 ·have e:(if OwnAt σ ρ b then none else F' b)=some u:=e;split at e
  ·cases e
  ·rename_i hp;unfold unA;rw[acA hp];exact E.fh b u e
 ·show (if OwnAt σ ρ b then none else F' b)=F b\/_;by_cases hp:OwnAt σ ρ b
  ·rw[acz hp];exact .inl (OwnAt.obj S hp).1.symm
  ·rw[acA hp];have e1:refA h (OwnAt σ ρ) H b=H b:=by unfold refA;rw[acA hp]
   have e2:fA σ ρ (refA h (OwnAt σ ρ) H) F b=F b:=by unfold fA;rw[acA hp]
   rcases E.new b (by rw[e1];exact hb) with q | q
   ·exact .inl (q.trans e2)
   ·rw[e1] at q;exact .inr q
 ·obtain⟨o',h1,h2,h3⟩:=SA b hp;rw[e] at h2;rcases h3 with⟨x,rfl⟩ | ⟨x,rfl⟩ | ⟨x,rfl⟩
  ·cases h2
  ·cases h2;exact .inl ⟨_,rfl⟩
  ·cases h2;exact .inr ⟨_,rfl⟩
open Classical in
mutual
def yV(S:StE K F H σ ρ)(E:Ext (fA σ ρ (refA h (OwnAt σ ρ) H) F) (refA h (OwnAt σ ρ) H) F' H'):∀{d:D}{v:V},Cr d=true->Den K F' d v->Den K (λb=>if OwnAt σ ρ b then none else F' b) d v
 | .non,_,_,q=>q
 | .bl _,_,_,q=>q
 | .int _,_,_,q=>q
 | .str _,_,_,q=>q
 | .tup ds,_,f,⟨a,vs,h1,h2,h3,h4⟩=>by
   refine⟨a,vs,h1,?_,u5 S E ?_ h3,h4⟩
   ·show (if OwnAt σ ρ a then none else F' a)=_;rw[acA,h2];intro hp;obtain⟨_,o,k1,k2⟩:=OwnAt.obj S hp;have k3:fA σ ρ (refA h (OwnAt σ ρ) H) F a=some (jY ((h.get? a).getD {cls:= .none,data:= .fields #[]}) o):=by
     unfold fA refA;rw[acz hp,acz hp,k1];rfl
    have k4:=E.ff a _ k3;rw[h2] at k4;rcases k2 with⟨x,rfl⟩ | ⟨x,rfl⟩ | ⟨x,rfl⟩<;>cases k4
   ·exact f
 | .raw _,_,f,_=>by cases f
 | .exc _,_,f,_=>by cases f
 | .scr _,_,f,_=>by cases f
 | .lst _,_,f,_=>by cases f
 | .dct _ _,_,f,_=>by cases f
 | .dci _ _,_,f,_=>by cases f
def u5(S:StE K F H σ ρ)(E:Ext (fA σ ρ (refA h (OwnAt σ ρ) H) F) (refA h (OwnAt σ ρ) H) F' H'):∀{ds:List D}{vs:List V},Cs ds=true->DenL K F' ds vs->DenL K (λb=>if OwnAt σ ρ b then none else F' b) ds vs
 |[],_,_,q=>q
 |d::ds,_,f,⟨v,r,h1,h2,h3⟩=>by
  unfold Cs at f;rw[WU] at f;exact⟨v,r,h1,yV S E f.1 h2,u5 S E f.2 h3⟩
end
end
def xc(h:noex m=aa a):m=aa a:=by
 match m,h with
 |some (.ok b),h=>exact h
section
variable{X:Cx}{Xw:Nat->Hp->Prop}{e:Expr}{δ:DE}{τ:DT}
def vG(I:Inv X f8 σ H s)(S:StE X.K F H σ ρ)(b:Addr)(p:OwnAt σ ρ b)(o:Obj)(u:HO):X.acI b≠some (.frz o u):=λz=>by
 obtain⟨_,o',k1,k2⟩:=OwnAt.obj S p;have:=I.base.frzs b o u z;rw[k1] at this;rcases k2 with⟨x,rfl⟩ | ⟨x,rfl⟩ | ⟨x,rfl⟩<;>cases this
def r9(m:M α):noex m=af\/∃a,m=aa a/\noex m=aa a:=by
 rcases m.cs with h | ⟨n,h⟩ | ⟨a,h⟩
 ·subst h;exact .inl rfl
 ·subst h;exact .inl rfl
 ·subst h;exact .inr ⟨a,rfl,rfl⟩
def G7(h:qA X Xw e τ):qA X Xw e (λρ=>noex (τ (AY ρ))):=λf8 s σ H Q I ⟨F,ρ,S,w⟩=>by
 classical
 rcases r9 (τ (AY ρ)) with q | ⟨b,q,q2⟩
 ·have w:WPB Xw F H (noex (τ (AY ρ))) Q:=w;rw[q] at w;exact w.elim
 ·have w:WPB Xw F H (noex (τ (AY ρ))) Q:=w;rw[q2] at w;refine ck (h f8 s σ _ (λb' H'=>Q b' (unA (OwnAt σ ρ) H')/\∀c,OwnAt σ ρ c->∀o u,H' c=some (.frz o u)->(∃k,u= .dT k)\/∃k,u= .dK k) (Inv.refA I) ⟨_,_,FC S,?_⟩) λb' s' ⟨H',I',q1,q3⟩=>⟨_,Inv.unA I' (vG I S) q3,q1⟩
  rw[q];intro H' F' E;obtain⟨E1,q3⟩:=yY S E;exact⟨w _ _ E1,q3⟩
def OW(h:PD X Xw e δ):PD X Xw e (λρ=>noex (δ (AY ρ))>>=rl):=λf8 s σ H Q I ⟨F,ρ,S,w⟩=>by
 classical
 rcases r9 (δ (AY ρ)) with q | ⟨d,q,q2⟩
 ·have w:WP X.K Xw F H (noex (δ (AY ρ))>>=rl) Q:=w;rw[q] at w;exact w.elim
 ·have w:WP X.K Xw F H (noex (δ (AY ρ))>>=rl) Q:=w;rw[q2,aq] at w;unfold rl at w;split at w
  ·rename_i hf;refine ck (h f8 s σ _ (λv H'=>Q v (unA (OwnAt σ ρ) H')/\∀c,OwnAt σ ρ c->∀o u,H' c=some (.frz o u)->(∃k,u= .dT k)\/∃k,u= .dK k) (Inv.refA I) ⟨_,_,FC S,?_⟩) λb' s' ⟨v,H',I',rv,q1,q3⟩=>⟨v,_,Inv.unA I' (vG I S) q3,rv,q1⟩
   rw[q];intro v H' F' E dn;obtain⟨E1,q3⟩:=yY S E;exact⟨w _ _ _ E1 (yV S E hf dn),q3⟩
  ·exact w.elim
end
abbrev DF:=bb->M C
def WPF(K:V9)(Xw:Nat->Hp->Prop)(F H:Hp)(m:M C)(Q:VK):Prop:=
 match m with
 |none=>False
 |some (.ok c)=>∀a o H' F',Ext F H F' H'->H' a=some o->F' a=none->H a=none->DenC K F' c o->Q (.ref a) H'
 |some (.ex n)=>∀F' H',Ext F H F' H'->Xw n H'
def Vw(K:V9)(Xw:Nat->Hp->Prop)(δ:DF):TE:=λσ H Q=>∃F ρ,StE K F H σ ρ/\WPF K Xw F H (δ ρ) Q
def Qr(X:Cx)(Xw:Nat->Hp->Prop)(e:Expr)(δ:DF):Prop:=PE X e (Vw X.K Xw δ)
def C2(i:Nat)(δ:DF):DS:=λρ=>δ ρ>>=λc=>aa (.nx (ρ.set i (some (.ow c))))
def StOk.setFresh{K:V9}(s:StOk K t0 acI F H σ ρ)(E:Ext F H F' H')(ho:H' a=some o)(nF:F' a=none)(n:H a=none)(h:DenC K F' c₀ o):
 StOk K t0 acI F' H' (σ.set i (some (.ref a))) (ρ.set i (some (.ow c₀))):=by
 refine s.put (nsl:= .ow c₀) (nv:= .ref a) ⟨a,_,rfl,ho,nF,h⟩ (s.ext.trans E) E.ff (λj sl v hj h1 h2 b hb=>?_) λc b _ hb=>?_
 ·obtain⟨q1,u,q2,q3⟩:=(s.foot h1 h2).cell b hb;have gk:b≠a:=λz=>by rw[z,n] at q2;cases q2
  exact⟨by rw[q2];exact E.hh b u q2,by rw[E.old q2 q3];exact q1,λq=>gk (Wo.mp q)⟩
 ·cases hb;exact Same.free s.ext.hh n
def WPF.mono{K:V9}(h:WPF K Xw F H m Q)(k:∀v H',Q v H'->Q' v H'):WPF K Xw F H m Q':=by
 match m,h with
 |none,h=>exact h
 |some (.ok d),h=>exact λa o H' F' e h1 h2 h3 h4=>k _ _ (h a o H' F' e h1 h2 h3 h4)
 |some (.ex n),h=>exact h
def WPF.ext{K:V9}(e:Ext F H F1 H1)(h:WPF K Xw F H m Q):WPF K Xw F1 H1 m Q:=by
 match m,h with
 |none,h=>exact h
 |some (.ok d),h=>exact λa o H' F' e' h1 h2 h3 h4=>h a o H' F' (e.trans e') h1 h2 (Same.free e.hh h3) h4
 |some (.ex n),h=>exact λF2 H2 e2=>h F2 H2 (e.trans e2)
def WPF.bind{K:V9}(h:WPF K Xw F H (m>>=k) Q):WP K Xw F H m λv H1=>∃F1 d,Ext F H F1 H1/\Den K F1 d v/\WPF K Xw F1 H1 (k d) Q:=by
 match m,h with
 |none,h=>exact h
 |some (.ok d),h=>exact λv H2 F2 e2 q=>⟨F2,d,e2,q,WPF.ext e2 (show WPF K Xw F H (k d) Q from h)⟩
 |some (.ex n),h=>exact h
def WPF.bindL{K:V9}(h:WPF K Xw F H (m>>=k) Q):WPL K Xw F H m λv H1=>∃F1 d,Ext F H F1 H1/\DenL K F1 d v/\WPF K Xw F1 H1 (k d) Q:=by
 match m,h with
 |none,h=>exact h
 |some (.ok d),h=>exact λv H2 F2 e2 q=>⟨F2,d,e2,q,WPF.ext e2 (show WPF K Xw F H (k d) Q from h)⟩
 |some (.ex n),h=>exact h
def RN(ds:List D):M C:=if ds.length<=lim then aa (.lst ds) else af
section
variable{X:Cx}{Xw:Nat->Hp->Prop}{e k v a b:Expr}{es:List Expr}{δ:DF}{δs:DA}{pos pos' p:Pos}{x:Str}{i:Nat}
def zQ(hN:X.N.Nodup)(hi:X.N[i]? =some x)(hx:Loc X.env.scope x)(he:Qr X Xw e δ)(hf:X.fn x=true\/X.env.scope.names.lookup x=some .local:=by first | exact .inl rfl | exact .inr rfl)
 (hs:aas [.Name x pos'] e pos.line X.env=pure false:=by rfl):
 qB X Xw (.Assign [.Name x pos'] e pos) (C2 i δ):=λt0 acI=>PS.weak (sW he (bI hN hi hx hf) hs) λD σ H ⟨F,ρ,s,w⟩=>by
 refine⟨F,ρ,s.st,?_⟩;unfold C2 at w
 match δ ρ,w with
 |none,w=>exact w
 |some (.ok c),w=>exact λa o H' F' E h1 h2 h3 h4=>w _ F' H' (s.setFresh E h1 h2 h3 h4)
 |some (.ex n),w=>exact λF' H' e'=>w F' H' (s.ext.trans e')
def Ext.fresh{F H:Hp}{p:Addr}(s:Same F H)(hp:H p=none):Ext F H F (upd H p o)/\F p=none:=⟨Ext.free s hp,Same.free s hp⟩
def JD(h:lC X Xw es δs):Qr X Xw (.List es pos) (λρ=>δs ρ>>=RN):=PE.weak (xK h) λσ H Q ⟨F,ρ,s,w⟩=>by
 refine⟨F,ρ,s,WPL.mono (WPF.bindL w) λvs H1 ⟨F1,ds,e1,q1,w1⟩=>?_⟩;unfold RN at w1;split at w1
 ·rename_i hl;have hv:=q1.len;refine⟨by have:=eZ;omega,λp hp=>?_⟩;obtain⟨E,nF⟩:=Ext.fresh (o:= .lst vs) e1.fh hp;exact w1 p _ _ F1 E aH nF hp ⟨vs,rfl,q1,hl⟩
 ·exact w1.elim
def Ny{a:Addr}{y v:V}(hu:A.units+1<cLine)(I:Inv X f8 σ H s)(g:DPut H a y v H')(ry:RelV y u)(rv:RelV v r)(h:∀s',Inv X f8 σ H' s'->Q () s'):
 wpAny (model X.prog X.w) A (dictSet a u r) Q E s:=by
 rcases g with⟨aB,k,e,ey,l,eH⟩ | ⟨aB,k,b,e,ey,eb,l,eH⟩
 ·subst ey eH;obtain⟨z,hd,vs,rel,dd⟩:=Kw I.hok e;have hz:vs.length<=Wr:=by rw[<-rel.length];exact z
  have hl:(putK aB k v).length<=Wr:=by have:=fW aB k v;omega
  refine wpAny_dictSet_pairs (ph ry) dd λh' Fm hs=>h _ ?_;have he:∃q,h'.get? a=some q:=let ⟨q,_,_,hq,_⟩:=Fm;⟨q,hq⟩
  exact mW I (by rw[e];exact XX) hs he (Fq hl hd (rel.put k rv) Fm)
 ·subst ey eH;cases (show u=Wv b from ry);obtain⟨z,hd,xs,rel,dd⟩:=Fs I.hok e;have hz:xs.length<=Wr:=by rw[<-XW rel];exact z
  have hl:(putK aB k v).length<=Wr:=by have:=fW aB k v;omega
  refine wpAny_dictSet_heap (by exact(show A.units<cLine by omega)) (j2 I.hok eb) dd λh' Fm hs=>h _ ?_;obtain⟨q,es,ep,hq,h2,h3,h4,_,h5⟩:=Fm;refine mW I (by rw[e];exact XX) hs ⟨q,hq⟩ ⟨hl,hd,_,(rel.put k eb rv).keeps λc ys ec=>?_,q,es,ep,hq,h2,h3,h4,h5⟩;rw[az (GC ec e (λz=>nomatch z))];exact ec
end
section
variable{X:Cx}{Xw:Nat->Hp->Prop}{e k v a b:Expr}{es:List Expr}{δk δv δa δb:DE}{pos p:Pos}{x:Str}{i:Nat}
def Fp(hu:X.A.units+1<cLine)(h0:∀(H:Hp) (h:Heap),Xq<h.objs.size->ObjOk X.prog X.w H (h.push {cls:= .type "dict",data:= .dict #[]}) h.objs.size o0)(hk:PE X k tk)(hv:PE X v tv):
 PE X (.Dict [some k] [v] pos) (λσ H Q=>∀p,H p=none->tk σ (upd H p o0) λy H1=>tv σ H1 λz H2=>∃H3,DPut H2 p y z H3/\Q (.ref p) H3):=by
 intro f8 s σ H Q I q;have hn:=I.hok.fresh (Wj s.heap.objs.size);have I1:=I.laid (t':=s.toks) (λ_ _ q=>V8 _ q) (Wj _) (h0 _ s.heap I.big);refine wpAny_Dict_any rfl rfl (by simp) (by simp) (ck (Hc hk hv JN f8 _ σ _ (λps H2=>∃y z H3,ps=[(y,z)]/\DPut H2 s.heap.objs.size y z H3/\Q (.ref s.heap.objs.size) H3) I1 ?_) λws s2 ⟨ps,H2,I2,rel,y,z,H3,ep,g,q2⟩=>?_)
 ·refine ?_;have:=q _ hn;show tk σ _ λy H1=>tv σ H1 λz H2=>∃y' z' H3,[(y,z)]=[(y',z')]/\DPut H2 s.heap.objs.size y' z' H3/\Q (.ref s.heap.objs.size) H3;have e:(λ(y:V) (H1:Hp)=>tv σ H1 λz H2=>∃y' z' H3,[(y,z)]=[(y',z')]/\DPut H2 s.heap.objs.size y' z' H3/\Q (.ref s.heap.objs.size) H3)=(λy H1=>tv σ H1 λz H2=>∃H3,DPut H2 s.heap.objs.size y z H3/\Q (.ref s.heap.objs.size) H3):=by
   funext y H1;congr 1;funext z H2;refine propext ⟨λ⟨y',z',H3,ee,r⟩=>?_,λ⟨H3,r⟩=>⟨y,z,H3,rfl,r⟩⟩;cases ee;exact⟨H3,r⟩
  rw[e];exact this
 ·subst ep;cases rel with
  | @cons a b as bs h t=>
    cases t;obtain⟨r1,r2⟩:=h;unfold storeAll;rw[ZJ];refine V2 (V2 (Ny hu I2 g r1 r2 λs3 I3=>?_));refine V_ ?_;show wpAny _ _ (forIn ([]:List (Value×Value)) YT _) _ _ _;rw[List.forIn_nil];exact V_ ⟨V.ref s.heap.objs.size,_,I3,rfl,q2⟩
def uZ(k v:D):M C:=match lD k with
 |some kk=>aa (.dct [kk] [v])
 |none=>af
def Ep(hu:X.A.units+64<cLine)(hk:PD X Xw k δk)(hv:PD X Xw v δv):Qr X Xw (.Dict [some k] [v] pos) (λρ=>δk ρ>>=λx=>δv ρ>>=λy=>uZ x y):=
 PE.weak (Fp (o0:= .dT []) (by omega) (λH h hb=>yR h hb) hk hv) λσ H Q ⟨F,ρ,s,w⟩ q hq=>by
  have e0:=Ext.free (o:= .dT []) s.fh hq;refine⟨F,ρ,s.ext e0,?_⟩;have w:WPF X.K Xw F H (δk ρ>>=λx=>δv ρ>>=λy=>uZ x y) Q:=w
  match MZ:δk ρ,w with
  |none,w=>exact w
  |some (.ex n),w=>exact λF' H' e'=>w F' H' (e0.trans e')
  |some (.ok kd),w=>
   intro y H1 F1 e1 q1;refine⟨F1,ρ,(s.ext e0).ext e1,?_⟩;have w:WPF X.K Xw F H (δv ρ>>=λy=>uZ kd y) Q:=w
   match Om:δv ρ,w with
   |none,w=>exact w
   |some (.ex n),w=>exact λF' H' e'=>w F' H' (e0.trans (e1.trans e'))
   |some (.ok vd),w=>
    intro z H2 F2 e2 q2;have w3:WPF X.K Xw F H (uZ kd vd) Q:=w;clear w;unfold uZ at w3;cases KI:lD kd with
    |none=>rw[KI] at w3;exact w3.elim
    |some kk=>
     rw[KI] at w3;have E:=e1.trans e2;have Ro:H2 q=some (.dT []):=E.hh _ _ aH;have SR:F2 q=none:=by
      have:=E.old aH (λ_ z=>nomatch z);rw[this];exact Same.free s.fh hq
     unfold lD at KI;split at KI
     ·rename_i es;obtain⟨b,ws,rfl,k2,k3,_⟩:=Den.mono e2.ff q1;have e5:=nh KI k3;subst e5;refine⟨_,DPut.t Ro (e2.fh _ _ k2) (by rw[Yi];decide),?_⟩;refine w3 q (.dT (putK [] kk z)) _ F2 ⟨λc u hc=>?_,(e0.trans E).ff,λc u hc=>?_,(e0.trans E).new⟩ aH SR hq ⟨[z],rfl, .cons q2 .nil,rfl,show 1<=lim by decide⟩
      ·rw[az (λzz=>by rw[zz,hq] at hc;cases hc)];exact(e0.trans E).hh c u hc
      ·rw[az (λzz=>by rw[zz,SR] at hc;cases hc)];exact e2.fh c u hc
     ·cases KI
def wo{K:V9}{d k:D}{x y:V}(s:Same F H)(hd:Den K F d x)(hk:Den K F k y)(e:EU d k=some o):
 ∃a ov,x= .ref a/\mf H a y ov/\ov.isSome=o.isSome/\∀d',o=some d'->∃v,ov=some v/\Den K F d' v:=by
 obtain⟨a,ov,h1,h2,h3,h4⟩:=Ca (σ:=[some x]) (ρ:=[some (.fz d)]) (i:=0) ⟨s,λi sl q=>by
  match i,q with
  |0,q=>cases q;exact⟨x,rfl,hd⟩
  |i+1,q=>simp at q⟩ rfl hk e
 cases h1;exact⟨a,ov,rfl,h2,h3,h4⟩
def mr(neg:Bool)(k d:D):M D:=match EU d k with
 |some o=>aa (.bl (if neg then !o.isSome else o.isSome))
 |none=>af
def MA(neg:Bool):R2:=λy x H Q=>∃a o,x= .ref a/\mf H a y o/\Q (.bl (if neg then !o.isSome else o.isSome)) H
def L8(hu:X.A.units+64<cLine):OpR X (W7 .In) (MA false):=λf8 s σ H y x v u Q I ry rx ⟨a,o,ex,g,q⟩=>by
 subst ex;obtain rfl:u=Wv a:=rx;exact Nx (by omega) I g ry λs' I'=>⟨.bl o.isSome,_,I',rfl,q⟩
def Ei(hu:X.A.units+64<cLine):OpR X (W7 .NotIn) (MA true):=λf8 s σ H y x v u Q I ry rx ⟨a,o,ex,g,q⟩=>by
 subst ex;obtain rfl:u=Wv a:=rx;exact Iu (by omega) I g ry λs' I'=>⟨.bl (!o.isSome),_,I',rfl,q⟩
def CH{K:V9}:As K (MA neg) (mr neg):=λXw F H y x dk dd Q s hk hd w=>by
 unfold mr at w;cases he:EU dd dk with
 |none=>rw[he] at w;exact w.elim
 |some o=>
  rw[he] at w;obtain⟨a,ov,h1,h2,h3,_⟩:=wo s hd hk he;refine⟨a,ov,h1,h2,?_⟩;rw[h3];exact WP.now w s rfl
def Mt(hu:X.A.units+64<cLine)(ha:PD X Xw a δa)(hb:PD X Xw b δb)(hm:Xh .In b=false:=by rfl):qA X Xw (.Compare a [.In] [b] pos) (da (d2 (mr false) δa δb)):=gp (L8 hu) CH ha hb hm
def vP(hu:X.A.units+64<cLine)(ha:PD X Xw a δa)(hb:PD X Xw b δb)(hm:Xh .NotIn b=false:=by rfl):qA X Xw (.Compare a [.NotIn] [b] pos) (da (d2 (mr true) δa δb)):=gp (Ei hu) CH ha hb hm
def rn(d k:D):M D:=match EU d k with
 |some (some v)=>aa v
 |_=>af
def xH(hu:X.A.units+64<cLine)(ha:PD X Xw a δa)(hb:PD X Xw b δb)(hs:Lb b:=by intro _ _;rfl):PD X Xw (.Subscript a b pos) (d2 rn δa δb):=
 PE.weak (JJ (by omega) ha hb hs) λσ H Q ⟨F,ρ,s,w⟩=>by
  refine⟨F,ρ,s,WP.mono (WP.bind w) λx H1 ⟨F1,d,e1,q1,w1⟩=>?_⟩;refine⟨F1,ρ,s.ext e1,WP.mono (WP.bind w1) λy H2 ⟨F2,k,e2,q2,w2⟩=>?_⟩;unfold rn at w2;cases he:EU d k with
  |none=>rw[he] at w2;exact w2.elim
  |some o=>
   cases o with
   |none=>rw[he] at w2;exact w2.elim
   |some d'=>
    rw[he] at w2;obtain⟨a,ov,h1,h2,h3,h4⟩:=wo e2.fh (Den.mono e2.ff q1) q2 he;obtain⟨v,rfl,hd⟩:=h4 d' rfl;exact⟨a,v,h1,h2,WP.now w2 e2.fh hd⟩
end
section
variable{X:Cx}{f8:List (Addr×Obj)}{σ:St}{H:Hp}{s:Wa}{h':Heap}
def Inv.turnedLaid{ch:List Addr}(I:Inv X f8 σ H s)(k:∀b q,b∉ch->s.heap.get? b=some q->h'.get? b=some q)(hf:∀b∈ch,t6 X f8 H b)(hp:s.heap.objs.size<=a)(new:ObjOk X.prog X.w (upd H a o) h' a o):
 Inv X f8 σ (upd H a o) {s with heap:=h',toks:=t'}:=by
 have hn:=I.hok.fresh hp;have KY:∀b u,H b=some u->b∉ch:=λb u e z=>by rw[(hf b z).1] at e;cases e
 refine I.step (λb hb=>?_) (λb q _ _ hc e _=>k b q hc e) (λb q _ _ hc e _=>⟨q.slots,k b q hc e⟩) (λb q hc e n=>?_)
  (λb q hc e=>⟨q,k b q hc e⟩) (λb xs e=>?_) (λb q u e=>?_) (λb ps e=>⟨#[],?_⟩) (λm hm=>?_) (λb u e=>?_) I.bare
 ·obtain⟨f0,f1,f2,f3,f4,f5⟩:=hf b hb;exact⟨f3,f1,f4,f5⟩
 ·rw[az (λz=>by rw[z] at e;exact acC (Wl e) (Nat.not_lt.mpr hp))];exact n
 ·rw[az (bw e hn)];exact e
 ·rw[az (bw e hn)];exact e
 ·rw[az (bw e hn),e];simp
 ·obtain⟨q,es,ep,ho,r⟩:=hm;exact⟨q,es,ep,k _ q (λz=>(hf _ z).2.1 rfl) ho,r⟩
 ·by_cases hb:b=a
  ·subst hb;rw[aH] at e;cases e;exact new
  ·rw[az hb] at e;refine(I.hok b u e).stay (λc v hc q=>k c v ?_ q) (λc q=>by rw[az (bw q hn)];exact q) λc xs q=>by rw[az (bw q hn)];exact q
   rcases hc with z | z
   ·rw[z];exact KY b u e
   ·exact KY c _ z
def Inv.turnedL{ch:List Addr}(I:Inv X f8 σ H s)(k:∀b q,b∉ch->s.heap.get? b=some q->h'.get? b=some q)(hf:∀b∈ch,t6 X f8 H b):Inv X f8 σ H {s with heap:=h',toks:=t'}:=by
 have KY:∀b u,H b=some u->b∉ch:=λb u e z=>by rw[(hf b z).1] at e;cases e
 refine I.step (λb hb=>?_) (λb q _ _ hc e _=>k b q hc e) (λb q _ _ hc e _=>⟨q.slots,k b q hc e⟩) (λb q hc e n=>n)
  (λb q hc e=>⟨q,k b q hc e⟩) (λb xs e=>e) (λb q u e=>e) (λb ps e=>⟨#[],by rw[e];simp⟩) (λm hm=>?_) (λb u e=>?_) I.bare
 ·obtain⟨f0,f1,f2,f3,f4,f5⟩:=hf b hb;exact⟨f3,f1,f4,f5⟩
 ·obtain⟨q,es,ep,ho,r⟩:=hm;exact⟨q,es,ep,k _ q (λz=>(hf _ z).2.1 rfl) ho,r⟩
 ·refine(I.hok b u e).stay (λc v hc q=>k c v ?_ q) (λc q=>q) λc xs q=>q;rcases hc with z | z
  ·rw[z];exact KY b u e
  ·exact KY c _ z
end
def Sv(K:V9)(a:Addr):It:=
 ⟨λi H=>∃xs x,SqL K H a xs/\xs[i]? =some x,λi H x H'=>∃p,x= .ref p/\H p=none/\∃v,(∀xs,SqL K H a xs->xs[i]? =some v)/\H'=upd H p (.tup [.int (i:Int),v]),λi H=>∃xs,SqL K H a xs/\xs.length<=i⟩
def EJ{K:V9}(l e it:Addr)(S7:e≠it):
 Turn P w K (.Tuple es x1 tp) (Sv K l) [e,it] e (λi h=>∃old,IsEnum h e it (i:Int) old/\h.IsListIter it l i) where
 mem:=by simp
 obj:=λi h ⟨old,Ax,BW⟩ b hb=>by
  rcases Wc.mp hb with z | z
  ·subst z;exact⟨_,Ax,λv z=>nomatch z⟩
  ·have z:b=it:=by simpa using z
   subst z;obtain⟨o,e1,c,d⟩:=BW;exact⟨o,e1,λv z=>by rw[d] at z;cases z⟩
 keep:=λi h h' ⟨old,Ax,BW⟩ k=>⟨old,k e (by simp) _ Ax,BW.at λo q=>k it (by simp) o q⟩
 item:=by
  intro X hP hw hK hc i f8 s σ H E I hf st hg;subst hP hw hK;obtain⟨old,Ax,BW⟩:=st;obtain⟨xs,x,hq,hx⟩:=hg;obtain⟨aR,rv,p,hz⟩:=I.list hq;obtain⟨u,hu,ru⟩:=rv.get hx;refine wpAny_pyNext_enum_item Ax BW p.isList (by simpa using hu) S7 λh1 k1 k2 k3 k4 k5=>?_;refine⟨_,rfl,wpAny_letOwnedTupleGo_enum k1 λh2 m1 m2=>?_⟩;have gk:s.heap.objs.size≠e:=XM (Wl Ax);have MN:h2.get? s.heap.objs.size=some {cls:= .type "tuple",data:= .seq #[.int i s.toks,u]}:=(m2.2 _ gk).trans k3;have keep:∀b q,b∉[e,it]->s.heap.get? b=some q->h2.get? b=some q:=λb q hb e1=>by
   have H8:b≠e:=λz=>hb (by simp[z]);have MY:b≠it:=λz=>hb (by simp[z]);exact(m2.2 b H8).trans (k5 b q H8 MY e1)
  have I2:Inv X f8 σ (upd H s.heap.objs.size (.tup [.int (i:Int),x])) {s with heap:=h2,toks:=s.toks+1}:=by
   refine Inv.turnedLaid I keep hf (Wj _) ⟨?_,[.int i s.toks,u], .cons ⟨_,rfl⟩ (.cons ru .nil),_,MN,rfl,_,rfl⟩;rw[Yi];show 2<=_;decide
  refine⟨.ref s.heap.objs.size,_,I2,rfl,⟨_,rfl,I.hok.fresh (Wj _),x,λys hy=>by rw[I.list_inj hy hq];exact hx,rfl⟩,⟨u,?_,?_⟩,λb hb=>?_⟩
  ·have:((i+1:Nat):Int)=(i:Int)+1:=by push_cast;rfl
   rw[this];exact m1
  ·exact k2.at λo q=>(m2.2 it (XR S7)).trans q
  ·rw[az (λz=>by
    rcases Wc.mp hb with y | y
    ·exact acC (Wl Ax) (by rw[<-y,z];exact Xe _)
    ·have y:b=it:=by simpa using y
     obtain⟨o,q1,_⟩:=id BW;exact acC (Wl q1) (by rw[<-y,z];exact Xe _))]
   exact(hf b hb).1
 done:=by
  intro X hP hw hK hc i f8 s σ H E I hf st hg;subst hP hw hK;obtain⟨old,Ax,BW⟩:=st;obtain⟨xs,hq,hx⟩:=hg;obtain⟨aR,rv,p,hz⟩:=I.list hq;have hl:=rv.length;exact wpAny_pyNext_enum_end (I.ok.hd hc) Ax BW p.isList (by simp;omega) λh' eb=>⟨rfl,Inv.turnedL I (λb q hb e1=>eb b q (λz=>hb (by simp[z])) e1) λb hb=>hf b (V3 _ hb)⟩
 self:=λA i s Q E st h=>by
  obtain⟨old,Ax,BW⟩:=st;exact wpAny_pyIter_enum Ax h
def Ga{K:V9}{F:Hp}(h:SqL K F a vs)(hd:DenL K F ds vs):ItD K F (Sv K a) (ds.mapIdx λi d=> .tup [.int (i:Int),d]):=λF' H' i s1 s2=>by
 have hs:=Same.seq s2 (Same.seq s1 h);refine⟨λd e=>?_,λhl=>⟨vs,hs,by rw[List.length_mapIdx,hd.len] at hl;exact hl⟩⟩;rw[abV] at e;cases q:ds[i]? with
 |none=>rw[q] at e;cases e
 |some d0=>
  rw[q] at e;cases e;obtain⟨v,e1,q1⟩:=hd.get q;refine⟨⟨vs,v,hs,e1⟩,λx H'' ⟨p,y1,y2,u,y3,y4⟩=>?_⟩;subst y1 y4;have:=y3 vs hs;rw[e1] at this;cases this;have E:=Ext.lay (o:= .tup [.int (i:Int),v]) s2 y2;exact⟨_,E,p,_,rfl,aH, .cons rfl (.cons (Den.mono E.ff (Den.mono s1 q1)) .nil),by show 2<=lim;decide⟩
section
variable{X:Cx}{Xw:Nat->Hp->Prop}{e:Expr}{es:List Expr}{δs:DA}{pos p tp:Pos}{x1:Nat}
def Cm:List D->M (List D)
 |[.lst ds]=>aa (ds.mapIdx λi d=> .tup [.int (i:Int),d])
 |_=>af
def G5(hg:Gl X "enumerate")(hm:X.mg "enumerate"=none)(ha:lC X Xw [e] δs)(hs:Wf [e] X.env=[(false,eval e X.env)]:=by rfl):yz X Xw (.Tuple es x1 tp) (.Call (.Name "enumerate" p) [e] [] pos) (λρ=>δs ρ>>=Cm):=by
 intro f8 s σ H R I ⟨F,ρ,S,w⟩;refine Call_ (mz I hg hm (show WX "enumerate"=some (.type "enumerate") from rfl) (XD (ck (ha pos f8 s σ H (λvs H1=>∃F1 ds,Ext F H F1 H1/\DenL X.K F1 ds vs/\WPI X.K Xw F1 H1 (Cm ds) R) I ⟨F,ρ,S,WPI.bindL w⟩) λus s1 ⟨vs,H1,I1,r1,F1,ds,e1,q1,w1⟩=>?_) hs rfl));unfold Cm at w1;split at w1
 ·rename_i ds;obtain⟨v,rfl,h1⟩:=q1.one;obtain⟨a,xs,rfl,h2,h3,h4⟩:=h1;obtain⟨u,rfl,r2⟩:=r1.one;cases (show u=_ from r2);obtain⟨aR,rv,pl,hz⟩:=I1.list (SqL.of (K:=X.K) (e1.fh _ _ h2));refine call_enumerate_list pl.isList λh' k1 k2 k3 k4=>?_;refine wpAny_pyIter_enum k1 ?_;refine⟨s1.heap.objs.size+1,[s1.heap.objs.size+1,s1.heap.objs.size],_,_,H1,rfl,I1.kept λb o e=>k4 b o e,EJ a _ _ (XM (YE _)),⟨.none,k1,k2⟩,λb hb=>?_,w1 _ _ _ (Ext.refl e1.fh) (Ga (SqL.of h2) h3)⟩;have e:s1.heap.objs.size<=b:=by
   rcases Wc.mp hb with z | z
   ·rw[z];exact Z5 _
   ·have z:b=s1.heap.objs.size:=by simpa using z
    rw[z];exact Wj _
  exact I1.fpOk e (I1.hok.fresh e)
 ·exact w1.elim
end
def IZ:Key->D
 | .inl i=> .int i
 | .inr x=> .str x
def Km(H:Hp)(d:Addr)(od:Obj)(i:Nat)(x:V):Prop:=
 (∃aB k b,H d=some (.frz od (.dT aB))/\(aB.map (·.1))[i]? =some k/\x= .ref b/\H b=some (.tup (k.map kV)))\/
 ∃aB k,H d=some (.frz od (.dK aB))/\(aB.map (·.1))[i]? =some k/\x=kV k
def Su(d:Addr)(od:Obj):It:=
 ⟨λi H=>(∃aB,H d=some (.frz od (.dT aB))/\i<aB.length)\/∃aB,H d=some (.frz od (.dK aB))/\i<aB.length,λi H x H'=>H'=H/\Km H d od i x,
  λi H=>(∃aB,H d=some (.frz od (.dT aB))/\aB.length<=i)\/∃aB,H d=some (.frz od (.dK aB))/\aB.length<=i⟩
def p4{R:α->β->Prop}(h:∀a b,R a b->f a=g b):∀{l:List α}{m:List β},aaz R l m->l.map f=m.map g
 |_,_, .nil=>rfl
 |_,_, .cons r t=>by rw[Wg,Wg,h _ _ r,p4 h t]
def jq:∀{l:List α}{m:List β}{i:Nat}{a:α},aaz R l m->l[i]? =some a->∃b,m[i]? =some b/\R a b
 |_,_,i,_, .nil,e=>by simp at e
 |_,_,0,_, .cons r t,e=>by simp at e;subst e;exact⟨_,rfl,r⟩
 |_,_,i+1,_, .cons r t,e=>by
  obtain⟨b,e1,e2⟩:=jq t (by simpa using e);exact⟨b,by simpa using e1,e2⟩
def Em{w:World}{κ:Type}[DecidableEq κ]{knd:KeyKind prog w κ}:∀{es:List Yb}{aB:List (κ×Value)}{i:Nat}{kv:κ×Value},Pairs knd es aB->aB[i]? =some kv->∃e,es[i]? =some e/\knd.is kv.1 e.key=true:=by
 intro es aB i kv h e;induction h generalizing i with
 |nil=>simp at e
 | @cons en VY Ky Vk h1 h2 h3 ih=>
   cases i with
   |zero=>simp at e;subst e;exact⟨en,rfl,h1⟩
   |succ i=>
    obtain⟨q,e1,e2⟩:=ih (by simpa using e);exact⟨q,by simpa using e1,e2⟩
def LW(h:rH k u=true):RelV (kV k) u:=by
 rcases cf h with⟨i,t,rfl,rfl⟩ | ⟨x,t,rfl,rfl⟩
 ·exact⟨t,rfl⟩
 ·exact⟨t,rfl⟩
def rk{σ:St}{H:Hp}(I:Inv X f8 σ H s)
 (h:(∃aB,H d=some (.frz od (.dT aB))/\n=aB.length)\/∃aB,H d=some (.frz od (.dK aB))/\n=aB.length):
 ∃es ep,(d==Xq)=false/\s.heap.get? d=some od/\od.ExactDict/\od.data= .dict es ep/\es.size=n/\∀i,i<n->∃e x,es[i]? =some e/\RelV x e.key/\Km H d od i x:=by
 rcases h with⟨aB,e,rfl⟩ | ⟨aB,e,rfl⟩
 ·obtain⟨ho,z,lo,xs,rel,o,es,ep,h1,h2,h3,h4,h5⟩:=(show ObjOk X.prog X.w H s.heap d (.frz od (.dT aB)) from I.hok d _ e)
  rw[ho] at h1;cases h1;have hl:es.size=aB.length:=by
   rw[<-Wu,h4,V4];exact(XW rel).symm
  refine⟨es,ep,lo,ho,h2,h3,hl,λi hi=>?_⟩;obtain⟨q,e1,e2,e3,e4⟩:=jq rel (V5 hi);refine⟨aaS (Ym (bq X.prog X.w)) q, .ref q.2.1,?_,rfl, .inl ⟨aB,aB[i].1,q.2.1,e,?_,rfl,e3⟩⟩
  ·rw[<-Xx,h4,Wb,e1];rfl
  ·rw[Wb,V5 hi];rfl
 ·obtain⟨ho,z,lo,vs,rel,o,es,ep,h1,h2,h3,h4,h5,h6⟩:=(show ObjOk X.prog X.w H s.heap d (.frz od (.dK aB)) from I.hok d _ e)
  rw[ho] at h1;cases h1;have hl:es.size=aB.length:=by
   rw[<-Wu,h5.length];exact(XW rel).symm
  refine⟨es,ep,lo,ho,h2,h3,hl,λi hi=>?_⟩;obtain⟨q,e1,e2,e3⟩:=jq rel (V5 hi);obtain⟨en,e4,e5⟩:=Em h5 e1;refine⟨en,kV aB[i].1,by rw[<-Xx];exact e4,?_, .inr ⟨aB,aB[i].1,e,by rw[Wb,V5 hi];rfl,rfl⟩⟩;rw[e2];exact LW e5
def EK{K:V9}(d it:Addr)(od:Obj)(es:Array Yb)(ep:Nat)(jQ:od.data= .dict es ep):
 Turn P w K tg (Su d od) [it] it (λi h=>h.IsKeyIter it d i es.size ep) where
 mem:=by simp
 obj:=λi h st b hb=>by
  have e:b=it:=by simpa using hb
  subst e;obtain⟨o,e,c,dd⟩:=st;exact⟨o,e,λv z=>by rw[dd] at z;cases z⟩
 keep:=λi h h' st k=>st.at λo e=>k it (by simp) o e
 item:=by
  intro X hP hw hK hc i f8 s σ H E I hf st hg;subst hP hw hK;obtain⟨n,hn,hi⟩:∃n,((∃aB,H d=some (.frz od (.dT aB))/\n=aB.length)\/∃aB,H d=some (.frz od (.dK aB))/\n=aB.length)/\i<n:=by
   rcases hg with⟨aB,e,hi⟩ | ⟨aB,e,hi⟩
   ·exact⟨_, .inl ⟨aB,e,rfl⟩,hi⟩
   ·exact⟨_, .inr ⟨aB,e,rfl⟩,hi⟩
  obtain⟨Ky,Fx,lo,ho,hx,qG,hsz,hk⟩:=rk I hn;rw[jQ] at qG;cases qG;obtain⟨en,x,e1,rx,ka⟩:=hk i hi;obtain⟨f0,f1,f2,f3,f4,f5⟩:=hf it (by simp);refine zq st ho jQ e1 λh' p5 sb=>?_;have I1:Inv X f8 σ H {s with heap:=h'}:=I.turned (λb o hb e=>(sb.2 b hb).trans e) f0 f1 f3 f4 f5;obtain⟨o,e2,c,dd⟩:=id p5;exact⟨_,rfl,rp e2 c dd (by decide) ⟨x,H,I1,rx,⟨rfl,ka⟩,p5,λb hb=>(hf b hb).1⟩⟩
 done:=by
  intro X hP hw hK hc i f8 s σ H E I hf st hg;subst hP hw hK;obtain⟨n,hn,hi⟩:∃n,((∃aB,H d=some (.frz od (.dT aB))/\n=aB.length)\/∃aB,H d=some (.frz od (.dK aB))/\n=aB.length)/\n<=i:=by
   rcases hg with⟨aB,e,hi⟩ | ⟨aB,e,hi⟩
   ·exact⟨_, .inl ⟨aB,e,rfl⟩,hi⟩
   ·exact⟨_, .inr ⟨aB,e,rfl⟩,hi⟩
  obtain⟨Ky,Fx,lo,ho,hx,qG,hsz,hk⟩:=rk I hn;rw[jQ] at qG;cases qG;obtain⟨f0,f1,f2,f3,f4,f5⟩:=hf it (by simp);exact u3 (I.ok.hd hc) st (by omega) ho jQ λh' eb=>⟨rfl,I.turned (λb o hb e=>eb b o hb e) f0 f1 f3 f4 f5⟩
 self:=λ_ _ _ _ _ st h=>wpAny_pyIter_keyiter st h
def tupK(k:List Key):D:= .tup (k.map IZ)
def lW:Key->Bool
 | .inl _=>true
 | .inr x=>decide (x.length<=lim)
def lJ:D->M (List D)
 | .dct ks _=>if ks.all (λk=>decide (k.length<=lim)&&k.all lW) then aa (ks.map tupK) else af
 | .dci ks _=>if ks.all lW then aa (ks.map IZ) else af
 |_=>af
def zg{K:V9}(h:lW k=true):Den K F (IZ k) (kV k):=by
 cases k with
 |inl i=>exact rfl
 |inr x=>exact⟨rfl,acF h⟩
def oE{K:V9}:∀{k:List Key},k.all lW=true->DenL K F (k.map IZ) (k.map kV)
 |[],_=>rfl
 |x::k,h=>by
  rw[YO,WU] at h;exact .cons (zg h.1) (oE h.2)
def Gb{K:V9}(hd:Den K F d (.ref a))(hF:∃u,F a=some (.frz ob u))(e:lJ d=aa ds):ItD K F (Su a ob) ds:=λF' H' i s1 s2=>by
 unfold lJ at e;split at e
 ·rename_i ks es;split at e
  ·rename_i hok;obtain rfl:=el e;obtain⟨a',Vo,vs,z,h2,h3,h4,h5⟩:=hd;cases z;obtain⟨u,hu⟩:=hF;rw[h2] at hu;cases hu;have hh:=s2 _ _ (s1 _ _ h2);have hz:=lA (b:=vs) (by rw[h4];exact h3.len);have hl:(ks.zip vs).length=ks.length:=by rw[<-V4,hz]
   refine⟨λd e=>?_,λhle=> .inl ⟨_,hh,by rw[hl];simpa using hle⟩⟩;rw[Wb] at e;cases q:ks[i]? with
   |none=>rw[q] at e;cases e
   |some k=>
    rw[q] at e;cases e;have hi:=(We.mp q).1;refine⟨.inl ⟨_,hh,by rw[hl];exact hi⟩,λx H'' ⟨y1,y2⟩=>?_⟩;subst y1;have hk:=WT.mp hok k (Xb q);rw[WU] at hk;rcases y2 with⟨aB,k',b,q1,q2,rfl,q3⟩ | ⟨aB,k',q1,q2,rfl⟩
    ·rw[hh] at q1;cases q1;rw[hz,q] at q2;cases q2;have E:=Ext.tup s2 q3;exact⟨_,E,b,_,rfl,aH,oE hk.2,by rw[V4];exact acF hk.1⟩
    ·rw[hh] at q1;cases q1
  ·exact(cw e).elim
 ·rename_i ks es;split at e
  ·rename_i hok;obtain rfl:=el e;obtain⟨a',Vo,vs,z,h2,h3,h4,h5⟩:=hd;cases z;obtain⟨u,hu⟩:=hF;rw[h2] at hu;cases hu;have hh:=s2 _ _ (s1 _ _ h2);have hz:=lA (b:=vs) (by rw[h4];exact h3.len);have hl:(ks.zip vs).length=ks.length:=by rw[<-V4,hz]
   refine⟨λd e=>?_,λhle=> .inr ⟨_,hh,by rw[hl];simpa using hle⟩⟩;rw[Wb] at e;cases q:ks[i]? with
   |none=>rw[q] at e;cases e
   |some k=>
    rw[q] at e;cases e;have hi:=(We.mp q).1;refine⟨.inr ⟨_,hh,by rw[hl];exact hi⟩,λx H'' ⟨y1,y2⟩=>?_⟩;subst y1;have hk:=WT.mp hok k (Xb q);rcases y2 with⟨aB,k',b,q1,q2,rfl,q3⟩ | ⟨aB,k',q1,q2,rfl⟩
    ·rw[hh] at q1;cases q1
    ·rw[hh] at q1;cases q1;rw[hz,q] at q2;cases q2;exact⟨F',Ext.refl s2,zg hk⟩
  ·exact(cw e).elim
 ·exact(cw e).elim
section
variable{X:Cx}{Xw:Nat->Hp->Prop}{tg l:Expr}{δ:DE}
def G6(h:PD X Xw l δ):yz X Xw tg l (λρ=>δ ρ>>=lJ):=by
 intro f8 s σ H R I ⟨F,ρ,S,w⟩;refine ck (h f8 s σ H (λv H1=>∃F1 d,Ext F H F1 H1/\Den X.K F1 d v/\WPI X.K Xw F1 H1 (lJ d) R) I ⟨F,ρ,S,WPI.bind w⟩) λu s1 ⟨v,H1,I1,r1,F1,d,e1,q1,w1⟩=>?_;rcases(lJ d).cs with z | ⟨n,z⟩ | ⟨ds,z⟩
 ·rw[z] at w1;exact w1.elim
 ·exfalso
  unfold lJ at z;split at z
  ·split at z<;>cases z
  ·split at z<;>cases z
  ·cases z
 ·rw[z] at w1;obtain⟨a,ob,u',rfl,hF,hn⟩:∃a ob u',v= .ref a/\F1 a=some (.frz ob u')/\∃n,((∃aB,H1 a=some (.frz ob (.dT aB))/\n=aB.length)\/∃aB,H1 a=some (.frz ob (.dK aB))/\n=aB.length):=by
   unfold lJ at z;split at z
   ·obtain⟨a,ob,vs,e,h2,_⟩:=q1;exact⟨a,ob,_,e,h2,_, .inl ⟨_,e1.fh _ _ h2,rfl⟩⟩
   ·obtain⟨a,ob,vs,e,h2,_⟩:=q1;exact⟨a,ob,_,e,h2,_, .inr ⟨_,e1.fh _ _ h2,rfl⟩⟩
   ·exact(cw z).elim
  obtain⟨n,hn⟩:=hn;cases (show u=_ from r1);obtain⟨es,ep,lo,ho,hx,hd,hsz,hk⟩:=rk I1 hn;refine vi lo ho hx hd ?_;refine⟨s1.heap.objs.size,[s1.heap.objs.size],_,_,H1,rfl,I1.kept (t':=s1.toks) λb o e=>V8 _ e,EK a _ ob es ep hd,⟨_,Wm _ rfl,rfl,rfl⟩,λb hb=>?_,w1 _ _ _ (Ext.refl e1.fh) (Gb q1 ⟨_,hF⟩ z)⟩;have e:b=s1.heap.objs.size:=by simpa using hb
  subst e;exact I1.fpOk (Wj _) (I1.hok.fresh (Wj _))
end
end L3
namespace L3
open PySem
section
variable{prog:Wz}{w:World}{K:Type}[DecidableEq K]{knd:HeapKind prog w K}{A:Xa}{E:Value->Wa->Prop}{s:Wa}
def tG(hu:knd.room A)(IG:knd.is s.heap k a)(hm:s.heap.DictOfH knd d xs)(hsz:xs.length<=Wr)
 (hQ:∀h',h'.DictOfH knd d (ZM xs k a v)->Xo d s.heap h'->Q () {s with heap:=h'}):wpAny (model prog w) A (aau d (.ref a) (knd.hash k) v) Q E s:=by
 obtain⟨o,es,ep,ho,hc,hd,he,Q7,hn⟩:=hm;unfold aau;refine Yz (V2 (wpAny_dictFind_heap hu IG ho hd he Q7 hn (λwN=>?_) λj p hj=>?_))
 ·have e0:=atKey_none_of_get wN;have hz:es.size<=Wr:=by rw[abu he];exact hsz
  refine V2 (wpAny_rule (wpAny_updateDictKeys ho hd (hQ _ ?_ (WS ..))));rw[storedH_new e0];refine⟨_,_,ep+1,X0 _ ho (Z4 (Y7 hd _)),hc.mapDictKeys _,Y7 hd _,by simp[he,aaS],λx hx=>?_,?_⟩
  ·rcases W3.mp hx with hx | hx
   ·exact knd.keeps (Q7 x hx) ho hd (WS ..)
   ·obtain rfl:x=(k,a,v):=by simpa using hx
    exact knd.keeps IG ho hd (WS ..)
  ·rw[W4];refine W_.mpr ⟨hn,by simp,λx hx y hy z=>?_⟩;have hy:y=k:=by simpa using hy
   exact not_mem_keys_of_get wN (by rw[<-hy,<-z];exact hx)
 ·have e0:=atKey_of_get hn hj;refine V2 (wpAny_rule (V2 (wpAny_updateDict ho hd (wpAny_point (hQ _ ?_ (WS ..))))));rw[storedH_old e0];refine⟨_,_,ep,X0 _ ho (Z4 (Obj.data_mapDict hd _)),hc.mapDict _,Obj.data_mapDict hd _,?_,λx hx=>?_,by rw[keys_map_putAt];exact hn⟩
  ·have:=modify_map_putAt (aaS knd) (λe:Yb=>{e with val:=v}) k v (λ_ _=>rfl) hn hj;rw[<-he] at this;obtain⟨l⟩:=es;simpa using this
  ·obtain⟨y,hy,rfl⟩:=Wn.mp hx;unfold putAt;split<;>exact knd.keeps (Q7 y hy) ho hd (WS ..)
def du(xs ys:List (K×Addr×Value)):List (K×Addr×Value):=ys.foldl (λacc y=>ZM acc y.1 y.2.1 y.2.2) xs
def Ac(xs:List (K×Addr×Value))(k:K)(a:Addr)(v:Value):(ZM xs k a v).length<=xs.length+1:=by
 unfold ZM;split<;>simp
def pq:∀(ys xs:List (K×Addr×Value)),(du xs ys).length<=xs.length+ys.length
 |[],xs=>Wj _
 |y::ys,xs=>by
  have h1:=pq ys (ZM xs y.1 y.2.1 y.2.2);have h2:=Ac xs y.1 y.2.1 y.2.2;show (du (ZM xs y.1 y.2.1 y.2.2) ys).length<=_;rw[V7];omega
def w_{xs ys:List (K×Addr×Value)}(h:ys[i]? =some y):du xs (ys.take (i+1))=ZM (du xs (ys.take i)) y.1 y.2.1 y.2.2:=by
 rw[List.take_add_one,h];unfold du;rw[List.foldl_append];rfl
def pw:∀(ys acc:List (K×Addr×Value)),((acc++ys).map (·.1)).Nodup->du acc ys=acc++ys
 |[],acc,_=>by simp[du]
 |y::ys,acc,hn=>by
  show du (ZM acc y.1 y.2.1 y.2.2) ys=_;have Rg:y.1∉acc.map (·.1):=λh=>by
   rw[W4] at hn;exact(W_.mp hn).2.2 _ h _ (by simp) rfl
  have e0:atKey acc y.1=none:=atKey_none_of_get λj p hj=>Rg (Wn.mpr ⟨_,Xb hj,rfl⟩);rw[storedH_new e0,pw ys (acc++[(y.1,y.2.1,y.2.2)]) (by simpa using hn)];simp
def wG{id:String}(ho:s.heap.get? o=some ob)(hd:ob.data= .dict es ep)
 (hq:∀e∈es.toList,∃a,e.key= .ref a/\s.TypeIs (.ref a) "tuple")(hh:∀e∈es.toList,(es.filter (·.hash==e.hash)).size<=1)(h:Q es s):wpAny (model prog w) A (ZU id o) Q E s:=by
 unfold ZU;refine V2 (Xg ho hd ?_);rw[<-Array.forIn_toList];refine V2 (abd _ (λW1 _ s'=>s'=s/\∀e∈W1,e∈es.toList) _ ?_ ?_ _ _ ⟨rfl,λ_ h=>h⟩)
 ·rintro e W1 b s' ⟨rfl,hr⟩;obtain⟨a,ea,ta⟩:=hq e (hr e (V6 ..));have hf:=hh e (hr e (V6 ..));have f_:¬((es.filter (·.hash==e.hash)).size>1):=by omega
  rw[ea];unfold Builtin.Dict.quietEq;refine V2 (V2 (abq ta F.slot_tuple_eq.lookup (V_ ?_)));simp only[f_,if_false];have:(some (Value.builtin "tuple.__eq__")==some (Value.builtin "object.__eq__"))=false:=by decide
  simp only[this,ZV,if_true];exact V_ ⟨rfl,λx hx=>hr x (V3 _ hx)⟩
 ·rintro b s' ⟨rfl,_⟩;exact V_ h
def rS(hu:knd.room A)(S5:d≠o)(UU:(o==Xq)=false)(hd:s.heap.DictOfH knd d xs)(ho:s.heap.DictOfH knd o ys)
 (UD:∀{h:Heap}{k:K}{a:Addr},knd.is h k a->∃ob,h.get? a=some ob/\ob.cls= .type "tuple")(hh:xs=[]->(ys.map λy=>knd.hash y.1).Nodup)(hsz:xs.length+ys.length<=Wr)
 (hQ:∀h',h'.DictOfH knd d (du xs ys)->Xo d s.heap h'->Q () {s with heap:=h'}):wpAny (model prog w) A (aao nm d o) Q E s:=by
 obtain⟨od,T1,TY,wO,qF,jQ,Ur,VS,LG⟩:=id hd;obtain⟨oo,AU,TZ,Oa,VQ,DK,EZ,Q6,wN⟩:=id ho;have P3:=abu EZ;unfold aao;rw[acA (by simpa using S5)];unfold X9;rw[acA (by rw[UU];exact Wt)];refine V2 (V_ (V2 (Xg Oa DK ?_)));have loop:∀(body:Nat->PUnit->Sem (ForInStep PUnit)),body=(λi (_:PUnit)=>(do
       let l'<-dictEntries o
       match l'[i]? with
        |some e=>do
         holding [e.key,e.val] (aau d e.key e.hash e.val)
         let Fx<-dictEpoch o
         if (Fx !=TZ)=true then do (unsupported (Z9 nm++Z9 ":source-changed-during-callback"):Sem PUnit);pure (Xf YT) else pure (Xf YT)
        |_=>do
         (unsupported "internal:dict-merge":Sem PUnit)
         pure (Xf YT):Sem (ForInStep PUnit)))->wpAny (model prog w) A (forIn [:AU.size] YT body) (λ_ s'=>Q () s') E s:=by
  rintro _ rfl;rw[Std.Legacy.Range.forIn_eq_forIn_range'];simp only[Std.Legacy.Range.size,Nat.sub_zero,Nat.add_sub_cancel,Nat.div_one];refine abd _ (λW1 _ s'=>∃h' i,s'={s with heap:=h'}/\W1=WL i (AU.size - i)/\i<=AU.size/\h'.DictOfH knd d (du xs (ys.take i))/\h'.get? o=some oo/\Xo d s.heap h') _ ?_ ?_ _ _
   ⟨s.heap,0,rfl,by simp,W8 _,by simpa[du] using hd,Oa,aba _ _⟩
  ·rintro x W1 b s' ⟨h',i,rfl,hr,hi,qG,LJ,E0⟩;have f_:i<AU.size:=by
    by_cases h:i<AU.size
    ·exact h
    ·rw[show AU.size - i=0 by omega] at hr;simp at hr
   rw[show AU.size - i=(AU.size - (i+1))+1 by omega,YB] at hr;injection hr with h1 h2
   subst h1;refine V2 (Xg LJ DK ?_);obtain⟨y,hy⟩:∃y,ys[x]? =some y:=⟨_,V5 (by omega)⟩
   rw[entry_at EZ x,hy];have UO:(du xs (ys.take x)).length<=Wr:=by
    have e1:=pq (ys.take x) xs;rw[ZF] at e1;omega
   have UE:knd.is h' y.1 y.2.1:=knd.keeps (Q6 y (Xb hy)) wO jQ E0;refine V2 (Yz (tG hu UE qG UO λSN QV Oe=>?_));have KN:SN.get? o=some oo:=(Oe.2 o (XR S5)).trans LJ;refine V2 (X_ KN DK ?_);rw[acA (by simp)];exact V_ ⟨SN,x+1,rfl,h2,f_,by rw[w_ hy];exact QV,KN,E0.trans Oe⟩
  ·rintro b s' ⟨h',i,rfl,hr,hi,qG,LJ,E0⟩;have FU:i=AU.size:=by
    by_cases h:i<AU.size
    ·rw[show AU.size - i=(AU.size - (i+1))+1 by omega,YB] at hr;exact nomatch hr
    ·omega
   refine hQ h' ?_ E0;rw[FU,P3,List.take_length] at qG;exact qG
 have go:wpAny (model prog w) A (do
  let Nz<-dictEpoch o
  let l<-dictEntries o
  forIn [:l.size] YT λi (_:PUnit)=>(do
   let l'<-dictEntries o
   match l'[i]? with
    |some e=>do
     holding [e.key,e.val] (aau d e.key e.hash e.val)
     let Fx<-dictEpoch o
     if (Fx !=Nz)=true then do (unsupported (Z9 nm++Z9 ":source-changed-during-callback"):Sem PUnit);pure (Xf YT) else pure (Xf YT)
    |_=>do
     (unsupported "internal:dict-merge":Sem PUnit)
     pure (Xf YT):Sem (ForInStep PUnit))
  pure ()) Q E s:=by
  refine V2 (X_ Oa DK (V2 (Xg Oa DK (V2 ?_))));exact Xl (loop _ rfl) (λ_ _ h=>V_ h) λ_ _ h=>h
 dsimp only
 split
 ·refine V2 (Xg wO jQ ?_);split
  ·rename_i QW;have Oo:xs=[]:=by
    have h0:T1= #[]:=acq.mp QW;have:=abu Ur;rw[h0] at this;exact ZC.mp (by simpa using this.symm)
   subst Oo;have UQ:=hh rfl;refine V2 (wG Oa DK (λe he=>?_) (λe he=>?_) ?_)
   ·rw[EZ] at he;obtain⟨y,hy,rfl⟩:=Wn.mp he;obtain⟨ob,h1,h2⟩:=UD (Q6 y hy);exact⟨y.2.1,rfl,ob,h1,h2⟩
   ·have:(AU.filter (·.hash==e.hash)).size=((ys.map λy=>knd.hash y.1).filter (· ==e.hash)).length:=by
     rw[<-Wu,Array.toList_filter,EZ,aaI,aaI,V4,V4];rfl
    rw[this];have hc:=List.nodup_iff_count.mp UQ e.hash;rw[List.count_eq_countP,Y8] at hc;exact hc
   ·have hm:du ([]:List (K×Addr×Value)) ys=ys:=by
     rw[pw ys [] (by simpa using wN)];rfl
    rw[hm] at hQ;split
    ·have U4:AU.size<=Wr+1:=by simp at hsz;omega
     refine V2 (wpAny_updateDictKeysTo wO jQ (V_ (hQ _ ⟨_,_,TY+1,X0 _ wO (Z4 (Y7 jQ _)),qF.mapDictKeys _,Y7 jQ _,EZ,λx hx=>?_,wN⟩ (WS ..))) U4);exact knd.keeps (Q6 x hx) wO jQ (WS ..)
    ·rename_i gk;have h0:AU= #[]:=acq.mp (by simpa using gk);have UL:ys=[]:=ZC.mp (by rw[<-P3,h0];rfl);subst UL;exact V_ (hQ _ hd (aba _ _))
  ·exact go
 ·exact go
end
end L3
namespace L3
open PySem PySem.Spec L2
open PyProof.Rows hiding St
def Kh(h1:(Ym (bq P w)).is h k a):∃ob,h.get? a=some ob/\ob.cls= .type "tuple":=by
 obtain⟨ob,aR,n,q1,q2,_⟩:=h1;exact⟨ob,q1,q2⟩
def j4(aB more:List (List Key×V)):List (List Key×V):=more.foldl (λacc kv=>putK acc kv.1 kv.2) aB
def CA:∀{more:List (List Key×V)}{ys:List (List Key×Addr×Value)},KT H more ys->∀{aB:List (List Key×V)}{xs:List (List Key×Addr×Value)},KT H aB xs->KT H (j4 aB more) (du xs ys)
 |_,_, .nil,_,_,q=>q
 |_,_, .cons h t,aB,xs,r=>by
  refine CA t ?_;have:=KT.put r _ h.2.1 h.2.2;rw[h.1] at this;show KT H (putK aB _ _) (ZM xs _ _ _);rw[h.1];exact this
def rK:∀(more aB:List (List Key×V)),(j4 aB more).length<=aB.length+more.length
 |[],aB=>Wj _
 |p::r,aB=>by
  have h1:=rK r (putK aB p.1 p.2);have h2:=fW aB p.1 p.2;show (j4 (putK aB p.1 p.2) r).length<=_;rw[V7];omega
def hJ(k:List Int):Int:=reduceHash (Z6 (k.map hashInt))
def FQ(k:List Int):(Ym (bq P w)).hash (rG k)=hJ k:=by
 show reduceHash (Z6 ((rG k).map (OD w)))=_;unfold hJ rG;rw[WY];rfl
section
variable{X:Cx}{f8:List (Addr×Obj)}{σ:St}{H:Hp}{s:Wa}{a b:Addr}{A:Xa}{E:Value->Wa->Prop}
def Fl{ks:List (List Int)}(hu:A.units+2<cLine)(I:Inv X f8 σ H s)(ha:H a=some (.dT aB))(hb:Rd H b (.dT more))(Ly:a≠b)(hk:more.map (·.1)=ks.map rG)
 (hh:aB=[]->(ks.map hJ).Nodup)(hz:aB.length+more.length<=Wr)(h:∀s',Inv X f8 σ (upd H a (.dT (j4 aB more))) s'->Q .none s'):
 wpAny (model X.prog X.w) A (call (.builtin "dict.update") [.ref a, .ref b]) Q E s:=by
 obtain⟨z1,lo1,xs,Pb,SE⟩:=Fs I.hok ha;obtain⟨z2,Vl,ys,JZ,Dz⟩:=mX I.hok hb;have l1:=XW Pb;have l2:=XW JZ;have hT:=SE.typeIs;refine Xu aaE hT PySem.F.entry_dict_update ?_ (PySem.F.args_dict_update_2 _ _);unfold aa3.«dict.update»;refine V2 ?_;unfold Builtin.Dict.selfAndRest;refine V2 (ZX hT ?_);show wpAny _ _ (pure (a,[Wv b])) _ _ s;refine V_ ?_;show wpAny _ _ (aai "dict.update" a (.ref b) [] .none) _ _ s;unfold aai;refine V2 (wpAny_typeOf Dz.typeIs ?_);rw[acA (by decide)];refine V2 ?_;unfold Builtin.Dict.merge;refine V2 ?_;unfold Builtin.Dict.readDirectly;refine V2 (abc Dz.typeIs isSubtype_dict_dict ?_);simp only[Bool.not_true,WO,if_false];refine V2 (abq Dz.typeIs PySem.F.slot_dict_iter.lookup (V_ ?_));simp only[beq_self_eq_true,if_true];refine V2 (V_ ?_);refine rS (show A.in1.units<cLine by show A.units+1<cLine;omega) Ly Vl SE Dz Kh (λe0=>?_) (by omega) λh' Fm E0=>?_
 ·have e1:aB=[]:=ZC.mp (by rw[l1,e0];rfl);have:=hh e1;have e2:(ys.map λy=>(Ym (bq X.prog X.w)).hash y.1)=ks.map hJ:=by
   have e3:more.map (·.1)=ys.map (·.1):=p4 (λ_ _ r=>r.1) JZ;rw[show (λy:List Key×Addr×Value=>(Ym (bq X.prog X.w)).hash y.1)=(Ym (bq X.prog X.w)).hash∘(·.1) from rfl,<-WY,<-e3,hk,WY];exact Zb λk _=>FQ k
  rw[e2];exact this
 ·show wpAny _ _ (Builtin.Dict.addKeywords a []>>=_) _ _ _;refine V2 (V_ (V_ ⟨.none,rfl,h _ ?_⟩));obtain⟨q,es,ep,hq,h2,h3,h4,_,h5⟩:=Fm;have hl:(j4 aB more).length<=Wr:=by have:=rK more aB;omega
  refine mW I (by rw[ha];exact XX) E0 ⟨q,hq⟩ ⟨hl,lo1,_,(CA JZ Pb).keeps λc ys ec=>?_,q,es,ep,hq,h2,h3,h4,h5⟩;rw[az (GC ec ha (λz=>nomatch z))];exact ec
end
def cX(ks:List (List Key))(ds:List D):List (List Key)->List D->List (List Key)×List D
 |k::ks',d::ds'=>cX (dR ks ds k) (cT ks ds k d) ks' ds'
 |_,_=>(ks,ds)
def HS(ks:List (List Key))(ds:List D):D->Option C
 | .dct ks' ds'=>match gL ks' with
   |some ns=>if ds.length+ds'.length<=lim/\(ks.isEmpty=true->(ns.map hJ).Nodup) then some (.dct (cX ks ds ks' ds').1 (cX ks ds ks' ds').2) else none
   |none=>none
 |_=>none
def rQ{K:V9}:∀{ks':List (List Key)}{ds':List D}{vs':List V}{ks:List (List Key)}{ds:List D}{vs:List V},DenL K F ds' vs'->ks'.length=ds'.length->DenL K F ds vs->ks.length=ds.length->
 ∃ws,j4 (ks.zip vs) (ks'.zip vs')=(cX ks ds ks' ds').1.zip ws/\DenL K F (cX ks ds ks' ds').2 ws/\(cX ks ds ks' ds').1.length=(cX ks ds ks' ds').2.length
 |[],[],vs',ks,ds,vs,h',_,h,hl=>⟨vs,rfl,h,hl⟩
 |k::ks',d::ds',vs',ks,ds,vs,⟨v,r,e,h1,h2⟩,KJ,h,hl=>by
  subst e;obtain⟨ws,e1,e2,e3⟩:=xO h1 k h hl;obtain⟨us,q1,q2,q3⟩:=rQ h2 (by simpa using KJ) e2 e3;refine⟨us,?_,q2,q3⟩;show j4 (putK (ks.zip vs) k v) (ks'.zip r)=_;rw[e1];exact q1
 |[],_::_,_,_,_,_,_,KJ,_,_=>by simp at KJ
 |_::_,[],_,_,_,_,_,KJ,_,_=>by simp at KJ
def Hl[DecidableEq κ]{k:κ}(hl:ks.length=ds.length):(cT ks ds k d).length<=ds.length+1:=by
 unfold cT;split
 ·rw[kI ks ds k d hl];omega
 ·simp
def Hm[DecidableEq κ]{k:κ}(hl:ks.length=ds.length):(dR ks ds k).length=(cT ks ds k d).length:=by
 unfold cT dR;split
 ·rw[kI ks ds k d hl];exact hl
 ·simp[hl]
def rR:∀{ks':List (List Key)}{ds':List D}{ks:List (List Key)}{ds:List D},ks.length=ds.length->(cX ks ds ks' ds').2.length<=ds.length+ds'.length
 |[],ds',ks,ds,_=>by show ds.length<=_;omega
 |_::_,[],ks,ds,_=>by show ds.length<=_;simp
 |k::ks',d::ds',ks,ds,hl=>by
  have h1:=rR (ks':=ks') (ds':=ds') (ks:=dR ks ds k) (ds:=cT ks ds k d) (Hm hl);have h2:=Hl (k:=k) (d:=d) hl;show (cX (dR ks ds k) (cT ks ds k d) ks' ds').2.length<=_;rw[V7];omega
section
variable{X:Cx}{Xw:Nat->Hp->Prop}{o e:Expr}{δ:DE}{pos p u8 aY:Pos}{x:Str}{i:Nat}
def Hw(i:Nat)(δ:DE):DS:=λρ=>match Bz ρ i with
 |some (.dct ks ds)=>δ ρ>>=λd=>match HS ks ds d with
  |some c'=>aa (.nx (ρ.set i (some (.ow c'))))
  |none=>af
 |_=>af
def Mp(hu:X.A.units+2<cLine)(ho:PE X o td)(he:PE X e ty)(m:M1 X o "update" u8 e aY):
 PE X (.Call (.Attribute o "update" u8) [e] [] aY) (λσ H Q=>td σ H λx H1=>∃a,x= .ref a/\Nc H1 a/\ty σ H1 λy H2=>∃(b:Addr) (aB more:List (List Key×V)) (ks:List (List Int)),y= .ref b/\H2 a=some (.dT aB)/\Rd H2 b (.dT more)/\a≠b/\more.map (·.1)=ks.map rG/\(aB=[]->(ks.map hJ).Nodup)/\aB.length+more.length<=Wr/\Q .non (upd H2 a (.dT (j4 aB more)))):=by
 intro f8 s σ H Q I h;refine aaR m.base m.few m.line YG aaE (by rfl) (ck (ho f8 s σ H _ I h) λu s1 ⟨x,H1,I1,rx,a,ex,d,q1⟩=>?_);subst ex;obtain rfl:u=Wv a:=rx;obtain⟨t1,t2,_⟩:=A5 I1 d;refine⟨t1,t2,?_⟩;rw[m.trees];refine XQ rfl (Y2 (YL (ck (he f8 s1 σ H1 _ I1 q1) λiv s2 ⟨y,H2,I2,ry,b,aB,more,ks,ey,k1,k2,k3,k4,k5,k6,q2⟩=>Zq ?_)));subst ey;obtain rfl:iv=Wv b:=ry;exact Fl hu I2 k1 k2 k3 k4 k5 k6 λs3 I3=>⟨.non,_,I3,rfl,q2⟩
def JQ(hu:X.A.units+64<cLine)(hv:PE X (.Name x p) (g7 i))(he:PD X Xw e δ)(m:M1 X (.Name x p) "update" u8 e aY)(hs:Yn (.Call (.Attribute (.Name x p) "update" u8) [e] [] aY) none pos.line X.env=pure false:=by rfl):
 qB X Xw (.Expr (.Call (.Attribute (.Name x p) "update" u8) [e] [] aY) pos) (Hw i δ):=λt0 acI=>PS.weak (ju (Mp (by omega) hv he m) hs) λD σ H ⟨F,ρ,s,w⟩=>by
 unfold Hw at w;split at w
 ·rename_i ks ds P4;have hi:=vE P4;obtain⟨v,Om,a,oh,rfl,hH,hF,vs,rfl,hd,hl,hz⟩:=s.st.den i _ hi;refine⟨.ref a,Om,a,rfl, .inr ⟨_, .inl hH⟩,F,ρ,s.st,?_⟩;rcases(δ ρ).cs with q | ⟨n,q⟩ | ⟨d,q⟩
  ·rw[q] at w;exact w.elim
  ·rw[q] at w⊢;exact λF' H' e'=>w F' H' (s.ext.trans e')
  ·rw[q] at w⊢;intro u H1 F1 e1 hq;have w:WPS X.K Xw t0 acI (match HS ks ds d with | some c'=>aa (.nx (ρ.set i (some (.ow c')))) | none=>af) D:=w;cases d with
   |dct ks' ds'=>
    obtain⟨b,ob,vs',rfl,k2,k3,k4,k5⟩:=hq;cases hc:HS ks ds (.dct ks' ds') with
    |none=>rw[hc] at w;exact w.elim
    |some c'=>
     rw[hc] at w;have hc:(match gL ks' with | some ns=>if ds.length+ds'.length<=lim/\(ks.isEmpty=true->(ns.map hJ).Nodup) then some (C.dct (cX ks ds ks' ds').1 (cX ks ds ks' ds').2) else none | none=>none)=some c':=hc;cases hn:gL ks' with
     |none=>rw[hn] at hc;cases hc
     |some ns=>
      rw[hn] at hc;have hc:(if ds.length+ds'.length<=lim/\(ks.isEmpty=true->(ns.map hJ).Nodup) then some (C.dct (cX ks ds ks' ds').1 (cX ks ds ks' ds').2) else none)=some c':=hc;split at hc
      ·rename_i NQ;cases hc;have S3:=DenL.mono e1.ff hd;have l1:=S3.len;have l2:=k3.len;have Ly:a≠b:=λz=>by
        have:=e1.old hH (λ_ z=>nomatch z);rw[hF,z,k2] at this;cases this
       obtain⟨ws,m1,m2,m3⟩:=rQ k3 k4 S3 hl;refine⟨b,ks.zip vs,ks'.zip vs',ns,rfl,e1.hh _ _ hH, .inr ⟨ob,e1.fh _ _ k2⟩,Ly,by rw[lA (by rw[k4];exact l2),oz hn],λz=>NQ.2 ?_,?_,?_⟩
       ·have:=lA (a:=ks) (b:=vs) (by rw[hl];exact l1);rw[z] at this;rw[<-this];rfl
       ·rw[Zd,Zd];have:=eZ;omega
       ·rw[m1];exact w σ F1 _ ((s.ext' e1).chg hi Om ⟨ws,rfl,m2,m3,by have:=rR (ks':=ks') (ds':=ds') hl;omega⟩)
      ·cases hc
   |_=>exact w.elim
 ·exact w.elim
end
section
variable{X:Cx}{Xw:Nat->Hp->Prop}{o e f:Expr}{δo δe δf:DE}{u8 aY:Pos}{x:Str}
def F7:D->Bool
 | .dct _ _=>true
 | .dci _ _=>true
 |_=>false
def Cy{K:V9}{F H:Hp}{d:D}{x:V}(s:Same F H)(hd:Den K F d x)(e:F7 d=true):∃a,x= .ref a/\Nc H a:=by
 cases d with
 |dct ks ds=>obtain⟨a,ob,vs,rfl,h2,_⟩:=hd;exact⟨a,rfl, .inr ⟨_, .inr ⟨ob,s _ _ h2⟩⟩⟩
 |dci ks ds=>obtain⟨a,ob,vs,rfl,h2,_⟩:=hd;exact⟨a,rfl, .inl ⟨_, .inr ⟨ob,s _ _ h2⟩⟩⟩
 |_=>cases e
def getM(d k v:D):M D:=match EU d k with
 |some (some x)=>aa x
 |some none=>aa v
 |none=>af
def Nt(δo δe:DE):DE:=λρ=>δo ρ>>=λd=>if F7 d then δe ρ>>=λk=>getM d k .non else af
def Cg(δo δe δf:DE):DE:=λρ=>δo ρ>>=λd=>if F7 d then δe ρ>>=λk=>δf ρ>>=λv=>getM d k v else af
def yZ{F H:Hp}{d k v:D}{a:Addr}{y z:V}{Q:VK}(s:Same F H)(q1:Den X.K F d (.ref a))(q2:Den X.K F k y)(q3:Den X.K F v z)(w:WP X.K Xw F H (getM d k v) Q):∃ov,mf H a y ov/\Q (ov.getD z) H:=by
 unfold getM at w;cases u9:EU d k with
 |none=>rw[u9] at w;exact w.elim
 |some o'=>
  rw[u9] at w;obtain⟨a',ov,zz,h2,h3,h4⟩:=wo s q1 q2 u9;cases zz;refine⟨ov,h2,?_⟩;cases o' with
  |none=>
   cases ov with
   |none=>exact WP.now w s q3
   |some _=>cases h3
  |some d'=>
   obtain⟨v,rfl,hv⟩:=h4 d' rfl;exact WP.now w s hv
def Qf(hu:X.A.units+64<cLine)(ho:PD X Xw o δo)(he:PD X Xw e δe)(m:M1 X o "get" u8 e aY):PD X Xw (.Call (.Attribute o "get" u8) [e] [] aY) (Nt δo δe):=
 PE.weak (G9 (by omega) ho he m) λσ H Q ⟨F,ρ,s,w⟩=>by
  refine⟨F,ρ,s,WP.mono (WP.bind w) λx H1 ⟨F1,d,e1,q1,w1⟩=>?_⟩;split at w1
  ·rename_i hd;obtain⟨a,rfl,RE⟩:=Cy e1.fh q1 hd;refine⟨a,rfl,RE,F1,ρ,s.ext e1,WP.mono (WP.bind w1) λy H2 ⟨F2,k,e2,q2,w2⟩=>?_⟩;exact yZ (v:= .non) (z:= .non) e2.fh (Den.mono e2.ff q1) q2 (show V.non=V.non from rfl) w2
  ·exact w1.elim
def Jz(hu:X.A.units+64<cLine)(ho:PD X Xw o δo)(he:PD X Xw e δe)(hf:PD X Xw f δf)(m:M2 X o "get" u8 e f aY):PD X Xw (.Call (.Attribute o "get" u8) [e,f] [] aY) (Cg δo δe δf):=
 PE.weak (G_ (by omega) ho he hf m) λσ H Q ⟨F,ρ,s,w⟩=>by
  refine⟨F,ρ,s,WP.mono (WP.bind w) λx H1 ⟨F1,d,e1,q1,w1⟩=>?_⟩;split at w1
  ·rename_i hd;obtain⟨a,rfl,RE⟩:=Cy e1.fh q1 hd;refine⟨a,rfl,RE,F1,ρ,s.ext e1,WP.mono (WP.bind w1) λy H2 ⟨F2,k,e2,q2,w2⟩=>?_⟩;refine⟨F2,ρ,(s.ext e1).ext e2,WP.mono (WP.bind w2) λz H3 ⟨F3,v,e3,q3,w3⟩=>?_⟩;exact yZ e3.fh (Den.mono e3.ff (Den.mono e2.ff q1)) (Den.mono e3.ff q2) q3 w3
  ·exact w1.elim
end
section
variable{X:Cx}{Xw:Nat->Hp->Prop}{a b:Expr}{δa δb:DE}{pos:Pos}
def FE(neg:Bool):D->D->M D
 | .raw _,_=>af
 | .non, .non=>aa (.bl (!neg))
 |_, .non=>aa (.bl neg)
 |_,_=>af
def IT{K:V9}{neg:Bool}{g:V->Bool}(hg:∀v,g v=if neg then !decide (v= .non) else decide (v= .non)):As K (λx y H Q=>y= .non/\Q (.bl (g x)) H) (FE neg):=λXw F H x y dx dy Q s hx hy w=>by
 unfold FE at w;split at w
 ·exact w.elim
 ·refine⟨hy,?_⟩;cases (show x=_ from hx);rw[hg];cases neg<;>exact WP.now w s rfl
 ·rename_i h1 h2;refine⟨hy,?_⟩;have Ry:x≠ .non:=by
   rintro rfl;cases dx with
   |raw v=>exact h1 v rfl
   |non=>exact h2 rfl
   |bl _=>cases (show _=_ from hx)
   |int _=>cases (show _=_ from hx)
   |str _=>cases (show _=_ from hx.1)
   |exc _=>obtain⟨_,z,_⟩:=hx;cases z
   |scr _=>obtain⟨_,z,_⟩:=hx;cases z
   |tup _=>obtain⟨_,_,z,_⟩:=hx;cases z
   |lst _=>obtain⟨_,_,z,_⟩:=hx;cases z
   |dct _ _=>obtain⟨_,_,_,z,_⟩:=hx;cases z
   |dci _ _=>obtain⟨_,_,_,z,_⟩:=hx;cases z
  rw[hg,acD Ry];cases neg<;>exact WP.now w s rfl
 ·exact w.elim
def JT(ha:PD X Xw a δa)(hb:PD X Xw b δb):qA X Xw (.Compare a [.IsNot] [b] pos) (da (d2 (FE true) δa δb)):=gp Jq (IT λ_=>rfl) ha hb
end
def A1:List Nat->Ko
 |[]=>NH
 |i::is=>Kz (Cu i) (A1 is)
def BQ:List Nat->List D->bb->bb
 |i::is,d::ds,ρ=>BQ is ds (ρ.set i (some (.fz d)))
 |_,_,ρ=>ρ
def vR(is:List Nat):D->bb->Option bb
 | .tup ds,ρ=>if ds.length=is.length then some (BQ is ds ρ) else none
 |_,_=>none
def v7{K:V9}{t0 acI F H:Hp}{Q:St->Hp->Prop}:∀(is:List Nat) (ds:List D) (vs:List V) (σ:St) (ρ:bb),ds.length=is.length->StOk K t0 acI F H σ ρ->DenL K F ds vs->(∀σ',StOk K t0 acI F H σ' (BQ is ds ρ)->Q σ' H)->A1 is vs σ H Q
 |[],[],vs,σ,ρ,_,s,h,k=>⟨h,k σ s⟩
 |i::is,d::ds,vs,σ,ρ,hl,s,⟨v,r,e,h1,h2⟩,k=>by
  subst e;exact⟨v,r,rfl,v7 is ds r _ _ (by simpa using hl) (s.set h1) h2 k⟩
 |[],_::_,_,_,_,hl,_,_,_=>by simp at hl
 |_::_,[],_,_,_,hl,_,_,_=>by simp at hl
def CT{K:V9}{is:List Nat}:E4 K (NI K is.length (A1 is)) (vR is):=λt0 acI F H σ ρ ρ' d v Q s q e k=>by
 unfold vR at e;split at e
 ·rename_i ds;split at e
  ·rename_i hl;cases e;obtain⟨a,vs,rfl,hs,hd,_⟩:=q;exact⟨a,vs,rfl,SqT.of (s.st.fh _ _ hs),by rw[<-hd.len];exact hl,v7 is ds vs σ ρ hl s hd k⟩
  ·cases e
 ·cases e
section
variable{a:Expr}
def Ai{α β γ:Type}(f:α->β)(g:α->γ):∀l:List α,(l.map f).zip (l.map g)=l.map λx=>(f x,g x)
 |[]=>rfl
 |a::l=>by rw[Wg,Wg,XY,Ai f g l];rfl
end
mutual
def Kv:D->Bool
 | .non=>true
 | .bl _=>true
 | .int _=>true
 | .str _=>true
 | .tup ds=>yO ds
 | .lst ds=>yO ds
 | .raw _=>false
 | .exc _=>false
 | .scr _=>false
 | .dct _ _=>false
 | .dci _ _=>false
def yO:List D->Bool
 |[]=>true
 |d::ds=>Kv d&&yO ds
end
def zH(ρ:bb):Bool:=ρ.all λx=>match x with
 |some (.ow (.lst _))=>false
 |_=>true
def GX{i:Nat}(h:zH ρ=true)(e:ρ[i]? =some (some (.ow (.lst ds)))):False:=by
 have:=WT.mp h _ (Xb e);cases this
section
variable{K:V9}{F H F' H':Hp}{σ:St}{ρ:bb}{h:Heap}{b:Addr}
def OwnAt.dict(S:StE K F H σ ρ)(hd:zH ρ=true)(p:OwnAt σ ρ b):∃o,H b=some o/\((∃x,o= .dT x)\/∃x,o= .dK x):=by
 obtain⟨i,c,h1,h2⟩:=p;obtain⟨v,h3,a,o,rfl,h4,h5,h6⟩:=S.den i _ h1;rw[h3] at h2;cases h2;refine⟨o,h4,?_⟩;cases c with
 |lst ds=>exact(GX hd h1).elim
 |dct ks ds=>obtain⟨vs,rfl,_⟩:=h6;exact .inl ⟨_,rfl⟩
 |dci ks ds=>obtain⟨vs,rfl,_⟩:=h6;exact .inr ⟨_,rfl⟩
open Classical in
def CD(S:StE K F H σ ρ)(hd:zH ρ=true)(E:Ext (fA σ ρ (refA h (OwnAt σ ρ) H) F) (refA h (OwnAt σ ρ) H) F' H'){o:HO}(e:F' a=some o)(gk:∀q u,o≠ .frz q u):(if OwnAt σ ρ a then none else F' a)=some o:=by
 rw[acA,e];intro hp;obtain⟨o',k1,k2⟩:=OwnAt.dict S hd hp;have k3:fA σ ρ (refA h (OwnAt σ ρ) H) F a=some (jY ((h.get? a).getD {cls:= .none,data:= .fields #[]}) o'):=by
  unfold fA refA;rw[acz hp,acz hp,k1];rfl
 have k4:=E.ff a _ k3;rw[e] at k4;rcases k2 with⟨x,rfl⟩ | ⟨x,rfl⟩<;>cases k4<;>exact gk _ _ rfl
open Classical in
mutual
def Fo(S:StE K F H σ ρ)(hd:zH ρ=true)(E:Ext (fA σ ρ (refA h (OwnAt σ ρ) H) F) (refA h (OwnAt σ ρ) H) F' H'):∀{d:D}{v:V},Kv d=true->Den K F' d v->Den K (λb=>if OwnAt σ ρ b then none else F' b) d v
 | .non,_,_,q=>q
 | .bl _,_,_,q=>q
 | .int _,_,_,q=>q
 | .str _,_,_,q=>q
 | .tup ds,_,f,⟨a,vs,h1,h2,h3,h4⟩=>⟨a,vs,h1,CD S hd E h2 (λ_ _ z=>nomatch z),oq S hd E f h3,h4⟩
 | .lst ds,_,f,⟨a,vs,h1,h2,h3,h4⟩=>⟨a,vs,h1,CD S hd E h2 (λ_ _ z=>nomatch z),oq S hd E f h3,h4⟩
 | .raw _,_,f,_=>by cases f
 | .exc _,_,f,_=>by cases f
 | .scr _,_,f,_=>by cases f
 | .dct _ _,_,f,_=>by cases f
 | .dci _ _,_,f,_=>by cases f
def oq(S:StE K F H σ ρ)(hd:zH ρ=true)(E:Ext (fA σ ρ (refA h (OwnAt σ ρ) H) F) (refA h (OwnAt σ ρ) H) F' H'):∀{ds:List D}{vs:List V},yO ds=true->DenL K F' ds vs->DenL K (λb=>if OwnAt σ ρ b then none else F' b) ds vs
 |[],_,_,q=>q
 |d::ds,_,f,⟨v,r,h1,h2,h3⟩=>by
  unfold yO at f;rw[WU] at f;exact⟨v,r,h1,Fo S hd E f.1 h2,oq S hd E f.2 h3⟩
end
end
def PB(δ:DE):DE:=λρ=>noex (δ (AY ρ))>>=rl
def M_(τ:DT):DT:=λρ=>noex (τ (AY ρ))
section
variable{a b:Expr}
def J9{x y:Str}(h:x.cps.toList=y.cps.toList):x=y:=by
 obtain⟨⟨a⟩⟩:=x;obtain⟨⟨b⟩⟩:=y;cases (show a=b from h);rfl
end
def LP(x:Int):List Int->List Int
 |[]=>[x]
 |y::r=>if x<=y then x::y::r else y::LP x r
def DN(x:Int):∀l,(LP x l).Perm (x::l)
 |[]=>ab5 _
 |y::r=>by
  unfold LP;split
  ·exact ab5 _
  ·exact((DN x r).cons y).trans (List.Perm.swap ..)
def uY{K:V9}{F:Hp}:∀{xs:List Int},DenL K F (xs.map D.int) (xs.map V.int)
 |[]=> .nil
 |x::r=> .cons rfl uY
section
variable{a:Expr}
end
end L3
namespace L3
open PySem PySem.SetTable
def iK(m b:Nat):Nat->Nat×Nat
 |0=>(b % (m+1),b)
 |k+1=>leap m (iK m b k).1 (iK m b k).2
def M9(m i:Nat):Nat:=(i*5+1) % (m+1)
def it(m:Nat):Nat->Nat->Nat
 |0,x=>x
 |n+1,x=>M9 m (it m n x)
def rD(m:Nat):∀a b x,it m (a+b) x=it m a (it m b x)
 |0,b,x=>by rw[ZO];rfl
 |a+1,b,x=>by rw[acw];show M9 m _=M9 m _;rw[rD m a b x]
def Ou(m b:Nat):∀k,(iK m b k).2=b / 32 ^ k
 |0=>by simp[iK]
 |k+1=>by
  show (iK m b k).2 / 32=_;rw[Ou m b k,abE,Nat.pow_succ]
def Cw{m b:Nat}(hb:b<2 ^ 64):∀k,(iK m b (k+13)).1=it m k (iK m b 13).1
 |0=>by rw[ZO];rfl
 |k+1=>by
  rw[acw];have hq:(iK m b (k+13)).2 / 32=0:=by
   rw[Ou];refine Nat.div_eq_of_lt ?_;refine Zj (m:=b / 32 ^ 13) ?_ ?_
   ·rw[Nat.pow_add,Nat.mul_comm,<-abE];exact Nat.div_le_self ..
   ·have:b / 32 ^ 13<1:=Nat.div_lt_of_lt_mul (by omega);omega
  show ((iK m b (k+13)).1*5+1+(iK m b (k+13)).2 / 32) % (m+1)=M9 m _;rw[hq,Cw hb k];rfl
def Pw(m:Nat):Prop:=m=7\/m=31\/m=127
def RT(m:Nat):Nat->Nat->List Nat
 |0,_=>[]
 |n+1,x=>x::RT m n (M9 m x)
def By(m:Nat):∀(n x j:Nat),j∈RT m n x->∃a,a<n/\it m a x=j
 |0,x,j,h=>by cases h
 |n+1,x,j,h=>by
  rcases Wc.mp h with rfl | h
  ·exact⟨0,by omega,rfl⟩
  ·obtain⟨a,ha,e⟩:=By m n (M9 m x) j h;exact⟨a+1,by omega,by rw[rD m a 1 x];exact e⟩
def Jv(hm:Pw m):(∀j,j<m+1->j∈RT m (m+1) 0)/\it m (m+1) 0=0:=by
 rcases hm with rfl | rfl | rfl
 ·exact⟨by decide+kernel,by decide+kernel⟩
 ·exact⟨by decide+kernel,by decide+kernel⟩
 ·exact⟨by decide+kernel,by decide+kernel⟩
def TL(hm:Pw m)(hi:i<m+1)(hj:j<m+1):∃n,n<=m/\it m n i=j:=by
 obtain⟨h1,h2⟩:=Jv hm;obtain⟨a,ha,rfl⟩:=By m _ 0 i (h1 i hi);obtain⟨b,hb,rfl⟩:=By m _ 0 j (h1 j hj);by_cases h:a<=b
 ·exact⟨b - a,by omega,by rw[<-rD,Nat.sub_add_cancel h]⟩
 ·refine⟨m+1 - a+b,by omega,?_⟩;rw[<-rD,show m+1 - a+b+a=b+(m+1) by omega,rD,h2]
def Ot(m b k:Nat):(iK m b k).1<m+1:=by
 cases k with
 |zero=>exact Nat.mod_lt _ (by omega)
 |succ k=>exact Nat.mod_lt _ (by omega)
def reach(hm:Pw m)(hb:b<2 ^ 64)(hj:j<m+1):∃k,k<=m+13/\(iK m b k).1=j:=by
 obtain⟨n,hn,e⟩:=TL hm (Ot m b 13) hj;exact⟨n+13,by omega,by rw[Cw hb,e]⟩
def Sz(t:SetTable):Nat->Probe->Probe
 |0,p=>p
 |n+1,p=>Sz t n (t.advance p)
def vals(o:Array (Option Nat))(n:Nat):List Nat:=(Wy n).filterMap λj=>o.getD j none
structure TabOk (t:SetTable) (n:Nat) (ld:Bool):Prop where
 VZ:Pw t.mask
 size:t.place.size=n
 VN:t.dummies= #[]
 room:5*n<3*t.mask
 plain:t.plain=true
 led:t.led=ld
 rise:t.place.toList.Pairwise (· < ·)
def SetH(ld:Bool)(h:Heap)(a:Addr)(xs:List (Int×Value)):Prop:=∃o es ep t,h.get? a=some o/\o.ExactSet/\o.data= .set es ep t/\es.toList.Perm xs/\TabOk t es.size ld
def SetH.at{ld:Bool}{h h':Heap}{a:Addr}{xs:List (Int×Value)}(x:SetH ld h a xs)(e:∀o,h.get? a=some o->h'.get? a=some o):SetH ld h' a xs:=
 let ⟨o,es,ep,t,ho,r⟩:=x
 ⟨o,es,ep,t,e o ho,r⟩
end L3
namespace L3
open PySem PySem.Spec L2 HT
open PyProof.Rows hiding St
def items_int{P:Wz}{w:World}:∀{us:List Value}{ns:List Int},X6 us ns->ItemsAre (intKind P w) ns us
 |_,_, .nil=> .nil
 |_,_, .cons n t h=> .cons (intKind_is _ _ _ _) (items_int h)
end L3
namespace L3
open PySem PySem.SetTable PySem.W PyProof.Rows
def IsSI(h:Heap)(it a:Addr)(sl k n ep:Nat):Prop:=∃o,h.get? it=some o/\o.cls= .type "set_iterator"/\o.data= .fields #[ZZ sl,ZZ k, .ref a,ZZ n,ZZ ep]
def IsSI.typeIs{s:Wa}{it a:Addr}{sl k n ep:Nat}(x:IsSI s.heap it a sl k n ep):s.TypeIs (.ref it) "set_iterator":=let ⟨o,ho,hc,_⟩:=x;⟨o,ho,hc⟩
def IsSI.at{h h':Heap}{it a:Addr}{sl k n ep:Nat}(x:IsSI h it a sl k n ep)(e:∀o,h.get? it=some o->h'.get? it=some o):IsSI h' it a sl k n ep:=let ⟨o,ho,r⟩:=x;⟨o,e o ho,r⟩
end L3
namespace L3
open PySem PySem.Spec L2 HT
open PyProof.Rows hiding St
section
variable{X:Cx}{Xw:Nat->Hp->Prop}{e:Expr}{δs:DA}{pos p:Pos}
def C6:List D->M D
 |[.lst ds]=>match nums ds with
  |some ns=>aa (.int ns.sum)
  |none=>af
 |_=>af
def Du(hc:X.calm=true):CallR X (.builtin "sum") (λxs H Q=>∃(p:Addr) (ns:List Int),xs=[.ref p]/\SqL X.K H p (ns.map V.int)/\Q (.int ns.sum) H):=by
 intro f8 s σ H xs us Q I r h;obtain⟨a,ns,rfl,hq,q⟩:=h;obtain⟨u,rfl,r1⟩:=r.one;cases (show u=_ from r1);obtain⟨aR,rv,pl,hz⟩:=I.list hq;have hi:X6 aR ns:=by simpa using intsAre_of rv
 obtain⟨xs,hx⟩:=hi.allInts.items;refine sum_intListG (I.ok.hd hc) (show s.heap.IsList a (intItems xs) from hx▸pl.isList) λh' tk t' hk=>?_;have e1:ns=xs.toList.map (·.1):=by
  rw[<-nums_intItems,<-hx];exact(show numsOf aR.toArray.toList=ns from hi.numsOf).symm
 rw[show preSum (numAt xs) xs.size=ns.sum by rw[preSum_eq,abA (by simp),e1]];exact⟨.int ns.sum,H,I.kept hk,⟨_,rfl⟩,q⟩
def JC(hc:X.calm=true)(hg:Gl X "sum")(hm:X.mg "sum"=none)(hb:WX "sum"=some (.builtin "sum"))(ha:lC X Xw [e] δs)(he:Wf [e] X.env=[(false,eval e X.env)]:=by rfl):PD X Xw (.Call (.Name "sum" p) [e] [] pos) (dA C6 δs):=
 d5 (Du hc) (λXw F H vs ds Q s h w=>by
  unfold C6 at w;split at w
  ·rename_i ds;obtain⟨v,rfl,h1⟩:=h.one;obtain⟨a,ws,rfl,h2,h3,h4⟩:=h1;split at w
   ·rename_i ns M4;have e:=iU M4 h3;subst e;exact⟨a,ns,rfl,SqL.of (s _ _ h2),WP.now w s rfl⟩
   ·exact w.elim
  ·exact w.elim) hg hm hb ha (by decide) (by decide) he rfl
end
section
variable{prog:Wz}{w:World}
def SetS(prog:Wz)(w:World)(h:Heap)(a:Addr)(xs:List Str):Prop:=h.SetOf (strKind prog w) a (λk=>decide (k∈xs)) xs.length
def SetS.at{h h':Heap}{a:Addr}{xs:List Str}(x:SetS prog w h a xs)(e:∀o,h.get? a=some o->h'.get? a=some o):SetS prog w h' a xs:=
 let ⟨o,es,ep,t,ho,r⟩:=x
 ⟨o,es,ep,t,e o ho,r⟩
end
def rO:List Int->Int
 |[]=>0
 |[x]=>x
 |x::r=>max x (rO r)
def dD:List Int->Int
 |[]=>0
 |[x]=>x
 |x::r=>min x (dD r)
def vw:∀{l:List Int},0<l.length->rO l∈l/\∀a∈l,a<=rO l
 |[x],_=>⟨by simp[rO],λa h=>by rw[Wo.mp h];exact Int.le_refl _⟩
 |x::y::r,_=>by
  obtain⟨h1,h2⟩:=vw (l:=y::r) (abR _);have e:rO (x::y::r)=max x (rO (y::r)):=rfl;rw[e];refine⟨?_,λa ha=>?_⟩
  ·rcases Int.le_total x (rO (y::r)) with q | q
   ·rw[Int.max_eq_right q];exact V3 _ h1
   ·rw[Int.max_eq_left q];exact V6 ..
  ·rcases Wc.mp ha with q | q
   ·rw[q];exact Int.le_max_left ..
   ·exact Int.le_trans (h2 a q) (Int.le_max_right ..)
def oI:∀{l:List Int},0<l.length->dD l∈l/\∀a∈l,dD l<=a
 |[x],_=>⟨by simp[dD],λa h=>by rw[Wo.mp h];exact Int.le_refl _⟩
 |x::y::r,_=>by
  obtain⟨h1,h2⟩:=oI (l:=y::r) (abR _);have e:dD (x::y::r)=min x (dD (y::r)):=rfl;rw[e];refine⟨?_,λa ha=>?_⟩
  ·rcases Int.le_total x (dD (y::r)) with q | q
   ·rw[Int.min_eq_left q];exact V6 ..
   ·rw[Int.min_eq_right q];exact V3 _ h1
  ·rcases Wc.mp ha with q | q
   ·rw[q];exact Int.min_le_left ..
   ·exact Int.le_trans (Int.min_le_right ..) (h2 a q)
section
variable{X:Cx}{Xw:Nat->Hp->Prop}{e:Expr}{δs:DA}{pos p:Pos}
def Tr:List D->M D
 |[.lst ds]=>match nums ds with
  |some ns=>if 0<ns.length then aa (.int (rO ns)) else af
  |none=>af
 |_=>af
def j6:List D->M D
 |[.lst ds]=>match nums ds with
  |some ns=>if 0<ns.length then aa (.int (dD ns)) else af
  |none=>af
 |_=>af
def rE{aR:List Value}{ns:List Int}(hi:X6 aR ns):∃xs:Array (Int×Tok),aR.toArray=intItems xs/\xs.size=ns.length/\∀i,i<xs.size->numAt xs i∈ns/\ns[i]? =some (numAt xs i):=by
 obtain⟨xs,hx⟩:=hi.allInts.items;have e1:ns=xs.toList.map (·.1):=by
  rw[<-nums_intItems,<-hx];exact(show numsOf aR.toArray.toList=ns from hi.numsOf).symm
 refine⟨xs,hx,by rw[e1];simp,λi h=>?_⟩;have:ns[i]? =some (numAt xs i):=by
  rw[e1,Wb,Xx];unfold numAt;rw[Yv h];rfl
 exact⟨Xb this,this⟩
def MR(hc:X.calm=true):CallR X (.builtin "max") (λxs H Q=>∃(p:Addr) (ns:List Int),xs=[.ref p]/\SqL X.K H p (ns.map V.int)/\0<ns.length/\Q (.int (rO ns)) H):=by
 intro f8 s σ H xs us Q I r h;obtain⟨a,ns,rfl,hq,h0,q⟩:=h;obtain⟨u,rfl,r1⟩:=r.one;cases (show u=_ from r1);obtain⟨aR,rv,pl,hz⟩:=I.list hq;have hi:X6 aR ns:=by simpa using intsAre_of rv
 obtain⟨xs,hx,hsz,u9⟩:=rE hi;obtain⟨g1,g2⟩:=argBest_gt (numAt xs) (xs.size - 1);refine max_intList (I.ok.hd hc) (show s.heap.IsList a (intItems xs) from hx▸pl.isList) (by omega) λv h' tk hv hk=>?_;obtain⟨t,rfl⟩:=intItems_at hv;have hM:=u9 (Y4 (λi j=>decide (numAt xs i>numAt xs j)) (xs.size - 1)) (by omega);obtain⟨m1,m2⟩:=vw h0;have e:numAt xs (Y4 (λi j=>decide (numAt xs i>numAt xs j)) (xs.size - 1))=rO ns:=by
  refine Int.le_antisymm (m2 _ hM.1) ?_;obtain⟨j,hj,e⟩:=XO m1;have h2:=(u9 j (by omega)).2;rw[V5 hj,e] at h2;rw[WC h2];exact g2 j (by omega)
 rw[e];exact⟨.int (rO ns),H,I.kept hk,⟨_,rfl⟩,q⟩
def Ds(hc:X.calm=true):CallR X (.builtin "min") (λxs H Q=>∃(p:Addr) (ns:List Int),xs=[.ref p]/\SqL X.K H p (ns.map V.int)/\0<ns.length/\Q (.int (dD ns)) H):=by
 intro f8 s σ H xs us Q I r h;obtain⟨a,ns,rfl,hq,h0,q⟩:=h;obtain⟨u,rfl,r1⟩:=r.one;cases (show u=_ from r1);obtain⟨aR,rv,pl,hz⟩:=I.list hq;have hi:X6 aR ns:=by simpa using intsAre_of rv
 obtain⟨xs,hx,hsz,u9⟩:=rE hi;obtain⟨g1,g2⟩:=argBest_lt (numAt xs) (xs.size - 1);refine min_intList (I.ok.hd hc) (show s.heap.IsList a (intItems xs) from hx▸pl.isList) (by omega) λv h' tk hv hk=>?_;obtain⟨t,rfl⟩:=intItems_at hv;have hM:=u9 (Y4 (λi j=>decide (numAt xs i<numAt xs j)) (xs.size - 1)) (by omega);obtain⟨m1,m2⟩:=oI h0;have e:numAt xs (Y4 (λi j=>decide (numAt xs i<numAt xs j)) (xs.size - 1))=dD ns:=by
  refine Int.le_antisymm ?_ (m2 _ hM.1);obtain⟨j,hj,e⟩:=XO m1;have h2:=(u9 j (by omega)).2;rw[V5 hj,e] at h2;rw[WC h2];exact g2 j (by omega)
 rw[e];exact⟨.int (dD ns),H,I.kept hk,⟨_,rfl⟩,q⟩
def CN(hc:X.calm=true)(hg:Gl X "min")(hm:X.mg "min"=none)(hb:WX "min"=some (.builtin "min"))(ha:lC X Xw [e] δs)(he:Wf [e] X.env=[(false,eval e X.env)]:=by rfl):PD X Xw (.Call (.Name "min" p) [e] [] pos) (dA j6 δs):=
 d5 (Ds hc) (λXw F H vs ds Q s h w=>by
  unfold j6 at w;split at w
  ·rename_i ds;obtain⟨v,rfl,h1⟩:=h.one;obtain⟨a,ws,rfl,h2,h3,h4⟩:=h1;split at w
   ·rename_i ns M4;split at w
    ·rename_i h0;have e:=iU M4 h3;subst e;exact⟨a,ns,rfl,SqL.of (s _ _ h2),h0,WP.now w s rfl⟩
    ·exact w.elim
   ·exact w.elim
  ·exact w.elim) hg hm hb ha (by decide) (by decide) he rfl
end
end L3
namespace L3
open PySem PySem.Spec L2
open PyProof.Rows hiding St
section
variable{X:Cx}{Xw:Nat->Hp->Prop}{a b:Expr}{δa δb:DE}{pos:Pos}
def O1(ha:PD X Xw a δa)(hb:PD X Xw b δb):qA X Xw (.Compare a [.GtE] [b] pos) (da (d2 PL δa δb)):=gp OP (vD λ_ _ _=>rfl) ha hb
end
end L3
namespace L3
open PySem PySem.Spec L2 SeqAt HT
open PyProof.Rows hiding St
section
variable{X:Cx}{Xw:Nat->Hp->Prop}{a e o:Expr}{δo:DE}{δs:DA}{p u8 aY:Pos}
def RD(n:Int):Value->Bool
 | .int i _=>i==n
 |_=>false
def zc:D->List D->M D
 | .lst ds,[.int n]=>match nums ds with
   |some ns=>if ns.contains n then aa (.int (ns.idxOf n)) else af
   |none=>af
 |_,_=>af
def O6(K:V9):V->List V->Hp->VK->Prop:=λx vs H Q=>∃(a:Addr) (ns:List Int) (n:Int),x= .ref a/\vs=[.int n]/\H a=some (.lst (ns.map V.int))/\ns.contains n=true/\Q (.int (ns.idxOf n)) H
def Jj:MP X "list.index" (O6 X.K):=by
 intro f8 s σ H x vs v us Q I rx rv h;obtain⟨a,ns,n,rfl,rfl,hH,hc,q⟩:=h;cases rx;obtain⟨u,rfl,r1⟩:=rv.one;obtain⟨t,rfl⟩:=r1;obtain⟨z,aR,m,r,hl,e⟩:=I.lstM hH;have P3:=r.length;rw[V4] at P3;have at':∀i (h:i<aR.length),∃t,aR[i]= .int (ns[i]'(by omega)) t:=λi h=>by
  have q:=lz i r (by rw[V4];omega);rw[Wq,Wb,V5 (by omega:i<ns.length),Wq,V5 h] at q;exact q
 have hm:n∈ns:=by simpa using hc
 have f_:ns.idxOf n<ns.length:=abk.mpr hm;have hz:ns.length<=Wr:=by simpa using z
 have hs:Wr=16777216:=Yi;refine ab0 F.slot_list_index ⟨_,e,rfl⟩ F.entry_list_index (F.args_list_index_2 _ _) (list_indexAt a _ m none #[] (.int n t) (RD n) (ns.idxOf n) (by simp;omega) (by omega) ?_ ?_) ⟨e,λy hy=>?_,?_⟩
 ·obtain⟨t',e1⟩:=at' (ns.idxOf n) (by omega);have:ns[ns.idxOf n]=n:=acm f_;simp[RD,e1,this]
 ·intro k MZ II;have UB:k<aR.length:=by simpa using MZ
  obtain⟨t',e1⟩:=at' k UB;have:ns[k]'(by omega)≠n:=λz=>by
   have:=List.not_of_lt_findIdx (p:=(· ==n)) (xs:=ns) (i:=k) II;rw[z] at this;simp at this
  simp[RD,e1,this]
 ·have hy:y∈aR:=by simpa using hy
  obtain⟨i,hi,rfl⟩:=XO hy;obtain⟨t',e1⟩:=at' i hi;rw[e1];exact EqAt.int_int _ _ _ _
 ·exact⟨.int (ns.idxOf n),H,I.tok _,⟨_,rfl⟩,q⟩
def JA(ho:PD X Xw o δo)(ha:lC X Xw [e] δs)(dY:WR o "index" X.env (eval o X.env)=eval o X.env:=by rfl)
 (mx:((Xv aY (Wf [e] X.env)).all (λx=>!x.1)&&(X7 aY (Xi [] X.env)).all (λx=>x.1.isSome)&&decide ([e].length+([]:List Yp).length+(if ([]:List Yp).isEmpty then 0 else 1)<30))=true:=by rfl)
 (dZ:(u8.endLine==aY.line)=true:=by rfl)(qa:Wf [e] X.env=[(false,eval e X.env)]:=by rfl):PD X Xw (.Call (.Attribute o "index" u8) [e] [] aY) (dM vf zc δo δs):=
 G0 X5 PySem.F.slot_list_index PySem.F.type_list_index Jj F8 (λXw F H x vs d ds Q s hx hv w=>by
  unfold zc at w;split at w
  ·rename_i ds n;obtain⟨v,rfl,h1⟩:=hv.one;cases (show _=_ from h1);obtain⟨a,ws,rfl,h2,h3,_⟩:=hx;split at w
   ·rename_i ns hb;split at w
    ·rename_i hc;exact⟨a,ns,n,rfl,rfl,by rw[<-iU hb h3];exact s _ _ h2,hc,WP.now w s rfl⟩
    ·exact w.elim
   ·exact w.elim
  ·exact w.elim) ho ha dY mx dZ qa rfl
end
section
variable{prog:Wz}{w:World}{A:Xa}{E:Value->Wa->Prop}{s:Wa}
def Gw{items:Array Value}{bt:Nat->Nat->Bool}{I L S:Addr}{good:Heap->Prop}{R:Result->Wa->Prop}(hh:A.handled=none)(gk:L≠I)(Lx:S≠I)(PQ:S≠L)
 (hg:∀h h',(∀c o,c≠I->c≠S->h.get? c=some o->h'.get? c=some o)->good h->good h')
 (LB:∀(i j:Nat) (x y:Value) (h':Heap) (tk:Nat) (Q':Value->Wa->Prop) (E':Value->Wa->Prop),items[i]? =some x->items[j]? =some y->good h'->(∀Qk,Q' (.bool (bt i j)) {s with heap:=h',toks:=Qk})->wpAny (model prog w) A.in1 (abv .Lt x y) Q' E' {s with heap:=h',toks:=tk})
 (hR:∀v h' tk,items[Y4 bt (items.size - 1)]? =some v->good h'->R (.ok (.ret v)) {s with heap:=h',toks:=tk}):
 ∀(k j:Nat) (h:Heap) (tk:Nat) (vb:Value) (c:Nat),items.size - (j+1)=k->j+1<=items.size->good h->(h.IsListIter I L (j+1)/\h.IsList L items)->items[Y4 bt j]? =some vb->
  h.get? S=some {cls:= .type "list",dict:=none,data:= .seq #[vb,vb] c,slots:= #[]}->Z1 (model prog w) A (.builtin "min.loop" ⟨[.ref I, .none, .ref S],[]⟩) R {s with heap:=h,toks:=tk}:=by
 have zb:(Z9 "min"++Z9 ".loop":String)="min.loop":=by decide
 have W:=acb (prog:=prog) (w:=w) (A:=A.in1) hh I L gk items;have nI:∀{c:Addr},c≠I->c∉[I]:=λq z=>q (Wo.mp z);have fr:∀{i:Nat}{h:Heap}{f:Obj->Obj},(h.IsListIter I L i/\h.IsList L items)->((h.update S f).IsListIter I L i/\(h.update S f).IsList L items):=λ{i h f} q=>W.frame _ _ _ q λc hc o e=>(Yh _ _ (λz:S=c=>by
  subst z;rcases Wc.mp hc with z | z
  ·exact Lx z
  ·exact PQ (Wo.mp z))).trans e
 have up:∀{h:Heap}{f:Obj->Obj},good h->good (h.update S f):=λq=>hg _ _ (λc o _ hc e=>(Yh _ _ (XR hc)).trans e) q;intro k;induction k with
 |zero=>
  intro j h tk vb c hk hj g st hb hS;have FU:j+1=items.size:=by omega
  refine abw aa1 ?_;rw[ZL Yk _];show wpAny _ A.in1 (seqItems? (.ref S)>>=_) _ _ _;refine V2 (abJ hS rfl ?_);show wpAny _ A.in1 (tryCatch (ZG (.ref I)) _>>=_) _ _ _;refine V2 (aag (W.done _ _ _ (by rw[<-FU];exact st) λh4 t4 k4=>?_));have S4:=k4 S _ (nI Lx) hS;show wpAny _ A.in1 (updateSeq S (λ_=> #[])>>=_) _ _ _;refine V2 ?_;refine abp S4 rfl (V2 (aaj (V_ ?_)));exact hR vb _ _ (by rw[<-FU];exact hb) (up (hg _ _ (λc o hc _ e=>k4 c o (nI hc) e) g))
 |succ k ih=>
  intro j h tk vb c hk hj g st hb hS;have f_:j+1<items.size:=by omega
  refine abw aa1 ?_;rw[ZL Yk _];show wpAny _ A.in1 (seqItems? (.ref S)>>=_) _ _ _;refine V2 (abJ hS rfl ?_);show wpAny _ A.in1 (tryCatch (ZG (.ref I)) _>>=_) _ _ _;refine V2 (aag (W.item (j+1) _ _ _ f_ st λv h1 t1 hP Ax k1=>?_));have S1:=k1 S _ (nI Lx) hS;have g1:good h1:=hg _ _ (λc o hc _ e=>k1 c o (nI hc) e) g;show wpAny _ A.in1 (tryCatch (holding [v,v] (abv .Lt v vb>>=_)) _>>=_) _ _ _;refine V2 (aag (Yz (V2 (LB (j+1) (Y4 bt j) v vb _ _ _ _ hP hb g1 λQk=>?_))));refine V2 (Yz (XA ?_));refine V2 (aaj (V_ ?_));cases S0:bt (j+1) (Y4 bt j) with
  |true=>
   simp only[if_true];refine V2 ?_;refine abp S1 rfl (V2 (aaj ?_));rw[zb];exact V_ ⟨aat Yk _,ih (j+1) _ _ v _ (by omega) f_ (up g1) (fr Ax) (by simp only[Y4,S0,if_true];exact hP) (X0 _ S1 rfl)⟩
  |false=>
   simp only[WO,if_false];refine V2 (aaj ?_);rw[zb];exact V_ ⟨aat Yk _,ih (j+1) _ _ vb c (by omega) f_ g1 Ax (by simp only[Y4,S0,WO,if_false];exact hb) S1⟩
def xb{L:Addr}{items:Array Value}{bt:Nat->Nat->Bool}{Q:Value->Wa->Prop}(hh:A.handled=none)(hL:s.heap.IsList L items)(hn:0<items.size)
 (LB:∀(i j:Nat) (x y:Value) (h':Heap) (tk:Nat) (Q':Value->Wa->Prop) (E':Value->Wa->Prop),items[i]? =some x->items[j]? =some y->(∀c o,s.heap.get? c=some o->h'.get? c=some o)->(∀Qk,Q' (.bool (bt i j)) {s with heap:=h',toks:=Qk})->wpAny (model prog w) A.in1 (abv .Lt x y) Q' E' {s with heap:=h',toks:=tk})
 (h:∀v h' tk,items[Y4 bt (items.size - 1)]? =some v->(∀c o,s.heap.get? c=some o->h'.get? c=some o)->Q v {s with heap:=h',toks:=tk}):
 wpAny (model prog w) A (call (.builtin "min") [.ref L]) Q E s:=by
 have zb:(Z9 "min"++Z9 ".loop":String)="min.loop":=by decide
 refine call_function_tree F.kind_min F.plain_min F.entry_min (F.args_min1 _) ?_;show wpAny _ A.in1 (ZK "min" ["key","default"] 0 ⟨[],[]⟩>>=_) _ _ s;refine V2 (wpAny_of_eq (show ZK "min" ["key","default"] 0 ⟨[],[]⟩=pure [none,none] from rfl) ?_);refine V2 (V_ ?_);refine V2 (aaP hL ?_);refine V2 (XB ?_);rw[zb];refine V_ ⟨aat Yk _,?_⟩;have lL:L<s.heap.objs.size:=by obtain⟨o,e,_⟩:=hL;exact Wl e
 have hsz:(s.heap.push {cls:= .type "list_iterator",data:= .fields #[.ref L, .int 0 0]}).objs.size=s.heap.objs.size+1:=Yd ..;have SU:L≠s.heap.objs.size:=WA lL;have Lx:(s.heap.push {cls:= .type "list_iterator",data:= .fields #[.ref L, .int 0 0]}).objs.size≠s.heap.objs.size:=by rw[hsz];exact XM (YE _)
 have PQ:(s.heap.push {cls:= .type "list_iterator",data:= .fields #[.ref L, .int 0 0]}).objs.size≠L:=by rw[hsz];exact XM (aan lL)
 have W:=acb (prog:=prog) (w:=w) (A:=A.in1) (by simp[hh]) s.heap.objs.size L SU items;have nI:∀{c:Addr},c≠s.heap.objs.size->c∉[s.heap.objs.size]:=λq z=>q (Wo.mp z);have gd:∀h h':Heap,(∀c o,c≠s.heap.objs.size->c≠(s.heap.push {cls:= .type "list_iterator",data:= .fields #[.ref L, .int 0 0]}).objs.size->h.get? c=some o->h'.get? c=some o)->(∀c o,s.heap.get? c=some o->h.get? c=some o)->∀c o,s.heap.get? c=some o->h'.get? c=some o:=λh h' k g c o e=>by
  have:=Wl e;exact k c o (WA this) (by rw[hsz];exact WA (aan this)) (g c o e)
 generalize hS:(s.heap.push {cls:= .type "list_iterator",data:= .fields #[.ref L, .int 0 0]}).objs.size=S at*;have SY:((s.heap.push {cls:= .type "list_iterator",data:= .fields #[.ref L, .int 0 0]}).push {cls:= .type "list",data:= .seq #[]}).get? S=some {cls:= .type "list",dict:=none,data:= .seq #[] 0,slots:= #[]}:=by rw[<-hS];exact Wm _ rfl
 have k0:∀c o,s.heap.get? c=some o->((s.heap.push {cls:= .type "list_iterator",data:= .fields #[.ref L, .int 0 0]}).push {cls:= .type "list",data:= .seq #[]}).get? c=some o:=λc o e=>V8 _ (V8 _ e);have Vv:((s.heap.push {cls:= .type "list_iterator",data:= .fields #[.ref L, .int 0 0]}).push {cls:= .type "list",data:= .seq #[]}).IsListIter s.heap.objs.size L 0:=⟨_,V8 _ (Wm _ rfl),rfl,rfl⟩
 have Ub:((s.heap.push {cls:= .type "list_iterator",data:= .fields #[.ref L, .int 0 0]}).push {cls:= .type "list",data:= .seq #[]}).IsList L items:=by
  obtain⟨o,e,q⟩:=hL;exact⟨o,k0 _ _ e,q⟩
 generalize ((s.heap.push {cls:= .type "list_iterator",data:= .fields #[.ref L, .int 0 0]}).push {cls:= .type "list",data:= .seq #[]})=h0 at*;refine abw aa1 ?_;rw[ZL Yk _];show wpAny _ A.in1 (seqItems? (.ref S)>>=_) _ _ _;refine V2 (abJ SY rfl ?_);show wpAny _ A.in1 (tryCatch (ZG (.ref s.heap.objs.size)) _>>=_) _ _ _;refine V2 (aag (W.item 0 _ _ _ hn ⟨Vv,Ub⟩ λv h1 t1 hP Ax k1=>?_));have S1:=k1 S _ (nI Lx) SY;show wpAny _ A.in1 (updateSeq S (λ_=> #[v,v])>>=_) _ _ _;refine V2 ?_;refine abp S1 rfl ?_;rw[zb];refine V_ ⟨aat Yk _,?_⟩;have g1:∀c o,s.heap.get? c=some o->(h1.update S (·.mapSeq λ_=> #[v,v])).get? c=some o:=λc o e=>by
  have:=Wl e;have Ul:c≠S:=by rw[<-hS,Yd];exact WA (aan this)
  exact(Yh _ _ (XR Ul)).trans (k1 c o (nI (WA this)) (k0 c o e))
 refine Gw (A:=A) (s:=s) (bt:=bt) (I:=s.heap.objs.size) (L:=L) (S:=S) (good:=λh'=>∀c o,s.heap.get? c=some o->h'.get? c=some o) (by simp[hh]) SU Lx PQ gd (λi j x y h' tk Q' E' a1 a2 a3 a4=>?_) (λv h' tk q g=>h v h' tk q g) (items.size - 1) 0 _ _ v _ (by omega) hn g1 ?_ hP (X0 _ S1 rfl)
 ·exact LB i j x y h' tk Q' E' a1 a2 a3 a4
 ·exact W.frame _ _ _ Ax λc hc o e=>(Yh _ _ (λz:S=c=>by
   subst z;rcases Wc.mp hc with z | z
   ·exact Lx z
   ·exact PQ (Wo.mp z))).trans e
end
section
variable{X:Cx}{Xw:Nat->Hp->Prop}{a e:Expr}{δs:DA}{pos p:Pos}
def eV(ks:List (List Int)):Nat:=Y4 (λi j=>HT.lexLt (ks.getD i []) (ks.getD j [])) (ks.length - 1)
def xa:List D->M D
 |[.lst ds]=>match my ds with
  |some ks=>if 0<ks.length/\(ks.getD (eV ks) []).length<=lim then aa (tupI (ks.getD (eV ks) [])) else af
  |none=>af
 |_=>af
def mh(bt:Nat->Nat->Bool):∀k,Y4 bt k<=k
 |0=>Wj _
 |k+1=>by
  have:=mh bt k;simp only[Y4];split<;>omega
def AI(hc:X.calm=true)(hu:X.A.units+64<cLine):CallR X (.builtin "min") (λxs H Q=>∃(p:Addr) (ws:List V) (ks:List (List Int)),xs=[.ref p]/\SqL X.K H p ws/\eA H ws ks/\0<ks.length/\Q (ws.getD (eV ks) .non) H):=by
 intro f8 s σ H xs us Q I r h;obtain⟨a,ws,ks,rfl,hq,hr,h0,q⟩:=h;obtain⟨u,rfl,r1⟩:=r.one;cases (show u=_ from r1);obtain⟨aR,rv,pl,hz⟩:=I.list hq;have h1:=nY hr;have h2:=rv.length;have hsz:aR.toArray.size=ks.length:=by rw[Wi];omega
 have at':∀(i:Nat) (x:Value),aR.toArray[i]? =some x->∃ad us,ws.getD i .non= .ref ad/\x= .ref ad/\X6 us (ks.getD i [])/\s.heap.IsTuple ad us.toArray:=λi x hx=>by
  have hi:i<aR.length:=by simpa using (aaN.mp hx).1
  obtain⟨ad,e1,e2⟩:=nX hr (i:=i) (by omega);have r:=lz i rv (by omega);rw[e1] at r;have r:aR.getD i W9= .ref ad:=r;obtain⟨us,ru,pt,_⟩:=I.tuple (SqT.of (K:=X.K) e2);refine⟨ad,us,e1,?_,by simpa using intsAre_of ru,pt⟩;rw[abF] at hx;rw[Wq,hx] at r;exact r
 refine xb (bt:=λi j=>HT.lexLt (ks.getD i []) (ks.getD j [])) (I.ok.hd hc) pl.isList (by omega) (λi j x y h' tk Q' E' hx hy k DM=>?_) λv h' tk hv k=>?_
 ·obtain⟨d1,u1,_,rfl,i1,t1⟩:=at' i x hx;obtain⟨d2,u2,_,rfl,i2,t2⟩:=at' j y hy;obtain⟨o1,e1,q1⟩:=t1;obtain⟨o2,e2,q2⟩:=t2;exact HT.lt_tupInts (s:={s with heap:=h',toks:=tk}) ⟨o1,k _ _ e1,q1⟩ ⟨o2,k _ _ e2,q2⟩ (by simpa using i1) (by simpa using i2) (by show X.A.units+1<cLine;omega) (DM tk)
 ·rw[hsz] at hv;obtain⟨ad,us,e1,rfl,_,_⟩:=at' _ v hv;exact⟨_,H,I.kept k,(by rw[show eV ks=Y4 (λi j=>HT.lexLt (ks.getD i []) (ks.getD j [])) (ks.length - 1) from rfl,e1];rfl),q⟩
def G3(hu:X.A.units+64<cLine)(hc:X.calm=true)(hg:Gl X "min")(hm:X.mg "min"=none)(hb:WX "min"=some (.builtin "min"))(ha:lC X Xw [e] δs)(he:Wf [e] X.env=[(false,eval e X.env)]:=by rfl):PD X Xw (.Call (.Name "min" p) [e] [] pos) (dA xa δs):=
 d5 (AI hc hu) (λXw F H vs ds Q s h w=>by
  unfold xa at w;split at w
  ·rename_i ds;obtain⟨v,rfl,h1⟩:=h.one;obtain⟨a,ws,rfl,h2,h3,h4⟩:=h1;split at w
   ·rename_i ks Q9;split at w
    ·rename_i h0;obtain⟨r1,r2⟩:=ve s Q9 h3;have f_:eV ks<ks.length:=by
      have:=mh (λi j=>HT.lexLt (ks.getD i []) (ks.getD j [])) (ks.length - 1);have:eV ks<=ks.length - 1:=this;omega
     obtain⟨ad,e1,e2⟩:=nX r2 (i:=eV ks) (by rw[nY r2];exact f_);refine⟨a,ws,ks,rfl,SqL.of (s _ _ h2),r1,h0.1,WP.now w s ?_⟩;rw[e1];exact⟨ad,_,rfl,e2,uY,by rw[V4];exact h0.2⟩
    ·exact w.elim
   ·exact w.elim
  ·exact w.elim) hg hm hb ha (by decide) (by decide) he rfl
end
end L3
namespace L3
open PySem PySem.Spec L2
open PyProof.Rows hiding St
section
variable{prog:Wz}{w:World}{A:Xa}{E:Value->Wa->Prop}{s:Wa}
def B2{d:Addr}{od:Obj}{es:Array Yb}{ep:Nat}{Q:Value->Wa->Prop}(lo:(d==Xq)=false)(ho:s.heap.get? d=some od)(hx:od.ExactDict)(hd:od.data= .dict es ep)
 (hQ:Q (.ref s.heap.objs.size) {s with heap:=s.heap.push {cls:= .type "dict_items",data:= .fields #[.ref d]} }):wpAny (model prog w) A (call (.builtin "dict.items") [.ref d]) Q E s:=by
 have hT:s.TypeIs (.ref d) "dict":=⟨od,ho,hx.1⟩
 refine Xu F.slot_dict_items hT F.entry_dict_items ?_ (F.args_dict_items_1 _);unfold aa3.«dict.items»;refine V2 ?_;unfold Builtin.Dict.noArgs;refine V2 (ZX hT ?_);show wpAny _ _ (pure d) _ _ s;refine V_ ?_;show wpAny _ _ (X9 d>>=_) _ _ s;unfold X9;rw[acA (by rw[lo];exact Wt)];refine V2 (V_ ?_);exact V2 (XB (V_ ⟨_,rfl,hQ⟩))
def A8{v d:Addr}{od:Obj}{es:Array Yb}{ep:Nat}{Q:Value->Wa->Prop}(hv:s.heap.IsItemsView v d)(ho:s.heap.get? d=some od)(NR:od.data= .dict es ep)
 (hQ:Q (.ref s.heap.objs.size) {s with heap:=s.heap.push {cls:= .type "dict_itemiterator",data:= .fields #[.none, .bool false, .ref d, .int 0 0, .int es.size 0, .int ep 0, .none, .none]} }):
 wpAny (model prog w) A (abZ (.ref v)) Q E s:=by
 obtain⟨ov,UX,VR,Uo⟩:=id hv;refine aaO hv.typeIs ab7 (Xu ab7 hv.typeIs F.entry_dict_items_iter ?_ (F.args_dict_items_iter_1 _));unfold aa3.«dict_items.__iter__»;refine V2 (V_ ?_);refine V2 ?_;unfold Builtin.Dict_items.dictOf;refine V2 (abr UX Uo (x:= .ref d) rfl (V_ ?_));refine V2 ?_;unfold Builtin.Dict_items.newIterator;refine V2 (Xg ho NR ?_);refine V2 (X_ ho NR ?_);have wQ:Xs "dict_itemiterator"=true:=by decide
 simp only[wQ,if_true];refine XB (V_ ⟨_,rfl,"dict_itemiterator",_,⟨_,Wm _ rfl,rfl⟩,F.slot_dict_itemiterator_next.lookup,?_⟩)
  (by simp only[sizeOk,Zg,Wi,Wh,V7,Xc,Yi];omega)
 simpa[ZZ,Zg] using hQ
def next_item{it d:Addr}{od:Obj}{es:Array Yb}{i ep:Nat}{e:Yb}{ok ov:Value}{Q:Option Value->Wa->Prop}(hit:Y6 s.heap it d i es.size ep ok ov)(wO:s.heap.get? d=some od)(jQ:od.data= .dict es ep)(hx:es[i]? =some e)
 (hQ:∀h',acn h' it d (i+1) es.size ep e.key e.val s.heap.objs.size->h'.get? s.heap.objs.size=some {cls:= .type "tuple",data:= .seq #[e.key,e.val]}->h'.objs.size=s.heap.objs.size+1->
  (∀b o,b≠it->s.heap.get? b=some o->h'.get? b=some o)->Q (some (.ref s.heap.objs.size)) {s with heap:=h'}):
 wpAny (model prog w) A (ZG (.ref it)) Q E s:=by
 obtain⟨hp,g,dr,tk,os⟩:=s;have hT:Shared.TypeIs ⟨hp,g,dr,tk,os⟩ (.ref it) "dict_itemiterator":=⟨_,hit,rfl⟩
 unfold ZG;refine V2 (aaq (YX (name:=Wk "__next__") hT Yj
  (Xu Yj hT aaK ?_ (aaB _))))
 refine V2 (V_ ?_);refine V2 ?_;refine V2 ?_
 first | refine V2 (Ye hT (V_ ?_)) | refine V2 (YK hT (V_ ?_))
 refine V2 (aah hit rfl ?_);have wQ:Xs "dict_itemiterator"=true:=by decide
 simp only[wQ,if_true];show wpAny _ _ (if (Wv d==W9)=true then _ else _) _ _ _;rw[acA (show¬((Wv d==W9)=true) from Wt)];refine V2 (V_ ?_);refine V2 (Xg wO jQ ?_);rw[acA (by simp)];refine V2 (V_ ?_);refine V2 (X_ wO jQ ?_);rw[acA (by simp)];refine V_ ?_;simp only[show¬((i:Int)<0) from by omega,if_false,Zw,hx];refine V2 ?_
 first | refine V2 (Ye hT (V_ ?_)) | refine V2 (YK hT (V_ ?_))
 refine V2 (ZS hT ?_);show wpAny _ _ (setField (.ref it) 3 (ZZ ((i:Int)+1))>>=_) _ _ ⟨hp,g,dr,tk,os⟩;refine V2 (YW hit (by simp) λh₁ NV Og=>?_)
 replace Og:Xo it hp h₁:=Og
 replace NV:Y6 h₁ it d (i+1) es.size ep ok ov:=by
  have e:((i+1:Nat):Int)=(i:Int)+1:=by omega
  unfold Y6;rw[e];simpa[ZZ] using NV
 have QS:Shared.TypeIs ⟨h₁,g,dr,tk,os⟩ (.ref it) "dict_itemiterator":=⟨_,NV,rfl⟩
 refine V2 (Yz ?_);refine V2 (ZS QS ?_);refine V2 (ZS QS ?_);show wpAny _ _ (Zr (.ref it) 6 e.key e.val) _ _ ⟨h₁,g,dr,tk,os⟩;unfold Zr;refine V2 (wpAny_newTuple ?_);have NW:Y6 (h₁.push {cls:= .type "tuple",data:= .seq #[e.key,e.val]}) it d (i+1) es.size ep ok ov:=V8 _ NV;generalize PY:h₁.push {cls:= .type "tuple",data:= .seq #[e.key,e.val]}=h₂ at NW;have P9:h₁.objs.size=hp.objs.size:=Og.1;have PZ:it<hp.objs.size:=Wl hit;have U6:h₂.get? hp.objs.size=some {cls:= .type "tuple",data:= .seq #[e.key,e.val]}:=by rw[<-PY,<-P9];exact Wm _ rfl
 have Vf:h₂.objs.size=hp.objs.size+1:=by rw[<-PY,Yd,P9]
 have UG:∀b o,b≠it->hp.get? b=some o->h₂.get? b=some o:=λb o hb e=>by rw[<-PY];exact V8 _ (Og.extBut b o hb e)
 show wpAny _ _ (Zf (.ref it)>>=_) _ _ ⟨h₂,g,dr,tk,os⟩;rw[P9];clear PY NV Og QS P9 h₁;refine V2 ?_;unfold Zf;refine V2 (abr NW rfl (x:= .none) rfl (V_ ?_));simp only[if_true];refine V2 (abr NW rfl (x:=ok) rfl ?_);refine V2 (abr NW rfl (x:=ov) rfl ?_);refine V2 (YW NW (by simp) λh₃ QX LM=>?_)
 replace LM:Xo it h₂ h₃:=LM
 replace QX:Y6 h₃ it d (i+1) es.size ep e.key ov:=QX
 refine V2 (YW QX (by simp) λh₄ QY Oh=>?_)
 replace Oh:Xo it h₃ h₄:=Oh
 replace QY:Y6 h₄ it d (i+1) es.size ep e.key e.val:=QY
 refine V2 (YW QY (by simp) λh₅ QZ Oi=>?_)
 replace Oi:Xo it h₄ h₅:=Oi
 replace QZ:acn h₅ it d (i+1) es.size ep e.key e.val hp.objs.size:=QZ
 refine V2 (YW QZ (by simp) λh₆ Q0 Oj=>?_)
 replace Oj:Xo it h₅ h₆:=Oj
 replace Q0:acn h₆ it d (i+1) es.size ep e.key e.val hp.objs.size:=Q0
 refine V2 (aaj (V_ (V_ ⟨_,rfl,V_ (hQ h₆ Q0 ?_ ?_ ?_)⟩)))
 ·exact Oj.extBut _ _ (XM PZ) (Oi.extBut _ _ (XM PZ) (Oh.extBut _ _ (XM PZ) (LM.extBut _ _ (XM PZ) U6)))
 ·show h₆.objs.size=hp.objs.size+1;rw[Oj.1,Oi.1,Oh.1,LM.1,Vf]
 ·exact λb o hb e=>Oj.extBut b o hb (Oi.extBut b o hb (Oh.extBut b o hb (LM.extBut b o hb (UG b o hb e))))
def DC{it d:Addr}{od:Obj}{es:Array Yb}{i ep:Nat}{ok ov:Value}{Q:Option Value->Wa->Prop}(hh:A.handled=none)(hit:Y6 s.heap it d i es.size ep ok ov)(Uv:es.size<=i)(wO:s.heap.get? d=some od)(jQ:od.data= .dict es ep)
 (hQ:∀h',ab6 it s.heap h'->Q none {s with heap:=h'}):wpAny (model prog w) A (ZG (.ref it)) Q E s:=by
 have hT:s.TypeIs (.ref it) "dict_itemiterator":=⟨_,hit,rfl⟩
 unfold ZG;refine V2 (aaq (YX (name:=Wk "__next__") hT Yj
  (Xu Yj hT aaK ?_ (aaB _))))
 refine V2 (V_ ?_);refine V2 ?_;refine V2 ?_
 first | refine V2 (Ye hT (V_ ?_)) | refine V2 (YK hT (V_ ?_))
 refine V2 (aah hit rfl ?_);have wQ:Xs "dict_itemiterator"=true:=by decide
 simp only[wQ,if_true];show wpAny _ _ (if (Wv d==W9)=true then _ else _) _ _ s;rw[acA (show¬((Wv d==W9)=true) from Wt)];refine V2 (V_ ?_);refine V2 (Xg wO jQ ?_);rw[acA (by simp)];refine V2 (V_ ?_);refine V2 (X_ wO jQ ?_);rw[acA (by simp)];refine V_ ?_;simp only[show¬((i:Int)<0) from by omega,if_false,Zw,abn Uv];refine V2 ?_
 first | refine V2 (Ye hT (V_ ?_)) | refine V2 (YK hT (V_ ?_))
 show wpAny _ _ (setField (.ref it) 2 .none>>=_) _ _ s;refine V2 (abI hit rfl (by simp) ?_);show wpAny _ _ (newExc (.type "StopIteration") []>>=_) _ _ _;refine V2 ?_;simp only[newExc,newTuple];refine V2 (XB ?_ (by size_fits));refine V2 (m:=abL _ _) (wpAny_of_eq (a:=W9) (by first | rfl | (simp only[abL];rfl)) ?_);refine XB ?_ (by size_fits);simp only[raiseNew];refine V2 (wpAny_handled ?_);rw[show A.in1.handled=none from hh];refine V2 (V_ (wpAny_throw ?_));refine V2 (abc (T:="StopIteration") (b:=true) ⟨_,Wm _ rfl,rfl⟩ isSubtype_stop ?_);exact V_ (hQ _ (((WS ..).extBut.push _).push _))
def uk:entryFor table "dict_itemiterator.__iter__"=some aa3.«dict_keyiterator.__iter__» :=entryFor_alias (id':="dict_keyiterator.__iter__") (by kernel_rfl) rfl (by decide+kernel) (by kernel_rfl)
def BP{it d:Addr}{i n ep:Nat}{ok ov:Value}{Q:Value->Wa->Prop}(hit:Y6 s.heap it d i n ep ok ov)(h:Q (.ref it) s):wpAny (model prog w) A (abZ (.ref it)) Q E s:=by
 have hT:s.TypeIs (.ref it) "dict_itemiterator":=⟨_,hit,rfl⟩
 refine aaO hT aa0 (Xu aa0 hT uk ?_ (F.args_dict_itemiterator_iter_1 _));show wpAny _ _ (ret (.ref it)) _ _ s;exact V_ ⟨_,rfl,"dict_itemiterator",_,hT,F.slot_dict_itemiterator_next.lookup,h⟩
end
def Sw(d:Addr)(od:Obj):It:=
 ⟨λi H=>∃aB,H d=some (.frz od (.dT aB))/\i<aB.length,λi H x H'=>∃p aB k v b,x= .ref p/\H p=none/\H d=some (.frz od (.dT aB))/\aB[i]? =some (k,v)/\H b=some (.tup (k.map kV))/\H'=upd H p (.tup [.ref b,v]),
  λi H=>∃aB,H d=some (.frz od (.dT aB))/\aB.length<=i⟩
def ot{X:Cx}{f8:List (Addr×Obj)}{σ:St}{H:Hp}{s:Wa}{d:Addr}{od:Obj}{aB:List (List Key×V)}(I:Inv X f8 σ H s)(h:H d=some (.frz od (.dT aB))):
 ∃es ep,(d==Xq)=false/\s.heap.get? d=some od/\od.ExactDict/\od.data= .dict es ep/\es.size=aB.length/\∀(i:Nat) (k:List Key) (v:V),aB[i]? =some (k,v)->∃(e:Yb) (b:Addr),es[i]? =some e/\e.key= .ref b/\H b=some (.tup (k.map kV))/\RelV v e.val:=by
 obtain⟨ho,z,lo,xs,rel,o,es,ep,h1,h2,h3,h4,h5⟩:=(show ObjOk X.prog X.w H s.heap d (.frz od (.dT aB)) from I.hok d _ h)
 rw[ho] at h1;cases h1;have hl:es.size=aB.length:=by
  rw[<-Wu,h4,V4];exact(XW rel).symm
 refine⟨es,ep,lo,ho,h2,h3,hl,λi k v hi=>?_⟩;obtain⟨q,e1,e2,e3,e4⟩:=jq rel hi;refine⟨aaS (Ym (bq X.prog X.w)) q,q.2.1,?_,rfl,e3,e4⟩;rw[<-Xx,h4,Wb,e1];rfl
def BZ{P:Wz}{w:World}{K:V9}{ts:List Expr}{x1}{tp:Pos}(d it:Addr)(od:Obj)(es:Array Yb)(ep:Nat)(jQ:od.data= .dict es ep):
 Turn P w K (.Tuple ts x1 tp) (Sw d od) [it] it (λi h=>∃ok ov,Y6 h it d i es.size ep ok ov) where
 mem:=by simp
 obj:=λi h ⟨ok,ov,st⟩ b hb=>by
  have e:b=it:=by simpa using hb
  subst e;exact⟨_,st,λv z=>nomatch z⟩
 keep:=λi h h' ⟨ok,ov,st⟩ k=>⟨ok,ov,k it (by simp) _ st⟩
 item:=by
  intro X hP hw hK hc i f8 s σ H E I hf st hg;subst hP hw hK;obtain⟨ok,ov,st⟩:=st;obtain⟨aB,e,hi⟩:=hg;obtain⟨Ky,Fx,lo,ho,hx,qG,hsz,hk⟩:=ot I e;rw[jQ] at qG;cases qG;obtain⟨en,b,e1,e2,e3,e4⟩:=hk i aB[i].1 aB[i].2 (V5 hi);refine next_item st ho jQ e1 λh1 k1 k2 k3 k4=>?_;refine⟨_,rfl,wpAny_letOwnedTupleGo_items k1 λh2 m1 m2=>?_⟩;have gk:s.heap.objs.size≠it:=XM (Wl st);have MN:h2.get? s.heap.objs.size=some {cls:= .type "tuple",data:= .seq #[en.key,en.val]}:=(m2.2 _ gk).trans k2;have keep:∀b q,b∉[it]->s.heap.get? b=some q->h2.get? b=some q:=λb q hb e1=>by
   have H8:b≠it:=λz=>hb (by simp[z]);exact(m2.2 b H8).trans (k4 b q H8 e1)
  have I2:Inv X f8 σ (upd H s.heap.objs.size (.tup [.ref b,aB[i].2])) {s with heap:=h2,toks:=s.toks}:=by
   refine Inv.turnedLaid (s:=s) I keep hf (Wj _) ⟨?_,[en.key,en.val], .cons (by rw[e2];rfl) (.cons e4 .nil),_,MN,rfl,_,rfl⟩;rw[Yi];show 2<=_;decide
  refine⟨.ref s.heap.objs.size,_,I2,rfl,⟨_,aB,aB[i].1,aB[i].2,b,rfl,I.hok.fresh (Wj _),e,V5 hi,e3,rfl⟩,⟨_,_,m1⟩,λc hc=>?_⟩;rw[az (λz=>by
   have hc:c=it:=by simpa using hc
   exact gk (z▸hc).symm.symm)]
  exact(hf c hc).1
 done:=by
  intro X hP hw hK hc i f8 s σ H E I hf st hg;subst hP hw hK;obtain⟨ok,ov,st⟩:=st;obtain⟨aB,e,hi⟩:=hg;obtain⟨Ky,Fx,lo,ho,hx,qG,hsz,hk⟩:=ot I e;rw[jQ] at qG;cases qG;obtain⟨f0,f1,f2,f3,f4,f5⟩:=hf it (by simp);exact DC (I.ok.hd hc) st (by omega) ho jQ λh' eb=>⟨rfl,I.turned (t':=s.toks) (λb o hb e=>eb b o hb e) f0 f1 f3 f4 f5⟩
 self:=λ_ _ _ _ _ ⟨_,_,st⟩ h=>BP st h
def oB:D->M (List D)
 | .dct ks ds=>if ks.all (λk=>decide (k.length<=lim)&&k.all lW) then aa ((ks.zip ds).map λq=> .tup [tupK q.1,q.2]) else af
 |_=>af
def zip_get{α β:Type}{a:List α}{b:List β}{i:Nat}{x:α}{y:β}(h:(a.zip b)[i]? =some (x,y)):a[i]? =some x/\b[i]? =some y:=aa_.mp h
def DU{K:V9}{F:Hp}{a:Addr}{ob:Obj}{ks:List (List Key)}{ds:List D}{vs:List V}(hF:F a=some (.frz ob (.dT (ks.zip vs))))(hd:DenL K F ds vs)(hl:ks.length=ds.length)(hok:ks.all (λk=>decide (k.length<=lim)&&k.all lW)=true):ItD K F (Sw a ob) ((ks.zip ds).map λq=> .tup [tupK q.1,q.2]):=λF' H' i s1 s2=>by
 have hh:=s2 _ _ (s1 _ _ hF);have VW:=hd.len;have l1:(ks.zip ds).length=ks.length:=by rw[Zd];omega
 have l2:(ks.zip vs).length=ks.length:=by rw[Zd];omega
 refine⟨λd e=>?_,λhle=>⟨_,hh,by rw[V4,l1] at hle;omega⟩⟩;rw[Wb] at e;cases q:(ks.zip ds)[i]? with
 |none=>rw[q] at e;cases e
 |some kd=>
  rw[q] at e;cases e;obtain⟨q1,q2⟩:=zip_get (x:=kd.1) (y:=kd.2) q;have hi:=(We.mp q1).1;refine⟨⟨_,hh,by rw[l2];exact hi⟩,λx H'' ⟨p,aB,k,v,b,y1,y2,y3,y4,y5,y6⟩=>?_⟩;subst y1 y6;rw[hh] at y3;cases y3;obtain⟨z1,z2⟩:=zip_get y4;rw[q1] at z1;cases z1;obtain⟨v',e1,dv⟩:=hd.get q2;rw[z2] at e1;cases e1;have hk:=WT.mp hok kd.1 (Xb q1);rw[WU] at hk;have E1:=Ext.tup (F:=F') s2 y5;have E2:=Ext.lay (o:= .tup [.ref b,v]) E1.fh y2;refine⟨_,E1.trans E2,p,_,rfl,aH, .cons ⟨b,_,rfl,?_,oE hk.2,by rw[V4];exact acF hk.1⟩ (.cons (Den.mono (E1.trans E2).ff (Den.mono s1 dv)) .nil),by show 2<=lim;decide⟩;exact E2.ff _ _ aH
section
variable{X:Cx}{Xw:Nat->Hp->Prop}{o:Expr}{ts:List Expr}{δ:DE}{tp u8 aY:Pos}{x1:Nat}
def Er(h:PD X Xw o δ)(dY:WR o "items" X.env (eval o X.env)=eval o X.env:=by rfl)(dZ:(u8.endLine==aY.line)=true:=by rfl):yz X Xw (.Tuple ts x1 tp) (.Call (.Attribute o "items" u8) [] [] aY) (λρ=>δ ρ>>=oB):=by
 intro f8 s σ H R I ⟨F,ρ,S,w⟩;refine ab8 dY dZ (ck (h f8 s σ H (λv H1=>∃F1 d,Ext F H F1 H1/\Den X.K F1 d v/\WPI X.K Xw F1 H1 (oB d) R) I ⟨F,ρ,S,WPI.bind w⟩) λu s1 ⟨v,H1,I1,r1,F1,d,e1,q1,w1⟩=>?_);unfold oB at w1;split at w1
 ·rename_i ks ds;split at w1
  ·rename_i hok;obtain⟨a,ob,vs,rfl,h2,h3,h4,h5⟩:=q1;cases (show u=_ from r1);obtain⟨es,ep,lo,ho,hx,hd,hsz,hk⟩:=ot I1 (e1.fh _ _ h2);refine⟨"dict","dict.items",YG,PySem.F.slot_dict_items,PySem.F.type_dict_items,⟨ob,ho,hx.1⟩,?_,?_⟩
   ·rintro _ ⟨⟩;exact⟨ob,ho,hx.2.1⟩
   ·refine XQ rfl (abN ?_);refine B2 lo ho hx hd ?_;refine A8 ⟨_,Wm _ rfl,rfl,rfl⟩ (V8 _ ho) hd ?_;refine⟨_,[_],_,_,H1,rfl,I1.kept (t':=s1.toks) λb o e=>V8 _ (V8 _ e),BZ a _ ob es ep hd,⟨_,_,Wm _ rfl⟩,λb hb=>?_,w1 _ _ _ (Ext.refl e1.fh) (DU h2 h3 h4 hok)⟩;have e:b=(s1.heap.push {cls:= .type "dict_items",data:= .fields #[.ref a]}).objs.size:=by simpa using hb
    subst e;exact I1.fpOk (by rw[Yd];exact Z5 _) (I1.hok.fresh (by rw[Yd];exact Z5 _))
  ·exact w1.elim
 ·exact w1.elim
end
section
variable{X:Cx}{Xw:Nat->Hp->Prop}{a b:Expr}{δa δb:DE}{pos:Pos}
def Mu(ha:PD X Xw a δa)(hb:PD X Xw b δb)(hm:Xh .In b=false:=by rfl):qA X Xw (.Compare a [.In] [b] pos) (da (d2 (A0 false) δa δb)):=gp Eg FZ ha hb hm
end
end L3
namespace L3
open PySem PySem.Spec L2 HT
open PyProof.Rows hiding St
end L3
namespace L3
open PySem PySem.Spec L2 SeqAt HT
open PyProof.Rows hiding St
abbrev Sx:=List (Key×List Key)
def Kp(ρ:bb):Bool:=ρ.all λx=>match x with | some (.ow _)=>false | some (.ob _ _)=>false | _=>true
structure Nr (K:V9) (t0 acI G F H:Hp) (σ:St) (ρ:bb) (ni:Nat) (a:Addr) (bs:List Addr) (ps:Sx):Prop where
 ext:Ext t0 acI F H
 gf:Same G F
 st:StE K F H σ ρ
 len:ρ.length=σ.length
 near:σ[ni]? =some (some (.ref a))
 ha:H a=some (.dK ((ps.map (·.1)).zip (bs.map V.ref)))
 hb:∀(i:Nat) (b:Addr) (p:Key×List Key),bs[i]? =some b->ps[i]? =some p->H b=some (.dK (p.2.map λk=>(k,V.bl true)))
 sz:bs.length=ps.length
 nd:(a::bs).Nodup
 fr:∀b∈a::bs,F b=none/\acI b=none
 fz:Kp ρ=true
section
variable{K:V9}{t0 acI G F H:Hp}{σ:St}{ρ:bb}{ni:Nat}{a:Addr}{bs:List Addr}{ps:Sx}
def Nr.at(n:Nr K t0 acI G F H σ ρ ni a bs ps){b:Addr}(hb:b∈a::bs):∃aB,H b=some (.dK aB):=by
 rcases Wc.mp hb with rfl | hb
 ·exact⟨_,n.ha⟩
 ·obtain⟨i,hi,rfl⟩:=XO hb;exact⟨_,n.hb i _ (ps[i]'(by rw[<-n.sz];exact hi)) (V5 hi) (V5 _)⟩
end
end L3
namespace L3
open PySem PySem.SetTable
def tM(m:Nat):SetTable:={mask:=m,place:= #[],dummies:= #[],finger:=0,led:=false,moves:=0,plain:=true}
def pos(m:Nat)(h:Int)(n:Nat):Nat:=(Sz (tM m) n ((tM m).probeStart h)).j
def Qv(m:Nat)(Z:List (Nat×Int)):Prop:=∀x∈Z,∃n,n<10*turns m/\pos m x.2 n=x.1/\∀n',n'<n->∃h',(pos m x.2 n',h')∈Z
def Vq(t:SetTable)(es:Array (Int×Value)):List (Nat×Int):=t.place.toList.zip (es.toList.map (·.1))
def SetR(ld:Bool)(h:Heap)(a:Addr)(xs:List (Int×Value)):Prop:=∃o es ep t,h.get? a=some o/\o.ExactSet/\o.data= .set es ep t/\es.toList.Perm xs/\TabOk t es.size ld/\Qv t.mask (Vq t es)
def SetR.set:SetR ld h a xs->SetH ld h a xs:=λ⟨o,es,ep,t,a1,a2,a3,a4,a5,_⟩=>⟨o,es,ep,t,a1,a2,a3,a4,a5⟩
def SetR.at(x:SetR ld h a xs)(e:∀o,h.get? a=some o->h'.get? a=some o):SetR ld h' a xs:=
 let ⟨o,es,ep,t,ho,r⟩:=x
 ⟨o,es,ep,t,e o ho,r⟩
end L3
namespace L3
open PySem PySem.Spec L2 SeqAt HT
open PyProof.Rows hiding St
end L3
namespace L3
open PySem PySem.Spec L2 PySem.W
open PyProof.Rows hiding St
def Prs(es:Array Yb)(lo:Addr)(h:Heap)(n:Nat)(as:List Addr):Prop:=as.length=n/\as.Nodup/\∀(j:Nat) (a:Addr),as[j]? =some a->lo<a/\∃e,es[j]? =some e/\h.get? a=some {cls:= .type "tuple",data:= .seq #[e.key,e.val]}
def Prs.keep{es:Array Yb}{lo Tq:Addr}{h h':Heap}{n:Nat}{as:List Addr}(p:Prs es lo h n as)(hl:Tq<=lo)(hk:∀b o,lo<b->h.get? b=some o->h'.get? b=some o):Prs es Tq h' n as:=⟨p.1,p.2.1,λj a hj=>by
 obtain⟨h1,e,h2,h3⟩:=p.2.2 j a hj;exact⟨Zj hl h1,e,h2,hk a _ h1 h3⟩⟩
end L3
namespace L3
open PySem PySem.Spec L2 PySem.W SeqAt
open PyProof.Rows hiding St
end L3
namespace L3
open PySem PySem.W PyProof.Rows
end L3
namespace L3
open PySem PySem.Spec L2 PySem.W SeqAt
open PyProof.Rows hiding St
end L3
namespace L3
open PySem PySem.Spec L2 SeqAt HT
open PyProof.Rows hiding St
def LL(acI F H:Hp)(D:Addr)(bs:List Addr):Prop:=H D=some (.lst (bs.map V.ref))/\(∀b∈bs,H b=some (.lst []))/\(D::bs).Nodup/\∀b∈D::bs,F b=none/\acI b=none
section
variable{acI F H F' H':Hp}{D:Addr}{bs:List Addr}
def LL.at(l:LL acI F H D bs){b:Addr}(hb:b∈D::bs):∃xs,H b=some (.lst xs):=(Wc.mp hb).elim (λz=>z▸⟨_,l.1⟩) λz=>⟨_,l.2.1 b z⟩
def LL.ext(l:LL acI F H D bs)(e:Ext F H F' H'):LL acI F' H' D bs:=⟨e.hh _ _ l.1,λb hb=>e.hh _ _ (l.2.1 b hb),l.2.2.1,λb hb=>by
 obtain⟨xs,hx⟩:=l.at hb;exact⟨by rw[e.old hx λts z=>nomatch z];exact(l.2.2.2 b hb).1,(l.2.2.2 b hb).2⟩⟩
end
structure Nl (K:V9) (t0 acI G F H:Hp) (σ:St) (ρ:bb) (ni:Nat) (a:Addr) (bs:List Addr) (ps:List (List Int)):Prop where
 ext:Ext t0 acI F H
 gf:Same G F
 st:StE K F H σ ρ
 len:ρ.length=σ.length
 near:σ[ni]? =some (some (.ref a))
 ha:H a=some (.lst (bs.map V.ref))
 hb:∀(i:Nat) (b:Addr) (p:List Int),bs[i]? =some b->ps[i]? =some p->H b=some (.lst (p.map V.int))
 sz:bs.length=ps.length
 nd:(a::bs).Nodup
 fr:∀b∈a::bs,F b=none/\acI b=none
 fz:Kp ρ=true
section
variable{K:V9}{t0 acI G F H:Hp}{σ:St}{ρ:bb}{ni:Nat}{a:Addr}{bs:List Addr}{ps:List (List Int)}
def Nl.at(n:Nl K t0 acI G F H σ ρ ni a bs ps){b:Addr}(hb:b∈a::bs):∃xs,H b=some (.lst xs):=by
 rcases Wc.mp hb with rfl | hb
 ·exact⟨_,n.ha⟩
 ·obtain⟨i,hi,rfl⟩:=XO hb;exact⟨_,n.hb i _ (ps[i]'(by rw[<-n.sz];exact hi)) (V5 hi) (V5 _)⟩
end
end L3
namespace L3
open PySem PySem.Spec L2
open PyProof.Rows hiding St
structure StX (K:V9) (t0 acI F H:Hp) (σ:St) (ρ:bb):Prop where
 ok:StOk K t0 acI F H σ ρ
 obn:∀(i:Nat) (a:Addr) (o:Ob) (b:Addr),ρ[i]? =some (some (.ob a o))->b∈bg H o a->acI b=none
section
variable{K:V9}{t0 acI F H F' H':Hp}{σ:St}{ρ:bb}
def StX.den(s:StX K t0 acI F H σ ρ){i:Nat}{sl:Sl}(h:ρ[i]? =some (some sl)):∃v,σ[i]? =some (some v)/\DenO K F H sl v:=s.ok.st.den i sl h
def StX.at(s:StX K t0 acI F H σ ρ){i:Nat}{a:Addr}{o:Ob}(h:ρ[i]? =some (some (.ob a o))):σ[i]? =some (some (.ref a))/\ObAt K F H o a:=by
 obtain⟨v,h1,h2,h3⟩:=s.den h;exact⟨by rw[h1,h2],h3⟩
def StX.ext'(s:StX K t0 acI F H σ ρ)(e:Ext F H F' H'):StX K t0 acI F' H' σ ρ:=⟨s.ok.ext' e,λi a o b h hb=>by
 have h2:=(s.at h).2;have:bg H' o a=bg H o a:=(DenO.ext' (K:=K) (sl:= .ob a o) (v:= .ref a) e ⟨rfl,h2⟩).2;exact s.obn i a o b h (this▸hb)⟩
def StX.tail(s:StX K t0 acI F H (x::σ) (y::ρ)):StX K t0 acI F H σ ρ:=
 ⟨⟨s.ok.ext,⟨s.ok.st.fh,λi sl h=>let ⟨v,h1,h2⟩:=s.ok.st.den (i+1) sl (by simpa using h);⟨v,by simpa using h1,h2⟩⟩,by have:=s.ok.len;simpa using this,
  λi c a h1 h2=>s.ok.own (i+1) c a (by simpa using h1) (by simpa using h2),λi j sl mN v v' b h1 h2 h3 h4 h5 h6=>Nat.succ.inj (s.ok.sep (i+1) (j+1) sl mN v v' b (by simpa using h1) (by simpa using h2) (by simpa using h3) (by simpa using h4) h5 h6)⟩,
  λi a o b h hb=>s.obn (i+1) a o b (by simpa using h) hb⟩
def StX.cons(s:StX K t0 acI F H σ ρ){d:D}{v:V}(h:Den K F d v):StX K t0 acI F H (some v::σ) (some (.fz d)::ρ):=by
 refine⟨⟨s.ok.ext,⟨s.ok.st.fh,λi sl e=>?_⟩,by simp[s.ok.len],λi c a e e'=>?_,λi j sl mN u u' b e1 e2 e3 e4 h5 h6=>?_⟩,λi a o b e hb=>?_⟩
 ·cases i with
  |zero=>cases e;exact⟨v,rfl,h⟩
  |succ i=>obtain⟨u,h1,h2⟩:=s.ok.st.den i sl (by simpa using e);exact⟨u,by simpa using h1,h2⟩
 ·cases i with
  |zero=>cases e
  |succ i=>exact s.ok.own i c a (by simpa using e) (by simpa using e')
 ·cases i with
  |zero=>cases e1;cases h5
  |succ i=>
   cases j with
   |zero=>cases e2;cases h6
   |succ j=>exact acH _ (s.ok.sep i j sl mN u u' b (by simpa using e1) (by simpa using e2) (by simpa using e3) (by simpa using e4) h5 h6)
 ·cases i with
  |zero=>cases e
  |succ i=>exact s.obn i a o b (by simpa using e) hb
def StX.store(s:StX K t0 acI F H (some v::σ) (some r::ρ))(i:Nat):StX K t0 acI F H (σ.set i (some v)) (ρ.set i (some r)):=by
 have t:=s.tail;have hd:DenO K F H r v:=by
  obtain⟨u,h1,h2⟩:=s.ok.st.den 0 r rfl;cases h1;exact h2
 refine⟨t.ok.put hd t.ok.ext (Same.refl _) (λj sl u hj h1 h2 b hb=>⟨rfl,((t.ok.foot h1 h2).cell b hb).1,λq=>?_⟩) λc b h1 h2=>s.ok.own 0 c b (by rw[h1];rfl) (by rw[h2];rfl),λj a o b e hb=>?_⟩
 ·have:=s.ok.sep 0 (j+1) r sl v u b rfl (by simpa using h1) rfl (by simpa using h2) q hb;cases this
 ·by_cases hj:j=i
  ·subst hj;have hi:j<ρ.length:=by
    have:=(We.mp e).1;simpa using this
   rw[WQ hi] at e;cases e;exact s.obn 0 a o b rfl hb
  ·rw[W0 (XR hj)] at e;exact t.obn j a o b e hb
end
inductive OE where
 |val (r:Sl) (ρ:bb) | ex (n:Nat) (ρ:bb)
inductive TX where
 |val (b:Bool) (ρ:bb) | ex (n:Nat) (ρ:bb)
inductive OX where
 |nx (ρ:bb) | rt (r:Sl) (ρ:bb) | ex (n:Nat) (ρ:bb)
structure XF (α:Type) where
 f:bb->(α->Prop)->Prop
 mono:∀ρ P Q,(∀x,P x->Q x)->f ρ P->f ρ Q
abbrev XE:=XF OE
abbrev XT:=XF TX
abbrev XS:=XF OX
def u0(K:V9)(Xw:Nat->Hp->Prop)(t0 acI:Hp)(σ:St)(Q:VK):OE->Prop
 | .val r ρ=>∀v F H,StX K t0 acI F H (some v::σ) (some r::ρ)->Q v H
 | .ex n ρ=>∀F H,StX K t0 acI F H σ ρ->Xw n H
def Ft(K:V9)(Xw:Nat->Hp->Prop)(t0 acI:Hp)(σ:St)(Q:Bool->Hp->Prop):TX->Prop
 | .val b ρ=>∀F H,StX K t0 acI F H σ ρ->Q b H
 | .ex n ρ=>∀F H,StX K t0 acI F H σ ρ->Xw n H
def fE(K:V9)(Xw:Nat->Hp->Prop)(t0 acI:Hp)(Dn:Ends):OX->Prop
 | .nx ρ=>∀σ F H,StX K t0 acI F H σ ρ->Dn.nx σ H
 | .rt r ρ=>∀v σ F H,StX K t0 acI F H (some v::σ) (some r::ρ)->Dn.rt v H
 | .ex n ρ=>∀σ F H,StX K t0 acI F H σ ρ->Xw n H
def tX(K:V9)(Xw:Nat->Hp->Prop)(t0 acI:Hp)(χ:XE):TE:=λσ H Q=>∃F ρ,StX K t0 acI F H σ ρ/\χ.f ρ (u0 K Xw t0 acI σ Q)
def VC(K:V9)(Xw:Nat->Hp->Prop)(t0 acI:Hp)(χ:XT):TT:=λσ H Q=>∃F ρ,StX K t0 acI F H σ ρ/\χ.f ρ (Ft K Xw t0 acI σ Q)
def Sj(K:V9)(Xw:Nat->Hp->Prop)(t0 acI:Hp)(τ:XS):TS:=λDn σ H=>∃F ρ,StX K t0 acI F H σ ρ/\τ.f ρ (fE K Xw t0 acI Dn)
def PX(X:Cx)(Xw:Nat->Hp->Prop)(e:Expr)(χ:XE):Prop:=∀t0 acI,PE X e (tX X.K Xw t0 acI χ)
def Qu(X:Cx)(Xw:Nat->Hp->Prop)(e:Expr)(χ:XT):Prop:=∀t0 acI,PT X e (VC X.K Xw t0 acI χ)
def Au(X:Cx)(Xw:Nat->Hp->Prop)(st:Stmt)(τ:XS):Prop:=∀t0 acI,PS X st (Sj X.K Xw t0 acI τ)
def PXSs(X:Cx)(Xw:Nat->Hp->Prop)(st:List Stmt)(τ:XS):Prop:=∀t0 acI,PSs X st (Sj X.K Xw t0 acI τ)
def qz(i:Nat)(χ:XE):XS:=⟨λρ Q=>χ.f ρ λx=>match x with | .val r ρ'=>Q (.nx (ρ'.set i (some r))) | .ex n ρ'=>Q (.ex n ρ'),λρ P Q k h=>χ.mono ρ _ _ (λx hx=>by cases x<;>exact k _ hx) h⟩
def Kk(χ:XE):XS:=⟨λρ Q=>χ.f ρ λx=>match x with | .val _ ρ'=>Q (.nx ρ') | .ex n ρ'=>Q (.ex n ρ'),λρ P Q k h=>χ.mono ρ _ _ (λx hx=>by cases x<;>exact k _ hx) h⟩
def HY(χ:XE):XS:=⟨λρ Q=>χ.f ρ λx=>match x with | .val r ρ'=>Q (.rt r ρ') | .ex n ρ'=>Q (.ex n ρ'),λρ P Q k h=>χ.mono ρ _ _ (λx hx=>by cases x<;>exact k _ hx) h⟩
def cj(a b:XS):XS:=⟨λρ Q=>a.f ρ λx=>match x with | .nx ρ'=>b.f ρ' Q | x=>Q x,λρ P Q k h=>a.mono ρ _ _ (λx hx=>by
 cases x with
 |nx ρ'=>exact b.mono ρ' _ _ k hx
 |rt r ρ'=>exact k _ hx
 |ex n ρ'=>exact k _ hx) h⟩
def Pq(c:XT)(a b:XS):XS:=⟨λρ Q=>c.f ρ λx=>match x with | .val t ρ'=>if t then a.f ρ' Q else b.f ρ' Q | .ex n ρ'=>Q (.ex n ρ'),λρ P Q k h=>c.mono ρ _ _ (λx hx=>by
 cases x with
 |val t ρ'=>
  cases t
  ·exact b.mono ρ' _ _ k hx
  ·exact a.mono ρ' _ _ k hx
 |ex n ρ'=>exact k _ hx) h⟩
def yl(δ:DT):XT:=⟨λρ Q=>match δ ρ with | none=>False | some (.ok b)=>Q (.val b ρ) | some (.ex n)=>Q (.ex n ρ),λρ P Q k h=>by
 match δ ρ,h with
 |some (.ok d),h=>exact k _ h
 |some (.ex n),h=>exact k _ h⟩
section
variable{X:Cx}{Xw:Nat->Hp->Prop}{st:Stmt}{W1:List Stmt}{τ τ':XS}{e:Expr}{χ:XE}{δ:DE}{pos pos':Pos}
def nW{x:Str}{i:Nat}(hN:X.N.Nodup)(hi:X.N[i]? =some x)(hx:Loc X.env.scope x)(he:PX X Xw e χ)(hf:X.fn x=true\/X.env.scope.names.lookup x=some .local:=by first | exact .inl rfl | exact .inr rfl)
 (hs:aas [.Name x pos'] e pos.line X.env=pure false:=by rfl):Au X Xw (.Assign [.Name x pos'] e pos) (qz i χ):=λt0 acI=>PS.weak (sW (he t0 acI) (bI hN hi hx hf) hs) λD σ H ⟨F,ρ,s,w⟩=>
 ⟨F,ρ,s,χ.mono ρ _ _ (λx hx=>by
  cases x with
  |val r ρ'=>exact λv F' H' st=>hx _ F' H' (st.store i)
  |ex n ρ'=>exact λF' H' st=>hx σ F' H' st) w⟩
def JW(he:PX X Xw e χ)(hs:Yn e none pos.line X.env=pure false:=by rfl):Au X Xw (.Expr e pos) (Kk χ):=λt0 acI=>PS.weak (ju (he t0 acI) hs) λD σ H ⟨F,ρ,s,w⟩=>
 ⟨F,ρ,s,χ.mono ρ _ _ (λx hx=>by
  cases x with
  |val r ρ'=>exact λv F' H' st=>hx _ F' H' st.tail
  |ex n ρ'=>exact λF' H' st=>hx σ F' H' st) w⟩
def xQ(he:PX X Xw e χ):Au X Xw (.Return (some e) pos) (HY χ):=λt0 acI=>PS.weak (xN (he t0 acI)) λD σ H ⟨F,ρ,s,w⟩=>
 ⟨F,ρ,s,χ.mono ρ _ _ (λx hx=>by
  cases x with
  |val r ρ'=>exact λv F' H' st=>hx v σ F' H' st
  |ex n ρ'=>exact λF' H' st=>hx σ F' H' st) w⟩
def aS(h1:Au X Xw st τ)(h2:PXSs X Xw W1 τ'):PXSs X Xw (st::W1) (cj τ τ'):=λt0 acI=>PSs.weak (sX (h1 t0 acI) (h2 t0 acI)) λD σ H ⟨F,ρ,s,w⟩=>
 ⟨F,ρ,s,τ.mono ρ _ _ (λx hx=>by
  cases x with
  |nx ρ'=>exact λσ' F' H' st=>⟨F',ρ',st,hx⟩
  |rt r ρ'=>exact hx
  |ex n ρ'=>exact hx) w⟩
def ek(h1:Au X Xw st τ):PXSs X Xw [st] τ:=λt0 acI=>qM (h1 t0 acI)
def zT{c:Expr}{δ:DT}(h:qA X Xw c δ):Qu X Xw c (yl δ):=λt0 acI=>λf8 sh σ H Q I ⟨F,ρ,s,w⟩=>by
 refine h f8 sh σ H Q I ⟨F,ρ,s.ok.st,?_⟩;have w:(match δ ρ with | none=>False | some (.ok d)=>Ft X.K Xw t0 acI σ Q (.val d ρ) | some (.ex n)=>Ft X.K Xw t0 acI σ Q (.ex n ρ)):=w
 match δ ρ,w with
 |some (.ok d),w=>exact λH' F' e=>w F' H' (s.ext' e)
 |some (.ex n),w=>exact λF' H' e=>w F' H' (s.ext' e)
def Mz{c:Expr}{a b:List Stmt}{tc:XT}(hc:Qu X Xw c tc)(ha:PXSs X Xw a τ)(hb:PXSs X Xw b τ'):Au X Xw (.If c a b pos) (Pq tc τ τ'):=λt0 acI=>PS.weak (K3 (hc t0 acI) (ha t0 acI) (hb t0 acI)) λD σ H ⟨F,ρ,s,w⟩=>
 ⟨F,ρ,s,tc.mono ρ _ _ (λx hx=>by
  cases x with
  |val t ρ'=>
   cases t
   ·exact λF' H' st=>⟨F',ρ',st,hx⟩
   ·exact λF' H' st=>⟨F',ρ',st,hx⟩
  |ex n ρ'=>exact λF' H' st=>hx σ F' H' st) w⟩
end
inductive ObK:bb->bb->Prop where
 |nil:ObK ρ []
 |cons (h:y=x\/∀a o,y≠some (Sl.ob a o)) (t:ObK ρ ρ'):ObK (x::ρ) (y::ρ')
def ObK.at:∀{ρ ρ':bb},ObK ρ ρ'->∀(i:Nat) (a:Addr) (o:Ob),ρ'[i]? =some (some (.ob a o))->ρ[i]? =some (some (.ob a o))
 |_,_, .nil,i,a,o,e=>by simp at e
 |x::_,y::_, .cons h t,0,a,o,e=>by
  have e:y=some (Sl.ob a o):=by simpa using e
  rcases h with h | h
  ·rw[<-h,e];rfl
  ·exact acC e (h a o)
 |_,_, .cons h t,i+1,a,o,e=>by
  have:=t.at i a o (by simpa using e);simpa using this
def kS:Option Sl->Option Sl
 |some (.ow _)=>none
 |x=>x
def kO(ρ:bb):bb:=ρ.map kS
def vj{ρ:bb}{i:Nat}{sl:Sl}(h:(kO ρ)[i]? =some (some sl)):ρ[i]? =some (some sl)/\∀c,sl≠ .ow c:=by
 unfold kO at h;rw[Wb] at h;cases q:ρ[i]? with
 |none=>rw[q] at h;cases h
 |some x=>
  rw[q] at h;cases x with
  |none=>cases h
  |some y=>
   cases y with
   |fz d=>cases h;exact⟨rfl,λc z=>nomatch z⟩
   |ow c=>cases h
   |ob a o=>cases h;exact⟨rfl,λc z=>nomatch z⟩
def dm(τ:DS):XS:=⟨λρ Q=>match τ ρ with | none=>False | some (.ok (.nx ρ'))=>ObK ρ ρ'/\Q (.nx ρ') | some (.ok (.rt d))=>Q (.rt (.fz d) (kO ρ)) | some (.ex n)=>Q (.ex n (kO ρ)),λρ P Q k h=>by
 match τ ρ,h with
 |some (.ok (.nx ρ')),h=>exact⟨h.1,k _ h.2⟩
 |some (.ok (.rt d)),h=>exact k _ h
 |some (.ex n),h=>exact k _ h⟩
section
variable{K:V9}{t0 acI F H F' H':Hp}{σ:St}{ρ:bb}
def qP(ρ:bb)(H:Hp)(b:Addr):Prop:=∃(i:Nat) (a:Addr) (o:Ob),ρ[i]? =some (some (.ob a o))/\b∈bg H o a
open Classical in
noncomputable def gg(F acI H:Hp)(ρ:bb):Hp:=λb=>if qP ρ H b then H b else join F acI b
open Classical in
def StX.base(s:StX K t0 acI F H σ ρ):StOk K F (gg F acI H ρ) F H σ ρ/\Same acI (gg F acI H ρ)/\(∀F' H',Ext F (gg F acI H ρ) F' H'->Ext t0 acI F' H')/\∀F' H',Ext F (gg F acI H ρ) F' H'->∀(i:Nat) (a:Addr) (o:Ob),ρ[i]? =some (some (.ob a o))->ObAt K F' H' o a/\bg H' o a=bg H o a:=by
 obtain⟨s1,back⟩:=s.ok.rebase;have hj:=oC s.ok;have h0:Same acI (gg F acI H ρ):=λb u e=>by
  unfold gg;rw[acA (λ⟨i,a,o,h1,h2⟩=>by rw[s.obn i a o b h1 h2] at e;cases e)];exact hj b u e
 have cl:∀b,qP ρ H b->F b=none/\∃u,H b=some u/\∀ts,u≠ .tup ts:=λb ⟨i,a,o,h1,h2⟩=>⟨(s.at h1).2.nf b h2,(s.at h1).2.cell b h2⟩
 have sub:Same (join F acI) (gg F acI H ρ):=λb u e=>by
  unfold gg;by_cases q:qP ρ H b
  ·rw[acz q];exact s1.ext.hh b u e
  ·rw[acA q];exact e
 refine⟨⟨⟨λb u e=>?_,Same.refl _,s.ok.st.fh,λ_ _=> .inl rfl⟩,s.ok.st,s.ok.len,λi c a e e'=>?_,s.ok.sep⟩,h0,λF' H' x=>back F' H' ⟨sub.trans x.hh,x.ff,x.fh,λb hb=>?_⟩,λF' H' x i a o h=>?_⟩
 ·unfold gg at e;by_cases q:qP ρ H b
  ·rw[acz q] at e;exact e
  ·rw[acA q] at e;exact s1.ext.hh b u e
 ·unfold gg;rw[acA (λ⟨j,a',o,h1,h2⟩=>by
   have:=s.ok.sep i j (.ow c) (.ob a' o) (.ref a) (.ref a') a e h1 e' (s.at h1).1 (Wo.mpr rfl) h2;subst this;rw[e] at h1;cases h1)]
  exact s1.own i c a e e'
 ·have wL:gg F acI H ρ b≠none:=by
   cases q:join F acI b with
   |none=>exact acC q hb
   |some u=>rw[sub b u q];exact λz=>nomatch z
  rcases x.new b wL with p | ⟨ts,p⟩
  ·exact .inl p
  ·cases q:join F acI b with
   |none=>exact acC q hb
   |some u=>rw[sub b u q] at p;exact .inr ⟨ts,p⟩
 ·have hh:∀b∈bg H o a,H' b=H b/\F' b=none:=λb hb=>by
   have hF:qP ρ H b:=⟨i,a,o,h,hb⟩
   obtain⟨c1,u,c2,c3⟩:=cl b hF;have hu:gg F acI H ρ b=some u:=by unfold gg;rw[acz hF];exact c2
   refine⟨by rw[c2];exact x.hh b u hu,?_⟩;rw[x.old hu c3];exact c1
  exact(s.at h).2.move x.ff (λb hb=>(hh b hb).1) λb hb=>(hh b hb).2
def StX.back(s:StX K t0 acI F H σ ρ){σ':St}{ρ':bb}(t:StOk K F (gg F acI H ρ) F' H' σ' ρ')(k:ObK ρ ρ'):StX K t0 acI F' H' σ' ρ':=by
 obtain⟨_,h2,h3,h4⟩:=s.base;refine⟨t.unbase h3 h2,λi a o b e hb=>?_⟩;have e':=k.at i a o e;rw[(h4 F' H' t.ext i a o e').2] at hb;exact s.obn i a o b e' hb
def StX.gone(s:StX K t0 acI F H σ ρ)(x:Ext F (gg F acI H ρ) F' H'):StX K t0 acI F' H' σ (kO ρ):=by
 obtain⟨_,_,h3,h4⟩:=s.base;have ft:∀{i:Nat}{sl:Sl}{v:V},(kO ρ)[i]? =some (some sl)->sl.foot H' v=sl.foot H v:=λ{i sl v} h=>by
  obtain⟨h1,h2⟩:=vj h;cases sl with
  |fz d=>rfl
  |ow c=>exact acC rfl (h2 c)
  |ob a o=>exact(h4 F' H' x i a o h1).2
 refine⟨⟨h3 F' H' x,⟨x.fh,λi sl h=>?_⟩,by simp[kO,s.ok.len],λi c a h=>acC rfl ((vj h).2 c),λi j sl mN v v' b h1 h2 h5 h6 h7 h8=>s.ok.sep i j sl mN v v' b (vj h1).1 (vj h2).1 h5 h6 (ft h1▸h7) (ft h2▸h8)⟩,λi a o b h hb=>?_⟩
 ·obtain⟨h1,h2⟩:=vj h;obtain⟨v,q1,q2⟩:=s.ok.st.den i sl h1;refine⟨v,q1,?_⟩;cases sl with
  |fz d=>exact Den.mono x.ff q2
  |ow c=>exact acC rfl (h2 c)
  |ob a o=>exact⟨q2.1,(h4 F' H' x i a o h1).1⟩
 ·have h1:=(vj h).1;rw[(h4 F' H' x i a o h1).2] at hb;exact s.obn i a o b h1 hb
end
section
variable{X:Cx}{Xw:Nat->Hp->Prop}{st:Stmt}{τ:DS}
def bK(h:qB X Xw st τ):Au X Xw st (dm τ):=λt0 acI=>λf8 sh σ H D I ⟨F,ρ,s,w⟩=>by
 refine h F (gg F acI H ρ) f8 sh σ H D I ⟨F,ρ,s.base.1,?_⟩;have w:(match τ ρ with | none=>False | some (.ok (.nx ρ'))=>ObK ρ ρ'/\fE X.K Xw t0 acI D (.nx ρ') | some (.ok (.rt d))=>fE X.K Xw t0 acI D (.rt (.fz d) (kO ρ)) | some (.ex n)=>fE X.K Xw t0 acI D (.ex n (kO ρ))):=w
 match τ ρ,w with
 |some (.ok (.nx ρ')),w=>exact λσ' F' H' t=>w.2 σ' F' H' (s.back t w.1)
 |some (.ok (.rt d)),w=>exact λv F' H' e q=>w v σ F' H' ((s.gone e).cons q)
 |some (.ex n),w=>exact λF' H' e=>w σ F' H' (s.gone e)
end
def gh(put:D->bb->Option bb)(body:XS):List D->bb->(OX->Prop)->Prop
 |[],ρ,Q=>Q (.nx ρ)
 |d::ds,ρ,Q=>match put d ρ with
  |none=>False
  |some ρ1=>body.f ρ1 λx=>match x with | .nx ρ2=>gh put body ds ρ2 Q | x=>Q x
def mQ{put:D->bb->Option bb}{body:XS}{P Q:OX->Prop}(k:∀x,P x->Q x):∀(ds:List D) (ρ:bb),gh put body ds ρ P->gh put body ds ρ Q
 |[],ρ,h=>k _ h
 |d::ds,ρ,h=>by
  unfold gh at h⊢
  match put d ρ,h with
  |some ρ1,h=>exact body.mono ρ1 _ _ (λx hx=>by
    cases x with
    |nx ρ2=>exact mQ k ds ρ2 hx
    |rt r ρ2=>exact k _ hx
    |ex n ρ2=>exact k _ hx) h
def HV(put:D->bb->Option bb)(δi:DA)(body:XS):XS:=⟨λρ Q=>match δi ρ with | none=>False | some (.ok ds)=>gh put body ds ρ Q | some (.ex n)=>Q (.ex n ρ),λρ P Q k h=>by
 match δi ρ,h with
 |some (.ok ds),h=>exact mQ k ds ρ h
 |some (.ex n),h=>exact k _ h⟩
def Ni(K:V9)(g:TG)(put:D->bb->Option bb):Prop:=∀(t0 acI F H:Hp) (σ:St) (ρ ρ':bb) (d:D) (v:V) (Q:St->Hp->Prop),StX K t0 acI F H σ ρ->Den K F d v->put d ρ=some ρ'->
 (∀σ',StX K t0 acI F H σ' ρ'->Q σ' H)->g v σ H Q
def vS{K:V9}{i:Nat}:Ni K (Cu i) (putN i):=λt0 acI F H σ ρ ρ' d v Q s q e k=>by
 cases e;exact k _ ((s.cons q).store i)
def StX.rebase{K:V9}{t0 acI F H:Hp}(s:StX K t0 acI F H σ ρ):StX K F (join F acI) F H σ ρ:=⟨s.ok.rebase.1,λi a o b h hb=>by
 unfold join;rw[(s.at h).2.nf b hb];exact s.obn i a o b h hb⟩
def StX.unbase{K:V9}{t0 acI F U F' H':Hp}(k:∀F' H',Ext F U F' H'->Ext t0 acI F' H')(s:StX K F U F' H' σ ρ)(h:Same acI U):StX K t0 acI F' H' σ ρ:=
 ⟨s.ok.unbase k h,λi a o b e hb=>Same.free h (s.obn i a o b e hb)⟩
def Sk(K:V9)(Xw:Nat->Hp->Prop)(τ:XS):TS:=λD σ H=>∃t0 acI,Sj K Xw t0 acI τ D σ H
section
variable{X:Cx}{Xw:Nat->Hp->Prop}{τ:XS}{pos:Pos}{δi:DA}{g:TG}{put:D->bb->Option bb}
def PXSs.ex{body:List Stmt}(h:PXSs X Xw body τ):PSs X body (Sk X.K Xw τ):=λf8 s σ H D I ⟨t0,acI,w⟩=>h t0 acI f8 s σ H D I w
def CU{tg iter:Expr}{body:List Stmt}(hp:aby (model X.prog X.w) X.A X.env X.xe)(hc:X.calm=true)(hi:yz X Xw tg iter δi)(hg:PG X tg g)(LK:Ni X.K g put)(hb:PXSs X Xw body τ)
 (hs:∀x,Y3 iter X.env x=pure x:=by intro _;rfl):Au X Xw (.For tg iter body [] pos) (HV put δi τ):=λt0 acI=>PS.weak (He hp hc hi hg hb.ex hs) λD σ H ⟨F,ρ,s,w⟩=>by
 refine⟨F,ρ,s.ok.st,?_⟩;have w:(match δi ρ with | none=>False | some (.ok ds)=>gh put τ ds ρ (fE X.K Xw t0 acI D) | some (.ex n)=>fE X.K Xw t0 acI D (.ex n ρ)):=w
 match δi ρ,w with
 |some (.ex n),w=>exact λF' H' e'=>w σ F' H' (s.ext' e')
 |some (.ok ds),w=>
  intro J H1 F1 e1 Oz;have s0:=s.ext' e1;have s1:=s0.rebase;have back:=s0.ok.rebase.2;have hU:=oC s0.ok;generalize join F1 acI=U at s1 back hU;refine⟨λi m σ H=>m=ds.length - i/\i<=ds.length/\∃F ρ,StX X.K F1 U F H σ ρ/\gh put τ (ds.drop i) ρ (fE X.K Xw t0 acI D),⟨ds.length,by simp,W8 _,F1,ρ,s1,by simpa using w⟩,?_⟩;rintro i m σ2 H2 ⟨rfl,N0,F2,ρ2,s2,w2⟩;by_cases f_:i<ds.length
  ·obtain⟨d,hd⟩:∃d,ds[i]? =some d:=⟨_,V5 f_⟩
   obtain⟨NX,FY⟩:=(Oz F2 H2 i s2.ok.ext.ff s2.ok.st.fh).1 d hd;have ed:ds.drop i=d::ds.drop (i+1):=by
    obtain⟨hi,e⟩:=We.mp hd;rw[Zk hi,e]
   rw[ed] at w2;unfold gh at w2;refine .inr ⟨NX,λσ' H'=>∃F' ρ',StX X.K F1 U F' H' σ' ρ'/\gh put τ (ds.drop (i+1)) ρ' (fE X.K Xw t0 acI D),λσ' H' ⟨F',ρ',h2,h3⟩=>⟨ds.length - (i+1),by omega,rfl,f_,F',ρ',h2,h3⟩,λx H3 y3=>?_⟩;obtain⟨F3,EY,q3⟩:=FY x H3 y3
   match Rp:put d ρ2,w2 with
   |some ρ3,w2=>
    refine LK F1 U F3 H3 σ2 ρ2 ρ3 d x _ (s2.ext' EY) q3 Rp λσ3 s3=>⟨F1,U,F3,ρ3,s3,?_⟩
    refine τ.mono ρ3 _ _ (λx hx=>?_) w2;cases x with
    |nx ρ'=>exact λσ' F' H' t=>⟨F',ρ',t,hx⟩
    |rt r ρ'=>exact λv σ' F' H' t=>hx v σ' F' H' (t.unbase back hU)
    |ex n ρ'=>exact λσ' F' H' t=>hx σ' F' H' (t.unbase back hU)
  ·have hi:i=ds.length:=by omega
   subst hi;rw[aap] at w2;exact .inl ⟨(Oz F2 H2 ds.length s2.ok.ext.ff s2.ok.st.fh).2 (Wj _),w2 σ2 F2 H2 (s2.unbase back hU)⟩
end
section
variable{K:V9}{F H:Hp}
def FsAt.get:∀{fs:List (Str×Fv)}{gs:List (Str×V)}{f:Str}{x:Fv},FsAt K F H fs gs->fs.lookup f=some x->∃v,gs.lookup f=some v/\Ie K F H x v
 |[],_,_,_,_,e=>by cases e
 |(n,y)::fs,_,f,x,⟨v,r,h1,h2,h3⟩,e=>by
  subst h1;rw[Xj] at e⊢;by_cases q:(f==n)=true
  ·rw[q] at e⊢;cases e;exact⟨v,rfl,h2⟩
  ·have q:(f==n)=false:=by simpa using q
   rw[q] at e⊢;exact FsAt.get h3 e
def FsAt.no:∀{fs:List (Str×Fv)}{gs:List (Str×V)}{f:Str},FsAt K F H fs gs->fs.lookup f=none->gs.lookup f=none
 |[],_,_,h,_=>by cases (show _=_ from h);rfl
 |(n,y)::fs,_,f,⟨v,r,h1,h2,h3⟩,e=>by
  subst h1;rw[Xj] at e⊢;by_cases q:(f==n)=true
  ·rw[q] at e;cases e
  ·have q:(f==n)=false:=by simpa using q
   rw[q] at e⊢;exact FsAt.no h3 e
end
def bP(ρ:bb)(i:Nat)(C:Addr):Option (Addr×Ob):=match ρ[i]? with
 |some (some (.ob a o))=>if o.c=C then some (a,o) else none
 |_=>none
def fK{ρ:bb}{i:Nat}{C a:Addr}{o:Ob}(h:bP ρ i C=some (a,o)):ρ[i]? =some (some (.ob a o))/\o.c=C:=by
 unfold bP at h;split at h
 ·rename_i a' o' e;split at h
  ·rename_i hc;cases h;exact⟨e,hc⟩
  ·cases h
 ·cases h
def StE.ob{K:V9}{F H:Hp}{σ:St}{ρ:bb}(s:StE K F H σ ρ){i:Nat}{C a:Addr}{o:Ob}(h:bP ρ i C=some (a,o)):σ[i]? =some (some (.ref a))/\ObAt K F H o a/\o.c=C:=by
 obtain⟨h1,h2⟩:=fK h;obtain⟨v,h3,h4,h5⟩:=s.den i _ h1;exact⟨by rw[h3,h4],h5,h2⟩
def p_(C:Addr)(i:Nat)(f:Str):DE:=λρ=>match bP ρ i C with
 |some (_,o)=>match o.fs.lookup f with
  |some (.fz d)=>aa d
  |_=>af
 |none=>af
def uX(C:Addr)(i:Nat)(f:Str)(k:List D->M D):DE:=λρ=>match bP ρ i C with
 |some (_,o)=>match o.fs.lookup f with
  |some (.ow ds)=>k ds
  |_=>af
 |none=>af
def jV(C:Addr)(i:Nat)(f:Str)(δ:DE):DE:=λρ=>match bP ρ i C with
 |some (_,o)=>match o.fs.lookup f with
  |some (.ow ds)=>δ ρ>>=λk=>match k with | .int j=>(match L2.atI ds j with | some d=>aa d | none=>af) | _=>af
  |_=>af
 |none=>af
section
variable{X:Cx}{Xw:Nat->Hp->Prop}{C:Addr}{i:Nat}{x f:Str}{p pos aY:Pos}{e:Expr}{δ:DE}
def sO(c:Cls X.K C)(n:NoAttr X.K C f)(h:PE X (.Name x p) (g7 i))(hb:WR (.Name x p) f X.env (eval (.Name x p) X.env)=eval (.Name x p) X.env:=by rfl):PD X Xw (.Attribute (.Name x p) f pos) (p_ C i f):=PE.weak (sT h hb) λσ H Q ⟨F,ρ,s,w⟩=>by
 unfold p_ at w;split at w
 ·rename_i a o ho;obtain⟨h1,h2,h3⟩:=s.ob ho;obtain⟨dx,gs,q1,q2,q3,q4⟩:=h2.foot;split at w
  ·rename_i d hd;obtain⟨v,v1,v2⟩:=q3.get hd;exact⟨.ref a,h1,a,C,dx,gs,v,rfl,by rw[q1,h3],c,n,v1,WP.now w s.fh v2⟩
  ·exact w.elim
 ·exact w.elim
def zM(c:Cls X.K C)(n:NoAttr X.K C f)(h:PE X (.Name x p) (g7 i))(he:PD X Xw e δ)(hs:jc e:=by intro _ _;rfl)(hb:WR (.Name x p) f X.env (eval (.Name x p) X.env)=eval (.Name x p) X.env:=by rfl):
 PD X Xw (.Subscript (.Attribute (.Name x p) f aY) e pos) (jV C i f δ):=PE.weak (K0 wY (sT h hb) he hs) λσ H Q ⟨F,ρ,s,w⟩=>by
 unfold jV at w;split at w
 ·rename_i a o ho;obtain⟨h1,h2,h3⟩:=s.ob ho;obtain⟨dx,gs,q1,q2,q3,q4⟩:=h2.foot;split at w
  ·rename_i ds hd;obtain⟨v,v1,b,vs,rfl,v3,v4,v5⟩:=q3.get hd;have key:tD X.K Xw δ σ H (λy H2=>JY X.K (.ref b) y H2 Q):=by
    refine⟨F,ρ,s,WP.mono (WP.bind w) λy H2 PM=>?_⟩;obtain⟨F2,d2,e2,r2,w2⟩:=PM;cases d2 with
    |int j=>
     have w2:WP X.K Xw F2 H2 (match L2.atI ds j with | some d=>aa d | none=>af) Q:=w2;cases u9:L2.atI ds j with
     |none=>rw[u9] at w2;exact w2.elim
     |some d=>
      rw[u9] at w2;obtain⟨u,u1,u2⟩:=DenL.atI v4 u9;exact⟨b,vs,j,u,rfl,r2,SqL.of (e2.hh _ _ v3),u1,WP.now w2 e2.fh (Den.mono e2.ff u2)⟩
    |_=>exact w2.elim
   exact⟨.ref a,h1,a,C,dx,gs, .ref b,rfl,by rw[q1,h3],c,n,v1,key⟩
  ·exact w.elim
 ·exact w.elim
def Eo{Jd:Pos}(c:Cls X.K C)(n:NoAttr X.K C f)(h:PE X (.Name x p) (g7 i))(hg:Gl X "len")(hm:X.mg "len"=none)(hv:WX "len"=some (.builtin "len"))(hb:WR (.Name x p) f X.env (eval (.Name x p) X.env)=eval (.Name x p) X.env:=by rfl)
 (he:Wf [.Attribute (.Name x p) f pos] X.env=[(false,eval (.Attribute (.Name x p) f pos) X.env)]:=by rfl):
 PD X Xw (.Call (.Name "len" Jd) [.Attribute (.Name x p) f pos] [] aY) (uX C i f λds=>aa (.int ds.length)):=PE.weak (zN mV hg hm hv (nR (sT h hb) oO he) (by decide) (by decide) he rfl) λσ H Q ⟨F,ρ,s,w⟩=>by
 unfold uX at w;split at w
 ·rename_i a o ho;obtain⟨h1,h2,h3⟩:=s.ob ho;obtain⟨dx,gs,q1,q2,q3,q4⟩:=h2.foot;split at w
  ·rename_i ds hd;obtain⟨v,v1,b,vs,rfl,v3,v4,v5⟩:=q3.get hd;refine⟨.ref a,h1,a,C,dx,gs, .ref b,rfl,by rw[q1,h3],c,n,v1,b,vs,rfl, .inl (SqL.of v3),?_⟩;rw[<-v4.len];exact WP.now w s.fh rfl
  ·exact w.elim
 ·exact w.elim
end
def R3(K:V9)(cv:Nat->Value)(C:Addr)(m:Nat)(g:Addr->Ob->List D->M D):Sp:=λvs H Q E=>∃F o ds a ws,vs= .ref a::ws/\Same F H/\o.c=C/\ObAt K F H o a/\DenL K F ds ws/\ws.length=m/\WP K (λn H'=>E (cv n) none H') F H (g a o ds) Q
structure ObStep (K:V9) (F H:Hp) (o:Ob) (a:Addr) (F' H':Hp) (o':Ob):Prop where
 hh:∀b u,b∉bg H o a->H b=some u->H' b=some u
 ff:Same F F'
 fh:Same F' H'
 new:∀b,b∉bg H o a->H b≠none->F' b=F b\/∃ts,H b=some (.tup ts)
 ob:ObAt K F' H' o' a
 foot:∀b∈bg H' o' a,b∈bg H o a\/H b=none
def Sy(K:V9)(Xw:Nat->Hp->Prop)(F H:Hp)(o:Ob)(a:Addr)(m:M (D×Ob))(Q:VK):Prop:=match m with
 |none=>False
 |some (.ok (d,o'))=>∀v F' H',ObStep K F H o a F' H' o'->Den K F' d v->Q v H'
 |some (.ex n)=>∀F' H',ObStep K F H o a F' H' o->Xw n H'
def R1(K:V9)(cv:Nat->Value)(C:Addr)(m:Nat)(g:Addr->Ob->List D->M (D×Ob)):Sp:=λvs H Q E=>∃F o ds a ws,vs= .ref a::ws/\Same F H/\o.c=C/\ObAt K F H o a/\DenL K F ds ws/\ws.length=m/\Sy K (λn H'=>E (cv n) none H') F H o a (g a o ds) Q
def eG(P:Wz)(w:World)(K:V9)(mg:Str->Option Value)(base:Heap)(cv:Nat->Value)(k:Nat)(C:Addr)(x:Str)(m:Nat)(g:Addr->Ob->List D->M D):Prop:=
 ∃f fd ps,Cls K C/\Meth K C x f/\Binds K fd ps []/\FnOk P w K mg base (jN P w cv) k f fd ps (R3 K cv C m g)
def gD(P:Wz)(w:World)(K:V9)(mg:Str->Option Value)(base:Heap)(cv:Nat->Value)(k:Nat)(C:Addr)(x:Str)(m:Nat)(g:Addr->Ob->List D->M (D×Ob)):Prop:=
 ∃f fd ps,Cls K C/\Meth K C x f/\Binds K fd ps []/\FnOk P w K mg base (jN P w cv) k f fd ps (R1 K cv C m g)
def bE(C:Addr)(i:Nat)(x:Str)(m:Nat)(g:Addr->Ob->List D->M D)(δs:DA):DE:=λρ=>match bP ρ i C with
 |some (a,o)=>match o.fs.lookup x with
  |none=>δs ρ>>=λds=>if ds.length=m then g a o ds else af
  |some _=>af
 |none=>af
def fB(C:Addr)(i:Nat)(x:Str)(m:Nat)(g:Addr->Ob->List D->M (D×Ob))(δs:DA):XE:=⟨λρ Q=>match bP ρ i C with
 |some (a,o)=>match o.fs.lookup x with
  |none=>match δs ρ with
   |none=>False
   |some (.ex n)=>Q (.ex n ρ)
   |some (.ok ds)=>ds.length=m/\match g a o ds with
    |none=>False
    |some (.ok (d,o'))=>Q (.val (.fz d) (ρ.set i (some (.ob a o'))))
    |some (.ex n)=>Q (.ex n ρ)
  |some _=>False
 |none=>False,λρ P Q k h=>by
 match bP ρ i C,h with
 |some (a,o),h=>
  have h:(match o.fs.lookup x with | none=>(match δs ρ with | none=>False | some (.ex n)=>P (.ex n ρ) | some (.ok ds)=>ds.length=m/\match g a o ds with | none=>False | some (.ok (d,o'))=>P (.val (.fz d) (ρ.set i (some (.ob a o')))) | some (.ex n)=>P (.ex n ρ)) | some _=>False):=h;show (match o.fs.lookup x with | none=>(match δs ρ with | none=>False | some (.ex n)=>Q (.ex n ρ) | some (.ok ds)=>ds.length=m/\match g a o ds with | none=>False | some (.ok (d,o'))=>Q (.val (.fz d) (ρ.set i (some (.ob a o')))) | some (.ex n)=>Q (.ex n ρ)) | some _=>False)
  match o.fs.lookup x,h with
  |none,h=>
   match δs ρ,h with
   |some (.ex n),h=>exact k _ h
   |some (.ok ds),h=>
    refine⟨h.1,?_⟩;have h:=h.2
    match g a o ds,h with
    |some (.ok (d,o')),h=>exact k _ h
    |some (.ex n),h=>exact k _ h⟩
section
variable{K:V9}{t0 acI F H F' H':Hp}{σ:St}{ρ:bb}
def StX.step(s:StX K t0 acI F H σ ρ){i:Nat}{a:Addr}{o o':Ob}(h:ρ[i]? =some (some (.ob a o)))(t:ObStep K F H o a F' H' o'):StX K t0 acI F' H' σ (ρ.set i (some (.ob a o'))):=by
 obtain⟨ha,hO⟩:=s.at h;have hn:=λb hb=>s.obn i a o b h hb;have ext:Ext t0 acI F' H':=⟨λb u e=>t.hh b u (λq=>by rw[hn b q] at e;cases e) (s.ok.ext.hh b u e),s.ok.ext.ff.trans t.ff,t.fh,λb hb=>by
  have nb:b∉bg H o a:=λq=>hb (hn b q);have wL:H b≠none:=by
   cases q:acI b with
   |none=>exact acC q hb
   |some u=>rw[s.ok.ext.hh b u q];exact λz=>nomatch z
  rcases s.ok.ext.new b hb with p | p
  ·rcases t.new b nb wL with q | ⟨ts,q⟩
   ·exact .inl (q.trans p)
   ·cases z:acI b with
    |none=>exact acC z hb
    |some u=>rw[s.ok.ext.hh b u z] at q;exact .inr ⟨ts,q⟩
  ·exact .inr p⟩
 have keep:∀(j:Nat) (sl:Sl) (v:V),j≠i->ρ[j]? =some (some sl)->σ[j]? =some (some v)->∀b∈sl.foot H v,H' b=H b/\F' b=none/\b∉(Sl.ob a o').foot H' (.ref a):=λj sl v hj h1 h2 b hb=>by
  obtain⟨c1,u,c2,c3⟩:=(s.ok.foot h1 h2).cell b hb;have nb:b∉bg H o a:=λq=>hj (s.ok.sep j i sl (.ob a o) v (.ref a) b h1 h h2 ha hb q);refine⟨by rw[c2];exact t.hh b u nb c2,?_,λq=>?_⟩
  ·rcases t.new b nb (by rw[c2];exact λz=>nomatch z) with q | ⟨ts,q⟩
   ·rw[q];exact c1
   ·rw[c2] at q;cases q;exact acC rfl (c3 ts)
  ·rcases t.foot b q with z | z
   ·exact nb z
   ·rw[c2] at z;cases z
 have p:=s.ok.put (i:=i) (nsl:= .ob a o') (nv:= .ref a) ⟨rfl,t.ob⟩ ext t.ff keep (λc b z=>nomatch z);rw[set_same ha] at p;refine⟨p,λj a1 o1 b e hb=>?_⟩;by_cases hj:j=i
 ·subst hj;have hi:j<ρ.length:=(We.mp h).1;rw[WQ hi] at e;cases e;rcases t.foot b hb with z | z
  ·exact hn b z
  ·exact Same.free s.ok.ext.hh z
 ·rw[W0 (XR hj)] at e;obtain⟨e1,e2⟩:=s.at e;have:bg H' o1 a1=bg H o1 a1:=(DenO.move (K:=K) (sl:= .ob a1 o1) (v:= .ref a1) t.ff ⟨rfl,e2⟩ (λb hb=>(keep j _ _ hj e e1 b hb).1) λb hb=>(keep j _ _ hj e e1 b hb).2.1).2;exact s.obn j a1 o1 b e (this▸hb)
end
section
variable{X:Cx}{Xw:Nat->Hp->Prop}{cv:Nat->Value}{k m i:Nat}{C:Addr}{x y:Str}{p u8 pos:Pos}{e:Expr}{es:List Expr}{δs:DA}{pl:Sem Bool}
def Qg{g:Addr->Ob->List D->M D}(F:eG X.prog X.w X.K X.mg X.base cv k C x m g)(hr:Room k X.A)(hx:Passes (jN X.prog X.w cv) X (L3.EX cv Xw))(h:PE X (.Name y p) (g7 i))(ha:lC X Xw (e::es) δs)
 (qa:Wf (e::es) X.env=(false,eval e X.env)::Wf es X.env:=by rfl)(mS:(Xv pos (Wf es X.env)).any (·.1)=false:=by rfl)
 (ht:eval (.Call (.Attribute (.Name y p) x u8) (e::es) [] pos) X.env=(do
  let ov<-eval (.Name y p) X.env
  aak u8.atName
  let (f,first)<-holding [ov] (Zn ov x pl)
  Z_ pos f first (Xv pos (Wf (e::es) X.env)) (X7 pos (Xi [] X.env))):=by rfl):
 PD X Xw (.Call (.Attribute (.Name y p) x u8) (e::es) [] pos) (bE C i x m g δs):=by
 obtain⟨f,fd,ps,hc,hm,hb,hF⟩:=F;refine PE.weak (CP h hc hm hF hr hb .nil hx ha qa mS ht) λσ H Q ⟨F,ρ,s,w⟩=>?_;unfold bE at w;split at w
 ·rename_i a o ho;obtain⟨h1,h2,h3⟩:=s.ob ho;obtain⟨dx,gs,q1,q2,q3,q4⟩:=h2.foot;split at w
  ·rename_i wN;refine⟨.ref a,h1,a,dx,gs,rfl,by rw[q1,h3],q3.no wN,F,ρ,s,WPL.mono (WP.bindL w) λvs H2 ⟨F2,ds,e2,r2,w2⟩=>?_⟩;split at w2
   ·rename_i hl;refine⟨F2,o,ds,a,vs++[],rfl,e2.fh,h3,(DenO.ext (K:=X.K) (sl:= .ob a o) (v:= .ref a) e2 ⟨rfl,h2⟩).2,by rw[W5];exact r2,by rw[W5,<-r2.len];exact hl,WP.xw w2 λn H h=>⟨n,rfl,h⟩⟩
   ·exact w2.elim
  ·exact w.elim
 ·exact w.elim
def bC{g:Addr->Ob->List D->M D}(F:eG X.prog X.w X.K X.mg X.base cv k C x 0 g)(hr:Room k X.A)(hx:Passes (jN X.prog X.w cv) X (L3.EX cv Xw))(h:PE X (.Name y p) (g7 i))
 (ht:eval (.Call (.Attribute (.Name y p) x u8) [] [] pos) X.env=(do
  let ov<-eval (.Name y p) X.env
  aak u8.atName
  let (f,first)<-holding [ov] (Zn ov x pl)
  Z_ pos f first (Xv pos (Wf [] X.env)) (X7 pos (Xi [] X.env))):=by rfl):
 PD X Xw (.Call (.Attribute (.Name y p) x u8) [] [] pos) (bE C i x 0 g aN):=by
 obtain⟨f,fd,ps,hc,hm,hb,hF⟩:=F;refine PE.weak (zP h hc hm hF hr hb .nil hx ht) λσ H Q ⟨F,ρ,s,w⟩=>?_;unfold bE at w;split at w
 ·rename_i a o ho;obtain⟨h1,h2,h3⟩:=s.ob ho;obtain⟨dx,gs,q1,q2,q3,q4⟩:=h2.foot;split at w
  ·rename_i wN;have w:WP X.K Xw F H (g a o []) Q:=w;exact⟨.ref a,h1,a,dx,gs,rfl,by rw[q1,h3],q3.no wN,F,o,[],a,[],rfl,s.fh,h3,h2,rfl,rfl,WP.xw w λn H h=>⟨n,rfl,h⟩⟩
  ·exact w.elim
 ·exact w.elim
end
section
variable{K:V9}{t0 acI F H F' H':Hp}{σ:St}{ρ:bb}
def StX.consOb(s:StX K t0 acI F H σ ρ)(e:Ext F H F' H'){x:Addr}{o':Ob}(ob:ObAt K F' H' o' x)(nw:∀b∈bg H' o' x,H b=none):StX K t0 acI F' H' (some (.ref x)::σ) (some (.ob x o')::ρ):=by
 have t:=s.ext' e;have ft:∀{i:Nat}{sl:Sl}{v:V},ρ[i]? =some (some sl)->σ[i]? =some (some v)->∀b∈sl.foot H' v,b∉bg H' o' x:=λh1 h2 b hb q=>by
  have e1:=((s.ok.foot h1 h2).ext' e).2;obtain⟨_,u,c2,_⟩:=(s.ok.foot h1 h2).cell b (e1▸hb);rw[nw b q] at c2;cases c2
 refine⟨⟨t.ok.ext,⟨t.ok.st.fh,λi sl h=>?_⟩,by simp[t.ok.len],λi c a h h'=>?_,λi j sl mN u u' b h1 h2 h3 h4 h5 h6=>?_⟩,λi a o b h hb=>?_⟩
 ·cases i with
  |zero=>cases h;exact⟨_,rfl,rfl,ob⟩
  |succ i=>obtain⟨u,q1,q2⟩:=t.ok.st.den i sl (by simpa using h);exact⟨u,by simpa using q1,q2⟩
 ·cases i with
  |zero=>cases h
  |succ i=>exact t.ok.own i c a (by simpa using h) (by simpa using h')
 ·cases i with
  |zero=>
   cases j with
   |zero=>rfl
   |succ j=>cases h1;exact acC h5 (ft (by simpa using h2) (by simpa using h4) b h6)
  |succ i=>
   cases j with
   |zero=>cases h2;exact acC h6 (ft (by simpa using h1) (by simpa using h3) b h5)
   |succ j=>exact acH _ (t.ok.sep i j sl mN u u' b (by simpa using h1) (by simpa using h2) (by simpa using h3) (by simpa using h4) h5 h6)
 ·cases i with
  |zero=>cases h;exact Same.free s.ok.ext.hh (nw b hb)
  |succ i=>exact t.obn i a o b (by simpa using h) hb
def StE.set{d:D}{v:V}{i:Nat}(s:StE K F H σ ρ)(hl:ρ.length=σ.length)(h:Den K F d v):StE K F H (σ.set i (some v)) (ρ.set i (some (.fz d))):=⟨s.fh,λj sl e=>by
 by_cases hj:j=i
 ·subst hj;have hi:j<ρ.length:=by
   have:=(We.mp e).1;simpa using this
  rw[WQ hi] at e;cases e;exact⟨v,WQ (by omega),h⟩
 ·rw[W0 (XR hj)] at e;obtain⟨u,h1,h2⟩:=s.den j sl e;exact⟨u,by rw[W0 (XR hj)];exact h1,h2⟩⟩
end
section
variable{X:Cx}{Xw:Nat->Hp->Prop}{cv:Nat->Value}{k m i:Nat}{C:Addr}{x y:Str}{p u8 pos:Pos}{e:Expr}{es:List Expr}{δs:DA}{pl:Sem Bool}
def Ah{g:M (D×Ob)}{t0 acI F H:Hp}{σ:St}{ρ:bb}{a:Addr}{o:Ob}{Q:VK}(s:StX X.K t0 acI F H σ ρ)(h:ρ[i]? =some (some (.ob a o)))
 (w:match g with | none=>False | some (.ok (d,o'))=>u0 X.K Xw t0 acI σ Q (.val (.fz d) (ρ.set i (some (.ob a o')))) | some (.ex n)=>u0 X.K Xw t0 acI σ Q (.ex n ρ)):Sy X.K (λn H'=>L3.EX cv Xw (cv n) none H') F H o a g Q:=by
 match g,w with
 |some (.ok (d,o')),w=>exact λv F' H' t q=>w v F' H' ((s.step h t).cons q)
 |some (.ex n),w=>exact λF' H' t=>⟨n,rfl,w F' H' (by have:=s.step h t;rw[set_same h] at this;exact this)⟩
def lx{g:Addr->Ob->List D->M (D×Ob)}(F:gD X.prog X.w X.K X.mg X.base cv k C x m g)(hr:Room k X.A)(hx:Passes (jN X.prog X.w cv) X (L3.EX cv Xw))(h:PE X (.Name y p) (g7 i))(ha:lC X Xw (e::es) δs)
 (qa:Wf (e::es) X.env=(false,eval e X.env)::Wf es X.env:=by rfl)(mS:(Xv pos (Wf es X.env)).any (·.1)=false:=by rfl)
 (ht:eval (.Call (.Attribute (.Name y p) x u8) (e::es) [] pos) X.env=(do
  let ov<-eval (.Name y p) X.env
  aak u8.atName
  let (f,first)<-holding [ov] (Zn ov x pl)
  Z_ pos f first (Xv pos (Wf (e::es) X.env)) (X7 pos (Xi [] X.env))):=by rfl):
 PX X Xw (.Call (.Attribute (.Name y p) x u8) (e::es) [] pos) (fB C i x m g δs):=by
 obtain⟨f,fd,ps,hc,hm,hb,hF⟩:=F;refine λt0 acI=>PE.weak (CP h hc hm hF hr hb .nil hx ha qa mS ht) λσ H Q ⟨F,ρ,s,w⟩=>?_;unfold fB at w
 dsimp only at w
 split at w
 ·rename_i a o ho;obtain⟨h1,h2,h3⟩:=s.ok.st.ob ho;obtain⟨dx,gs,q1,q2,q3,q4⟩:=h2.foot;split at w
  ·rename_i wN;refine⟨.ref a,h1,a,dx,gs,rfl,by rw[q1,h3],q3.no wN,F,ρ,s.ok.st,?_⟩
   match δs ρ,w with
   |some (.ex n),w=>exact λF' H' e'=>w F' H' (s.ext' e')
   |some (.ok ds),w=>
    intro vs H2 F2 e2 r2;exact⟨F2,o,ds,a,vs++[],rfl,e2.fh,h3,(DenO.ext (K:=X.K) (sl:= .ob a o) (v:= .ref a) e2 ⟨rfl,h2⟩).2,by rw[W5];exact r2,by rw[W5,<-r2.len];exact w.1,Ah (s.ext' e2) (fK ho).1 w.2⟩
  ·exact w.elim
 ·exact w.elim
def Hn{g:Addr->Ob->List D->M (D×Ob)}(F:gD X.prog X.w X.K X.mg X.base cv k C x 0 g)(hr:Room k X.A)(hx:Passes (jN X.prog X.w cv) X (L3.EX cv Xw))(h:PE X (.Name y p) (g7 i))
 (ht:eval (.Call (.Attribute (.Name y p) x u8) [] [] pos) X.env=(do
  let ov<-eval (.Name y p) X.env
  aak u8.atName
  let (f,first)<-holding [ov] (Zn ov x pl)
  Z_ pos f first (Xv pos (Wf [] X.env)) (X7 pos (Xi [] X.env))):=by rfl):
 PX X Xw (.Call (.Attribute (.Name y p) x u8) [] [] pos) (fB C i x 0 g aN):=by
 obtain⟨f,fd,ps,hc,hm,hb,hF⟩:=F;refine λt0 acI=>PE.weak (zP h hc hm hF hr hb .nil hx ht) λσ H Q ⟨F,ρ,s,w⟩=>?_;unfold fB at w
 dsimp only at w
 split at w
 ·rename_i a o ho;obtain⟨h1,h2,h3⟩:=s.ok.st.ob ho;obtain⟨dx,gs,q1,q2,q3,q4⟩:=h2.foot;split at w
  ·rename_i wN;exact⟨.ref a,h1,a,dx,gs,rfl,by rw[q1,h3],q3.no wN,F,o,[],a,[],rfl,s.ok.st.fh,h3,h2,rfl,rfl,Ah s (fK ho).1 (show _/\_ from w).2⟩
  ·exact w.elim
 ·exact w.elim
def MakeM(P:Wz)(w:World)(K:V9)(mg:Str->Option Value)(base:Heap)(cv:Nat->Value)(k:Nat)(C:Addr)(x:Str)(m:Nat)(g:Addr->Ob->List D->M (D×Ob)):Prop:=
 ∃f fd ps,Mk K C f/\mg x=some (.ref C)/\Binds K fd ps []/\FnOk P w K mg base (jN P w cv) k f fd ps (R1 K cv C m g)
def wc(C:Addr)(m:Nat)(g:Addr->Ob->List D->M (D×Ob))(δs:DA):XE:=⟨λρ Q=>match δs ρ with
 |none=>False
 |some (.ex n)=>Q (.ex n ρ)
 |some (.ok ds)=>ds.length=m/\∀a,match g a ⟨C,[]⟩ ds with
  |none=>False
  |some (.ok (d,o'))=>d= .non/\Q (.val (.ob a o') ρ)
  |some (.ex n)=>Q (.ex n ρ),λρ P Q k h=>by
 match δs ρ,h with
 |some (.ex n),h=>exact k _ h
 |some (.ok ds),h=>
  refine⟨h.1,λa=>?_⟩;have h:=h.2 a
  match g a ⟨C,[]⟩ ds,h with
  |some (.ok (d,o')),h=>exact⟨h.1,k _ h.2⟩
  |some (.ex n),h=>exact k _ h⟩
def xP{g:Addr->Ob->List D->M (D×Ob)}(F:MakeM X.prog X.w X.K X.mg X.base cv k C x m g)(hr:Room (k+1) X.A)(hx:Passes (jN X.prog X.w cv) X (L3.EX cv Xw))(hg:Gl X x)(ha:lC X Xw (e::es) δs)
 (rq:(x==("__debug__":Str))=false:=by decide)(he:Wf (e::es) X.env=(false,eval e X.env)::Wf es X.env:=by rfl)(mS:(Xv pos (Wf es X.env)).any (·.1)=false:=by rfl):
 PX X Xw (.Call (.Name x p) (e::es) [] pos) (wc C m g δs):=by
 obtain⟨f,fd,ps,hM,hm,hb,hF⟩:=F;refine λt0 acI=>PE.weak (JL hM hF hr hg hm hb .nil hx ha rq he mS) λσ H Q ⟨F,ρ,s,w⟩=>?_;have w:(match δs ρ with
  |none=>False
  |some (.ex n)=>u0 X.K Xw t0 acI σ Q (.ex n ρ)
  |some (.ok ds)=>ds.length=m/\∀a,match g a ⟨C,[]⟩ ds with
   |none=>False
   |some (.ok (d,o'))=>d= .non/\u0 X.K Xw t0 acI σ Q (.val (.ob a o') ρ)
   |some (.ex n)=>u0 X.K Xw t0 acI σ Q (.ex n ρ)):=w
 refine⟨F,ρ,s.ok.st,?_⟩
 match δs ρ,w with
 |some (.ex n),w=>exact λF' H' e'=>w F' H' (s.ext' e')
 |some (.ok ds),w=>
  intro vs H2 F2 e2 r2 a dx MX PU gk;have s2:=s.ext' e2;have na:F2 a=none:=Same.free s2.ok.st.fh MX;have Qa:F2 dx=none:=Same.free s2.ok.st.fh PU;have hl:∀b,b≠a->b≠dx->upd (upd H2 dx (.own a)) a (.ins C dx []) b=H2 b:=λb h1 h2=>by rw[az h1,az h2]
  have fH:Same F2 (upd (upd H2 dx (.own a)) a (.ins C dx [])):=λb u q=>by
   rw[hl b (λz=>by rw[z,na] at q;cases q) (λz=>by rw[z,Qa] at q;cases q)];exact s2.ok.st.fh b u q
  have ft:bg (upd (upd H2 dx (.own a)) a (.ins C dx [])) ⟨C,[]⟩ a=[a,dx]:=by unfold bg;rw[aH];rfl
  have Vp:ObAt X.K F2 (upd (upd H2 dx (.own a)) a (.ins C dx [])) ⟨C,[]⟩ a:=⟨⟨dx,[],aH,by rw[az gk,aH],rfl⟩,λb hb=>by
   rw[ft] at hb;rcases Wc.mp hb with rfl | hb
   ·exact na
   ·rw[Wo.mp hb];exact Qa,by rw[ft];simp[XR gk]⟩
  have QG:∀{F' H':Hp}{o':Ob},ObStep X.K F2 (upd (upd H2 dx (.own a)) a (.ins C dx [])) ⟨C,[]⟩ a F' H' o'->Ext F2 H2 F' H'/\∀b∈bg H' o' a,H2 b=none:=λ{F' H' o'} t=>by
   have nn:∀b,H2 b≠none->b≠a/\b≠dx/\b∉bg (upd (upd H2 dx (.own a)) a (.ins C dx [])) ⟨C,[]⟩ a:=λb hb=>by
    have h1:b≠a:=λz=>hb (by rw[z];exact MX);have h2:b≠dx:=λz=>hb (by rw[z];exact PU);exact⟨h1,h2,by rw[ft];simp[h1,h2]⟩
   refine⟨⟨λb u q=>?_,t.ff,t.fh,λb hb=>?_⟩,λb hb=>?_⟩
   ·obtain⟨h1,h2,h3⟩:=nn b (by rw[q];exact λz=>nomatch z);exact t.hh b u h3 (by rw[hl b h1 h2];exact q)
   ·obtain⟨h1,h2,h3⟩:=nn b hb;have:=t.new b h3 (by rw[hl b h1 h2];exact hb);rw[hl b h1 h2] at this;exact this
   ·rcases t.foot b hb with q | q
    ·rw[ft] at q;rcases Wc.mp q with rfl | q
     ·exact MX
     ·rw[Wo.mp q];exact PU
    ·by_cases h1:b=a
     ·rw[h1];exact MX
     ·by_cases h2:b=dx
      ·rw[h2];exact PU
      ·rw[hl b h1 h2] at q;exact q
  refine⟨F2,⟨C,[]⟩,ds,a,vs++[],rfl,fH,rfl,Vp,by rw[W5];exact r2,by rw[W5,<-r2.len];exact w.1,?_⟩;have w2:=w.2 a
  match g a ⟨C,[]⟩ ds,w2 with
  |some (.ok (d,o')),w2=>exact λv F' H' t q=>⟨by rw[w2.1] at q;exact q,w2.2 (.ref a) F' H' (s2.consOb (QG t).1 t.ob (QG t).2)⟩
  |some (.ex n),w2=>exact λF' H' t=>⟨n,rfl,w2 F' H' (s2.ext' (QG t).1)⟩
end
def bx(n:Nat)(a:Addr)(o:Ob)(ds:List D):bb:=some (.ob a o)::(ds.map (λd=>some (Sl.fz d))++Wx (n - (ds.length+1)) none)
def ly{n i:Nat}{a:Addr}{o:Ob}{ds:List D}{sl:Sl}(e:(bx n a o ds)[i]? =some (some sl)):(i=0/\sl= .ob a o)\/∃j d,i=j+1/\ds[j]? =some d/\sl= .fz d:=by
 cases i with
 |zero=>cases e;exact .inl ⟨rfl,rfl⟩
 |succ j=>
  have e:(ds.map (λd=>some (Sl.fz d))++Wx (n - (ds.length+1)) none)[j]? =some (some sl):=by simpa[bx] using e
  by_cases hj:j<ds.length
  ·rw[WB (by simpa using hj),Wb] at e;cases q:ds[j]? with
   |none=>rw[q] at e;cases e
   |some d=>rw[q] at e;cases e;exact .inr ⟨j,d,rfl,q,rfl⟩
  ·rw[WJ (by simpa using hj),Xd] at e;split at e<;>cases e
section
variable{K:V9}{F H:Hp}
def HF{N:List Str}{ws:List V}{a:Addr}:(L2.start N (.ref a::ws))[0]? =some (some (.ref a)):=by unfold L2.start;rfl
def o4{N:List Str}{a:Addr}{o:Ob}{ds:List D}{ws:List V}(fh:Same F H)(ho:ObAt K F H o a)(hd:DenL K F ds ws):StE K F H (L2.start N (.ref a::ws)) (bx N.length a o ds):=⟨fh,λi sl e=>by
 rcases ly e with⟨rfl,rfl⟩ | ⟨j,d,rfl,q,rfl⟩
 ·exact⟨.ref a,HF,rfl,ho⟩
 ·obtain⟨v,e1,e2⟩:=hd.get q;have hj:=(We.mp e1).1;refine⟨v,?_,e2⟩;unfold L2.start;rw[Wg,YD,WW,WB (by simpa using hj),Wb,e1];rfl⟩
def vp{N:List Str}{a:Addr}{o:Ob}{ds:List D}{ws:List V}(hd:DenL K F ds ws):(bx N.length a o ds).length=(L2.start N (.ref a::ws)).length:=by
 have:=hd.len;unfold bx L2.start;simp only[V7,Wh,V4,Y0];omega
def less(H:Hp)(o:Ob)(a:Addr):Hp:=λb=>if b∈bg H o a then none else H b
def EF{N:List Str}{a:Addr}{o:Ob}{ds:List D}{ws:List V}(fh:Same F H)(ho:ObAt K F H o a)(hd:DenL K F ds ws):StX K F (less H o a) F H (L2.start N (.ref a::ws)) (bx N.length a o ds):=by
 have zero:∀{i:Nat}{sl:Sl}{v:V}{b:Addr},(bx N.length a o ds)[i]? =some (some sl)->b∈sl.foot H v->i=0:=λ{i sl v b} e hb=>by
  rcases ly e with⟨h,_⟩ | ⟨j,d,_,_,rfl⟩
  ·exact h
  ·cases hb
 refine⟨⟨⟨λb u e=>?_,Same.refl _,fh,λb hb=> .inl rfl⟩,o4 fh ho hd,vp hd,λi c b e=>?_,λi j sl mN v v' b e1 e2 _ _ h5 h6=>by rw[zero e1 h5,zero e2 h6]⟩,λi a' o' b e hb=>?_⟩
 ·unfold less at e;split at e
  ·cases e
  ·exact e
 ·rcases ly e with⟨_,z⟩ | ⟨_,_,_,_,z⟩<;>cases z
 ·rcases ly e with⟨_,z⟩ | ⟨_,_,_,_,z⟩
  ·cases z;unfold less;rw[acz hb]
  ·cases z
def StX.done{o o':Ob}{a:Addr}{F' H':Hp}{σ:St}{ρ:bb}(s:StX K F (less H o a) F' H' σ ρ){i:Nat}(h:ρ[i]? =some (some (.ob a o'))):ObStep K F H o a F' H' o' where
 hh:=λb u nb e=>s.ok.ext.hh b u (by unfold less;rw[acA nb];exact e)
 ff:=s.ok.ext.ff
 fh:=s.ok.st.fh
 new:=λb nb hb=>by
  have e:less H o a b=H b:=by unfold less;rw[acA nb]
  have:=s.ok.ext.new b (by rw[e];exact hb);rw[e] at this;exact this
 ob:=(s.at h).2
 foot:=λb hb=>by
  have:=s.obn i a o' b h hb;unfold less at this;split at this
  ·rename_i q;exact .inl q
  ·exact .inr this
end
section
variable{P:Wz}{w:World}{K:V9}{mg:Str->Option Value}{base:Heap}{cv:Nat->Value}{k:Nat}{f C:Addr}{fd:Ys}{N ps:List Str}
def QJ{x qual:Str}{st:Stmt}{e:Expr}{pos:Pos}{δ:DE}(Fn:Fun K x qual st f fd)(S:FnScope N ps (ai st))(hb:aF st=[.Return (some e) pos])
 (dI:∀(de:Value) (A:Xa) (outer:List Env) (s:Wa) (H:Hp) (E:XK),Room k (A.deeper (YZ qual (ai st) s.heap.objs.size f de))->
  PD (f7 (jN P w cv) P w K mg base N qual (ai st) f de A outer s H E) (λn H'=>E (cv n) none H') e δ) (m:Nat) (hm:ps.length=m+1):FnOk P w K mg base (jN P w cv) (k+1) f fd ps (R3 K cv C m λa o ds=>δ (bx N.length a o ds)):=by
 obtain⟨oc,od,kV,doc,pm,an,de,ct,Ej,rfl,lk,qF⟩:=Fn.ex;refine u7 lk qF S (λvs H Q E ⟨_,_,_,_,ws,h1,_,_,_,_,hl,_⟩=>by rw[h1,V7,hl,hm]) λA outer s H vs Q E hr yx=>?_;obtain⟨F,o,ds,a,ws,rfl,fh,hc,ho,hd,hl,hw⟩:=yx;rw[hb];exact⟨_,qM (xN (dI de A outer s H E hr)),F,_,o4 fh ho hd,hw⟩
def NF{x y qual:Str}{st:Stmt}{e e':Expr}{pos pos' xM:Pos}{δ δ':DE}{i:Nat}(Fn:Fun K x qual st f fd)(S:FnScope N ps (ai st))(hb:aF st=[.Assign [.Name y xM] e' pos', .Return (some e) pos])
 (dI:∀(de:Value) (A:Xa) (outer:List Env) (s:Wa) (H:Hp) (E:XK),Room k (A.deeper (YZ qual (ai st) s.heap.objs.size f de))->
  qB (f7 (jN P w cv) P w K mg base N qual (ai st) f de A outer s H E) (λn H'=>E (cv n) none H') (.Assign [.Name y xM] e' pos') (bS i δ')/\PD (f7 (jN P w cv) P w K mg base N qual (ai st) f de A outer s H E) (λn H'=>E (cv n) none H') e δ) (m:Nat) (hm:ps.length=m+1):
 FnOk P w K mg base (jN P w cv) (k+1) f fd ps (R3 K cv C m λa o ds=>δ' (bx N.length a o ds)>>=λd=>δ ((bx N.length a o ds).set i (some (.fz d)))):=by
 obtain⟨oc,od,kV,doc,pm,an,de,ct,Ej,rfl,lk,qF⟩:=Fn.ex;refine u7 lk qF S (λvs H Q E ⟨_,_,_,_,ws,h1,_,_,_,_,hl,_⟩=>by rw[h1,V7,hl,hm]) λA outer s H vs Q E hr yx=>?_;obtain⟨F,o,ds,a,ws,rfl,fh,hc,ho,hd,hl,hw⟩:=yx;rw[hb];obtain⟨b1,b2⟩:=dI de A outer s H E hr;refine⟨_,sX (b1 F H) (qM (xN b2)),F,bx N.length a o ds,⟨Ext.refl fh,o4 fh ho hd,vp hd,λi c b e=>?_,λi j sl mN v v' b e1 e2 _ _ h5 h6=>?_⟩,?_⟩
 ·rcases ly e with⟨_,z⟩ | ⟨_,_,_,_,z⟩<;>cases z
 ·have zero:∀{i:Nat}{sl:Sl}{v:V},(bx N.length a o ds)[i]? =some (some sl)->b∈sl.foot H v->i=0:=λ{i sl v} e hb=>by
   rcases ly e with⟨h,_⟩ | ⟨j,d,_,_,rfl⟩
   ·exact h
   ·cases hb
  rw[zero e1 h5,zero e2 h6]
 ·have hw:WP K (λn H'=>E (cv n) none H') F H (δ' (bx N.length a o ds)>>=λd=>δ ((bx N.length a o ds).set i (some (.fz d)))) Q:=hw;show WPS K (λn H'=>E (cv n) none H') F H (δ' (bx N.length a o ds)>>=λd=>aa (.nx ((bx N.length a o ds).set i (some (.fz d))))) _
  match δ' (bx N.length a o ds),hw with
  |none,hw=>exact hw
  |some (.ex n),hw=>exact λF' H' e'=>hw F' H' e'
  |some (.ok d),hw=>exact λσ' F' H' s'=>⟨F',_,s'.st,WP.ext s'.ext (show WP K _ F H (δ ((bx N.length a o ds).set i (some (.fz d)))) Q from hw)⟩
def ND{x qual:Str}{st:Stmt}{τ:XS}{g:Addr->Ob->List D->M (D×Ob)}(Fn:Fun K x qual st f fd)(S:FnScope N ps (ai st))
 (dI:∀(de:Value) (A:Xa) (outer:List Env) (s:Wa) (H:Hp) (E:XK),Room k (A.deeper (YZ qual (ai st) s.heap.objs.size f de))->
  PXSs (f7 (jN P w cv) P w K mg base N qual (ai st) f de A outer s H E) (λn H'=>E (cv n) none H') (aF st) τ) (m:Nat) (hm:ps.length=m+1)
 (hg:∀(a:Addr) (o:Ob) (ds:List D),o.c=C->ds.length=m->match g a o ds with
  |none=>True
  |some (.ok (d,o'))=>τ.f (bx N.length a o ds) λx=>∃(ρ:bb) (i:Nat),ρ[i]? =some (some (Sl.ob a o'))/\(x= .rt (.fz d) ρ\/(d= .non/\x= .nx ρ))
  |some (.ex n)=>τ.f (bx N.length a o ds) λx=>∃(ρ:bb) (i:Nat),ρ[i]? =some (some (Sl.ob a o))/\x= .ex n ρ):FnOk P w K mg base (jN P w cv) (k+1) f fd ps (R1 K cv C m g):=by
 obtain⟨oc,od,kV,doc,pm,an,de,ct,Ej,rfl,lk,qF⟩:=Fn.ex;refine u7 lk qF S (λvs H Q E ⟨_,_,_,_,ws,h1,_,_,_,_,hl,_⟩=>by rw[h1,V7,hl,hm]) λA outer s H vs Q E hr yx=>?_;obtain⟨F,o,ds,a,ws,rfl,fh,hc,ho,hd,hl,hw⟩:=yx;refine⟨_,dI de A outer s H E hr F (less H o a),F,_,EF fh ho hd,?_⟩;have hg:=hg a o ds hc (hd.len.trans hl);generalize g a o ds=r at hg hw
 match r,hg,hw with
 |some (.ok (d,o')),hg,hw=>
  refine τ.mono _ _ _ (λx hx=>?_) hg;obtain⟨ρ,i,h1,h2⟩:=hx;rcases h2 with rfl | ⟨rfl,rfl⟩
  ·exact λv σ' F' H' t=>hw v F' H' (t.tail.done h1) (by obtain⟨u,q1,q2⟩:=t.ok.st.den 0 _ rfl;cases q1;exact q2)
  ·exact λσ' F' H' t=>hw .non F' H' (t.done h1) rfl
 |some (.ex n),hg,hw=>
  refine τ.mono _ _ _ (λx hx=>?_) hg;obtain⟨ρ,i,h1,rfl⟩:=hx;exact λσ' F' H' t=>hw F' H' (t.done h1)
end
def d6(f:Str)(x:Fv):List (Str×Fv)->List (Str×Fv)
 |[]=>[(f,x)]
 |(g,y)::r=>if g=f then(g,x)::r else(g,y)::d6 f x r
def xT:Fv->V->List Addr
 | .ow _, .ref b=>[b]
 |_,_=>[]
def cZ(n m:Str)(x:Fv)(v:V)(fs:List (Str×Fv))(gs:List (Str×V)):br ((n,x)::fs) ((m,v)::gs)=xT x v++br fs gs:=by
 cases x with
 |fz d=>cases v<;>rfl
 |ow l=>cases v<;>rfl
section
variable{K:V9}{F H:Hp}
def FsAt.put{x:Fv}{v:V}{f:Str}(hx:Ie K F H x v):∀{fs:List (Str×Fv)}{gs:List (Str×V)},FsAt K F H fs gs->FsAt K F H (d6 f x fs) (fj f v gs)
 |[],_,h=>by cases (show _=_ from h);exact⟨v,[],rfl,hx,rfl⟩
 |(n,y)::fs,_,⟨u,r,h1,h2,h3⟩=>by
  subst h1;unfold d6 fj;by_cases q:n=f
  ·rw[acz q,acz q];exact⟨v,r,rfl,hx,h3⟩
  ·rw[acA q,acA q];exact⟨u,_,rfl,h2,FsAt.put hx h3⟩
def pO{x:Fv}{v:V}{f:Str}:∀{fs:List (Str×Fv)}{gs:List (Str×V)},FsAt K F H fs gs->(∀b∈br (d6 f x fs) (fj f v gs),b∈xT x v\/b∈br fs gs)/\((∀b∈xT x v,b∉br fs gs)->(br fs gs).Nodup->(xT x v).Nodup->(br (d6 f x fs) (fj f v gs)).Nodup)
 |[],_,h=>by
  cases (show _=_ from h);have e:br (d6 f x []) (fj f v [])=xT x v++[]:=cZ f f x v [] [];rw[e,W5];exact⟨λb hb=> .inl hb,λ_ _ h=>h⟩
 |(n,y)::fs,_,⟨u,r,h1,h2,h3⟩=>by
  subst h1;unfold d6 fj;rw[cZ];by_cases q:n=f
  ·rw[acz q,acz q,cZ];refine⟨λb hb=>?_,λk1 k2 k3=>?_⟩
   ·rcases W3.mp hb with z | z
    ·exact .inl z
    ·exact .inr (Ww _ z)
   ·exact W_.mpr ⟨k3,(W_.mp k2).2.1,λb hb c hc e=>k1 b hb (Ww _ (e▸hc))⟩
  ·rw[acA q,acA q,cZ];obtain⟨i1,i2⟩:=pO (x:=x) (v:=v) (f:=f) h3;refine⟨λb hb=>?_,λk1 k2 k3=>?_⟩
   ·rcases W3.mp hb with z | z
    ·exact .inr (XH _ z)
    ·rcases i1 b z with z | z
     ·exact .inl z
     ·exact .inr (Ww _ z)
   ·obtain⟨n1,n2,n3⟩:=W_.mp k2;refine W_.mpr ⟨n1,i2 (λb hb z=>k1 b hb (Ww _ z)) n2 k3,λb hb c hc e=>?_⟩;rcases i1 c hc with z | z
    ·exact k1 c z (XH _ (e▸hb))
    ·exact n3 b hb c z e
def ObAt.put{o:Ob}{a dx:Addr}{gs:List (Str×V)}{x:Fv}{v:V}{f:Str}(h:ObAt K F H o a)(ha:H a=some (.ins o.c dx gs)){H1:Hp}(hk:∀b∈bg H o a,H1 b=H b)(hx:Ie K F H1 x v)(hr:∀b∈xT x v,H b=none/\F b=none)(hn:(xT x v).Nodup)(hh:∀b u,H b=some u->H1 b=some u)(fh:Same F H1):
 ObStep K F H o a F (upd H1 a (.ins o.c dx (fj f v gs))) {o with fs:=d6 f x o.fs}:=by
 obtain⟨TN,T6,q1,q2,q3,q4⟩:=h.foot;rw[ha] at q1;cases q1;have nd:=h.nd;rw[q4] at nd;obtain⟨n1,n2⟩:=WV.mp nd;obtain⟨n3,n4⟩:=WV.mp n2;have gk:dx≠a:=λz=>n1 (z▸V6 ..);have cell:=h.cell;have r1:∀b∈xT x v,b∉bg H o a:=λb hb q=>by
  obtain⟨u,e,_⟩:=cell b q;rw[(hr b hb).1] at e;cases e
 obtain⟨p1,p2⟩:=pO (x:=x) (v:=v) (f:=f) q3;have fA:F a=none:=h.nf a (by rw[q4];exact V6 ..);have ft:bg (upd H1 a (.ins o.c dx (fj f v gs))) {o with fs:=d6 f x o.fs} a=a::dx::br (d6 f x o.fs) (fj f v gs):=by unfold bg;rw[aH]
 have sub:∀b∈br (d6 f x o.fs) (fj f v gs),b∈xT x v\/b∈br o.fs gs:=p1;have na:∀b∈br (d6 f x o.fs) (fj f v gs),b≠a:=λb hb z=>by
  rcases sub b hb with q | q
  ·exact r1 b q (by rw[q4,z];exact V6 ..)
  ·exact n1 (z▸V3 _ q)
 have Qa:dx∉br (d6 f x o.fs) (fj f v gs):=λhb=>by
  rcases sub dx hb with q | q
  ·exact r1 dx q (by rw[q4];exact V3 _ (V6 ..))
  ·exact n3 q
 have nn:(br (d6 f x o.fs) (fj f v gs)).Nodup:=p2 (λb hb q=>r1 b hb (by rw[q4];exact V3 _ (V3 _ q))) n4 hn;have Vs:FsAt K F H1 o.fs gs:=q3.move (Same.refl _) λb hb=>hk b (by rw[q4];exact V3 _ (V3 _ hb));refine⟨λb u nb e=>?_,Same.refl _,λb u e=>?_,λb _ _=> .inl rfl,⟨⟨dx,_,aH,?_,?_⟩,?_,?_⟩,?_⟩
 ·rw[az (λz=>nb (by rw[z,q4];exact V6 ..))];exact hh b u e
 ·rw[az (λz=>by rw[z,fA] at e;cases e)];exact fh b u e
 ·rw[az gk,hk dx (by rw[q4];exact V3 _ (V6 ..))];exact q2
 ·exact(FsAt.put hx Vs).move (Same.refl _) λb hb=>az (na b hb)
 ·intro b hb;rw[ft] at hb;rcases Wc.mp hb with rfl | hb
  ·exact fA
  ·rcases Wc.mp hb with rfl | hb
   ·exact h.nf b (by rw[q4];exact V3 _ (V6 ..))
   ·rcases sub b hb with q | q
    ·exact(hr b q).2
    ·exact h.nf b (by rw[q4];exact V3 _ (V3 _ q))
 ·rw[ft];refine WV.mpr ⟨λq=>?_,WV.mpr ⟨Qa,nn⟩⟩;rcases Wc.mp q with z | z
  ·exact gk z.symm
  ·exact na a z rfl
 ·intro b hb;rw[ft] at hb;rcases Wc.mp hb with rfl | hb
  ·exact .inl (by rw[q4];exact V6 ..)
  ·rcases Wc.mp hb with rfl | hb
   ·exact .inl (by rw[q4];exact V3 _ (V6 ..))
   ·rcases sub b hb with q | q
    ·exact .inr (hr b q).1
    ·exact .inl (by rw[q4];exact V3 _ (V3 _ q))
def FsAt.chg{f:Str}{b:Addr}{ds ds':List D}{vs':List V}(hd:DenL K F ds' vs')(hl:ds'.length<=lim):∀{fs:List (Str×Fv)}{gs:List (Str×V)},FsAt K F H fs gs->fs.lookup f=some (.ow ds)->gs.lookup f=some (.ref b)->(br fs gs).Nodup->
 FsAt K F (upd H b (.lst vs')) (d6 f (.ow ds') fs) gs/\br (d6 f (.ow ds') fs) gs=br fs gs/\b∈br fs gs
 |[],_,_,e,_,_=>by cases e
 |(n,y)::fs,_,⟨u,r,h1,h2,h3⟩,e,e',nd=>by
  subst h1;rw[Xj] at e e';rw[cZ] at nd⊢;unfold d6;by_cases q:n=f
  ·have qb:(f==n)=true:=by rw[q];exact beq_self_eq_true _
   rw[qb] at e e';cases e;cases e';rw[acz q,cZ];refine⟨⟨_,r,rfl,⟨b,vs',rfl,aH,hd,hl⟩,h3.move (Same.refl _) λc hc=>az λz=>?_⟩,rfl,XH _ (Wo.mpr rfl)⟩;exact(W_.mp nd).2.2 b (Wo.mpr rfl) c hc z.symm
  ·have qb:(f==n)=false:=acG.mpr λz=>q z.symm;rw[qb] at e e';rw[acA q,cZ];obtain⟨n1,n2,n3⟩:=W_.mp nd;obtain⟨i1,i2,i3⟩:=FsAt.chg hd hl h3 e e' n2;refine⟨⟨u,r,rfl,?_,i1⟩,by rw[i2],Ww _ i3⟩;cases y with
   |fz d=>exact h2
   |ow l=>
    obtain⟨c,vs,rfl,c2,c3⟩:=h2;exact⟨c,vs,rfl,by rw[az (n3 c (Wo.mpr rfl) b i3)];exact c2,c3⟩
def ObAt.chg{o:Ob}{a b:Addr}{f:Str}{ds ds':List D}{dx:Addr}{gs:List (Str×V)}{vs':List V}(h:ObAt K F H o a)(ha:H a=some (.ins o.c dx gs))(hf:o.fs.lookup f=some (.ow ds))(hb:gs.lookup f=some (.ref b))(hd:DenL K F ds' vs')(hl:ds'.length<=lim)(fh:Same F H):
 ObStep K F H o a F (upd H b (.lst vs')) {o with fs:=d6 f (.ow ds') o.fs}:=by
 obtain⟨TN,T6,q1,q2,q3,q4⟩:=h.foot;rw[ha] at q1;cases q1;have nd:=h.nd;rw[q4] at nd;obtain⟨n1,n2⟩:=WV.mp nd;obtain⟨n3,n4⟩:=WV.mp n2;obtain⟨c1,c2,c3⟩:=FsAt.chg hd hl q3 hf hb n4;have bm:b∈bg H o a:=by rw[q4];exact V3 _ (V3 _ c3)
 have ba:b≠a:=λz=>n1 (z▸V3 _ c3);have bd:b≠dx:=λz=>n3 (z▸c3);have e1:upd H b (.lst vs') a=some (.ins o.c dx gs):=by rw[az (XR ba)];exact ha
 have ft:bg (upd H b (.lst vs')) {o with fs:=d6 f (.ow ds') o.fs} a=bg H o a:=by rw[q4];unfold bg;rw[e1];show a::dx::br (d6 f (.ow ds') o.fs) gs=_;rw[c2]
 exact⟨λc u nc e=>by rw[az (λ(z:c=b)=>nc (by rw[z];exact bm))];exact e,Same.refl _,λc u e=>by rw[az (λz=>by rw[z,h.nf b bm] at e;cases e)];exact fh c u e,λ_ _ _=> .inl rfl,
  ⟨⟨dx,gs,e1,by rw[az (XR bd)];exact q2,c1⟩,by rw[ft];exact h.nf,by rw[ft];exact h.nd⟩,λc hc=> .inl (ft▸hc)⟩
end
def bQ(o:Ob)(f:Str)(x:Fv):Ob:={o with fs:=d6 f x o.fs}
def oe(C:Addr)(i:Nat)(f:Str)(δ:DE):XS:=⟨λρ Q=>match δ ρ with
 |none=>False
 |some (.ex n)=>Q (.ex n ρ)
 |some (.ok d)=>match bP ρ i C with
  |some (a,o)=>o.fs.length<100/\Q (.nx (ρ.set i (some (.ob a (bQ o f (.fz d))))))
  |none=>False,λρ P Q k h=>by
 match δ ρ,h with
 |some (.ex n),h=>exact k _ h
 |some (.ok d),h=>
  have h:(match bP ρ i C with | some (a,o)=>o.fs.length<100/\P (.nx (ρ.set i (some (.ob a (bQ o f (.fz d)))))) | none=>False):=h;show (match bP ρ i C with | some (a,o)=>o.fs.length<100/\Q (.nx (ρ.set i (some (.ob a (bQ o f (.fz d)))))) | none=>False)
  match bP ρ i C,h with
  |some (a,o),h=>exact⟨h.1,k _ h.2⟩⟩
def qO(C:Addr)(i:Nat)(f:Str)(δs:DA):XS:=⟨λρ Q=>match δs ρ with
 |none=>False
 |some (.ex n)=>Q (.ex n ρ)
 |some (.ok ds)=>match bP ρ i C with
  |some (a,o)=>o.fs.length<100/\ds.length<=lim/\Q (.nx (ρ.set i (some (.ob a (bQ o f (.ow ds))))))
  |none=>False,λρ P Q k h=>by
 match δs ρ,h with
 |some (.ex n),h=>exact k _ h
 |some (.ok ds),h=>
  have h:(match bP ρ i C with | some (a,o)=>o.fs.length<100/\ds.length<=lim/\P (.nx (ρ.set i (some (.ob a (bQ o f (.ow ds)))))) | none=>False):=h;show (match bP ρ i C with | some (a,o)=>o.fs.length<100/\ds.length<=lim/\Q (.nx (ρ.set i (some (.ob a (bQ o f (.ow ds)))))) | none=>False)
  match bP ρ i C,h with
  |some (a,o),h=>exact⟨h.1,h.2.1,k _ h.2.2⟩⟩
def yj(C:Addr)(i:Nat)(f:Str)(δ:DE):XS:=⟨λρ Q=>match bP ρ i C with
 |none=>False
 |some (a,o)=>match o.fs.lookup f with
  |some (.ow ds)=>(match δ ρ with
   |none=>False
   |some (.ex n)=>Q (.ex n ρ)
   |some (.ok d)=>ds.length<lim/\Q (.nx (ρ.set i (some (.ob a (bQ o f (.ow (ds++[d]))))))))
  |_=>False,λρ P Q k h=>by
 match bP ρ i C,h with
 |some (a,o),h=>
  have h:(match o.fs.lookup f with | some (.ow ds)=>(match δ ρ with | none=>False | some (.ex n)=>P (.ex n ρ) | some (.ok d)=>ds.length<lim/\P (.nx (ρ.set i (some (.ob a (bQ o f (.ow (ds++[d])))))))) | _=>False):=h;show (match o.fs.lookup f with | some (.ow ds)=>(match δ ρ with | none=>False | some (.ex n)=>Q (.ex n ρ) | some (.ok d)=>ds.length<lim/\Q (.nx (ρ.set i (some (.ob a (bQ o f (.ow (ds++[d])))))))) | _=>False)
  match o.fs.lookup f,h with
  |some (.ow ds),h=>
   match δ ρ,h with
   |some (.ex n),h=>exact k _ h
   |some (.ok d),h=>exact⟨h.1,k _ h.2⟩⟩
def yk(C:Addr)(i:Nat)(f:Str):XS:=⟨λρ Q=>match bP ρ i C with
 |none=>False
 |some (a,o)=>match o.fs.lookup f with
  |some (.ow ds)=>0<ds.length/\Q (.nx (ρ.set i (some (.ob a (bQ o f (.ow ds.dropLast))))))
  |_=>False,λρ P Q k h=>by
 match bP ρ i C,h with
 |some (a,o),h=>
  have h:(match o.fs.lookup f with | some (.ow ds)=>0<ds.length/\P (.nx (ρ.set i (some (.ob a (bQ o f (.ow ds.dropLast)))))) | _=>False):=h;show (match o.fs.lookup f with | some (.ow ds)=>0<ds.length/\Q (.nx (ρ.set i (some (.ob a (bQ o f (.ow ds.dropLast)))))) | _=>False)
  match o.fs.lookup f,h with
  |some (.ow ds),h=>exact⟨h.1,k _ h.2⟩⟩
section
variable{K:V9}
def FsAt.len{F H:Hp}:∀{fs:List (Str×Fv)}{gs:List (Str×V)},FsAt K F H fs gs->gs.length=fs.length
 |[],_,h=>by cases (show _=_ from h);rfl
 |_::fs,_,⟨_,r,h1,_,h3⟩=>by subst h1;rw[V7,V7,FsAt.len h3]
def DenL.dropLast{F:Hp}{ds:List D}{vs:List V}(h:DenL K F ds vs):DenL K F ds.dropLast vs.dropLast:=by
 rw[abG,abG,h.len];exact h.take _
end
section
variable{X:Cx}{Xw:Nat->Hp->Prop}{C:Addr}{i:Nat}{x f:Str}{p pos u8 uc aY:Pos}{e:Expr}{es:List Expr}{δ:DE}{δs:DA}
def mI(c:Cls X.K C)(n:NoAttr X.K C f)(h:PE X (.Name x p) (g7 i))(he:PD X Xw e δ)(hs:Yn e (some (.Attribute (.Name x p) f u8)) pos.line X.env=pure false:=by rfl):Au X Xw (.Assign [.Attribute (.Name x p) f u8] e pos) (oe C i f δ):=λt0 acI=>PS.weak (Hd h he hs) λD σ H ⟨F,ρ,s,w⟩=>by
 have w:(match δ ρ with
  |none=>False
  |some (.ex n)=>fE X.K Xw t0 acI D (.ex n ρ)
  |some (.ok d)=>match bP ρ i C with
   |some (a,o)=>o.fs.length<100/\fE X.K Xw t0 acI D (.nx (ρ.set i (some (.ob a (bQ o f (.fz d))))))
   |none=>False):=w
 refine⟨F,ρ,s.ok.st,?_⟩
 match δ ρ,w with
 |some (.ex n),w=>exact λF' H' e'=>w σ F' H' (s.ext' e')
 |some (.ok d),w=>
  intro v H1 F1 e1 q;have s1:=s.ext' e1
  match ho:bP ρ i C,w with
  |some (a,o),w=>
   obtain⟨h1,h2,h3⟩:=s1.ok.st.ob ho;obtain⟨dx,gs,q1,q2,q3,q4⟩:=h2.foot;have st:=ObAt.put (f:=f) (x:= .fz d) (v:=v) (H1:=H1) h2 q1 (λ_ _=>rfl) q (λb hb=>by cases v<;>cases hb) (by cases v<;>exact Yw) (λ_ _ e=>e) s1.ok.st.fh;refine⟨.ref a,h1,a,C,dx,gs,rfl,by rw[q1,h3],c,n,by rw[q3.len];omega,?_⟩;have:=w.2 σ F1 _ (s1.step (fK ho).1 st);rw[h3] at this;exact this
def sY{Jd:Pos}(c:Cls X.K C)(n:NoAttr X.K C f)(h:PE X (.Name x p) (g7 i))(he:lC X Xw es δs)(hs:Yn (.List es Jd) (some (.Attribute (.Name x p) f u8)) pos.line X.env=pure false:=by rfl):Au X Xw (.Assign [.Attribute (.Name x p) f u8] (.List es Jd) pos) (qO C i f δs):=λt0 acI=>PS.weak (Hd h (xK he) hs) λD σ H ⟨F,ρ,s,w⟩=>by
 have w:(match δs ρ with
  |none=>False
  |some (.ex n)=>fE X.K Xw t0 acI D (.ex n ρ)
  |some (.ok ds)=>match bP ρ i C with
   |some (a,o)=>o.fs.length<100/\ds.length<=lim/\fE X.K Xw t0 acI D (.nx (ρ.set i (some (.ob a (bQ o f (.ow ds))))))
   |none=>False):=w
 refine⟨F,ρ,s.ok.st,?_⟩
 match δs ρ,w with
 |some (.ex n),w=>exact λF' H' e'=>w σ F' H' (s.ext' e')
 |some (.ok ds),w=>
  intro vs H1 F1 e1 q;have s1:=s.ext' e1
  match ho:bP ρ i C,w with
  |some (a,o),w=>
   refine⟨by rw[<-q.len];have:=eZ;omega,λb hb=>?_⟩;obtain⟨h1,h2,h3⟩:=s1.ok.st.ob ho;obtain⟨dx,gs,q1,q2,q3,q4⟩:=h2.foot;have hk:∀c∈bg H1 o a,upd H1 b (.lst vs) c=H1 c:=λc hc=>az λz=>by
    obtain⟨u,e,_⟩:=h2.cell c hc;rw[z,hb] at e;cases e
   have e2:=Ext.free (o:= .lst vs) s1.ok.st.fh hb;have st:=ObAt.put (f:=f) (x:= .ow ds) (v:= .ref b) (H1:=upd H1 b (.lst vs)) h2 q1 hk ⟨b,vs,rfl,aH,q,w.2.1⟩ (λc hc=>by rw[Wo.mp hc];exact⟨hb,Same.free s1.ok.st.fh hb⟩) (WV.mpr ⟨λz=>(by cases z),Yw⟩) e2.hh e2.fh;have MX:upd H1 b (.lst vs) a=some (.ins o.c dx gs):=by rw[hk a (by rw[q4];exact V6 ..)];exact q1
   refine⟨.ref a,h1,a,C,dx,gs,rfl,by rw[MX,h3],c,n,by rw[q3.len];omega,?_⟩;have:=w.2.2 σ F1 _ (s1.step (fK ho).1 st);rw[h3] at this;exact this
def BH(c:Cls X.K C)(n:NoAttr X.K C f)(h:PE X (.Name x p) (g7 i))(he:PD X Xw e δ)(hb:WR (.Name x p) f X.env (eval (.Name x p) X.env)=eval (.Name x p) X.env:=by rfl)
 (hs:Yn (.Call (.Attribute (.Attribute (.Name x p) f uc) "append" u8) [e] [] aY) none pos.line X.env=pure false:=by rfl)
 (dY:WR (.Attribute (.Name x p) f uc) "append" X.env (eval (.Attribute (.Name x p) f uc) X.env)=eval (.Attribute (.Name x p) f uc) X.env:=by rfl)
 (mx:((Xv aY (Wf [e] X.env)).all (λx=>!x.1)&&(X7 aY (Xi [] X.env)).all (λx=>x.1.isSome)&&decide ([e].length+([]:List Yp).length+(if ([]:List Yp).isEmpty then 0 else 1)<30))=true:=by rfl)
 (dZ:(u8.endLine==aY.line)=true:=by rfl)(qa:Wf [e] X.env=[(false,eval e X.env)]:=by rfl):Au X Xw (.Expr (.Call (.Attribute (.Attribute (.Name x p) f uc) "append" u8) [e] [] aY) pos) (yj C i f δ):=λt0 acI=>
 PS.weak (ju (CO X5 aaD aaC oJ (sT h hb) (nR he oO qa) dY mx dZ qa rfl) hs) λD σ H ⟨F,ρ,s,w⟩=>by
 have w:(match bP ρ i C with
  |none=>False
  |some (a,o)=>match o.fs.lookup f with
   |some (.ow ds)=>(match δ ρ with
    |none=>False
    |some (.ex n)=>fE X.K Xw t0 acI D (.ex n ρ)
    |some (.ok d)=>ds.length<lim/\fE X.K Xw t0 acI D (.nx (ρ.set i (some (.ob a (bQ o f (.ow (ds++[d]))))))))
   |_=>False):=w
 match ho:bP ρ i C,w with
 |some (a,o),w=>
  have w:(match o.fs.lookup f with
   |some (.ow ds)=>(match δ ρ with
    |none=>False
    |some (.ex n)=>fE X.K Xw t0 acI D (.ex n ρ)
    |some (.ok d)=>ds.length<lim/\fE X.K Xw t0 acI D (.nx (ρ.set i (some (.ob a (bQ o f (.ow (ds++[d]))))))))
   |_=>False):=w
  obtain⟨h1,h2,h3⟩:=s.ok.st.ob ho;obtain⟨dx,gs,q1,q2,q3,q4⟩:=h2.foot
  match hf:o.fs.lookup f,w with
  |some (.ow ds),w=>
   obtain⟨v,v1,b,vs,rfl,v3,v4,v5⟩:=q3.get hf;have key:tD X.K Xw δ σ H (λy H2=>xR (.ref b) [y] H2 λ_ H3=>D.nx σ H3):=by
    refine⟨F,ρ,s.ok.st,?_⟩
    match δ ρ,w with
    |some (.ex n),w=>exact λF' H' e'=>w σ F' H' (s.ext' e')
    |some (.ok d),w=>
     intro y H1 F1 e1 q;have s1:=s.ext' e1;obtain⟨_,k2,_⟩:=s1.ok.st.ob ho;have st:=ObAt.chg (f:=f) (ds':=ds++[d]) (vs':=vs++[y]) k2 (e1.hh _ _ q1) hf v1 (DenL.append (DenL.mono e1.ff v4) (.cons q .nil)) (by rw[Wh];show ds.length+1<=lim;have:=w.1;omega) s1.ok.st.fh;have Ru:=v4.len;exact⟨b,vs,y,rfl,rfl,e1.hh _ _ v3,by have:=eZ;have:=w.1;omega,w.2 σ F1 _ (s1.step (fK ho).1 st)⟩
   exact⟨.ref a,h1,a,C,dx,gs, .ref b,rfl,by rw[q1,h3],c,n,v1, .inl ⟨rfl,vs,SqL.of v3⟩,key⟩
def BI(c:Cls X.K C)(n:NoAttr X.K C f)(h:PE X (.Name x p) (g7 i))(hb:WR (.Name x p) f X.env (eval (.Name x p) X.env)=eval (.Name x p) X.env:=by rfl)
 (hs:Yn (.Call (.Attribute (.Attribute (.Name x p) f uc) "pop" u8) [] [] aY) none pos.line X.env=pure false:=by rfl)
 (dY:WR (.Attribute (.Name x p) f uc) "pop" X.env (eval (.Attribute (.Name x p) f uc) X.env)=eval (.Attribute (.Name x p) f uc) X.env:=by rfl)
 (dZ:(u8.endLine==aY.line)=true:=by rfl):Au X Xw (.Expr (.Call (.Attribute (.Attribute (.Name x p) f uc) "pop" u8) [] [] aY) pos) (yk C i f):=λt0 acI=>
 PS.weak (ju (Mg X5 PySem.F.slot_list_pop PySem.F.type_list_pop L5 (sT h hb) dY dZ) hs) λD σ H ⟨F,ρ,s,w⟩=>by
 have w:(match bP ρ i C with
  |none=>False
  |some (a,o)=>match o.fs.lookup f with
   |some (.ow ds)=>0<ds.length/\fE X.K Xw t0 acI D (.nx (ρ.set i (some (.ob a (bQ o f (.ow ds.dropLast))))))
   |_=>False):=w
 match ho:bP ρ i C,w with
 |some (a,o),w=>
  have w:(match o.fs.lookup f with
   |some (.ow ds)=>0<ds.length/\fE X.K Xw t0 acI D (.nx (ρ.set i (some (.ob a (bQ o f (.ow ds.dropLast))))))
   |_=>False):=w
  obtain⟨h1,h2,h3⟩:=s.ok.st.ob ho;obtain⟨dx,gs,q1,q2,q3,q4⟩:=h2.foot
  match hf:o.fs.lookup f,w with
  |some (.ow ds),w=>
   obtain⟨v,v1,b,vs,rfl,v3,v4,v5⟩:=q3.get hf;have Ru:=v4.len;have st:=ObAt.chg (f:=f) (ds':=ds.dropLast) (vs':=vs.dropLast) h2 q1 hf v1 (DenL.dropLast v4) (by rw[abU];omega) s.ok.st.fh;have f_:vs.length - 1<vs.length:=by have:=w.1;omega
   exact⟨.ref a,h1,a,C,dx,gs, .ref b,rfl,by rw[q1,h3],c,n,v1, .inl ⟨rfl,vs,SqL.of v3⟩,b,vs,_,rfl,rfl,v3,V5 f_,w.2 σ F _ (s.step (fK ho).1 st)⟩
end
def MethAt(K:V9)(C:Addr)(x qual:Str)(st:Stmt)(f:Addr):Prop:=Cls K C/\Meth K C x f/\∃fd,Fun K x qual st f fd
def wg(K:V9)(mg:Str->Option Value)(C:Addr)(x qual:Str)(st:Stmt)(f:Addr):Prop:=Mk K C f/\mg x=some (.ref C)/\∃fd,Fun K "__init__" qual st f fd
section
variable{P:Wz}{w:World}{K:V9}{mg:Str->Option Value}{base:Heap}{cv:Nat->Value}{k m:Nat}{f C:Addr}{N ps:List Str}{x y qual:Str}{st:Stmt}{e e':Expr}{pos pos' xM:Pos}{δ δ':DE}{i:Nat}
def nr(T:MethAt K C x qual st f)(S:FnScope N ps (ai st))(hm:ps.length=m+1)
 (IE:∀(kV doc pm:Value) (an:Option Addr) (de ct:Value) (us:List Value),us.length=ps.length->aav (W6 x qual (aQ st) (aF st) (ai st) .none kV doc pm an de ct) ⟨us,[]⟩=pure (ps.zip us))
 (hb:aF st=[.Return (some e) pos])
 (dI:∀(de:Value) (A:Xa) (outer:List Env) (s:Wa) (H:Hp) (E:XK),Room k (A.deeper (YZ qual (ai st) s.heap.objs.size f de))->
  PD (f7 (jN P w cv) P w K mg base N qual (ai st) f de A outer s H E) (λn H'=>E (cv n) none H') e δ):eG P w K mg base cv (k+1) C x m λa o ds=>δ (bx N.length a o ds):=by
 obtain⟨h1,h2,fd,Fn⟩:=T;exact⟨f,fd,ps,h1,h2,Fn.binds IE,QJ Fn S hb dI m hm⟩
def D6(T:MethAt K C x qual st f)(S:FnScope N ps (ai st))(hm:ps.length=m+1)
 (IE:∀(kV doc pm:Value) (an:Option Addr) (de ct:Value) (us:List Value),us.length=ps.length->aav (W6 x qual (aQ st) (aF st) (ai st) .none kV doc pm an de ct) ⟨us,[]⟩=pure (ps.zip us))
 (hb:aF st=[.Assign [.Name y xM] e' pos', .Return (some e) pos])
 (dI:∀(de:Value) (A:Xa) (outer:List Env) (s:Wa) (H:Hp) (E:XK),Room k (A.deeper (YZ qual (ai st) s.heap.objs.size f de))->
  qB (f7 (jN P w cv) P w K mg base N qual (ai st) f de A outer s H E) (λn H'=>E (cv n) none H') (.Assign [.Name y xM] e' pos') (bS i δ')/\PD (f7 (jN P w cv) P w K mg base N qual (ai st) f de A outer s H E) (λn H'=>E (cv n) none H') e δ):
 eG P w K mg base cv (k+1) C x m λa o ds=>δ' (bx N.length a o ds)>>=λd=>δ ((bx N.length a o ds).set i (some (.fz d))):=by
 obtain⟨h1,h2,fd,Fn⟩:=T;exact⟨f,fd,ps,h1,h2,Fn.binds IE,NF Fn S hb dI m hm⟩
def fQ(C:Addr)(m n:Nat)(τ:XS)(g:Addr->Ob->List D->M (D×Ob)):Prop:=∀(a:Addr) (o:Ob) (ds:List D),o.c=C->ds.length=m->match g a o ds with
 |none=>True
 |some (.ok (d,o'))=>τ.f (bx n a o ds) λx=>∃(ρ:bb) (i:Nat),ρ[i]? =some (some (Sl.ob a o'))/\(x= .rt (.fz d) ρ\/(d= .non/\x= .nx ρ))
 |some (.ex n')=>τ.f (bx n a o ds) λx=>∃(ρ:bb) (i:Nat),ρ[i]? =some (some (Sl.ob a o))/\x= .ex n' ρ
def j5{τ:XS}{g:Addr->Ob->List D->M (D×Ob)}(T:MethAt K C x qual st f)(S:FnScope N ps (ai st))(hm:ps.length=m+1)
 (IE:∀(kV doc pm:Value) (an:Option Addr) (de ct:Value) (us:List Value),us.length=ps.length->aav (W6 x qual (aQ st) (aF st) (ai st) .none kV doc pm an de ct) ⟨us,[]⟩=pure (ps.zip us))
 (hg:fQ C m N.length τ g)
 (dI:∀(de:Value) (A:Xa) (outer:List Env) (s:Wa) (H:Hp) (E:XK),Room k (A.deeper (YZ qual (ai st) s.heap.objs.size f de))->
  PXSs (f7 (jN P w cv) P w K mg base N qual (ai st) f de A outer s H E) (λn H'=>E (cv n) none H') (aF st) τ):gD P w K mg base cv (k+1) C x m g:=by
 obtain⟨h1,h2,fd,Fn⟩:=T;exact⟨f,fd,ps,h1,h2,Fn.binds IE,ND Fn S dI m hm hg⟩
def zk{τ:XS}{g:Addr->Ob->List D->M (D×Ob)}(T:wg K mg C x qual st f)(S:FnScope N ps (ai st))(hm:ps.length=m+1)
 (IE:∀(kV doc pm:Value) (an:Option Addr) (de ct:Value) (us:List Value),us.length=ps.length->aav (W6 "__init__" qual (aQ st) (aF st) (ai st) .none kV doc pm an de ct) ⟨us,[]⟩=pure (ps.zip us))
 (hg:fQ C m N.length τ g)
 (dI:∀(de:Value) (A:Xa) (outer:List Env) (s:Wa) (H:Hp) (E:XK),Room k (A.deeper (YZ qual (ai st) s.heap.objs.size f de))->
  PXSs (f7 (jN P w cv) P w K mg base N qual (ai st) f de A outer s H E) (λn H'=>E (cv n) none H') (aF st) τ):MakeM P w K mg base cv (k+1) C x m g:=by
 obtain⟨h1,h2,fd,Fn⟩:=T;exact⟨f,fd,ps,h1,h2,Fn.binds IE,ND Fn S dI m hm hg⟩
def DG:List D->M D
 |[.scr ns]=>if ns.length<=63 then aa (.bl true) else af
 |_=>af
def DH(ns:List Int)(h:ns.length<=63):DG [.scr ns]=aa (.bl true):=acz h
def QI{fd:Ys}{τ:XS}(Fn:Fun K x qual st f fd)(S:FnScope N ps (ai st))(hp:ps.length=1)
 (dI:∀(de:Value) (A:Xa) (outer:List Env) (s:Wa) (H:Hp) (E:XK),Room k (A.deeper (YZ qual (ai st) s.heap.objs.size f de))->
  PXSs (f7 (jN P w cv) P w K mg base N qual (ai st) f de A outer s H E) (λn H'=>E (cv n) none H') (aF st) τ)
 (hg:∀ns:List Int,ns.length<=63->τ.f (some (.fz (.scr ns))::Wx (N.length - 1) none) λx=>∃ρ,x= .rt (.fz (.bl true)) ρ):FnOk P w K mg base (jN P w cv) (k+1) f fd ps (MG K cv 1 DG):=by
 obtain⟨oc,od,kV,doc,pm,an,de,ct,Ej,rfl,lk,qF⟩:=Fn.ex;refine u7 lk qF S (λvs H Q E ⟨_,_,_,_,hl,_⟩=>hl.trans hp.symm) λA outer s H vs Q E hr yx=>?_;obtain⟨F,ds,fh,hd,hl,hw⟩:=yx;unfold DG at hw;split at hw
 ·rename_i ns;have st:=HE (N:=N) fh hd;split at hw
  ·rename_i T7;have st:StOk K F H F H (L2.start N vs) (some (.fz (.scr ns))::Wx (N.length - 1) none):=st;have stx:StX K F H F H (L2.start N vs) (some (.fz (.scr ns))::Wx (N.length - 1) none):=by
    refine⟨st,λi a o b h _=>?_⟩;cases i with
    |zero=>cases h
    |succ i=>
     rw[WW,Xd] at h;split at h<;>cases h
   refine⟨_,dI de A outer s H E hr F H,F,_,stx,τ.mono _ _ _ (λx hx=>?_) (hg ns T7)⟩;obtain⟨ρ,rfl⟩:=hx;intro v σ' F' H' t;obtain⟨u,q1,q2⟩:=t.ok.st.den 0 _ rfl;cases q1;exact hw v H' F' t.ok.ext q2
  ·exact hw.elim
 ·exact hw.elim
end
section
variable{X:Cx}{Xw:Nat->Hp->Prop}{st:Stmt}{τ:XS}{e:Expr}{pos:Pos}
def EO(τ:XS):XS:=⟨λρ Q=>τ.f ρ λx=>match x with | .ex _ _=>False | x=>Q x,λρ P Q k h=>τ.mono ρ _ _ (λx hx=>by
 cases x with
 |nx ρ'=>exact k _ hx
 |rt r ρ'=>exact k _ hx
 |ex n ρ'=>exact hx) h⟩
def CV(h:Au X.nox (λ_ _=>False) st τ):Au X Xw st (EO τ):=λt0 acI f8 s σ H D I ⟨F,ρ,S,w⟩=>
 Xl (h t0 acI f8 s σ H D (I.wish _) ⟨F,ρ,S,τ.mono ρ _ _ (λx hx=>by
  cases x with
  |nx ρ'=>exact hx
  |rt r ρ'=>exact hx
  |ex n ρ'=>exact hx.elim) w⟩) (λf s' q=>SP.unwish q) λ_ _ z=>z.elim
def Sn(i:Nat)(τ:XS):XS:=⟨λρ Q=>τ.f (frz i ρ) Q,λρ P Q k h=>τ.mono _ _ _ k h⟩
def StX.frz{K:V9}{t0 acI F H:Hp}{σ:St}{ρ:bb}(s:StX K t0 acI F H σ ρ)(i:Nat)(obj:Addr->Obj):(∃a o,H a=some o/\DenC K F (ρ[i]?.elim (.lst []) λx=>x.elim (.lst []) λy=>match y with | .ow c=>c | _=> .lst []) o/\σ[i]? =some (some (.ref a))/\StX K t0 acI (upd F a (jY (obj a) o)) (upd H a (jY (obj a) o)) σ (L3.frz i ρ))\/L3.frz i ρ=ρ:=by
 by_cases hc:∃c,ρ[i]? =some (some (.ow c))
 ·obtain⟨c0,hi⟩:=hc;rcases s.ok.frz i obj with⟨a,o,h1,h2,h3,h4⟩ | e
  ·refine .inl ⟨a,o,h1,h2,h3,h4,λj b ob x hj hx=>?_⟩;have e:L3.frz i ρ=ρ.set i (some (.fz c0.d)):=by unfold L3.frz;rw[hi]
   rw[e] at hj;by_cases z:j=i
   ·subst z;rw[WQ (We.mp hi).1] at hj;cases hj
   ·rw[W0 (XR z)] at hj;obtain⟨hs,LI⟩:=s.at hj;obtain⟨dx,gs,f1,f2,f3,f4⟩:=LI.foot;have Uh:b≠a:=λq=>z (s.ok.sep j i (.ob b ob) (.ow c0) (.ref b) (.ref a) b hj hi hs h3 (by show b∈bg H ob b;rw[f4];exact V6) (Wo.mpr q));have:bg (upd H a (jY (obj a) o)) ob b=bg H ob b:=by
     unfold bg;rw[az Uh]
    exact s.obn j b ob x hj (this▸hx)
  ·exact .inr e
 ·refine .inr ?_;unfold L3.frz;split
  ·rename_i c h;exact acC ⟨c,h⟩ hc
  ·rfl
def JX{i:Nat}(h:Au X Xw st τ):Au X Xw st (Sn i τ):=λt0 acI f8 sh σ H D I ⟨F,ρ,s,w⟩=>by
 rcases s.frz i (λa=>(sh.heap.get? a).getD {cls:= .none,data:= .fields #[]}) with⟨a,o,ha,hc,hσ,s'⟩ | e
 ·refine h t0 acI f8 sh σ _ D (L3.Inv.refrz I ha ?_) ⟨_,_,s',w⟩;generalize (ρ[i]?.elim (C.lst []) λx=>x.elim (.lst []) λy=>match y with | .ow c=>c | _=> .lst [])=c at hc;cases c with
  |lst ds=>obtain⟨vs,rfl,_⟩:=hc;exact .inl rfl
  |dct ks ds=>obtain⟨vs,rfl,_⟩:=hc;exact .inr ⟨_,rfl, .inl ⟨_,rfl,rfl⟩⟩
  |dci ks ds=>obtain⟨vs,rfl,_⟩:=hc;exact .inr ⟨_,rfl, .inr ⟨_,rfl,rfl⟩⟩
 ·exact h t0 acI f8 sh σ H D I ⟨F,ρ,s,by have w:τ.f (frz i ρ) _:=w;rw[e] at w;exact w⟩
def HX(c:XT)(a b:XE):XE:=⟨λρ Q=>c.f ρ λx=>match x with | .val t ρ'=>if t then a.f ρ' Q else b.f ρ' Q | .ex n ρ'=>Q (.ex n ρ'),λρ P Q k h=>c.mono ρ _ _ (λx hx=>by
 cases x with
 |val t ρ'=>
  cases t
  ·exact b.mono ρ' _ _ k hx
  ·exact a.mono ρ' _ _ k hx
 |ex n ρ'=>exact k _ hx) h⟩
def My{c a b:Expr}{tc:XT}{χ χ':XE}(hc:Qu X Xw c tc)(ha:PX X Xw a χ)(hb:PX X Xw b χ'):PX X Xw (.IfExp c a b pos) (HX tc χ χ'):=λt0 acI=>PE.weak (zO (hc t0 acI) (ha t0 acI) (hb t0 acI)) λσ H Q ⟨F,ρ,s,w⟩=>
 ⟨F,ρ,s,tc.mono ρ _ _ (λx hx=>by
  cases x with
  |val t ρ'=>
   cases t
   ·exact λF' H' st=>⟨F',ρ',st,hx⟩
   ·exact λF' H' st=>⟨F',ρ',st,hx⟩
  |ex n ρ'=>exact λF' H' st=>hx F' H' st) w⟩
end
def Pt(lo:Int)(n:Nat):It:=⟨λi _=>i<n,λi H x H'=>H'=H/\x= .int (lo - i),λi _=>n<=i⟩
def EI{P:Wz}{w:World}{K:V9}{tg:Expr}(it:Addr)(lo:Int)(n:Nat):Turn P w K tg (Pt lo n) [it] it (λi h=>abC h it (lo+(i:Nat)*(-1)) ((n:Int) - (i:Nat)) (-1)) where
 mem:=by simp
 obj:=λi h st b hb=>by
  have e:b=it:=by simpa using hb
  subst e;exact⟨_,st,λv z=>by
   have z':WI _=Data.cell v:=z;cases z'⟩
 keep:=λi h h' st k=>k it (by simp) _ st
 item:=by
  intro X hP hw hK hc i f8 s σ H E I hf st hg;subst hP hw hK;obtain⟨f0,f1,f2,f3,f4,f5⟩:=hf it (by simp);have W:=Walks.range (prog:=X.prog) (w:=X.w) (I.ok.hd hc) it lo (-1) n;refine W.item i s _ _ hg st λv h' tk hv p5 kk=>?_;obtain⟨t,rfl⟩:=hv;have I1:Inv X f8 σ H {s with heap:=h',toks:=tk}:=I.turned (λb o hb e=>kk b o (by simpa using hb) e) f0 f1 f3 f4 f5;refine⟨_,rfl,rp (s:={s with heap:=h',toks:=tk}) (n:="range_iterator") p5 rfl rfl (by decide) ⟨.int (lo - i),H,I1,⟨t,?_⟩,⟨rfl,rfl⟩,p5,λb hb=>(hf b hb).1⟩⟩;rw[show lo+(i:Int)*(-1)=lo - i by omega]
 done:=by
  intro X hP hw hK hc i f8 s σ H E I hf st hg;subst hP hw hK;obtain⟨f0,f1,f2,f3,f4,f5⟩:=hf it (by simp);exact acr (I.ok.hd hc) st (by have:n<=i:=hg;omega) λh' eb=>⟨rfl,I.turned (t':=s.toks) (λb o hb e=>eb b o hb e) f0 f1 f3 f4 f5⟩
 self:=λ_ _ _ _ _ st h=>acs st h
section
variable{X:Cx}{tg:Expr}{Xw:Nat->Hp->Prop}{δs:DA}{p pos:Pos}
def Iw{f8:List (Addr×Obj)}{σ:St}{H:Hp}{s:Wa}{R:It->Hp->Prop}{E:Value->Wa->Prop}{lo hi:Int}{t u v:Tok}{tk:Nat}(I:Inv X f8 σ H s)(h1: -(2 ^ 62)<=lo)(h2:lo<2 ^ 62)(h3: -(2 ^ 62)<=hi)(h4:hi<2 ^ 62)
 (q:R (Pt lo (lo - hi).toNat) H):wpAny (model X.prog X.w) X.A (abZ (.ref s.heap.objs.size)) (Qs X f8 σ tg R) E {s with heap:=s.heap.push {cls:= .type "range",data:= .fields #[.int lo t, .int hi u, .int (-1) v]},toks:=tk}:=by
 refine wpAny_pyIter_range (IsRange.new ..) (PySem.W.small_down h1 h2 h3 h4) ?_;have I1:Inv X f8 σ H {s with heap:=s.heap.push {cls:= .type "range",data:= .fields #[.int lo t, .int hi u, .int (-1) v]},toks:=tk}:=I.kept λb o e=>V8 _ e;refine⟨(s.heap.push {cls:= .type "range",data:= .fields #[.int lo t, .int hi u, .int (-1) v]}).objs.size,[(s.heap.push {cls:= .type "range",data:= .fields #[.int lo t, .int hi u, .int (-1) v]}).objs.size],_,_,H,rfl,
  I1.kept (t':=tk) λb o e=>V8 _ e,EI _ lo (lo - hi).toNat,?_,λb hb=>?_,q⟩
 ·have e1:lo+((0:Nat):Int)*(-1)=lo:=by simp
  have e2:(((lo - hi).toNat:Nat):Int) - ((0:Nat):Int)=aaf lo hi (-1):=by rw[PySem.W.rangeSize_downNat];simp
  show abC _ _ (lo+((0:Nat):Int)*(-1)) ((((lo - hi).toNat:Nat):Int) - ((0:Nat):Int)) (-1);rw[e1,e2];exact Wm _ rfl
 ·have e:b=(s.heap.push {cls:= .type "range",data:= .fields #[.int lo t, .int hi u, .int (-1) v]}).objs.size:=by simpa using hb
  subst e;exact I1.fpOk (Wj _) (I1.hok.fresh (Wj _))
def Oy(ta:TA):TI:=λσ H R=>ta σ H λvs H1=>∃i j:Int,vs=[.int i, .int j, .int (-1)]/\(-4096<=i/\i<=4096/\ -4096<=j/\j<=4096)/\R (Pt i (i - j).toNat) H1
def Ew{a b c:Expr}{ta:TA}(hg:Gl X "range")(hm:X.mg "range"=none)(ha:PA X [a,b,c] ta)(hs:Wf [a,b,c] X.env=[(false,eval a X.env),(false,eval b X.env),(false,eval c X.env)]:=by rfl)(E3:Wf [b,c] X.env=[(false,eval b X.env),(false,eval c X.env)]:=by rfl):
 PI X tg (.Call (.Name "range" p) [a,b,c] [] pos) (Oy ta):=by
 intro f8 s σ H R I h;refine Call_ (mz I hg hm boot_range (XD (ck (ha pos f8 s σ H _ I h) λus s1 ⟨vs,H1,I1,r1,q1⟩=>?_) (by rw[hs,E3]) (by rw[E3];rfl)));obtain⟨i,j,e,⟨q1,q2,q3,q4⟩,q⟩:=q1;subst e;cases r1 with
 |cons r rr=>
  cases rr with
  |cons r' rr=>
   cases rr with
   |cons Vt rr=>
    cases rr;obtain⟨t,rfl⟩:=r;obtain⟨t',rfl⟩:=r';obtain⟨V0,rfl⟩:=Vt;exact call_range_3 (by decide) (Iw I1 (by omega) (by omega) (by omega) (by omega) q) (Or.inl (aa9 (by omega)))
def uG(lo:Int)(n:Nat):List D:=(Wy n).map λ(i:Nat)=>D.int (lo - (i:Int))
def C0:List D->M (List D)
 |[.int i, .int j, .int k]=>if (-4096<=i/\i<=4096)/\(-4096<=j/\j<=4096)/\k= -1 then aa (uG i (i - j).toNat) else af
 |_=>af
def F_{K:V9}{F:Hp}(lo:Int)(n:Nat):ItD K F (Pt lo n) (uG lo n):=λF' H' i s1 s2=>by
 refine⟨λd e=>?_,λhl=>show n<=i by simpa[uG] using hl⟩;unfold uG at e;rw[Wb] at e;have hi:i<n:=by
  by_cases hi:i<n
  ·exact hi
  ·rw[Y1 (by simpa using hi)] at e;cases e
 rw[YF hi] at e;cases e;refine⟨hi,λx H'' y=>?_⟩;obtain⟨e2,y⟩:=y;subst e2 y;exact⟨F',Ext.refl s2,rfl⟩
def BE{a b c:Expr}(hg:Gl X "range")(hm:X.mg "range"=none)(ha:lC X Xw [a,b,c] δs)(hs:Wf [a,b,c] X.env=[(false,eval a X.env),(false,eval b X.env),(false,eval c X.env)]:=by rfl)
 (E3:Wf [b,c] X.env=[(false,eval b X.env),(false,eval c X.env)]:=by rfl):yz X Xw tg (.Call (.Name "range" p) [a,b,c] [] pos) (λρ=>δs ρ>>=C0):=
 PI.weak (Ew hg hm ha hs E3) λσ H R ⟨F,ρ,s,w⟩=>by
  refine⟨F,ρ,s,WPL.mono (WPI.bindL w) λvs H1 ⟨F1,ds,e1,q1,w1⟩=>?_⟩;unfold C0 at w1;split at w1
  ·rename_i i j k;obtain⟨v,r,h1,h2,h3⟩:=q1;obtain⟨v',VE,h4,h5,h6⟩:=DenL.two h3;cases (show v=_ from h2);cases (show v'=_ from h5);cases (show VE=_ from h6);split at w1
   ·rename_i hb;obtain⟨H8,MY,rfl⟩:=hb;exact⟨i,j,by rw[h1,h4],⟨H8.1,H8.2,MY.1,MY.2⟩,w1 _ _ _ (Ext.refl e1.fh) (F_ i _)⟩
   ·exact w1.elim
  ·exact w1.elim
end
end L3
namespace L3
def M7(n:Nat)(δs:DA):DS:=λ_=>af
end L3
namespace K1
open PySem PySem.Spec L2 L3
open PyProof.Rows hiding St
def B6:DS:=(bM (eI (dA jP (aC (dV 0) (aC (dC (.raw (.ty "int"))) aN))) (Ku (dA jP (aC (dV 0) (aC (dC (.raw (.ty "bool"))) aN))))))
def bu:List D->M D:=cx 1 (B6)
def Am:DS:=(bM (eI (dA jP (aC (dV 0) (aC (dC (.raw (.ty "str"))) aN))) (eI (d2 jZ (dA bc (aC (dV 0) aN)) (dC (.int 1))) (d2 (FD false) (dV 0) (dC (.str "abcdef"))))))
def cz:List D->M D:=cx 1 (Am)
def tT:DS:=(bM (cn 0 (λρ=>(aC (dA bc (aC (d2 bO (dV 0) (dC (.int 0))) aN)) aN) ρ>>=md) dW (dA fX (aC (dV 2) (aC (dV 0) aN)))))
def bG:List D->M D:=cx 2 (tT)
def Ap:DS:=(bM (d2 ro (d2 bO (dV 0) (d2 bO (dV 1) (dC (.int 0)))) (d2 bO (dV 1) (dC (.int 1)))))
def aW:List D->M D:=cx 2 (Ap)
def B4:DS:=(aV (bS 3 (dA E7 (aC (d2 jO (d2 bO (dV 0) (dC (.int 0))) (d2 bO (dV 1) (dC (.int 0)))) aN))) (aV (bS 4 (dA E7 (aC (d2 jO (d2 bO (dV 0) (dC (.int 1))) (d2 bO (dV 1) (dC (.int 1)))) aN))) (aV (jK (da (d2 jZ (dV 2) (dC (.int 4)))) (bM (d2 jZ (d2 cp (dV 3) (dV 4)) (dC (.int 1)))) dQ) (bM (d2 jZ (dA Bd (aC (dV 3) (aC (dV 4) aN))) (dC (.int 1)))))))
def eB:List D->M D:=cx 5 (B4)
def Kl:DS:=(aV (z4 1) (aV (λρ=>noex ((gc (putN 2) (LN (fC (dV 0)) (λρ=>(dV 0) ρ>>=lJ)) (eF [2] (kK 1 (dV 2) (dC (.bl true))))) ρ)) (C1 1 (bM (dV 1)))))
def g_:List D->M D:=cx 3 (Kl)
def yu:DS:=(aV (z4 1) (aV (λρ=>noex ((gc (vR [2,3]) (λρ=>(aC (dV 0) aN) ρ>>=Cm) (eF [2,3,4] (gc (putN 4) (fC (dV 3)) (eF [4] (kK 1 (dV 4) (dV 2)))))) ρ)) (C1 1 (bM (dV 1)))))
def gj:List D->M D:=cx 5 (yu)
def tV:DS:=(aV (jK (da (d2 jZ (dV 0) (dA jI aN))) (bM (d2 ir (dC (.int 7)) (dV 1))) dQ) (bM (d2 cp (d2 FF (dV 0) (d2 m8 (dV 1) (dA bc (aC (dV 0) aN)))) (d2 ir (dC (.int 6553)) (d2 um (dV 1) (dA bc (aC (dV 0) aN)))))))
def gJ:List D->M D:=cx 2 (tV)
def An:DS:=(aV (jK (oj (dj (cO (dA jP (aC (dV 0) (aC (dC (.raw (.ty "str"))) aN))))) (dj (da (Av (λi j=>decide (i<=j)) (λi j=>decide (i<=j)) (dC (.int 1)) (dA bc (aC (dV 0) aN)) (dC (.int 8)))))) (bM (dC (.bl false))) dQ) (bM (dA allM (aC (cn 0 (λρ=>(dV 0) ρ>>=ME) dW (au 1 cz (aC (dV 0) aN))) aN))))
def gH:List D->M D:=cx 1 (An)
def we:DS:=(aV (jK (oj (dj (cO (dA jP (aC (dV 1) (aC (dC (.raw (.ty "tuple"))) aN))))) (da (d2 pe (dA bc (aC (dV 1) aN)) (dC (.int 2))))) (bM (dC (.bl false))) dQ) (aV (jK (oj (dj (cO (au 1 bu (aC (d2 bO (dV 1) (dC (.int 0))) aN)))) (dj (cO (au 1 bu (aC (d2 bO (dV 1) (dC (.int 1))) aN))))) (bM (dC (.bl false))) dQ) (bM (eI (Av (λi j=>decide (i<=j)) (λi j=>decide (i<j)) (dC (.int 0)) (d2 bO (dV 1) (dC (.int 0))) (dA bc (aC (dV 0) aN))) (Av (λi j=>decide (i<=j)) (λi j=>decide (i<j)) (dC (.int 0)) (d2 bO (dV 1) (dC (.int 1))) (dA bc (aC (d2 bO (dV 0) (dC (.int 0))) aN)))))))
def lb:List D->M D:=cx 2 (we)
def uM:DS:=(jK (dj (cO (au 1 cz (aC (dV 0) aN)))) (M7 3 (aC (dC (.str "one of the letters a to f is asked for")) aN)) dQ)
def df:List D->M D:=cx 1 (uM)
def Ar:DS:=(jK (oj (dj (cO (au 1 bu (aC (dV 0) aN)))) (da (d2 (A0 true) (dV 0) (dA fX (aC (dC (.int 4)) (aC (dC (.int 8)) aN)))))) (M7 1 (aC (dC (.str "ways are 4 or 8")) aN)) dQ)
def aX:List D->M D:=cx 1 (Ar)
def Ak:DS:=(aV (xY 1) (aV (λρ=>noex ((gc (putN 2) (λρ=>(aC (dA bc (aC (dV 0) aN)) aN) ρ>>=md) (eF [2] (Hu 1 (au 2 bG (aC (dV 0) (aC (dV 2) aN)))))) ρ)) (C1 1 (bM (dV 1)))))
def cS:List D->M D:=cx 3 (Ak)
def yt:DS:=(aV (xY 3) (aV (λρ=>noex ((gc (putN 4) (λρ=>(aC (dA Bd (aC (d2 jO (d2 bO (dV 1) (dC (.int 0))) (dC (.int 1))) (aC (dC (.int 0)) aN))) (aC (dA D7 (aC (d2 cp (d2 bO (dV 1) (dC (.int 0))) (dC (.int 2))) (aC (dA bc (aC (dV 0) aN)) aN))) aN)) ρ>>=vZ) (eF [4,5] (gc (putN 5) (λρ=>(aC (dA Bd (aC (d2 jO (d2 bO (dV 1) (dC (.int 1))) (dC (.int 1))) (aC (dC (.int 0)) aN))) (aC (dA D7 (aC (d2 cp (d2 bO (dV 1) (dC (.int 1))) (dC (.int 2))) (aC (dA bc (aC (d2 bO (dV 0) (dC (.int 0))) aN)) aN))) aN)) ρ>>=vZ) (eF [5] (jK (cO (au 3 eB (aC (dV 1) (aC (dA fX (aC (dV 4) (aC (dV 5) aN))) (aC (dV 2) aN))))) (n0 3 (dA fX (aC (dV 4) (aC (dV 5) aN)))) dQ))))) ρ)) (C1 3 (bM (dV 3)))))
def bH:List D->M D:=cx 6 (yt)
def t5:DS:=(aV (bS 3 (au 1 g_ (aC (dV 1) aN))) (aV (xY 4) (aV (λρ=>noex ((gc (putN 5) (λρ=>(aC (dA bc (aC (dV 0) aN)) aN) ρ>>=md) (eF [5,6] (aV (bS 6 (au 2 bG (aC (dV 0) (aC (dV 5) aN)))) (n0 4 (dM DP joinM (dC (.str "")) (aC (cn 0 (fC (dV 6)) dW (Kt (da (d2 (mr false) (dV 0) (dV 4))) (dV 3) (au 2 aW (aC (dV 1) (aC (dV 0) aN))))) aN)))))) ρ)) (C1 4 (bM (dA HN (aC (dV 4) aN)))))))
def bh:List D->M D:=cx 7 (t5)
def p8:DS:=(aV (bS 3 (d2 m8 (d2 cp (d2 ir (d2 m8 (au 2 gJ (aC (dV 0) (aC (dV 1) aN))) (dC (.int 2147483563))) (dC (.int 69069))) (d2 ir (dC (.int 104723)) (d2 cp (dV 1) (dC (.int 1))))) (dC (.int 2147483563)))) (aV (bS 3 (d2 m8 (d2 cp (d2 ir (dV 3) (dV 3)) (d2 um (dV 3) (dC (.int 3)))) (dC (.int 2147483399)))) (bM (d2 m8 (d2 um (d2 m8 (d2 cp (d2 ir (dV 3) (dV 3)) (d2 um (dV 3) (dC (.int 7)))) (dC (.int 2147483647))) (dC (.int 11))) (dV 2)))))
def aG:List D->M D:=cx 4 (p8)
def tU:DS:=(aV (jK (oj (dj (cO (dA jP (aC (dV 0) (aC (dC (.raw (.ty "tuple"))) aN))))) (dj (da (Av (λi j=>decide (i<=j)) (λi j=>decide (i<=j)) (dC (.int 1)) (dA bc (aC (dV 0) aN)) (dC (.int 8)))))) (bM (dC (.bl false))) dQ) (aV (jK (dj (cO (dA allM (aC (cn 0 (yN (dV 0)) dW (au 1 gH (aC (dV 0) aN))) aN)))) (bM (dC (.bl false))) dQ) (bM (dA allM (aC (cn 0 (yN (dV 0)) dW (d2 jZ (dA bc (aC (dV 0) aN)) (dA bc (aC (d2 bO (dV 1) (dC (.int 0))) aN)))) aN)))))
def ji:List D->M D:=cx 1 (tU)
def Aq:DS:=(jK (dj (cO (au 2 lb (aC (dV 0) (aC (dV 1) aN))))) (M7 2 (aC (dC (.str "a tuple (row, column) on the board is asked for")) aN)) dQ)
def eK:List D->M D:=cx 2 (Aq)
def ym:DS:=(aV (bS 3 (au 2 aW (aC (dV 0) (aC (dV 1) aN)))) (bM (cn 0 (fC (au 3 bH (aC (dV 0) (aC (dV 1) (aC (dV 2) aN))))) (da (d2 jZ (au 2 aW (aC (dV 1) (aC (dV 0) aN))) (dV 4))) (dV 0))))
def cV:List D->M D:=cx 4 (ym)
def Qj:DS:=(eF [5,6] (jK (da (d2 FH (d2 rn (dV 2) (dV 4)) (d2 rn (dV 2) (dV 5)))) (aV (bS 6 (dA fX (aC (d2 rn (dV 2) (dV 4)) (aC (d2 rn (dV 2) (dV 5)) aN)))) (kK 3 (dV 6) (PB (d2 cp (Cg (dV 3) (dV 6) (dC (.int 0))) (dC (.int 1)))))) dQ))
def tZ:DS:=(aV (bS 2 (au 1 gj (aC (dV 1) aN))) (aV (z4 3) (aV (λρ=>noex ((gc (putN 4) (fC (au 1 cS (aC (dV 0) aN))) (eF [4,5,6] (gc (putN 5) (fC (au 3 bH (aC (dV 0) (aC (dV 4) (aC (dC (.int 4)) aN))))) Qj))) ρ)) (C1 3 (bM (dV 3))))))
def cQ:List D->M D:=cx 7 (tZ)
def Sq:DE:=cn 0 (λρ=>(aC (dV 4) aN) ρ>>=md) dW (d2 ro (dV 6) (au 3 aG (aC (dV 1) (aC (d2 cp (d2 cp (d2 cp (dV 2) (dC (.int 3))) (d2 ir (dC (.int 7)) (dV 8))) (dV 0)) (aC (dA bc (aC (dV 6) aN)) aN)))))
def Sr:DS:=bS 6 (d2 Ct (dV 6) (dA fX (aC (dM DP joinM (dC (.str "")) (aC (dV 8) aN)) aN)))
def Ao:DS:=(aV (bS 3 (d2 cp (dC (.int 1)) (au 3 aG (aC (dV 0) (aC (dV 1) (aC (dV 2) aN)))))) (aV (bS 4 (d2 cp (dC (.int 1)) (au 3 aG (aC (dV 0) (aC (d2 cp (dV 1) (dC (.int 1))) (aC (dV 2) aN)))))) (aV (bS 5 (d2 eC (dA jI (aC (dC (.str "ab")) (aC (dC (.str "abc")) (aC (dC (.str "aab")) (aC (dC (.str "fa")) aN))))) (au 3 aG (aC (dV 0) (aC (d2 cp (dV 1) (dC (.int 2))) (aC (dC (.int 4)) aN)))))) (aV (bS 6 (dA fX aN)) (aV (λρ=>noex ((gc (putN 7) (λρ=>(aC (dV 3) aN) ρ>>=md) (eF [7,8] (aV (bS 8 (Sq)) (Sr)))) ρ)) (bM (dV 6)))))))
def eJ:List D->M D:=cx 9 (Ao)
def uL:DS:=(bM (dA fX (aC (au 3 aG (aC (dV 0) (aC (dV 1) (aC (dA bc (aC (dV 2) aN)) aN)))) (aC (au 3 aG (aC (dV 0) (aC (d2 cp (dV 1) (dC (.int 1))) (aC (dA bc (aC (d2 bO (dV 2) (dC (.int 0))) aN)) aN)))) aN))))
def dX:List D->M D:=cx 3 (uL)
def yp:DS:=(jK (dj (cO (au 1 ji (aC (dV 0) aN)))) (M7 0 (aC (dC (.str "a tuple of 1 to 8 texts of 1 to 8 letters, all as long, is asked for")) aN)) dQ)
def aL:List D->M D:=cx 1 (yp)
def MB:DS:=eF [7] (jK (M_ (da (d2 (mr true) (dV 7) (dV 3)))) (aV (kK 3 (dV 7) (dV 6)) (n0 5 (dV 7))) dQ)
def yw:DS:=(aV (C2 3 (λρ=>(dV 1) ρ>>=λx=>(dC .non) ρ>>=λy=>uZ x y)) (aV (bS 4 (dA jI (aC (dV 1) aN))) (aV (λρ=>noex ((BL (cO (dV 4)) (eF [5,6,7] (aV (xY 5) (aV (gc (putN 6) (fC (dV 4)) (eF [6,7] (gc (putN 7) (fC (au 3 cV (aC (dV 0) (aC (dV 6) (aC (dV 2) aN))))) (MB)))) (C1 5 (bS 4 (dV 5))))))) ρ)) (C1 3 (bM (dV 3))))))
def b7:List D->M D:=cx 8 (yw)
def RM:DS:=(eF [4,5,6] (jK (da (d2 (A0 false) (dV 2) (dV 4))) (aV (bS 6 (d2 jO (d2 cp (d2 bO (dV 4) (dC (.int 0))) (d2 bO (dV 4) (dC (.int 1)))) (dV 2))) (n0 3 (dA fX (aC (d1 uq (dV 5)) (aC (d1 uq (dA bc (aC (d2 eC (dV 1) (dV 6)) aN))) (aC (dV 6) aN)))))) dQ))
def yo:DS:=(aV (xY 3) (aV (λρ=>noex ((gc (vR [4,5]) (λρ=>(au 2 cQ (aC (dV 0) (aC (dV 1) aN))) ρ>>=oB) RM) ρ)) (C1 3 (bM (d2 bO (dA xa (aC (dV 3) aN)) (dC (.int 2)))))))
def eX:List D->M D:=cx 7 (yo)
def uN:DS:=(aV (gP (au 1 aL (aC (dV 0) aN))) (aV (gP (au 2 eK (aC (dV 0) (aC (dV 1) aN)))) (aV (gP (au 1 df (aC (dV 2) aN))) (bM (au 3 bh (aC (dV 0) (aC (dA jI (aC (dV 1) aN)) (aC (dV 2) aN))))))))
def dg:List D->M D:=cx 3 (uN)
def QB:DS:=(eF [4,5] (jK (M_ (da (d2 (mr true) (dV 4) (dV 3)))) (aV (bS 5 (dA Aa (aC (au 3 b7 (aC (dV 0) (aC (dV 4) (aC (dV 1) aN)))) aN))) (aV (n0 2 (dV 5)) (Hw 3 (au 1 g_ (aC (dV 5) aN))))) dQ))
def uK:DS:=(aV (xY 2) (aV (z4 3) (aV (λρ=>noex ((gc (putN 4) (fC (au 1 cS (aC (dV 0) aN))) QB) ρ)) (C1 2 (bM (dV 2))))))
def a9:List D->M D:=cx 6 (uK)
def tY:DS:=(aV (gP (au 1 aL (aC (dV 0) aN))) (aV (gP (au 1 aX (aC (dV 1) aN))) (jK (oj (dj (cO (au 1 bu (aC (dV 2) aN)))) (dj (da (Av (λi j=>decide (i<=j)) (λi j=>decide (i<=j)) (dC (.int 1)) (dV 2) (dC (.int 64)))))) (M7 4 (aC (dC (.str "a least number of cells from 1 to 64 is asked for")) aN)) dQ)))
def eY:List D->M D:=cx 3 (tY)
def yr:DS:=(aV (gP (au 1 aL (aC (dV 0) aN))) (aV (gP (au 2 eK (aC (dV 0) (aC (dV 1) aN)))) (aV (gP (au 1 aX (aC (dV 2) aN))) (gP (au 1 df (aC (dV 3) aN))))))
def gi:List D->M D:=cx 4 (yr)
def ET:DS:=(aV (gP (au 1 aL (aC (dV 0) aN))) (aV (gP (au 1 aX (aC (dV 1) aN))) (bM (au 2 a9 (aC (dV 0) (aC (dV 1) aN))))))
def gx:List D->M D:=cx 2 (ET)
def B5:DS:=(aV (gP (au 1 aL (aC (dV 0) aN))) (aV (gP (au 1 aX (aC (dV 1) aN))) (bM (dA bc (aC (au 2 a9 (aC (dV 0) (aC (dV 1) aN))) aN)))))
def cU:List D->M D:=cx 2 (B5)
def Aj:DS:=(aV (bS 3 (au 2 a9 (aC (dV 0) (aC (dV 1) aN)))) (aV (bS 4 (cn 0 (fC (dV 3)) dW (dA bc (aC (dV 0) aN)))) (aV (jK (oj (da (d2 jZ (dA bc (aC (dV 3) aN)) (dC (.int 1)))) (da (d2 PL (dA j6 (aC (dV 4) aN)) (dV 2)))) (bM (dC .non)) dQ) (aV (bS 5 (dM vf zc (dV 4) (aC (dA j6 (aC (dV 4) aN)) aN))) (aV (bS 6 (au 3 eX (aC (dV 0) (aC (dV 3) (aC (dV 5) aN))))) (bM (au 3 bh (aC (dV 0) (aC (d2 eC (dV 3) (dV 5)) (aC (au 2 aW (aC (dV 0) (aC (d2 eC (d2 eC (dV 3) (dV 6)) (dC (.int 0))) aN))) aN))))))))))
def dG:List D->M D:=cx 7 (Aj)
def ES:DS:=(aV (gP (au 4 gi (aC (dV 0) (aC (dV 1) (aC (dV 2) (aC (dV 3) aN)))))) (bM (au 3 bh (aC (dV 0) (aC (au 3 b7 (aC (dV 0) (aC (dV 1) (aC (dV 2) aN)))) (aC (dV 3) aN))))))
def gw:List D->M D:=cx 4 (ES)
def QC:DS:=(aV (n0 3 (dV 4)) (bS 4 (au 3 dG (aC (dV 4) (aC (dV 1) (aC (dV 2) aN))))))
def Al:DS:=(aV (xY 3) (aV (bS 4 (dV 0)) (aV (λρ=>noex ((BL (da (d2 (FE true) (dV 4) (dC .non))) QC) ρ)) (C1 3 (bM (dV 3))))))
def fS:List D->M D:=cx 5 (Al)
def HZ:DS:=(aV (gP (au 3 eY (aC (dV 0) (aC (dV 1) (aC (dV 2) aN))))) (bM (d2 eC (au 3 fS (aC (dV 0) (aC (dV 1) (aC (dV 2) aN)))) (d1 uq (dC (.int 1))))))
def iS:List D->M D:=cx 3 (HZ)
def mO{α:Type}(o:Ob)(x:Str)(m:M α):M α:=match o.fs.lookup x with
 |none=>m
 |some _=>af
def GG(g:Addr->Ob->List D->M (D×Ob)):Addr->Ob->List D->M (D×Ob):=λa o ds=>noex (g a o ds)
def av(CK CG:Addr):Addr->Ob->List D->M D:=λa o ds=>(jV CK 0 "boards" (d1 uq (dC (.int 1)))) (bx 1 a o ds)
def cI(CK CG:Addr):Addr->Ob->List D->M (D×Ob):=GG λa o ds=>match ds,o.fs.lookup ("boards":Str) with
 |[],some (.ow l)=>if 1<l.length then aa (.non,bQ o "boards" (.ow l.dropLast)) else af
 |_,_=>af
def iM(CK CG:Addr):XS:=(cj (dm (jK (da (d2 jZ (uX CK 0 "boards" λds=>aa (.int ds.length)) (dC (.int 1)))) (M7 6 (aC (dC (.str "nothing is left to be taken back")) aN)) dQ)) (yk CK 0 "boards"))
def cB(CK CG:Addr):Addr->Ob->List D->M D:=λa o ds=>(jV CG 0 "stages" (p_ CG 0 "place")) (bx 1 a o ds)
def tW:DS:=(bM (dA C6 (aC (cn 0 (yN (dV 0)) dW (d2 jO (dA bc (aC (dV 0) aN)) (dM DP Cf (dV 0) (aC (dC (.str ".")) aN)))) aN)))
def gK:List D->M D:=cx 1 (tW)
def fV(CK CG:Addr):Addr->Ob->List D->M D:=λa o ds=>(au 1 gK (aC (bE CG 0 "rows" 0 (cB CK CG) aN) aN)) (bx 1 a o ds)
def tR:DS:=(bM (eI (d2 QK (dA bc (aC (dV 1) aN)) (dC (.int 1))) (d2 pe (au 2 aW (aC (dV 0) (aC (d2 eC (dV 1) (dC (.int 0))) aN))) (dC (.str ".")))))
def dH:List D->M D:=cx 2 (tR)
def cH(CK CG:Addr):Addr->Ob->List D->M (D×Ob):=GG λa o ds=>match ds,o.fs with
 |[b,w],[]=>aL [b]>>=λ_=>aX [w]>>=λ_=>aa (.non,⟨o.c,[("ways", .fz w),("boards", .ow [b])]⟩)
 |_,_=>af
def iI(CK CG:Addr):XS:=(cj (dm (gP (au 1 aL (aC (dV 1) aN)))) (cj (dm (gP (au 1 aX (aC (dV 2) aN)))) (cj (oe CK 0 "ways" (dV 2)) (qO CK 0 "boards" (aC (dV 1) aN)))))
def eN(CK CG:Addr):Addr->Ob->List D->M (D×Ob):=GG λa o ds=>match ds,o.fs with
 |[b,w],[]=>aL [b]>>=λ_=>aX [w]>>=λ_=>aa (.non,⟨o.c,[("ways", .fz w),("stages", .ow [b]),("place", .fz (.int 0))]⟩)
 |_,_=>af
def k_(CK CG:Addr):XS:=(cj (dm (gP (au 1 aL (aC (dV 1) aN)))) (cj (dm (gP (au 1 aX (aC (dV 2) aN)))) (cj (oe CG 0 "ways" (dV 2)) (cj (qO CG 0 "stages" (aC (dV 1) aN)) (oe CG 0 "place" (dC (.int 0)))))))
def c6(CK CG:Addr):Addr->Ob->List D->M D:=λa o ds=>(au 2 a9 (aC (bE CG 0 "rows" 0 (cB CK CG) aN) (aC (p_ CG 0 "ways") aN))) (bx 2 a o ds)>>=λd=>(cn 0 (fC (dV 1)) (cO (au 2 dH (aC (bE CG 1 "rows" 0 (cB CK CG) aN) (aC (dV 0) aN)))) (d2 eC (dV 0) (dC (.int 0)))) ((bx 2 a o ds).set 1 (some (.fz d)))
def a6(CK CG:Addr):Addr->Ob->List D->M D:=λa o ds=>(au 2 cU (aC (bE CK 0 "shown" 0 (av CK CG) aN) (aC (p_ CK 0 "ways") aN))) (bx 1 a o ds)
def aM(CK CG:Addr):Addr->Ob->List D->M (D×Ob):=GG λa o ds=>match ds,o.fs.lookup ("boards":Str) with
 |[b],some (.ow l)=>if l.length<lim then mO o "many" (a6 CK CG a o [])>>=λm=>noex (mO (bQ o "boards" (.ow (l++[b]))) "many" (a6 CK CG a (bQ o "boards" (.ow (l++[b]))) []))>>=λm2=>noex (jO m2 m)>>=λd=>aa (d,bQ o "boards" (.ow (l++[b]))) else af
 |_,_=>af
def gY(CK CG:Addr):XS:=(cj (dm (bS 2 (bE CK 0 "many" 0 (a6 CK CG) aN))) (cj (yj CK 0 "boards" (dV 1)) (dm (bM (d2 jO (bE CK 0 "many" 0 (a6 CK CG) aN) (dV 2))))))
def b_(CK CG:Addr):Addr->Ob->List D->M (D×Ob):=GG λa o ds=>match ds with
 |[c,l]=>mO o "go_on" (mO o "shown" (av CK CG a o [])>>=λb=>dg [b,c,l]>>=λb2=>aM CK CG a o [b2])
 |_=>af
def iJ(CK CG:Addr):XS:=(HY (fB CK 0 "go_on" 1 (aM CK CG) (aC (au 3 dg (aC (bE CK 0 "shown" 0 (av CK CG) aN) (aC (dV 1) (aC (dV 2) aN)))) aN)))
def bU(CK CG:Addr):Addr->Ob->List D->M (D×Ob):=GG λa o ds=>match ds,o.fs.lookup ("ways":Str) with
 |[c,l],some (.fz w)=>mO o "go_on" (mO o "shown" (av CK CG a o [])>>=λb=>gw [b,c,w,l]>>=λb2=>aM CK CG a o [b2])
 |_,_=>af
def gZ(CK CG:Addr):XS:=(HY (fB CK 0 "go_on" 1 (aM CK CG) (aC (au 4 gw (aC (bE CK 0 "shown" 0 (av CK CG) aN) (aC (dV 1) (aC (p_ CK 0 "ways") (aC (dV 2) aN))))) aN)))
def cb(CK CG:Addr):Addr->Ob->List D->M (D×Ob):=GG λa o ds=>match ds,o.fs.lookup ("ways":Str) with
 |[k],some (.fz w)=>mO o "go_on" (mO o "shown" (av CK CG a o [])>>=λb=>iS [b,w,k]>>=λb2=>aM CK CG a o [b2])
 |_,_=>af
def iL(CK CG:Addr):XS:=(HY (fB CK 0 "go_on" 1 (aM CK CG) (aC (au 3 iS (aC (bE CK 0 "shown" 0 (av CK CG) aN) (aC (p_ CK 0 "ways") (aC (dV 1) aN)))) aN)))
def lB(CK CG:Addr):XS:=(cj (dm (bS 1 (au 3 eJ (aC (dV 0) (aC (dC (.int 0)) (aC (dC (.int 5)) aN)))))) (cj (dm (bS 2 (d2 eC (dA jI (aC (dC (.int 4)) (aC (dC (.int 8)) aN))) (au 3 aG (aC (dV 0) (aC (dC (.int 60)) (aC (dC (.int 2)) aN))))))) (cj (qz 3 (wc CK 2 (cH CK CG) (aC (dV 1) (aC (dV 2) aN)))) (cj (qz 4 (wc CK 2 (cH CK CG) (aC (dV 1) (aC (dV 2) aN)))) (cj (dm (bS 5 (au 2 cU (aC (dV 1) (aC (dV 2) aN))))) (cj (dm (C2 6 (λρ=>(aC (dV 1) aN) ρ>>=RN))) (cj (EO (HV (putN 7) (λρ=>(aC (d2 cp (dC (.int 1)) (au 3 aG (aC (dV 0) (aC (dC (.int 61)) (aC (dC (.int 7)) aN))))) aN) ρ>>=md) (cj (dm (bS 8 (d2 cp (dC (.int 70)) (d2 ir (dC (.int 6)) (dV 7))))) (cj (dm (bS 9 (au 3 dX (aC (dV 0) (aC (dV 8) (aC (dV 1) aN)))))) (cj (dm (bS 10 (d2 ro (dC (.str "abcf")) (au 3 aG (aC (dV 0) (aC (d2 cp (dV 8) (dC (.int 2))) (aC (dC (.int 4)) aN))))))) (cj (dm (bS 11 (au 3 aG (aC (dV 0) (aC (d2 cp (dV 8) (dC (.int 3))) (aC (dC (.int 5)) aN)))))) (cj (Pq (yl (da (d2 FH (dV 11) (dC (.int 2))))) (qz 12 (fB CK 3 "mark" 2 (b_ CK CG) (aC (dV 9) (aC (dV 10) aN)))) (qz 12 (HX (yl (da (d2 FH (dV 11) (dC (.int 4))))) (fB CK 3 "paint" 2 (bU CK CG) (aC (dV 9) (aC (dV 10) aN))) (fB CK 3 "melt" 1 (cb CK CG) (aC (d2 cp (dC (.int 1)) (au 3 aG (aC (dV 0) (aC (d2 cp (dV 8) (dC (.int 4))) (aC (dC (.int 3)) aN))))) aN))))) (cj (dm (bS 5 (d2 cp (dV 5) (dV 12)))) (cj (dm (jK (oj (da (d2 pe (bE CK 3 "many" 0 (a6 CK CG) aN) (dV 5))) (da (d2 pe (au 2 cU (aC (bE CK 3 "shown" 0 (av CK CG) aN) (aC (dV 2) aN))) (dV 5)))) (bM (dC (.bl false))) dQ)) (cj (dm (n0 6 (bE CK 3 "shown" 0 (av CK CG) aN))) (cj (qz 13 (wc CG 2 (eN CK CG) (aC (bE CK 3 "shown" 0 (av CK CG) aN) (aC (dV 2) aN)))) (cj (dm (bS 14 (cn 0 (fC (au 2 gx (aC (bE CK 3 "shown" 0 (av CK CG) aN) (aC (dV 2) aN)))) (da (d2 jZ (dA bc (aC (dV 0) aN)) (dC (.int 1)))) (dV 0)))) (cj (dm (jK (da (d2 pe (d2 cp (dA bc (aC (bE CG 13 "can_take" 0 (c6 CK CG) aN) aN)) (dA bc (aC (dV 14) aN))) (dV 5))) (bM (dC (.bl false))) dQ)) (dm (jK (da (d2 pe (bE CG 13 "left" 0 (fV CK CG) aN) (d2 ir (dA bc (aC (dV 1) aN)) (dA bc (aC (d2 bO (dV 1) (dC (.int 0))) aN))))) (bM (dC (.bl false))) dQ))))))))))))))) (cj (Sn 6 (EO (HV (putN 7) (λρ=>(aC (d2 jO (dA bc (aC (dV 6) aN)) (dC (.int 1))) (aC (dC (.int 0)) (aC (d1 uq (dC (.int 1))) aN))) ρ>>=C0) (cj (dm (jK (da (d2 pe (bE CK 3 "shown" 0 (av CK CG) aN) (d2 eC (dV 6) (dV 7)))) (bM (dC (.bl false))) dQ)) (Kk (fB CK 3 "undo" 0 (cI CK CG) aN)))))) (dm (bM (eI (d2 jZ (bE CK 3 "shown" 0 (av CK CG) aN) (dV 1)) (eI (d2 jZ (bE CK 3 "many" 0 (a6 CK CG) aN) (au 2 cU (aC (dV 1) (aC (dV 2) aN)))) (d2 jZ (bE CK 4 "shown" 0 (av CK CG) aN) (dV 1))))))))))))))
structure Bl (K:V9) (mg:Str->Option Value) (base:Heap) (cv:Nat->Value) (cA:Nat->Addr) (Cp:Addr):Prop where
 len:mg "len"=none
 isinstance:mg "isinstance"=none
 all:mg "all"=none
 abs:mg "abs"=none
 max:mg "max"=none
 min:mg "min"=none
 sum:mg "sum"=none
 range:mg "range"=none
 str:mg "str"=none
 int:mg "int"=none
 bool:mg "bool"=none
 tuple:mg "tuple"=none
 sorted:mg "sorted"=none
 enumerate:mg "enumerate"=none
 LETTERS:∃t,mg "LETTERS"=some (.str "abcdef" t)
 MOST_ROWS:∃t,mg "MOST_ROWS"=some (.int 8 t)
 MOST_COLUMNS:∃t,mg "MOST_COLUMNS"=some (.int 8 t)
 GREATEST_LEAST:∃t,mg "GREATEST_LEAST"=some (.int 64 t)
 EMPTY:∃t,mg "EMPTY"=some (.str "." t)
structure Bo (K:V9) (CK CG:Addr):Prop where
 cKeeper:Cls K CK
 cGame:Cls K CG
 nKeeper_boards:NoAttr K CK "boards"
 nGame_stages:NoAttr K CG "stages"
 nGame_place:NoAttr K CG "place"
 nKeeper_ways:NoAttr K CK "ways"
 nGame_ways:NoAttr K CG "ways"
section
variable{P:Wz}{w:World}{K:V9}{mg:Str->Option Value}{base:Heap}{cv:Nat->Value}{cA:Nat->Addr}{Cp:Addr}{f:Addr}
variable{CK CG:Addr}
abbrev gS:Stmt:=(aA (top 50)).getD 1 (.Pass ⟨0,0,0,0⟩)
def j9:List Str:=["self"]
def ku:List Str:=["self"]
def mR{j k:Nat}{A:Xa}(r:Room k A)(h:j<=k:=by decide):Room j A:=r.mono h
def b6{N Q:List Str}{sc:Scope}(k:sc.kind= .function:=by rfl)(c:sc.isCoroutine=false:=by rfl)(g:sc.isGenerator=false:=by rfl)(p:N.take Q.length=Q:=by rfl)(h:N.Nodup/\(∀x∈Q,sc.names.lookup x=some .local\/sc.names.lookup x=some .cell)/\∀y∈sc.names,y.2≠ .free:=by decide+kernel):FnScope N Q sc:=⟨k,c,g,h.1,p,h.2.1,h.2.2⟩
def qp:FnScope j9 ku (ai gS):=b6
def qf(B:Bl K mg base cv cA Cp)(O:Bo K CK CG)(T:MethAt K CK "shown" "Keeper.shown" gS f):eG P w K mg base cv 1 CK "shown" 0 (av CK CG):=
 nr (N:=j9) (ps:=ku) T qp rfl (λ_ _ _ _ _ _ us hl=>match us,hl with | [_],_=>rfl) rfl (λ_ _ _ _ _ _ hr=>
  (zM O.cKeeper O.nKeeper_boards (pv 0) (sQ aw)))
abbrev iC:Stmt:=(aA (top 50)).getD 7 (.Pass ⟨0,0,0,0⟩)
def lP:List Str:=["self"]
def l6:List Str:=["self"]
def tu:FnScope lP l6 (ai iC):=b6
def sy(B:Bl K mg base cv cA Cp)(O:Bo K CK CG)(hg:fQ CK 0 1 (iM CK CG) (cI CK CG))(T:MethAt K CK "undo" "Keeper.undo" iC f):gD P w K mg base cv 1 CK "undo" 0 (cI CK CG):=
 j5 (N:=lP) (ps:=l6) T tu rfl (λ_ _ _ _ _ _ us hl=>match us,hl with | [_],_=>rfl) hg (λ_ _ _ _ _ _ hr=>
  (aS (bK (cu (vN hr.units (Eo O.cKeeper O.nKeeper_boards (pv 0) rfl B.len rfl) aw) (ax gz) bJ)) (ek (BI O.cKeeper O.nKeeper_boards (pv 0)))))
abbrev kN:Stmt:=(aA (top 55)).getD 1 (.Pass ⟨0,0,0,0⟩)
def pB:List Str:=["self"]
def pR:List Str:=["self"]
def yb:FnScope pB pR (ai kN):=b6
def xm(B:Bl K mg base cv cA Cp)(O:Bo K CK CG)(T:MethAt K CG "rows" "Game.rows" kN f):eG P w K mg base cv 1 CG "rows" 0 (cB CK CG):=
 nr (N:=pB) (ps:=pR) T yb rfl (λ_ _ _ _ _ _ us hl=>match us,hl with | [_],_=>rfl) rfl (λ_ _ _ _ _ _ hr=>
  (zM O.cGame O.nGame_stages (pv 0) (sO O.cGame O.nGame_place (pv 0))))
abbrev mL:Stmt:=top 13
def rZ:List Str:=["thing"]
def sI:List Str:=["thing"]
def z8:FnScope rZ sI (ai mL):=b6
def zF(B:Bl K mg base cv cA Cp)(T:bF K mg "is_whole" mL f):ao P w K mg base cv 1 "is_whole" 1 (bu):=
 aE (N:=rZ) (ps:=sI) T z8 (λ_ _ _ _ _ _ us hl=>match us,hl with | [_],_=>rfl) λ_ _ _ _ _ _ hr=>
  (ax (aI (mG (oQ rfl B.isinstance rfl (ab (ae (pv 0)) (ab (vL rfl B.int rfl) ah))) (sR (Me (oQ rfl B.isinstance rfl (ab (ae (pv 0)) (ab (vL rfl B.bool rfl) ah))))))))
abbrev kR:Stmt:=top 14
def pE:List Str:=["thing"]
def pV:List Str:=["thing"]
def yc:FnScope pE pV (ai kR):=b6
def xu(B:Bl K mg base cv cA Cp)(T:bF K mg "is_letter" kR f):ao P w K mg base cv 1 "is_letter" 1 (cz):=
 aE (N:=pE) (ps:=pV) T yc (λ_ _ _ _ _ _ us hl=>match us,hl with | [_],_=>rfl) λ_ _ _ _ _ _ hr=>
  (ax (aI (mG (oQ rfl B.isinstance rfl (ab (ae (pv 0)) (ab (vL rfl B.str rfl) ah))) (mG (sN hr.units (bD rfl B.len (ab (ae (pv 0)) ah)) aw) (sR (Mc (ae (pv 0)) (xI rfl B.LETTERS (by decide))))))))
abbrev fk:Stmt:=top 22
def e7:List Str:=["board","row"]
def ky:List Str:=["board","row"]
def qr:FnScope e7 ky (ai fk):=b6
def qh(B:Bl K mg base cv cA Cp)(T:bF K mg "cells_of_row" fk f):ao P w K mg base cv 1 "cells_of_row" 2 (bG):=
 aE (N:=e7) (ps:=ky) T qr (λ_ _ _ _ _ _ us hl=>match us,hl with | [_,_],_=>rfl) λ_ _ _ _ _ _ hr=>
  (ax (aI (ie (tn:=["column"]) (n:=0) (cM (N:=e7) (osc:=(ai fk)) rfl rfl (by decide+kernel)) rfl rfl (fL rfl B.range (ab (bD rfl B.len (ab (b8 (ae (pv 0)) aw) ah)) ah)) (λ_ _ _ _ _ _ _=>fw (show X3 (((["column"]:List Str))++eO ["column"] e7) by decide+kernel) rfl rfl) (λ_ _ _ _ _ _=>fZ) (λ_ _ _ _ _ _=>(jt (ab (ae (pv 2)) (ab (ae (pv 0)) ah)))))))
abbrev kU:Stmt:=top 24
def pG:List Str:=["board","cell"]
def pY:List Str:=["board","cell"]
def yd:FnScope pG pY (ai kU):=b6
def xA(B:Bl K mg base cv cA Cp)(T:bF K mg "letter_of" kU f):ao P w K mg base cv 1 "letter_of" 2 (aW):=
 aE (N:=pG) (ps:=pY) T yd (λ_ _ _ _ _ _ us hl=>match us,hl with | [_,_],_=>rfl) λ_ _ _ _ _ _ hr=>
  (ax (aI (BB (b8 (ae (pv 0)) (b8 (ae (pv 1)) aw)) (b8 (ae (pv 1)) aw))))
abbrev mJ:Stmt:=top 25
def rV:List Str:=["one","other","ways","down","along"]
def sF:List Str:=["one","other","ways"]
def kY:FnScope rV sF (ai mJ):=b6
def zC(B:Bl K mg base cv cA Cp)(T:bF K mg "are_next" mJ f):ao P w K mg base cv 1 "are_next" 3 (eB):=
 aE (N:=rV) (ps:=sF) T kY (λ_ _ _ _ _ _ us hl=>match us,hl with | [_,_,_],_=>rfl) λ_ _ _ _ _ _ hr=>
  (ar (aZ kY.nd rfl (.inl rfl) (GZ rfl B.abs (ab (kE (b8 (ae (pv 0)) aw) (b8 (ae (pv 1)) aw)) ah) rfl)) (ar (aZ kY.nd rfl (.inl rfl) (GZ rfl B.abs (ab (kE (b8 (ae (pv 0)) aw) (b8 (ae (pv 1)) aw)) ah) rfl)) (ar (cu (vN hr.units (ae (pv 2)) aw) (ax (aI (sN hr.units (bV (ae (pv 3)) (ae (pv 4))) aw))) bJ) (ax (aI (sN hr.units (BC rfl rfl B.max rfl (ab (ae (pv 3)) (ab (ae (pv 4)) ah))) aw))))))
abbrev xZ:Stmt:=top 27
def CC:List Str:=["things","found","thing"]
def CI:List Str:=["things"]
def tw:FnScope CC CI (ai xZ):=b6
def GP(B:Bl K mg base cv cA Cp)(T:bF K mg "keyed" xZ f):ao P w K mg base cv 1 "keyed" 1 (g_):=
 aE (N:=CC) (ps:=CI) T tw (λ_ _ _ _ _ _ us hl=>match us,hl with | [_],_=>rfl) λ_ _ _ _ _ _ hr=>
  (ar (nT tw.nd rfl (.inl rfl)) (ar (fg (dB WG rfl (JE (c8 (ae (pv 0))) (G6 (ae (pv 0)))) (bI tw.nd rfl (.inl rfl)) c9 (cq (ax (nU hr.units (pv 1) (ae (pv 2)) ma))))) (ax (fe (i:=1) (aI (ae (pv 1)))))))
abbrev jB:Stmt:=top 34
def nE:List Str:=["found","numbers","number","patch","cell"]
def nP:List Str:=["found"]
def d_:FnScope nE nP (ai jB):=b6
def uE(B:Bl K mg base cv cA Cp)(T:bF K mg "numbers_of" jB f):ao P w K mg base cv 1 "numbers_of" 1 (gj):=
 aE (N:=nE) (ps:=nP) T d_ (λ_ _ _ _ _ _ us hl=>match us,hl with | [_],_=>rfl) λ_ _ _ _ _ _ hr=>
  (ar (nT d_.nd rfl (.inl rfl)) (ar (fg (dB WG rfl (G5 rfl B.enumerate (ab (ae (pv 0)) ah)) (Hb rfl (nS (bI d_.nd rfl (.inl rfl)) (nS (bI d_.nd rfl (.inl rfl)) CQ))) (CT (is:=[2,3])) (cq (ax (dB WG rfl (c8 (ae (pv 3))) (bI d_.nd rfl (.inl rfl)) c9 (cq (ax (nU hr.units (pv 1) (ae (pv 4)) (ae (pv 2)))))))))) (ax (fe (i:=1) (aI (ae (pv 1)))))))
abbrev fm:Stmt:=top 54
def e9:List Str:=["rows"]
def kz:List Str:=["rows"]
def qt:FnScope e9 kz (ai fm):=b6
def qi(B:Bl K mg base cv cA Cp)(T:bF K mg "many_letters" fm f):ao P w K mg base cv 1 "many_letters" 1 (gK):=
 aE (N:=e9) (ps:=kz) T qt (λ_ _ _ _ _ _ us hl=>match us,hl with | [_],_=>rfl) λ_ _ _ _ _ _ hr=>
  (ax (aI (JC rfl rfl B.sum rfl (ab (ie (tn:=["row"]) (n:=0) (cM (N:=e9) (osc:=(ai fm)) rfl rfl (by decide+kernel)) rfl rfl (xJ (ae (pv 0))) (λ_ _ _ _ _ _ _=>fw (show X3 (((["row"]:List Str))++eO ["row"] e9) by decide+kernel) rfl rfl) (λ_ _ _ _ _ _=>fZ) (λ_ _ _ _ _ _=>(kE (bD rfl B.len (ab (ae (pv 0)) ah)) (Jy (ae (pv 0)) (ab (xI rfl B.EMPTY (by decide)) ah))))) ah))))
abbrev mM:Stmt:=top 57
def r0:List Str:=["_law_script","_law_k"]
def sJ:List Str:=["_law_script","_law_k"]
def z9:FnScope r0 sJ (ai mM):=b6
def zG(B:Bl K mg base cv cA Cp)(T:bF K mg "_law_cell" mM f):ao P w K mg base cv 1 "_law_cell" 2 (gJ):=
 aE (N:=r0) (ps:=sJ) T z9 (λ_ _ _ _ _ _ us hl=>match us,hl with | [_,_],_=>rfl) λ_ _ _ _ _ _ hr=>
  (ar (cu (vN hr.units (ae (pv 0)) (sP ah)) (ax (aI (js aw (ae (pv 1))))) bJ) (ax (aI (bV (Md (ae (pv 0)) (oR (ae (pv 1)) (bD rfl B.len (ab (ae (pv 0)) ah)))) (js aw (xF (ae (pv 1)) (bD rfl B.len (ab (ae (pv 0)) ah))))))))
abbrev kM:Stmt:=(aA (top 55)).getD 4 (.Pass ⟨0,0,0,0⟩)
def pA:List Str:=["self"]
def pQ:List Str:=["self"]
def ya:FnScope pA pQ (ai kM):=b6
def xl(B:Bl K mg base cv cA Cp)(O:Bo K CK CG)(q0:ao P w K mg base cv 1 "many_letters" 1 gK)(g9:eG P w K mg base cv 1 CG "rows" 0 (cB CK CG))(T:MethAt K CG "left" "Game.left" kM f):eG P w K mg base cv 2 CG "left" 0 (fV CK CG):=
 nr (N:=pA) (ps:=pQ) T ya rfl (λ_ _ _ _ _ _ us hl=>match us,hl with | [_],_=>rfl) rfl (λ_ _ _ _ _ _ hr=>
  (a7 q0 (mR hr) rfl aJ (ab (bC g9 (mR hr) aJ (pv 0)) ah) rfl))
abbrev n5:Stmt:=top 15
def nu:List Str:=["thing"]
def zI:List Str:=["thing"]
def Ez:FnScope nu zI (ai n5):=b6
def Ed(B:Bl K mg base cv cA Cp)(jS:ao P w K mg base cv 1 "is_letter" 1 cz)(T:bF K mg "is_row" n5 f):ao P w K mg base cv 2 "is_row" 1 (gH):=
 aE (N:=nu) (ps:=zI) T Ez (λ_ _ _ _ _ _ us hl=>match us,hl with | [_],_=>rfl) λ_ _ _ _ _ _ hr=>
  (ar (cu (PDW.t (kF (dw (dz (oQ rfl B.isinstance rfl (ab (ae (pv 0)) (ab (vL rfl B.str rfl) ah))))) (ig (dw (BG pN pN aw (bD rfl B.len (ab (ae (pv 0)) ah)) (xG rfl B.MOST_COLUMNS)))))) (ax (aI ma)) bJ) (ax (aI (BA rfl rfl B.all rfl (ab (ie (tn:=["sign"]) (n:=0) (cM (N:=nu) (osc:=(ai n5)) rfl rfl (by decide+kernel)) rfl rfl (JF (ae (pv 0))) (λ_ _ _ _ _ _ _=>fw (show X3 (((["sign"]:List Str))++eO ["sign"] nu) by decide+kernel) rfl rfl) (λ_ _ _ _ _ _=>fZ) (λ_ _ _ _ _ _=>(a7 jS (mR hr) rfl bN (ab (ae (pv 0)) ah) rfl))) ah)))))
abbrev oY:Stmt:=top 17
def vx:List Str:=["board","thing"]
def vH:List Str:=["board","thing"]
def BM:FnScope vx vH (ai oY):=b6
def Bu(B:Bl K mg base cv cA Cp)(fF:ao P w K mg base cv 1 "is_whole" 1 bu)(T:bF K mg "is_cell" oY f):ao P w K mg base cv 2 "is_cell" 2 (lb):=
 aE (N:=vx) (ps:=vH) T BM (λ_ _ _ _ _ _ us hl=>match us,hl with | [_,_],_=>rfl) λ_ _ _ _ _ _ hr=>
  (ar (cu (PDW.t (kF (dw (dz (oQ rfl B.isinstance rfl (ab (ae (pv 1)) (ab (vL rfl B.tuple rfl) ah))))) (ig (vO hr.units (bD rfl B.len (ab (ae (pv 1)) ah)) aw)))) (ax (aI ma)) bJ) (ar (cu (PDW.t (kF (dw (dz (a7 fF (mR hr) rfl aJ (ab (b8 (ae (pv 1)) aw) ah) rfl))) (ig (dw (dz (a7 fF (mR hr) rfl aJ (ab (b8 (ae (pv 1)) aw) ah) rfl)))))) (ax (aI ma)) bJ) (ax (aI (mG (G1 pN GS aw (b8 (ae (pv 1)) aw) (bD rfl B.len (ab (ae (pv 0)) ah))) (sR (G1 pN GS aw (b8 (ae (pv 1)) aw) (bD rfl B.len (ab (b8 (ae (pv 0)) aw) ah)))))))))
abbrev iF:Stmt:=top 20
def lS:List Str:=["thing"]
def l9:List Str:=["thing"]
def tE:FnScope lS l9 (ai iF):=b6
def sD(B:Bl K mg base cv cA Cp)(jS:ao P w K mg base cv 1 "is_letter" 1 cz)(T:bF K mg "need_letter" iF f):ao P w K mg base cv 2 "need_letter" 1 (df):=
 aE (N:=lS) (ps:=l9) T tE (λ_ _ _ _ _ _ us hl=>match us,hl with | [_],_=>rfl) λ_ _ _ _ _ _ hr=>
  (ax (cu (dw (dz (a7 jS (mR hr) rfl aJ (ab (ae (pv 0)) ah) rfl))) (ax gz) bJ))
abbrev kX:Stmt:=top 21
def pI:List Str:=["thing"]
def p0:List Str:=["thing"]
def yf:FnScope pI p0 (ai kX):=b6
def xC(B:Bl K mg base cv cA Cp)(fF:ao P w K mg base cv 1 "is_whole" 1 bu)(T:bF K mg "need_ways" kX f):ao P w K mg base cv 2 "need_ways" 1 (aX):=
 aE (N:=pI) (ps:=p0) T yf (λ_ _ _ _ _ _ us hl=>match us,hl with | [_],_=>rfl) λ_ _ _ _ _ _ hr=>
  (ax (cu (PDW.t (kF (dw (dz (a7 fF (mR hr) rfl aJ (ab (ae (pv 0)) ah) rfl))) (ig (Ex (ae (pv 0)) (jt (ab aw (ab aw ah))))))) (ax gz) bJ))
abbrev kP:Stmt:=top 23
def pC:List Str:=["board","found","row"]
def pT:List Str:=["board"]
def jD:FnScope pC pT (ai kP):=b6
def xq(B:Bl K mg base cv cA Cp)(gF:ao P w K mg base cv 1 "cells_of_row" 2 bG)(T:bF K mg "all_cells" kP f):ao P w K mg base cv 2 "all_cells" 1 (cS):=
 aE (N:=pC) (ps:=pT) T jD (λ_ _ _ _ _ _ us hl=>match us,hl with | [_],_=>rfl) λ_ _ _ _ _ _ hr=>
  (ar (jw jD.nd rfl (.inl rfl)) (ar (fg (dB WG rfl (fL rfl B.range (ab (bD rfl B.len (ab (ae (pv 0)) ah)) ah)) (bI jD.nd rfl (.inl rfl)) c9 (cq (ax (JP (pv 1) (a7 gF (mR hr) rfl bN (ab (ae (pv 0)) (ab (ae (pv 2)) ah)) rfl)))))) (ax (fe (i:=1) (aI (ae (pv 1)))))))
abbrev jA:Stmt:=top 26
def nB:List Str:=["board","cell","ways","found","row","column"]
def nO:List Str:=["board","cell","ways"]
def fP:FnScope nB nO (ai jA):=b6
def uD(B:Bl K mg base cv cA Cp)(AF:ao P w K mg base cv 1 "are_next" 3 eB)(T:bF K mg "next_cells" jA f):ao P w K mg base cv 2 "next_cells" 3 (bH):=
 aE (N:=nB) (ps:=nO) T fP (λ_ _ _ _ _ _ us hl=>match us,hl with | [_,_,_],_=>rfl) λ_ _ _ _ _ _ hr=>
  (ar (jw fP.nd rfl (.inl rfl)) (ar (fg (dB WG rfl (sS rfl B.range (ab (BC rfl rfl B.max rfl (ab (kE (b8 (ae (pv 1)) aw) aw) (ab aw ah))) (ab (G2 rfl rfl B.min rfl (ab (bV (b8 (ae (pv 1)) aw) aw) (ab (bD rfl B.len (ab (ae (pv 0)) ah)) ah))) ah))) (bI fP.nd rfl (.inl rfl)) c9 (cq (ax (dB WG rfl (sS rfl B.range (ab (BC rfl rfl B.max rfl (ab (kE (b8 (ae (pv 1)) aw) aw) (ab aw ah))) (ab (G2 rfl rfl B.min rfl (ab (bV (b8 (ae (pv 1)) aw) aw) (ab (bD rfl B.len (ab (b8 (ae (pv 0)) aw) ah)) ah))) ah))) (bI fP.nd rfl (.inl rfl)) c9 (cq (ax (cu (dz (a7 AF (mR hr) rfl bN (ab (ae (pv 1)) (ab (jt (ab (ae (pv 4)) (ab (ae (pv 5)) ah))) (ab (ae (pv 2)) ah))) rfl)) (ax (jv (pv 3) (jt (ab (ae (pv 4)) (ab (ae (pv 5)) ah))))) bJ)))))))) (ax (fe (i:=3) (aI (ae (pv 3)))))))
abbrev fo:Stmt:=top 28
def e_:List Str:=["board","some","letter","marked","told","row","places"]
def kC:List Str:=["board","some","letter"]
def c_:FnScope e_ kC (ai fo):=b6
def ql(B:Bl K mg base cv cA Cp)(wt:ao P w K mg base cv 1 "keyed" 1 g_)(gF:ao P w K mg base cv 1 "cells_of_row" 2 bG)(cR:ao P w K mg base cv 1 "letter_of" 2 aW)(T:bF K mg "with_letters" fo f):ao P w K mg base cv 2 "with_letters" 3 (bh):=
 aE (N:=e_) (ps:=kC) T c_ (λ_ _ _ _ _ _ us hl=>match us,hl with | [_,_,_],_=>rfl) λ_ _ _ _ _ _ hr=>
  (ar (aZ c_.nd rfl (.inr rfl) (a7 wt (mR hr) rfl aJ (ab (ae (pv 1)) ah) rfl)) (ar (jw c_.nd rfl (.inl rfl)) (ar (fg (dB WG rfl (fL rfl B.range (ab (bD rfl B.len (ab (ae (pv 0)) ah)) ah)) (bI c_.nd rfl (.inl rfl)) c9 (cq (ar (aZ c_.nd rfl (.inl rfl) (a7 gF (mR hr) rfl bN (ab (ae (pv 0)) (ab (ae (pv 5)) ah)) rfl)) (ax (jv (pv 4) (CM mH (ab (ie (tn:=["cell"]) (n:=0) (cM (N:=e_) (osc:=(ai fo)) rfl rfl (by decide+kernel)) rfl rfl (c8 (ae (pv 6))) (λ_ _ _ _ _ _ _=>fw (show X3 (((["cell"]:List Str))++eO ["cell"] e_) by decide+kernel) rfl rfl) (λ_ _ _ _ _ _=>fZ) (λ_ _ _ _ _ _=>(OU (Mt hr.units (ae (pv 0)) (ae (pv 4))) (ae (pv 3)) (a7 cR (mR hr) rfl bN (ab (ae (pv 1)) (ab (ae (pv 0)) ah)) rfl)))) ah)))))))) (ax (fe (i:=4) (aI (G4 rfl B.tuple rfl (ab (ae (pv 4)) ah))))))))
abbrev gT:Stmt:=top 53
def j_:List Str:=["rows","patch"]
def kx:List Str:=["rows","patch"]
def qq:FnScope j_ kx (ai gT):=b6
def qg(B:Bl K mg base cv cA Cp)(cR:ao P w K mg base cv 1 "letter_of" 2 aW)(T:bF K mg "can_be_taken" gT f):ao P w K mg base cv 2 "can_be_taken" 2 (dH):=
 aE (N:=j_) (ps:=kx) T qq (λ_ _ _ _ _ _ us hl=>match us,hl with | [_,_],_=>rfl) λ_ _ _ _ _ _ hr=>
  (ax (aI (mG (OT (bD rfl B.len (ab (ae (pv 1)) ah)) aw) (sR (OV hr.units (a7 cR (mR hr) rfl aJ (ab (ae (pv 0)) (ab (iw (ae (pv 1)) aw) ah)) rfl) (xI rfl B.EMPTY (by decide)))))))
abbrev kT:Stmt:=top 58
def pF:List Str:=["_law_script","_law_k","_law_many","_law_cell_here"]
def pX:List Str:=["_law_script","_law_k","_law_many"]
def jE:FnScope pF pX (ai kT):=b6
def xy(B:Bl K mg base cv cA Cp)(AH:ao P w K mg base cv 1 "_law_cell" 2 gJ)(T:bF K mg "_law_drawn" kT f):ao P w K mg base cv 2 "_law_drawn" 3 (aG):=
 aE (N:=pF) (ps:=pX) T jE (λ_ _ _ _ _ _ us hl=>match us,hl with | [_,_,_],_=>rfl) λ_ _ _ _ _ _ hr=>
  (ar (aZ jE.nd rfl (.inl rfl) (oR (bV (js (oR (a7 AH (mR hr) rfl aJ (ab (ae (pv 0)) (ab (ae (pv 1)) ah)) rfl) aw) aw) (js aw (bV (ae (pv 1)) aw))) aw)) (ar (aZ jE.nd rfl (.inl rfl) (oR (bV (js (ae (pv 3)) (ae (pv 3))) (xF (ae (pv 3)) aw)) aw)) (ax (aI (oR (xF (oR (bV (js (ae (pv 3)) (ae (pv 3))) (xF (ae (pv 3)) aw)) aw) aw) (ae (pv 2)))))))
abbrev gU:Stmt:=top 16
def fJ:List Str:=["thing"]
def sH:List Str:=["thing"]
def z7:FnScope fJ sH (ai gU):=b6
def zE(B:Bl K mg base cv cA Cp)(Fb:ao P w K mg base cv 2 "is_row" 1 gH)(T:bF K mg "is_board" gU f):ao P w K mg base cv 3 "is_board" 1 (ji):=
 aE (N:=fJ) (ps:=sH) T z7 (λ_ _ _ _ _ _ us hl=>match us,hl with | [_],_=>rfl) λ_ _ _ _ _ _ hr=>
  (ar (cu (PDW.t (kF (dw (dz (oQ rfl B.isinstance rfl (ab (ae (pv 0)) (ab (vL rfl B.tuple rfl) ah))))) (ig (dw (BG pN pN aw (bD rfl B.len (ab (ae (pv 0)) ah)) (xG rfl B.MOST_ROWS)))))) (ax (aI ma)) bJ) (ar (cu (dw (dz (BA rfl rfl B.all rfl (ab (ie (tn:=["row"]) (n:=0) (cM (N:=fJ) (osc:=(ai gU)) rfl rfl (by decide+kernel)) rfl rfl (xJ (ae (pv 0))) (λ_ _ _ _ _ _ _=>fw (show X3 (((["row"]:List Str))++eO ["row"] fJ) by decide+kernel) rfl rfl) (λ_ _ _ _ _ _=>fZ) (λ_ _ _ _ _ _=>(a7 Fb (mR hr) rfl bN (ab (ae (pv 0)) ah) rfl))) ah)))) (ax (aI ma)) bJ) (ax (aI (BA rfl rfl B.all rfl (ab (ie (tn:=["row"]) (n:=0) (cM (N:=fJ) (osc:=(ai gU)) rfl rfl (by decide+kernel)) rfl rfl (xJ (ae (pv 0))) (λ_ _ _ _ _ _ _=>fw (show X3 (((["row"]:List Str))++eO ["row"] fJ) by decide+kernel) rfl rfl) (λ_ _ _ _ _ _=>fZ) (λ_ _ _ _ _ _=>(sN hr.units (bD rfl B.len (ab (ae (pv 0)) ah)) (bD rfl B.len (ab (b8 (ae (pv 1)) aw) ah))))) ah))))))
abbrev kW:Stmt:=top 19
def pH:List Str:=["board","thing"]
def pZ:List Str:=["board","thing"]
def ye:FnScope pH pZ (ai kW):=b6
def xB(B:Bl K mg base cv cA Cp)(Dk:ao P w K mg base cv 2 "is_cell" 2 lb)(T:bF K mg "need_cell" kW f):ao P w K mg base cv 3 "need_cell" 2 (eK):=
 aE (N:=pH) (ps:=pZ) T ye (λ_ _ _ _ _ _ us hl=>match us,hl with | [_,_],_=>rfl) λ_ _ _ _ _ _ hr=>
  (ax (cu (dw (dz (a7 Dk (mR hr) rfl aJ (ab (ae (pv 0)) (ab (ae (pv 1)) ah)) rfl))) (ax gz) bJ))
abbrev gq:Stmt:=top 31
def gn:List Str:=["board","cell","ways","letter"]
def nK:List Str:=["board","cell","ways"]
def me:FnScope gn nK (ai gq):=b6
def uz(B:Bl K mg base cv cA Cp)(cR:ao P w K mg base cv 1 "letter_of" 2 aW)(je:ao P w K mg base cv 2 "next_cells" 3 bH)(T:bF K mg "like_cells" gq f):ao P w K mg base cv 3 "like_cells" 3 (cV):=
 aE (N:=gn) (ps:=nK) T me (λ_ _ _ _ _ _ us hl=>match us,hl with | [_,_,_],_=>rfl) λ_ _ _ _ _ _ hr=>
  (ar (aZ me.nd rfl (.inr rfl) (a7 cR (mR hr) rfl aJ (ab (ae (pv 0)) (ab (ae (pv 1)) ah)) rfl)) (ax (aI (ie (tn:=["near"]) (n:=0) (cM (N:=gn) (osc:=(ai gq)) rfl rfl (by decide+kernel)) rfl rfl (c8 (a7 je (mR hr) rfl aJ (ab (ae (pv 0)) (ab (ae (pv 1)) (ab (ae (pv 2)) ah))) rfl)) (λ_ _ _ _ _ _ _=>fw (show X3 (((["near"]:List Str))++eO ["near"] gn) by decide+kernel) rfl rfl) (λ_ _ _ _ _ _=>(tK (vN hr.units (a7 cR (mR hr) rfl bN (ab (ae (pv 1)) (ab (ae (pv 0)) ah)) rfl) (ae (pv 4))))) (λ_ _ _ _ _ _=>(ae (pv 0)))))))
abbrev gW:Stmt:=top 38
def kf:List Str:=["board","found","numbers","shared","cell","near","pair"]
def kB:List Str:=["board","found"]
def cy:FnScope kf kB (ai gW):=b6
def qk(B:Bl K mg base cv cA Cp)(wz:ao P w K mg base cv 1 "numbers_of" 1 gj)(jR:ao P w K mg base cv 2 "all_cells" 1 cS)(je:ao P w K mg base cv 2 "next_cells" 3 bH)(T:bF K mg "shared_sides" gW f):ao P w K mg base cv 3 "shared_sides" 2 (cQ):=
 aE (N:=kf) (ps:=kB) T cy (λ_ _ _ _ _ _ us hl=>match us,hl with | [_,_],_=>rfl) λ_ _ _ _ _ _ hr=>
  (ar (aZ cy.nd rfl (.inl rfl) (a7 wz (mR hr) rfl aJ (ab (ae (pv 1)) ah) rfl)) (ar (nT cy.nd rfl (.inl rfl)) (ar (fg (dB WG rfl (c8 (a7 jR (mR hr) rfl bN (ab (ae (pv 0)) ah) rfl)) (bI cy.nd rfl (.inl rfl)) c9 (cq (ax (dB WG rfl (c8 (a7 je (mR hr) rfl bN (ab (ae (pv 0)) (ab (ae (pv 4)) (ab aw ah))) rfl)) (bI cy.nd rfl (.inl rfl)) c9 (cq (ax (cu (Hh (xH hr.units (ae (pv 2)) (ae (pv 4))) (xH hr.units (ae (pv 2)) (ae (pv 5)))) (ar (aZ cy.nd rfl (.inl rfl) (jt (ab (xH hr.units (ae (pv 2)) (ae (pv 4))) (ab (xH hr.units (ae (pv 2)) (ae (pv 5))) ah)))) (ax (nU hr.units (pv 3) (ae (pv 6)) (OW (bV (Jz hr.units (ae (pv 3)) (ae (pv 6)) aw ⟨rfl,rfl,rfl,rfl⟩) aw))))) bJ)))))))) (ax (fe (i:=3) (aI (ae (pv 3))))))))
abbrev il:Stmt:=top 59
def h9:List Str:=["_law_script","_law_at","_law_most","_law_rows","_law_wide","_law_alphabet","_law_found","_law_row","_law_signs"]
def pW:List Str:=["_law_script","_law_at","_law_most"]
def cF:FnScope h9 pW (ai il):=b6
def xx(B:Bl K mg base cv cA Cp)(bz:ao P w K mg base cv 2 "_law_drawn" 3 aG)(T:bF K mg "_law_board" il f):ao P w K mg base cv 3 "_law_board" 3 (eJ):=
 aE (N:=h9) (ps:=pW) T cF (λ_ _ _ _ _ _ us hl=>match us,hl with | [_,_,_],_=>rfl) λ_ _ _ _ _ _ hr=>
  (ar (aZ cF.nd rfl (.inl rfl) (bV aw (a7 bz (mR hr) rfl aJ (ab (ae (pv 0)) (ab (ae (pv 1)) (ab (ae (pv 2)) ah))) rfl))) (ar (aZ cF.nd rfl (.inl rfl) (bV aw (a7 bz (mR hr) rfl aJ (ab (ae (pv 0)) (ab (bV (ae (pv 1)) aw) (ab (ae (pv 2)) ah))) rfl))) (ar (aZ cF.nd rfl (.inr rfl) (iw (sP (ab mH (ab mH (ab mH (ab mH ah))))) (a7 bz (mR hr) rfl aJ (ab (ae (pv 0)) (ab (bV (ae (pv 1)) aw) (ab aw ah))) rfl))) (ar (aZ cF.nd rfl (.inl rfl) (jt ah)) (ar (fg (dB WG rfl (fL rfl B.range (ab (ae (pv 3)) ah)) (bI cF.nd rfl (.inr rfl)) c9 (cq (ar (kG (tn:=["_law_k"]) (n:=0) cF.nd rfl (.inl rfl) (cM (N:=h9) (osc:=(ai il)) rfl rfl (by decide+kernel)) rfl rfl (fL rfl B.range (ab (ae (pv 4)) ah)) (λ_ _ _ _ _ _ _=>fw (show X3 (((["_law_k"]:List Str))++eO ["_law_k"] h9) by decide+kernel) rfl rfl) (λ_ _ _ _ _ _=>fZ) (λ_ _ _ _ _ _=>(BB (ae (pv 6)) (a7 bz (mR hr) rfl bN (ab (ae (pv 1)) (ab (bV (bV (bV (ae (pv 2)) aw) (js aw (ae (pv 8)))) (ae (pv 0))) (ab (bD rfl B.len (ab (ae (pv 6)) ah)) ah))) rfl)))) (ax (aZ cF.nd rfl (.inl rfl) (Jx (ae (pv 6)) (jt (ab (CM mH (ab (ae (pv 8)) ah)) ah))))))))) (ax (aI (ae (pv 6)))))))))
abbrev iE:Stmt:=top 60
def lR:List Str:=["_law_script","_law_at","_law_board_here"]
def l8:List Str:=["_law_script","_law_at","_law_board_here"]
def tB:FnScope lR l8 (ai iE):=b6
def sC(B:Bl K mg base cv cA Cp)(bz:ao P w K mg base cv 2 "_law_drawn" 3 aG)(T:bF K mg "_law_cell_in" iE f):ao P w K mg base cv 3 "_law_cell_in" 3 (dX):=
 aE (N:=lR) (ps:=l8) T tB (λ_ _ _ _ _ _ us hl=>match us,hl with | [_,_,_],_=>rfl) λ_ _ _ _ _ _ hr=>
  (ax (aI (jt (ab (a7 bz (mR hr) rfl aJ (ab (ae (pv 0)) (ab (ae (pv 1)) (ab (bD rfl B.len (ab (ae (pv 2)) ah)) ah))) rfl) (ab (a7 bz (mR hr) rfl aJ (ab (ae (pv 0)) (ab (bV (ae (pv 1)) aw) (ab (bD rfl B.len (ab (b8 (ae (pv 2)) aw) ah)) ah))) rfl) ah)))))
abbrev jy:Stmt:=top 18
def nz:List Str:=["thing"]
def nM:List Str:=["thing"]
def uH:FnScope nz nM (ai jy):=b6
def uB(B:Bl K mg base cv cA Cp)(AG:ao P w K mg base cv 3 "is_board" 1 ji)(T:bF K mg "need_board" jy f):ao P w K mg base cv 4 "need_board" 1 (aL):=
 aE (N:=nz) (ps:=nM) T uH (λ_ _ _ _ _ _ us hl=>match us,hl with | [_],_=>rfl) λ_ _ _ _ _ _ hr=>
  (ax (cu (dw (dz (a7 AG (mR hr) rfl aJ (ab (ae (pv 0)) ah) rfl))) (ax gz) bJ))
abbrev jC:Stmt:=top 32
def nG:List Str:=["board","start","ways","back","ring","further","cell","near"]
def nQ:List Str:=["board","start","ways"]
def cJ:FnScope nG nQ (ai jC):=b6
def uF(B:Bl K mg base cv cA Cp)(wu:ao P w K mg base cv 3 "like_cells" 3 cV)(T:bF K mg "steps_back" jC f):ao P w K mg base cv 4 "steps_back" 3 (b7):=
 aE (N:=nG) (ps:=nQ) T cJ (λ_ _ _ _ _ _ us hl=>match us,hl with | [_,_,_],_=>rfl) λ_ _ _ _ _ _ hr=>
  (ar (zQ cJ.nd rfl (.inl rfl) (Ep hr.units (ae (pv 1)) BD)) (ar (aZ cJ.nd rfl (.inl rfl) (sP (ab (ae (pv 1)) ah))) (ar (fg (vM WG (dz (ae (pv 4))) (cq (ar (jw cJ.nd rfl (.inl rfl)) (ar (dB WG rfl (c8 (ae (pv 4))) (bI cJ.nd rfl (.inl rfl)) c9 (cq (ax (dB WG rfl (c8 (a7 wu (mR hr) rfl bN (ab (ae (pv 0)) (ab (ae (pv 6)) (ab (ae (pv 2)) ah))) rfl)) (bI cJ.nd rfl (.inl rfl)) c9 (cq (ax (cu (G7 (vP hr.units (ae (pv 7)) (ae (pv 3)))) (ar (nU hr.units (pv 3) (ae (pv 7)) (ae (pv 6))) (ax (jv (pv 5) (ae (pv 7))))) bJ))))))) (ax (fe (i:=5) (aZ cJ.nd rfl (.inl rfl) (ae (pv 5)))))))))) (ax (fe (i:=3) (aI (ae (pv 3))))))))
abbrev jx:Stmt:=top 42
def ny:List Str:=["board","found","number","choices","pair","sides","other"]
def nL:List Str:=["board","found","number"]
def d9:FnScope ny nL (ai jx):=b6
def uA(B:Bl K mg base cv cA Cp)(q_:ao P w K mg base cv 3 "shared_sides" 2 cQ)(T:bF K mg "melts_into" jx f):ao P w K mg base cv 4 "melts_into" 3 (eX):=
 aE (N:=ny) (ps:=nL) T d9 (λ_ _ _ _ _ _ us hl=>match us,hl with | [_,_,_],_=>rfl) λ_ _ _ _ _ _ hr=>
  (ar (jw d9.nd rfl (.inl rfl)) (ar (fg (dB WG rfl (Er (a7 q_ (mR hr) rfl bN (ab (ae (pv 0)) (ab (ae (pv 1)) ah)) rfl)) (Hb rfl (nS (bI d9.nd rfl (.inl rfl)) (nS (bI d9.nd rfl (.inl rfl)) CQ))) (CT (is:=[4,5])) (cq (ax (cu (Mu (ae (pv 2)) (ae (pv 4))) (ar (aZ d9.nd rfl (.inl rfl) (kE (bV (b8 (ae (pv 4)) aw) (b8 (ae (pv 4)) aw)) (ae (pv 2)))) (ax (jv (pv 3) (jt (ab (sQ (ae (pv 5))) (ab (sQ (bD rfl B.len (ab (iw (ae (pv 1)) (ae (pv 6))) ah))) (ab (ae (pv 6)) ah))))))) bJ))))) (ax (fe (i:=3) (aI (b8 (G3 hr.units rfl rfl B.min rfl (ab (ae (pv 3)) ah)) aw))))))
abbrev iy:Stmt:=(aA (top 50)).getD 0 (.Pass ⟨0,0,0,0⟩)
def lK:List Str:=["self","board","ways"]
def lX:List Str:=["self","board","ways"]
def th:FnScope lK lX (ai iy):=b6
def sr(B:Bl K mg base cv cA Cp)(O:Bo K CK CG)(bj:ao P w K mg base cv 4 "need_board" 1 aL)(bT:ao P w K mg base cv 2 "need_ways" 1 aX)(hg:fQ CK 2 3 (iI CK CG) (cH CK CG))(T:wg K mg CK "Keeper" "Keeper.__init__" iy f):MakeM P w K mg base cv 5 CK "Keeper" 2 (cH CK CG):=
 zk (N:=lK) (ps:=lX) T th rfl (λ_ _ _ _ _ _ us hl=>match us,hl with | [_,_,_],_=>rfl) hg (λ_ _ _ _ _ _ hr=>
  (aS (bK (b9 (a7 bj (mR hr) rfl aJ (ab (ae (pv 1)) ah) rfl))) (aS (bK (b9 (a7 bT (mR hr) rfl aJ (ab (ae (pv 2)) ah) rfl))) (aS (mI O.cKeeper O.nKeeper_ways (pv 0) (ae (pv 2))) (ek (sY O.cKeeper O.nKeeper_boards (pv 0) (ab (ae (pv 1)) ah)))))))
abbrev kL:Stmt:=(aA (top 55)).getD 0 (.Pass ⟨0,0,0,0⟩)
def pz:List Str:=["self","board","ways"]
def pP:List Str:=["self","board","ways"]
def x_:FnScope pz pP (ai kL):=b6
def xk(B:Bl K mg base cv cA Cp)(O:Bo K CK CG)(bj:ao P w K mg base cv 4 "need_board" 1 aL)(bT:ao P w K mg base cv 2 "need_ways" 1 aX)(hg:fQ CG 2 3 (k_ CK CG) (eN CK CG))(T:wg K mg CG "Game" "Game.__init__" kL f):MakeM P w K mg base cv 5 CG "Game" 2 (eN CK CG):=
 zk (N:=pz) (ps:=pP) T x_ rfl (λ_ _ _ _ _ _ us hl=>match us,hl with | [_,_,_],_=>rfl) hg (λ_ _ _ _ _ _ hr=>
  (aS (bK (b9 (a7 bj (mR hr) rfl aJ (ab (ae (pv 1)) ah) rfl))) (aS (bK (b9 (a7 bT (mR hr) rfl aJ (ab (ae (pv 2)) ah) rfl))) (aS (mI O.cGame O.nGame_ways (pv 0) (ae (pv 2))) (aS (sY O.cGame O.nGame_stages (pv 0) (ab (ae (pv 1)) ah)) (ek (mI O.cGame O.nGame_place (pv 0) aw)))))))
abbrev iG:Stmt:=top 29
def lT:List Str:=["board","cell","letter"]
def l_:List Str:=["board","cell","letter"]
def tF:FnScope lT l_ (ai iG):=b6
def sE(B:Bl K mg base cv cA Cp)(bj:ao P w K mg base cv 4 "need_board" 1 aL)(jT:ao P w K mg base cv 3 "need_cell" 2 eK)(iq:ao P w K mg base cv 2 "need_letter" 1 df)(dF:ao P w K mg base cv 2 "with_letters" 3 bh)(T:bF K mg "with_letter" iG f):ao P w K mg base cv 5 "with_letter" 3 (dg):=
 aE (N:=lT) (ps:=l_) T tF (λ_ _ _ _ _ _ us hl=>match us,hl with | [_,_,_],_=>rfl) λ_ _ _ _ _ _ hr=>
  (ar (b9 (a7 bj (mR hr) rfl aJ (ab (ae (pv 0)) ah) rfl)) (ar (b9 (a7 jT (mR hr) rfl aJ (ab (ae (pv 0)) (ab (ae (pv 1)) ah)) rfl)) (ar (b9 (a7 iq (mR hr) rfl aJ (ab (ae (pv 2)) ah) rfl)) (ax (aI (a7 dF (mR hr) rfl aJ (ab (ae (pv 0)) (ab (sP (ab (ae (pv 1)) ah)) (ab (ae (pv 2)) ah))) rfl))))))
abbrev iD:Stmt:=top 33
def lQ:List Str:=["board","ways","found","seen","cell","patch"]
def l7:List Str:=["board","ways"]
def dO:FnScope lQ l7 (ai iD):=b6
def sA(B:Bl K mg base cv cA Cp)(jR:ao P w K mg base cv 2 "all_cells" 1 cS)(jf:ao P w K mg base cv 4 "steps_back" 3 b7)(wt:ao P w K mg base cv 1 "keyed" 1 g_)(T:bF K mg "all_patches" iD f):ao P w K mg base cv 5 "all_patches" 2 (a9):=
 aE (N:=lQ) (ps:=l7) T dO (λ_ _ _ _ _ _ us hl=>match us,hl with | [_,_],_=>rfl) λ_ _ _ _ _ _ hr=>
  (ar (jw dO.nd rfl (.inl rfl)) (ar (nT dO.nd rfl (.inl rfl)) (ar (fg (dB WG rfl (c8 (a7 jR (mR hr) rfl bN (ab (ae (pv 0)) ah) rfl)) (bI dO.nd rfl (.inl rfl)) c9 (cq (ax (cu (G7 (vP hr.units (ae (pv 4)) (ae (pv 3)))) (ar (aZ dO.nd rfl (.inl rfl) (JB rfl rfl B.sorted rfl (ab (a7 jf (mR hr) rfl bN (ab (ae (pv 0)) (ab (ae (pv 4)) (ab (ae (pv 1)) ah))) rfl) ah))) (ar (jv (pv 2) (ae (pv 5))) (ax (JQ hr.units (pv 3) (a7 wt (mR hr) rfl bN (ab (ae (pv 5)) ah) rfl) ⟨rfl,rfl,rfl,rfl⟩)))) bJ))))) (ax (fe (i:=2) (aI (ae (pv 2))))))))
abbrev gV:Stmt:=top 41
def ke:List Str:=["board","ways","least"]
def kA:List Str:=["board","ways","least"]
def qu:FnScope ke kA (ai gV):=b6
def qj(B:Bl K mg base cv cA Cp)(bj:ao P w K mg base cv 4 "need_board" 1 aL)(bT:ao P w K mg base cv 2 "need_ways" 1 aX)(fF:ao P w K mg base cv 1 "is_whole" 1 bu)(T:bF K mg "need_melting" gV f):ao P w K mg base cv 5 "need_melting" 3 (eY):=
 aE (N:=ke) (ps:=kA) T qu (λ_ _ _ _ _ _ us hl=>match us,hl with | [_,_,_],_=>rfl) λ_ _ _ _ _ _ hr=>
  (ar (b9 (a7 bj (mR hr) rfl aJ (ab (ae (pv 0)) ah) rfl)) (ar (b9 (a7 bT (mR hr) rfl aJ (ab (ae (pv 1)) ah) rfl)) (ax (cu (PDW.t (kF (dw (dz (a7 fF (mR hr) rfl aJ (ab (ae (pv 2)) ah) rfl))) (ig (dw (BG pN pN aw (ae (pv 2)) (xG rfl B.GREATEST_LEAST)))))) (ax gz) bJ))))
abbrev jz:Stmt:=top 47
def nA:List Str:=["board","cell","ways","letter"]
def nN:List Str:=["board","cell","ways","letter"]
def uI:FnScope nA nN (ai jz):=b6
def uC(B:Bl K mg base cv cA Cp)(bj:ao P w K mg base cv 4 "need_board" 1 aL)(jT:ao P w K mg base cv 3 "need_cell" 2 eK)(bT:ao P w K mg base cv 2 "need_ways" 1 aX)(iq:ao P w K mg base cv 2 "need_letter" 1 df)(T:bF K mg "need_paint" jz f):ao P w K mg base cv 5 "need_paint" 4 (gi):=
 aE (N:=nA) (ps:=nN) T uI (λ_ _ _ _ _ _ us hl=>match us,hl with | [_,_,_,_],_=>rfl) λ_ _ _ _ _ _ hr=>
  (ar (b9 (a7 bj (mR hr) rfl aJ (ab (ae (pv 0)) ah) rfl)) (ar (b9 (a7 jT (mR hr) rfl aJ (ab (ae (pv 0)) (ab (ae (pv 1)) ah)) rfl)) (ar (b9 (a7 bT (mR hr) rfl aJ (ab (ae (pv 2)) ah) rfl)) (ax (b9 (a7 iq (mR hr) rfl aJ (ab (ae (pv 3)) ah) rfl))))))
abbrev er:Stmt:=(aA (top 55)).getD 3 (.Pass ⟨0,0,0,0⟩)
def ej:List Str:=["self","found"]
def jJ:List Str:=["self"]
def i9:FnScope ej jJ (ai er):=b6
def oM(B:Bl K mg base cv cA Cp)(O:Bo K CK CG)(cG:ao P w K mg base cv 5 "all_patches" 2 a9)(g9:eG P w K mg base cv 1 CG "rows" 0 (cB CK CG))(qZ:ao P w K mg base cv 2 "can_be_taken" 2 dH)(T:MethAt K CG "can_take" "Game.can_take" er f):eG P w K mg base cv 6 CG "can_take" 0 (c6 CK CG):=
 D6 (N:=ej) (ps:=jJ) T i9 rfl (λ_ _ _ _ _ _ us hl=>match us,hl with | [_],_=>rfl) rfl (λ_ _ _ _ _ _ hr=>
  ⟨(aZ i9.nd rfl (.inl rfl) (a7 cG (mR hr) rfl aJ (ab (bC g9 (mR hr) aJ (pv 0)) (ab (sO O.cGame O.nGame_ways (pv 0)) ah)) rfl)),(ie (tn:=["patch"]) (n:=0) (cM (N:=ej) (osc:=(ai er)) rfl rfl (by decide+kernel)) rfl rfl (c8 (ae (pv 1))) (λ_ _ _ _ _ _ _=>fw (show X3 (((["patch"]:List Str))++eO ["patch"] ej) by decide+kernel) rfl rfl) (λ_ _ _ _ _ _=>(tK (dz (a7 qZ (mR hr) rfl bN (ab (bC g9 (mR hr) bN (pv 1)) (ab (ae (pv 0)) ah)) rfl)))) (λ_ _ _ _ _ _=>(iw (ae (pv 0)) aw)))⟩)
abbrev o3:Stmt:=top 35
def vz:List Str:=["board","ways"]
def vJ:List Str:=["board","ways"]
def BO:FnScope vz vJ (ai o3):=b6
def Bw(B:Bl K mg base cv cA Cp)(bj:ao P w K mg base cv 4 "need_board" 1 aL)(bT:ao P w K mg base cv 2 "need_ways" 1 aX)(cG:ao P w K mg base cv 5 "all_patches" 2 a9)(T:bF K mg "patches" o3 f):ao P w K mg base cv 6 "patches" 2 (gx):=
 aE (N:=vz) (ps:=vJ) T BO (λ_ _ _ _ _ _ us hl=>match us,hl with | [_,_],_=>rfl) λ_ _ _ _ _ _ hr=>
  (ar (b9 (a7 bj (mR hr) rfl aJ (ab (ae (pv 0)) ah) rfl)) (ar (b9 (a7 bT (mR hr) rfl aJ (ab (ae (pv 1)) ah) rfl)) (ax (aI (a7 cG (mR hr) rfl aJ (ab (ae (pv 0)) (ab (ae (pv 1)) ah)) rfl)))))
abbrev mK:Stmt:=top 36
def rW:List Str:=["board","ways"]
def sG:List Str:=["board","ways"]
def z6:FnScope rW sG (ai mK):=b6
def zD(B:Bl K mg base cv cA Cp)(bj:ao P w K mg base cv 4 "need_board" 1 aL)(bT:ao P w K mg base cv 2 "need_ways" 1 aX)(cG:ao P w K mg base cv 5 "all_patches" 2 a9)(T:bF K mg "how_many" mK f):ao P w K mg base cv 6 "how_many" 2 (cU):=
 aE (N:=rW) (ps:=sG) T z6 (λ_ _ _ _ _ _ us hl=>match us,hl with | [_,_],_=>rfl) λ_ _ _ _ _ _ hr=>
  (ar (b9 (a7 bj (mR hr) rfl aJ (ab (ae (pv 0)) ah) rfl)) (ar (b9 (a7 bT (mR hr) rfl aJ (ab (ae (pv 1)) ah) rfl)) (ax (aI (bD rfl B.len (ab (a7 cG (mR hr) rfl aJ (ab (ae (pv 0)) (ab (ae (pv 1)) ah)) rfl) ah))))))
abbrev ik:Stmt:=top 43
def hZ:List Str:=["board","ways","least","found","lengths","number","other"]
def pS:List Str:=["board","ways","least"]
def fq:FnScope hZ pS (ai ik):=b6
def xo(B:Bl K mg base cv cA Cp)(cG:ao P w K mg base cv 5 "all_patches" 2 a9)(wx:ao P w K mg base cv 4 "melts_into" 3 eX)(dF:ao P w K mg base cv 2 "with_letters" 3 bh)(cR:ao P w K mg base cv 1 "letter_of" 2 aW)(T:bF K mg "after_one" ik f):ao P w K mg base cv 6 "after_one" 3 (dG):=
 aE (N:=hZ) (ps:=pS) T fq (λ_ _ _ _ _ _ us hl=>match us,hl with | [_,_,_],_=>rfl) λ_ _ _ _ _ _ hr=>
  (ar (aZ fq.nd rfl (.inl rfl) (a7 cG (mR hr) rfl aJ (ab (ae (pv 0)) (ab (ae (pv 1)) ah)) rfl)) (ar (kG (tn:=["patch"]) (n:=0) fq.nd rfl (.inl rfl) (cM (N:=hZ) (osc:=(ai ik)) rfl rfl (by decide+kernel)) rfl rfl (c8 (ae (pv 3))) (λ_ _ _ _ _ _ _=>fw (show X3 (((["patch"]:List Str))++eO ["patch"] hZ) by decide+kernel) rfl rfl) (λ_ _ _ _ _ _=>fZ) (λ_ _ _ _ _ _=>(bD rfl B.len (ab (ae (pv 0)) ah)))) (ar (cu (PDW.t (kF (vN hr.units (bD rfl B.len (ab (ae (pv 3)) ah)) aw) (ig (O1 (CN rfl rfl B.min rfl (ab (ae (pv 4)) ah)) (ae (pv 2)))))) (ax (aI BD)) bJ) (ar (aZ fq.nd rfl (.inl rfl) (JA (ae (pv 4)) (ab (CN rfl rfl B.min rfl (ab (ae (pv 4)) ah)) ah))) (ar (aZ fq.nd rfl (.inl rfl) (a7 wx (mR hr) rfl aJ (ab (ae (pv 0)) (ab (ae (pv 3)) (ab (ae (pv 5)) ah))) rfl)) (ax (aI (a7 dF (mR hr) rfl aJ (ab (ae (pv 0)) (ab (iw (ae (pv 3)) (ae (pv 5))) (ab (a7 cR (mR hr) rfl aJ (ab (ae (pv 0)) (ab (iw (iw (ae (pv 3)) (ae (pv 6))) aw) ah)) rfl) ah))) rfl))))))))
abbrev oZ:Stmt:=top 48
def vy:List Str:=["board","cell","ways","letter"]
def vI:List Str:=["board","cell","ways","letter"]
def BN:FnScope vy vI (ai oZ):=b6
def Bv(B:Bl K mg base cv cA Cp)(wy:ao P w K mg base cv 5 "need_paint" 4 gi)(dF:ao P w K mg base cv 2 "with_letters" 3 bh)(jf:ao P w K mg base cv 4 "steps_back" 3 b7)(T:bF K mg "painted" oZ f):ao P w K mg base cv 6 "painted" 4 (gw):=
 aE (N:=vy) (ps:=vI) T BN (λ_ _ _ _ _ _ us hl=>match us,hl with | [_,_,_,_],_=>rfl) λ_ _ _ _ _ _ hr=>
  (ar (b9 (a7 wy (mR hr) rfl aJ (ab (ae (pv 0)) (ab (ae (pv 1)) (ab (ae (pv 2)) (ab (ae (pv 3)) ah)))) rfl)) (ax (aI (a7 dF (mR hr) rfl aJ (ab (ae (pv 0)) (ab (a7 jf (mR hr) rfl aJ (ab (ae (pv 0)) (ab (ae (pv 1)) (ab (ae (pv 2)) ah))) rfl) (ab (ae (pv 3)) ah))) rfl))))
abbrev iz:Stmt:=(aA (top 50)).getD 2 (.Pass ⟨0,0,0,0⟩)
def lM:List Str:=["self"]
def lY:List Str:=["self"]
def tj:FnScope lM lY (ai iz):=b6
def su(B:Bl K mg base cv cA Cp)(O:Bo K CK CG)(gG:ao P w K mg base cv 6 "how_many" 2 cU)(aP:eG P w K mg base cv 1 CK "shown" 0 (av CK CG))(T:MethAt K CK "many" "Keeper.many" iz f):eG P w K mg base cv 7 CK "many" 0 (a6 CK CG):=
 nr (N:=lM) (ps:=lY) T tj rfl (λ_ _ _ _ _ _ us hl=>match us,hl with | [_],_=>rfl) rfl (λ_ _ _ _ _ _ hr=>
  (a7 gG (mR hr) rfl aJ (ab (bC aP (mR hr) aJ (pv 0)) (ab (sO O.cKeeper O.nKeeper_ways (pv 0)) ah)) rfl))
abbrev kQ:Stmt:=top 44
def pD:List Str:=["board","ways","least","told","now"]
def pU:List Str:=["board","ways","least"]
def gr:FnScope pD pU (ai kQ):=b6
def xt(B:Bl K mg base cv cA Cp)(yF:ao P w K mg base cv 6 "after_one" 3 dG)(T:bF K mg "all_steps" kQ f):ao P w K mg base cv 7 "all_steps" 3 (fS):=
 aE (N:=pD) (ps:=pU) T gr (λ_ _ _ _ _ _ us hl=>match us,hl with | [_,_,_],_=>rfl) λ_ _ _ _ _ _ hr=>
  (ar (jw gr.nd rfl (.inl rfl)) (ar (aZ gr.nd rfl (.inl rfl) (ae (pv 0))) (ar (fg (vM WG (JT (ae (pv 4)) BD) (ar (jv (pv 3) (ae (pv 4))) (ax (aZ gr.nd rfl (.inl rfl) (a7 yF (mR hr) rfl bN (ab (ae (pv 4)) (ab (ae (pv 1)) (ab (ae (pv 2)) ah))) rfl)))))) (ax (fe (i:=3) (aI (ae (pv 3))))))))
abbrev gQ:Stmt:=(aA (top 50)).getD 3 (.Pass ⟨0,0,0,0⟩)
def j7:List Str:=["self","board","many_ahead"]
def kq:List Str:=["self","board"]
def jL:FnScope j7 kq (ai gQ):=b6
def qd(B:Bl K mg base cv cA Cp)(O:Bo K CK CG)(dS:eG P w K mg base cv 7 CK "many" 0 (a6 CK CG))(hg:fQ CK 1 3 (gY CK CG) (aM CK CG))(T:MethAt K CK "go_on" "Keeper.go_on" gQ f):gD P w K mg base cv 8 CK "go_on" 1 (aM CK CG):=
 j5 (N:=j7) (ps:=kq) T jL rfl (λ_ _ _ _ _ _ us hl=>match us,hl with | [_,_],_=>rfl) hg (λ_ _ _ _ _ _ hr=>
  (aS (bK (aZ jL.nd rfl (.inl rfl) (bC dS (mR hr) aJ (pv 0)))) (aS (BH O.cKeeper O.nKeeper_boards (pv 0) (ae (pv 1))) (ek (bK (aI (kE (bC dS (mR hr) aJ (pv 0)) (ae (pv 2)))))))))
abbrev tf:Stmt:=top 45
def zp:List Str:=["board","ways","least"]
def zJ:List Str:=["board","ways","least"]
def EA:FnScope zp zJ (ai tf):=b6
def Ee(B:Bl K mg base cv cA Cp)(q9:ao P w K mg base cv 5 "need_melting" 3 eY)(yG:ao P w K mg base cv 7 "all_steps" 3 fS)(T:bF K mg "melted" tf f):ao P w K mg base cv 8 "melted" 3 (iS):=
 aE (N:=zp) (ps:=zJ) T EA (λ_ _ _ _ _ _ us hl=>match us,hl with | [_,_,_],_=>rfl) λ_ _ _ _ _ _ hr=>
  (ar (b9 (a7 q9 (mR hr) rfl aJ (ab (ae (pv 0)) (ab (ae (pv 1)) (ab (ae (pv 2)) ah))) rfl)) (ax (aI (iw (a7 yG (mR hr) rfl aJ (ab (ae (pv 0)) (ab (ae (pv 1)) (ab (ae (pv 2)) ah))) rfl) (sQ aw)))))
abbrev iA:Stmt:=(aA (top 50)).getD 4 (.Pass ⟨0,0,0,0⟩)
def lN:List Str:=["self","cell","letter"]
def lZ:List Str:=["self","cell","letter"]
def tm:FnScope lN lZ (ai iA):=b6
def sv(B:Bl K mg base cv cA Cp)(O:Bo K CK CG)(dE:gD P w K mg base cv 8 CK "go_on" 1 (aM CK CG))(uh:ao P w K mg base cv 5 "with_letter" 3 dg)(aP:eG P w K mg base cv 1 CK "shown" 0 (av CK CG))(hg:fQ CK 2 3 (iJ CK CG) (b_ CK CG))(T:MethAt K CK "mark" "Keeper.mark" iA f):gD P w K mg base cv 9 CK "mark" 2 (b_ CK CG):=
 j5 (N:=lN) (ps:=lZ) T tm rfl (λ_ _ _ _ _ _ us hl=>match us,hl with | [_,_,_],_=>rfl) hg (λ_ _ _ _ _ _ hr=>
  (ek (xQ (lx dE (mR hr) aJ (pv 0) (ab (a7 uh (mR hr) rfl aJ (ab (bC aP (mR hr) aJ (pv 0)) (ab (ae (pv 1)) (ab (ae (pv 2)) ah))) rfl) ah)))))
abbrev gR:Stmt:=(aA (top 50)).getD 5 (.Pass ⟨0,0,0,0⟩)
def j8:List Str:=["self","cell","letter"]
def kr:List Str:=["self","cell","letter"]
def qo:FnScope j8 kr (ai gR):=b6
def qe(B:Bl K mg base cv cA Cp)(O:Bo K CK CG)(dE:gD P w K mg base cv 8 CK "go_on" 1 (aM CK CG))(Dl:ao P w K mg base cv 6 "painted" 4 gw)(aP:eG P w K mg base cv 1 CK "shown" 0 (av CK CG))(hg:fQ CK 2 3 (gZ CK CG) (bU CK CG))(T:MethAt K CK "paint" "Keeper.paint" gR f):gD P w K mg base cv 9 CK "paint" 2 (bU CK CG):=
 j5 (N:=j8) (ps:=kr) T qo rfl (λ_ _ _ _ _ _ us hl=>match us,hl with | [_,_,_],_=>rfl) hg (λ_ _ _ _ _ _ hr=>
  (ek (xQ (lx dE (mR hr) aJ (pv 0) (ab (a7 Dl (mR hr) rfl aJ (ab (bC aP (mR hr) aJ (pv 0)) (ab (ae (pv 1)) (ab (sO O.cKeeper O.nKeeper_ways (pv 0)) (ab (ae (pv 2)) ah)))) rfl) ah)))))
abbrev iB:Stmt:=(aA (top 50)).getD 6 (.Pass ⟨0,0,0,0⟩)
def lO:List Str:=["self","least"]
def l5:List Str:=["self","least"]
def tq:FnScope lO l5 (ai iB):=b6
def sx(B:Bl K mg base cv cA Cp)(O:Bo K CK CG)(dE:gD P w K mg base cv 8 CK "go_on" 1 (aM CK CG))(Fc:ao P w K mg base cv 8 "melted" 3 iS)(aP:eG P w K mg base cv 1 CK "shown" 0 (av CK CG))(hg:fQ CK 1 2 (iL CK CG) (cb CK CG))(T:MethAt K CK "melt" "Keeper.melt" iB f):gD P w K mg base cv 9 CK "melt" 1 (cb CK CG):=
 j5 (N:=lO) (ps:=l5) T tq rfl (λ_ _ _ _ _ _ us hl=>match us,hl with | [_,_],_=>rfl) hg (λ_ _ _ _ _ _ hr=>
  (ek (xQ (lx dE (mR hr) aJ (pv 0) (ab (a7 Fc (mR hr) rfl aJ (ab (bC aP (mR hr) aJ (pv 0)) (ab (sO O.cKeeper O.nKeeper_ways (pv 0)) (ab (ae (pv 1)) ah))) rfl) ah)))))
abbrev di:Stmt:=top 61
def lq:List Str:=["_law_script","_law_board_here","_law_ways","_law_keeper","_law_other","_law_many","_law_shown","_law_k","_law_here","_law_cell_here","_law_letter","_law_kind","_law_more","_law_game","_law_single"]
def oN:List Str:=["_law_script"]
def a_:FnScope lq oN (ai di):=b6
def zB{fd:Ys}(B:Bl K mg base cv cA Cp)(O:Bo K CK CG)(lG:MakeM P w K mg base cv 5 CK "Keeper" 2 (cH CK CG))(yH:ao P w K mg base cv 3 "_law_board" 3 eJ)(gG:ao P w K mg base cv 6 "how_many" 2 cU)(yD:MakeM P w K mg base cv 5 CG "Game" 2 (eN CK CG))(bz:ao P w K mg base cv 2 "_law_drawn" 3 aG)(ug:ao P w K mg base cv 3 "_law_cell_in" 3 dX)(uf:gD P w K mg base cv 1 CK "undo" 0 (cI CK CG))(ud:gD P w K mg base cv 9 CK "mark" 2 (b_ CK CG))(aP:eG P w K mg base cv 1 CK "shown" 0 (av CK CG))(yE:eG P w K mg base cv 2 CG "left" 0 (fV CK CG))(dS:eG P w K mg base cv 7 CK "many" 0 (a6 CK CG))(qY:gD P w K mg base cv 9 CK "paint" 2 (bU CK CG))(ue:gD P w K mg base cv 9 CK "melt" 1 (cb CK CG))(Dm:ao P w K mg base cv 6 "patches" 2 gx)(p9:eG P w K mg base cv 6 CG "can_take" 0 (c6 CK CG))(Fn:Fun K "law" "law" di f fd)(hg:∀ns:List Int,ns.length<=63->(lB CK CG).f (some (.fz (.scr ns))::Wx (15 - 1) none) λx=>∃ρ,x= .rt (.fz (.bl true)) ρ):FnOk P w K mg base (jN P w cv) 10 f fd oN (MG K cv 1 DG):=
 QI (N:=lq) (ps:=oN) (τ:=lB CK CG) Fn a_ rfl (λ_ _ _ _ _ _ hr=>
  (aS (bK (aZ a_.nd rfl (.inl rfl) (a7 yH (mR hr) rfl aJ (ab (ae (pv 0)) (ab aw (ab aw ah))) rfl))) (aS (bK (aZ a_.nd rfl (.inl rfl) (iw (sP (ab aw (ab aw ah))) (a7 bz (mR hr) rfl aJ (ab (ae (pv 0)) (ab aw (ab aw ah))) rfl)))) (aS (nW a_.nd rfl (.inl rfl) (xP lG (mR hr) aJ rfl (ab (ae (pv 1)) (ab (ae (pv 2)) ah)))) (aS (nW a_.nd rfl (.inl rfl) (xP lG (mR hr) aJ rfl (ab (ae (pv 1)) (ab (ae (pv 2)) ah)))) (aS (bK (aZ a_.nd rfl (.inl rfl) (a7 gG (mR hr) rfl aJ (ab (ae (pv 1)) (ab (ae (pv 2)) ah)) rfl))) (aS (bK (zQ a_.nd rfl (.inl rfl) (JD (ab (ae (pv 1)) ah)))) (aS (CV (CU WG rfl (fL rfl B.range (ab (bV aw (a7 bz (mR hr) rfl bN (ab (ae (pv 0)) (ab aw (ab aw ah))) rfl)) ah)) (bI a_.nd rfl (.inl rfl)) vS (aS (bK (aZ a_.nd rfl (.inl rfl) (bV aw (js aw (ae (pv 7)))))) (aS (bK (aZ a_.nd rfl (.inl rfl) (a7 ug (mR hr) rfl bN (ab (ae (pv 0)) (ab (ae (pv 8)) (ab (ae (pv 1)) ah))) rfl))) (aS (bK (aZ a_.nd rfl (.inl rfl) (BB mH (a7 bz (mR hr) rfl bN (ab (ae (pv 0)) (ab (bV (ae (pv 8)) aw) (ab aw ah))) rfl)))) (aS (bK (aZ a_.nd rfl (.inl rfl) (a7 bz (mR hr) rfl bN (ab (ae (pv 0)) (ab (bV (ae (pv 8)) aw) (ab aw ah))) rfl))) (aS (Mz (zT (Hh (ae (pv 11)) aw)) (ek (nW a_.nd rfl (.inl rfl) (lx ud (mR hr) bN (pv 3) (ab (ae (pv 9)) (ab (ae (pv 10)) ah))))) (ek (nW a_.nd rfl (.inl rfl) (My (zT (Hh (ae (pv 11)) aw)) (lx qY (mR hr) bN (pv 3) (ab (ae (pv 9)) (ab (ae (pv 10)) ah))) (lx ue (mR hr) bN (pv 3) (ab (bV aw (a7 bz (mR hr) rfl bN (ab (ae (pv 0)) (ab (bV (ae (pv 8)) aw) (ab aw ah))) rfl)) ah)))))) (aS (bK (aZ a_.nd rfl (.inl rfl) (bV (ae (pv 5)) (ae (pv 12))))) (aS (bK (cu (PDW.t (kF (vO hr.units (bC dS (mR hr) bN (pv 3)) (ae (pv 5))) (ig (vO hr.units (a7 gG (mR hr) rfl bN (ab (bC aP (mR hr) bN (pv 3)) (ab (ae (pv 2)) ah)) rfl) (ae (pv 5)))))) (ax (aI ma)) bJ)) (aS (bK (jv (pv 6) (bC aP (mR hr) bN (pv 3)))) (aS (nW a_.nd rfl (.inl rfl) (xP yD (mR hr) bN rfl (ab (bC aP (mR hr) bN (pv 3)) (ab (ae (pv 2)) ah)))) (aS (bK (kG (tn:=["_law_patch"]) (n:=0) a_.nd rfl (.inl rfl) (cM (N:=lq) (osc:=(ai di)) rfl rfl (by decide+kernel)) rfl rfl (c8 (a7 Dm (mR hr) rfl bN (ab (bC aP (mR hr) bN (pv 3)) (ab (ae (pv 2)) ah)) rfl)) (λ_ _ _ _ _ _ _=>fw (show X3 (((["_law_patch"]:List Str))++eO ["_law_patch"] lq) by decide+kernel) rfl rfl) (λ_ _ _ _ _ _=>(tK (vN hr.units (bD rfl B.len (ab (ae (pv 0)) ah)) aw))) (λ_ _ _ _ _ _=>(ae (pv 0))))) (aS (bK (cu (vO hr.units (bV (bD rfl B.len (ab (bC p9 (mR hr) bN (pv 13)) ah)) (bD rfl B.len (ab (ae (pv 14)) ah))) (ae (pv 5))) (ax (aI ma)) bJ)) (ek (bK (cu (vO hr.units (bC yE (mR hr) bN (pv 13)) (js (bD rfl B.len (ab (ae (pv 1)) ah)) (bD rfl B.len (ab (b8 (ae (pv 1)) aw) ah)))) (ax (aI ma)) bJ)))))))))))))))) (aS (JX (i:=6) (CV (CU WG rfl (BE rfl B.range (ab (kE (bD rfl B.len (ab (ae (pv 6)) ah)) aw) (ab aw (ab (sQ aw) ah)))) (bI a_.nd rfl (.inl rfl)) vS (aS (bK (cu (vO hr.units (bC aP (mR hr) bN (pv 3)) (iw (ae (pv 6)) (ae (pv 7)))) (ax (aI ma)) bJ)) (ek (JW (Hn uf (mR hr) bN (pv 3)))))))) (ek (bK (aI (mG (sN hr.units (bC aP (mR hr) aJ (pv 3)) (ae (pv 1))) (mG (sN hr.units (bC dS (mR hr) aJ (pv 3)) (a7 gG (mR hr) rfl aJ (ab (ae (pv 1)) (ab (ae (pv 2)) ah)) rfl)) (sR (sN hr.units (bC aP (mR hr) aJ (pv 4)) (ae (pv 1)))))))))))))))))) hg
end
end K1
namespace K1
open PySem L2 L3
def Gz{ds:List D}(h:ds.length<=lim):jI ds=aa (.lst ds):=acz h
def dP:lim=4096:=rfl
def eU{i:Nat}{x:α}(h:xs[i]? =some x):L2.atI xs (i:Int)=some x:=by
 obtain⟨hi,e⟩:=We.mp h;unfold L2.atI Gg;rw[acz (Int.natCast_nonneg i),acz (by exact Int.ofNat_lt.mpr hi)];exact h
def ak{δs:DA}(h:δs ρ=aa ds)(hl:ds.length=m):au m g δs ρ=g ds:=by
 unfold au;rw[h];exact acz hl
def aD{ρ:bb}(h1:a ρ=aa x)(h2:r ρ=aa xs):aC a r ρ=aa (x::xs):=by
 unfold aC;rw[h1,aq,h2];rfl
def aK{ρ:bb}{x y:D}(h1:a ρ=aa x)(h2:b ρ=aa y):d2 g a b ρ=g x y:=by
 unfold d2;rw[h1,aq,h2];rfl
def bY{ρ:bb}{xs:List D}(h:a ρ=aa xs):dA g a ρ=g xs:=by
 unfold dA;rw[h];rfl
def iT{i j:Int}(h:0<j):m8 (.int i) (.int j)=aa (.int (i % j)):=by
 show (if decide (0<j)=true then _ else _)=_;rw[acz (acB h)]
def m7{i j:Int}(h:0<j)(h2:j<1073741824):um (.int i) (.int j)=aa (.int (i / j)):=by
 show (if decide (0<j/\j<1073741824)=true then _ else _)=_;rw[acz (acB ⟨h,h2⟩)]
def fU{i j:Int}(h:(-(2 ^ 64)<i/\i<2 ^ 64)\/(-(2 ^ 64)<j/\j<2 ^ 64)):ir (.int i) (.int j)=aa (.int (i*j)):=by
 show (if decide _=true then _ else _)=_;rw[acz (acB h)]
def fT{i j:Int}:cp (.int i) (.int j)=aa (.int (i+j)):=rfl
def FI{i j:Int}:jO (.int i) (.int j)=aa (.int (i - j)):=rfl
def Ff(ns:List Int)(hl:ns.length<=63)(k:Nat):∃v,gJ [.scr ns, .int (k:Int)]=aa (.int v):=by
 cases ns with
 |nil=>
  refine⟨7*(k:Int),?_⟩;rfl
 |cons n r=>
  have hp:0<(n::r).length:=abR _;generalize e:(n::r)=ns at*;have he:u4 6 (.scr ns) (.lst [])=some false:=by subst e;rfl
  obtain⟨y,hy⟩:∃y,ns[k % ns.length]? =some y:=⟨_,V5 (Nat.mod_lt _ hp)⟩
  have Rn:(0:Int)<(ns.length:Int):=by omega
  have h1:m8 (.int (k:Int)) (.int (ns.length:Int))=aa (.int ((k % ns.length:Nat):Int)):=iT Rn;have h2:um (.int (k:Int)) (.int (ns.length:Int))=aa (.int ((k:Int) / (ns.length:Int))):=m7 Rn (by omega);have h3:FF (.scr ns) (.int ((k % ns.length:Nat):Int))=aa (.int y):=by
   show (match L2.atI ns ((k % ns.length:Nat):Int) with | some n=>aa (D.int n) | none=>af)=_;rw[eU hy]
  have h4:ir (.int 6553) (.int ((k:Int) / (ns.length:Int)))=aa (.int (6553*((k:Int) / (ns.length:Int)))):=fU (.inl ⟨by decide,by decide⟩);refine⟨y+6553*((k:Int) / (ns.length:Int)),?_⟩;simp only[gJ,tV,cx,aV,jK,bM,dQ,da,d2,dV,dC,dA,aC,aN,jI,bc,EV,jZ,he,aq,h1,h2,h3,h4,Wg,YH,YD,Xy,V7,Xc,WM,WW,dP,Nat.reduceAdd,W8,if_true,WO,if_false,cp,gI]
def cP(ns:List Int)(hl:ns.length<=63)(k m:Nat)(hm:0<m):∃v:Nat,v<m/\aG [.scr ns, .int (k:Int), .int (m:Int)]=aa (.int (v:Int)):=by
 obtain⟨c,hc⟩:=Ff ns hl k;have b1:=aaZ (c % 2147483563*69069+104723*((k:Int)+1)) (b:=2147483563) (by decide);have b2:=aae (c % 2147483563*69069+104723*((k:Int)+1)) (b:=2147483563) (by decide);generalize hx:(c % 2147483563*69069+104723*((k:Int)+1)) % 2147483563=x at b1 b2;have b3:=aaZ (x*x+x / 3) (b:=2147483399) (by decide);have b4:=aae (x*x+x / 3) (b:=2147483399) (by decide);generalize hy:(x*x+x / 3) % 2147483399=y at b3 b4;have m1:ir (.int (c % 2147483563)) (.int 69069)=_:=fU (.inr ⟨by decide,by decide⟩);have m2:ir (.int 104723) (.int ((k:Int)+1))=_:=fU (.inl ⟨by decide,by decide⟩);have m3:ir (.int x) (.int x)=_:=fU (.inl ⟨by omega,by omega⟩);have m4:ir (.int y) (.int y)=_:=fU (.inl ⟨by omega,by omega⟩);have hM:(0:Int)<(m:Int):=Int.ofNat_lt.mpr hm;have n1:=aaZ ((y*y+y / 7) % 2147483647 / 11) (b:=(m:Int)) (by omega);have n2:=aae ((y*y+y / 7) % 2147483647 / 11) hM;have q1:m8 (.int c) (.int 2147483563)=_:=iT (by decide);have q2:m8 (.int (c % 2147483563*69069+104723*((k:Int)+1))) (.int 2147483563)=_:=iT (by decide);have q3:um (.int x) (.int 3)=_:=m7 (by decide) (by decide);have q4:m8 (.int (x*x+x / 3)) (.int 2147483399)=_:=iT (by decide);have q5:um (.int y) (.int 7)=_:=m7 (by decide) (by decide);have q6:m8 (.int (y*y+y / 7)) (.int 2147483647)=_:=iT (by decide);have q7:um (.int ((y*y+y / 7) % 2147483647)) (.int 11)=_:=m7 (by decide) (by decide);have q8:m8 (.int ((y*y+y / 7) % 2147483647 / 11)) (.int (m:Int))=_:=iT hM;refine⟨((y*y+y / 7) % 2147483647 / 11 % (m:Int)).toNat,by omega,?_⟩;rw[Int.toNat_of_nonneg n1];rw[hx] at q2;rw[hy] at q4;simp only[aG,p8,cx,aV,bS,bM,au,d2,dV,dC,dA,aC,aN,aq,hc,Wg,YH,YD,Xy,V7,Xc,WM,WW,Wx,aac,Zi,Nat.reduceAdd,Nat.reduceSub,if_true,fT,m1,m2,m3,m4,q1,q2,q3,q4,q5,q6,q7,q8]
def GJ{α:Type}(a:α):noex (aa a)=aa a:=rfl
def yX{I:Nat->bb->Prop}:∀(ds:List D) (i:Nat) (ρ:bb),I i ρ->
 (∀j d,ds[j]? =some d->∀ρ,I (i+j) ρ->∃ρ1 ρ2,put d ρ=some ρ1/\body ρ1=aa (.nx ρ2)/\I (i+j+1) ρ2)->∃ρ',forL put body ds ρ=aa (.nx ρ')/\I (i+ds.length) ρ'
 |[],i,ρ,h,_=>⟨ρ,rfl,h⟩
 |d::ds,i,ρ,h,step=>by
  obtain⟨ρ1,ρ2,e1,e2,h2⟩:=step 0 d rfl ρ h;obtain⟨ρ',e3,h3⟩:=yX (I:=I) ds (i+1) ρ2 h2 λj d' hd ρ hI=>by
   have:=step (j+1) d' hd ρ (by rw[show i+(j+1)=i+1+j by omega];exact hI);rw[show i+(j+1)+1=i+1+j+1 by omega] at this;exact this
  refine⟨ρ',?_,?_⟩
  ·show (match put d ρ with | none=>af | some ρ1=>body ρ1>>=λo=>match o with | .nx ρ2=>forL put body ds ρ2 | .rt v=>aa (.rt v))=_;rw[e1];show (body ρ1>>=λo=>match o with | .nx ρ2=>forL put body ds ρ2 | .rt v=>aa (.rt v))=_;rw[e2];exact e3
  ·rw[show i+(d::ds).length=i+1+ds.length by simp;omega];exact h3
def uV{Pr:D->Prop}:∀(ds:List D),(∀d∈ds,∃y,f d=aa (some y)/\Pr y)->∃ys,dU f ds=aa ys/\ys.length=ds.length/\∀y∈ys,Pr y
 |[],_=>⟨[],rfl,rfl,λ_ h=>by cases h⟩
 |d::ds,h=>by
  obtain⟨y,e,hy⟩:=h d (V6 ..);obtain⟨ys,e2,hl,hp⟩:=uV ds λd' hd=>h d' (V3 _ hd);refine⟨y::ys,?_,by simp[hl],λz hz=>?_⟩
  ·rw[fG,e,aq,e2];rfl
  ·cases hz with
   |head=>exact hy
   |tail _ hz=>exact hp z hz
def iR{g:D->D}:∀(ds:List D),(∀d∈ds,f d=aa (some (g d)))->dU f ds=aa (ds.map g)
 |[],_=>rfl
 |d::ds,h=>by
  rw[fG,h d (V6 ..),aq,iR ds λd' hd=>h d' (V3 _ hd)];rfl
def Ib(x:Str):Bool:=!(XC ("abcdef":Str) x 0 ("abcdef":Str).length 1).isEmpty
structure Row (W:Nat) (r:Str):Prop where
 len:r.length=W
 let':∀c∈r.cps.toList,Ib ⟨#[c]⟩=true
structure Good (bd:List Str) (W:Nat):Prop where
 r1:1<=bd.length
 r5:bd.length<=5
 w1:1<=W
 w5:W<=5
 rows:∀r∈bd,Row W r
abbrev lE(c:Nat):Prop:=Ib ⟨#[c]⟩=true/\c≠101/\c≠100
def TJ(r:Str):Prop:=∀c∈r.cps.toList,c≠101
def Px(r:Str):Prop:=∀c∈r.cps.toList,c≠101/\c≠100
def Af:∀(ys:List D),(∀y∈ys,∃c,y= .str ⟨#[c]⟩/\lE c)->∃xs,qx ys=some xs/\xs.length=ys.length/\(xs.map (·.length)).sum=ys.length/\Row ys.length (eW xs)/\Px (eW xs)
 |[],_=>⟨[],rfl,rfl,rfl,⟨rfl,λc h=>by cases h⟩,λc h=>by cases h⟩
 |y::ys,h=>by
  obtain⟨c,e,hc⟩:=h y (V6 ..);obtain⟨xs,e1,e2,e3,e4,e5⟩:=Af ys λz hz=>h z (V3 _ hz);subst e;have FU:∀z,z∈((⟨#[c]⟩:Str)++eW xs).cps.toList->z=c\/z∈(eW xs).cps.toList:=λz hz=>by
   have:((⟨#[c]⟩:Str)++eW xs).cps= #[c]++(eW xs).cps:=rfl;rw[this] at hz;simpa using hz
  refine⟨⟨#[c]⟩::xs,?_,by simp[e2],?_,⟨?_,λz hz=>?_⟩,λz hz=>?_⟩
  ·show (qx ys).map _=_;rw[e1];rfl
  ·rw[Wg,ZA,e3];show 1+ys.length=_;simp;omega
  ·show ((⟨#[c]⟩:Str)++eW xs).length=_;rw[k8,e4.len];show 1+ys.length=_;simp;omega
  ·rcases FU z hz with rfl | q
   ·exact hc.1
   ·exact e4.let' z q
  ·rcases FU z hz with rfl | q
   ·exact hc.2
   ·exact e5 z q
def Hs{n:Nat}{d:D}(h:d∈i8 lo n):∃i:Nat,i<n/\d= .int (lo+(i:Int)):=by
 unfold i8 at h;obtain⟨i,hi,e⟩:=Wn.mp h;exact⟨i,Yx.mp hi,e.symm⟩
def J1{n j:Nat}{d:D}(h:(i8 lo n)[j]? =some d):j<n/\d= .int (lo+(j:Int)):=by
 unfold i8 at h;rw[Wb] at h;by_cases hj:j<n
 ·rw[YF hj] at h;cases h;exact⟨hj,rfl⟩
 ·rw[Y1 (by simpa using hj)] at h;cases h
def kJ(lo:Int)(n:Nat):(i8 lo n).length=n:=by simp[i8]
abbrev iW(w:Nat):D:= .int w
abbrev fz(d:D):Option Sl:=some (.fz d)
def mm{ρ:bb}{d:D}:jH 0 dW δe ρ d=(δe (fz d::ρ)>>=λy=>aa (some y)):=rfl
def AL{ρ:bb}{d:D}:jH 0 δt δe ρ d=(δt (fz d::ρ)>>=λb=>if b then δe (fz d::ρ)>>=λy=>aa (some y) else aa none):=rfl
def ay{ρ ρ':bb}{o:M Out}(h:a ρ=aa (.nx ρ'))(h2:b ρ'=o):aV a b ρ=o:=by
 unfold aV;rw[h];exact h2
def eo{ρ:bb}{d:D}(h:a ρ=aa (.rt d)):aV a b ρ=aa (.rt d):=by
 unfold aV;rw[h];rfl
def aT{ρ:bb}{d:D}(h:δ ρ=aa d):bS i δ ρ=aa (.nx (ρ.set i (fz d))):=by
 unfold bS;rw[h];rfl
def fY{ρ:bb}{o:M Out}(h:c ρ=aa true)(h2:a ρ=o):jK c a b ρ=o:=by
 unfold jK;rw[h];exact h2
def d8{ρ:bb}{o:M Out}(h:c ρ=aa false)(h2:b ρ=o):jK c a b ρ=o:=by
 unfold jK;rw[h];exact h2
def aO{ρ:bb}{d:D}(h:δ ρ=aa d):bM δ ρ=aa (.rt d):=by
 unfold bM;rw[h];rfl
def bL{ρ:bb}{d:D}(h:δ ρ=aa d):gP δ ρ=aa (.nx ρ):=by
 unfold gP;rw[h];rfl
def bf{ds:List D}{d:D}(h:τ (ds.map (λd=>some (Sl.fz d))++Wx (n - ds.length) none)=aa (.rt d)):cx n τ ds=aa d:=by
 unfold cx;rw[h];rfl
def nZ{ds:List D}{ρ:bb}(h:τ (ds.map (λd=>some (Sl.fz d))++Wx (n - ds.length) none)=aa (.nx ρ)):cx n τ ds=aa .non:=by
 unfold cx;rw[h];rfl
def Hv{ρ:bb}(h:δi ρ=aa ds)(h2:forL put b ds ρ=aa o):noex (gc put δi b ρ)=aa o:=by
 unfold gc;rw[h,aq,h2];rfl
def bR{τ:DS}{ρ ρ':bb}(h:τ ρ=aa (.nx ρ')):eF is τ ρ=aa (.nx (fgt is ρ')):=by
 unfold eF;rw[h];rfl
def cN{δe:DE}(h:δi ρ=aa ds)(h2:dU (jH n δt δe ρ) ds=aa ys)(h3:ys.length<=lim):cn n δi δt δe ρ=aa (.lst ys):=by
 unfold cn;rw[h,aq,h2,GJ,aq,Gz h3]
def oX{n:Nat}(h:n<=4096):md [.int (n:Int)]=aa (i8 0 n):=by
 show (if -4096<=(n:Int)/\(n:Int)<=4096 then aa (i8 0 (n:Int).toNat) else af)=_;rw[acz ⟨by omega,by omega⟩];rfl
structure Alpha (al:Str):Prop where
 pos:0<al.length
 ok:∀c∈al.cps.toList,lE c
def Le:Alpha "ab"/\Alpha "abc"/\Alpha "aab"/\Alpha "fa":=by
 refine⟨⟨by decide+kernel,?_⟩,⟨by decide+kernel,?_⟩,⟨by decide+kernel,?_⟩,⟨by decide+kernel,?_⟩⟩<;>decide+kernel
def FG{i:Nat}(h:i<x.length):∃c,c∈x.cps.toList/\x.cps.toList[i]? =some c/\ro (.str x) (.int (i:Int))=aa (.str ⟨#[c]⟩):=by
 have h:i<x.cps.toList.length:=by rw[Wu];exact h
 refine⟨x.cps.toList[i],YC h,V5 h,?_⟩;show (match L2.atI x.cps.toList (i:Int) with | some c=>aa (D.str ⟨#[c]⟩) | none=>af)=_;rw[eU (V5 h)]
abbrev brd(bd:List Str):D:= .tup (bd.map D.str)
abbrev sgn(at' mo:Nat)(ns:List Int)(W:Nat)(al:Str)(bd:List Str)(R:Nat)(x7 x8:Option Sl):bb:=[fz (.scr ns),fz (.int (at':Int)),fz (.int (mo:Int)),fz (.int (R:Int)),fz (.int (W:Int)),fz (.str al),fz (brd bd),x7,x8]
def EB(at' mo:Nat)(ns:List Int)(hl:ns.length<=63)(al:Str)(ha:Alpha al)(j W R:Nat)(hW:W<=5)(bd:List Str)(x8:Option Sl):
 ∃ys,Sq (sgn at' mo ns W al bd R (fz (.int (0+(j:Int)))) x8)=aa (.lst ys)/\ys.length=W/\∀y∈ys,∃c,y= .str ⟨#[c]⟩/\lE c:=by
 obtain⟨ys,e,KJ,hp⟩:=uV (f:=jH 0 dW (d2 ro (dV 6) (au 3 aG (aC (dV 1) (aC (d2 cp (d2 cp (d2 cp (dV 2) (dC (.int 3))) (d2 ir (dC (.int 7)) (dV 8))) (dV 0)) (aC (dA bc (aC (dV 6) aN)) aN)))))
  (sgn at' mo ns W al bd R (fz (.int (0+(j:Int)))) x8)) (Pr:=λy=>∃c,y= .str ⟨#[c]⟩/\lE c) (i8 0 W) λd hd=>by
  obtain⟨i,hi,rfl⟩:=Hs hd;obtain⟨v,hv,e⟩:=cP ns hl (at'+3+7*j+i) al.length ha.pos;obtain⟨c,hc,_,e2⟩:=FG hv;refine⟨.str ⟨#[c]⟩,?_,c,rfl,ha.ok c hc⟩;rw[mm];have k:(at':Int)+3+7*(0+(j:Int))+(0+(i:Int))=((at'+3+7*j+i:Nat):Int):=by omega
  have m1:ir (.int 7) (.int (0+(j:Int)))=aa (.int (7*(0+(j:Int)))):=fU (.inl ⟨by decide,by decide⟩);simp only[au,d2,dV,dC,dA,aC,aN,aq,V7,Xc,WM,WW,Nat.reduceAdd,if_true,fT,m1,k,bc,e,e2]
 refine⟨ys,cN (oX (n:=W) (by omega)) e (by rw[KJ,kJ,dP];omega),by rw[KJ,kJ],hp⟩
def Io(at' mo:Nat)(ns:List Int)(W:Nat)(al:Str)(bd:List Str)(R:Nat)(x7:Option Sl)(ys:List D)(hb:bd.length<=5)(hy:ys.length<=5)(s3:∀y∈ys,∃c,y= .str ⟨#[c]⟩/\lE c):
 ∃r,(Row ys.length r/\Px r)/\Sr (sgn at' mo ns W al bd R x7 (fz (.lst ys)))=aa (.nx (sgn at' mo ns W al (bd++[r]) R x7 (fz (.lst ys)))):=by
 obtain⟨xs,t1,t2,t3,t4⟩:=Af ys s3;refine⟨eW xs,t4,?_⟩;have jn:joinM (.str "") [.lst ys]=aa (.str (eW xs)):=by
  show (match qx ys with | some (xs:List Str)=>if ("":Str).length=0/\(xs.map (λx:Str=>x.length)).sum<=lim then aa (D.str (eW xs)) else af | none=>af)=_;rw[t1];show (if ("":Str).length=0/\(xs.map (λx:Str=>x.length)).sum<=lim then aa (D.str (eW xs)) else af)=_;rw[acz ⟨rfl,by rw[t3,dP];omega⟩]
 have ct:Ct (brd bd) (.tup [.str (eW xs)])=aa (brd (bd++[eW xs])):=by
  show (if (bd.map D.str).length+1<=lim then aa (D.tup (bd.map D.str++[.str (eW xs)])) else af)=_;rw[acz (by rw[V4,dP];omega)];simp[brd]
 refine(aT (d:=brd (bd++[eW xs])) ?_).trans rfl;simp only[d2,dV,dC,dA,aC,aN,dM,DP,aq,WM,WW,if_true,jn,fX,V7,Xc,dP,Nat.reduceAdd,Nat.reduceLeDiff,ct]
def AD(ns:List Int)(hl:ns.length<=63)(at' mo:Nat)(m0:0<mo)(m5:mo<=5):∃bd W,Good bd W/\(∀r∈bd,Px r)/\bd.length<=mo/\W<=mo/\eJ [.scr ns, .int (at':Int), .int (mo:Int)]=aa (brd bd):=by
 obtain⟨r,hr,e1⟩:=cP ns hl at' mo m0;obtain⟨c,hc,e2⟩:=cP ns hl (at'+1) mo m0;obtain⟨a,ha,e3⟩:=cP ns hl (at'+2) 4 (by decide);obtain⟨al,NN,e4⟩:∃al,Alpha al/\eC (.lst [.str "ab", .str "abc", .str "aab", .str "fa"]) (.int (a:Int))=aa (.str al):=by
  obtain⟨a1,a2,a3,a4⟩:=Le
  match a,ha with
  |0,_=>exact⟨_,a1,rfl⟩
  |1,_=>exact⟨_,a2,rfl⟩
  |2,_=>exact⟨_,a3,rfl⟩
  |3,_=>exact⟨_,a4,rfl⟩
 have k1:(1:Int)+(r:Int)=((r+1:Nat):Int):=by omega
 have k2:(1:Int)+(c:Int)=((c+1:Nat):Int):=by omega
 have EW:aG [.scr ns, .int (at':Int), .int (mo:Int)]=aa (.int (r:Int)):=e1;have MT:aG [.scr ns, .int ((at':Int)+1), .int (mo:Int)]=aa (.int (c:Int)):=e2;have PF:aG [.scr ns, .int ((at':Int)+2), .int 4]=aa (.int (a:Int)):=e3;obtain⟨ρ',f1,bd,f2,f3,f4⟩:=yX (put:=putN 7) (body:=eF [7,8] (aV (bS 8 Sq) Sr))
  (I:=λi ρ=>∃bd,ρ=sgn at' mo ns (c+1) al bd (r+1) none none/\bd.length=i/\∀z∈bd,Row (c+1) z/\Px z)
  (i8 0 (r+1)) 0 (sgn at' mo ns (c+1) al [] (r+1) none none) ⟨[],rfl,rfl,λ_ h=>by cases h⟩ λj d hd ρ ⟨bd,hρ,hb,hw⟩=>by
   obtain⟨hj,rfl⟩:=J1 hd;subst hρ;obtain⟨ys,s1,s2,s3⟩:=EB at' mo ns hl al NN j (c+1) (r+1) (by omega) bd none;obtain⟨Aw,t1,t2⟩:=Io at' mo ns (c+1) al bd (r+1) (fz (.int (0+(j:Int)))) ys (by omega) (by omega) s3;refine⟨_,_,rfl,bR (ay (aT s1) t2),bd++[Aw],rfl,by simp[hb],λz hz=>?_⟩;rcases W3.mp hz with h | h
   ·exact hw z h
   ·have h:z=Aw:=by simpa using h
    subst h;rw[s2] at t1;exact t1
 refine⟨bd,c+1,⟨by rw[f3,kJ];omega,by rw[f3,kJ];omega,by omega,by omega,λr q=>(f4 r q).1⟩,λr q=>(f4 r q).2,by rw[f3,kJ];omega,by omega,?_⟩;subst f2;refine bf ?_;refine ay (aT (d:= .int ((r+1:Nat):Int)) ?_) ?_
 ·simp only[au,d2,dV,dC,aC,aN,aq,Wg,YH,YD,Xy,V7,Xc,WM,WW,Nat.reduceAdd,if_true,fT,EW,k1]
 refine ay (aT (d:= .int ((c+1:Nat):Int)) ?_) ?_
 ·simp only[au,d2,dV,dC,aC,aN,aq,Wg,YH,YD,Xy,V7,Xc,Wx,aac,Zi,Nat.reduceSub,WM,WW,Nat.reduceAdd,if_true,fT,MT,k2]
 refine ay (aT (d:= .str al) ?_) ?_
 ·simp only[au,d2,dV,dC,dA,aC,aN,aq,Wg,YH,YD,Xy,V7,Xc,Wx,aac,Zi,Nat.reduceSub,WM,WW,Nat.reduceAdd,if_true,fT,PF,jI,dP,Nat.reduceLeDiff,e4]
 refine ay (aT rfl) ?_;refine ay (Hv (oX (by omega)) f1) ?_;exact aO rfl
def AB(ns:List Int)(hl:ns.length<=63)(at' mo:Nat)(m0:0<mo)(m5:mo<=5):∃bd W,Good bd W/\(∀r∈bd,TJ r)/\bd.length<=mo/\W<=mo/\eJ [.scr ns, .int (at':Int), .int (mo:Int)]=aa (brd bd):=
 let ⟨bd,W,h1,h3,h2⟩:=AD ns hl at' mo m0 m5
 ⟨bd,W,h1,λr hr c hc=>(h3 r hr c hc).1,h2⟩
def AE(ns:List Int)(hl:ns.length<=63)(at' mo:Nat)(m0:0<mo)(m5:mo<=5):∃bd W,Good bd W/\bd.length<=mo/\W<=mo/\eJ [.scr ns, .int (at':Int), .int (mo:Int)]=aa (brd bd):=
 let ⟨bd,W,h1,_,h2⟩:=AB ns hl at' mo m0 m5
 ⟨bd,W,h1,h2⟩
def Plain:D->Prop
 | .non | .bl _ | .int _ | .str _ | .tup _ | .lst _=>True
 |_=>False
def isStr:D->Bool
 | .str _=>true
 |_=>false
def isTup:D->Bool
 | .tup _=>true
 |_=>false
def hX{d:D}(h:Plain d):jP [d, .raw (.ty "str")]=aa (.bl (isStr d)):=by
 cases d<;>first | rfl | exact h.elim
def qI{d:D}(h:Plain d):jP [d, .raw (.ty "tuple")]=aa (.bl (isTup d)):=by
 cases d<;>first | rfl | exact h.elim
def w6:D->Bool
 | .str x=>(x.length==1)&&Ib x
 |_=>false
def wF{i:Nat}{d:D}(h:ρ[i]? =some (fz d)):dV i ρ=aa d:=by
 unfold dV;rw[h]
def eq_int(i j:Int):jZ (.int i) (.int j)=aa (.bl (i==j)):=rfl
def ne_int(i j:Int):pe (.int i) (.int j)=aa (.bl (!(i==j))):=rfl
def len_str(x:Str):bc [.str x]=aa (.int (x.length:Int)):=rfl
def in_str(x:Str):FD false (.str x) (.str "abcdef")=aa (.bl (Ib x)):=rfl
def vA(a b:Nat):((a:Int)==(b:Int))=(a==b):=by
 by_cases h:a=b
 ·subst h;simp
 ·have h2:¬(a:Int)=(b:Int):=by omega
  rw[acG.mpr h,acG.mpr h2]
def Jc(h:Plain d){i:Nat}{ρ:bb}(hρ:ρ[i]? =some (fz d)):
 eI (dA jP (aC (dV i) (aC (dC (.raw (.ty "str"))) aN))) (eI (d2 jZ (dA bc (aC (dV i) aN)) (dC (.int 1))) (d2 (FD false) (dV i) (dC (.str "abcdef")))) ρ=aa (.bl (w6 d)):=by
 have hv:=wF hρ;have e1:=vA;cases d with
 |str x=>
  have k:((x.length:Int)==1)=(x.length==1):=vA x.length 1;simp only[eI,dA,aC,aN,dC,d2,hv,aq,hX h,isStr,EV,if_true,len_str,eq_int,k,in_str,w6];cases x.length==1<;>rfl
 |non=>simp only[eI,dA,aC,aN,dC,d2,hv,aq,hX h,isStr,EV,if_false,WO,w6]
 |bl b=>simp only[eI,dA,aC,aN,dC,d2,hv,aq,hX h,isStr,EV,if_false,WO,w6]
 |int b=>simp only[eI,dA,aC,aN,dC,d2,hv,aq,hX h,isStr,EV,if_false,WO,w6]
 |tup b=>simp only[eI,dA,aC,aN,dC,d2,hv,aq,hX h,isStr,EV,if_false,WO,w6]
 |lst b=>simp only[eI,dA,aC,aN,dC,d2,hv,aq,hX h,isStr,EV,if_false,WO,w6]
 |raw _=>exact h.elim
 |exc _=>exact h.elim
 |scr _=>exact h.elim
 |dct _ _=>exact h.elim
 |dci _ _=>exact h.elim
def lI{d:D}(h:Plain d):cz [d]=aa (.bl (w6 d)):=bf (aO (Jc h rfl))
def lh(x:Str):Bool:=x.cps.toList.all λc=>Ib ⟨#[c]⟩
def qm:D->Bool
 | .str x=>(decide (1<=x.length)&&decide (x.length<=8))&&lh x
 |_=>false
def Dh(l:List Bool):bools (l.map D.bl)=some l:=by
 induction l with
 |nil=>rfl
 |cons b r ih=>show (bools (r.map D.bl)).map _=_;rw[ih];rfl
def all_map(l:List Bool):allM [.lst (l.map D.bl)]=aa (.bl (l.all id)):=by
 show (match bools (l.map D.bl) with | some bs=>aa (D.bl (bs.all id)) | none=>af)=_;rw[Dh]
def Fg{ρ:bb}{n:Nat}(h:δ ρ=aa (.int (n:Int))):
 da (Av (λi j=>decide (i<=j)) (λi j=>decide (i<=j)) (dC (.int 1)) δ (dC (.int 8))) ρ=aa (decide (1<=n)&&decide (n<=8)):=by
 have k1:decide ((1:Int)<=(n:Int))=decide (1<=n):=by by_cases h:1<=n<;>simp[h]<;>omega
 have k2:decide ((n:Int)<=8)=decide (n<=8):=by by_cases h:n<=8<;>simp[h]<;>omega
 simp only[da,Av,dC,h,aq,k1,k2,gI,EV];cases decide (1<=n)<;>rfl
def A7(h:Plain d):gH [d]=aa (.bl (qm d)):=by
 refine bf ?_;have hρ:([d].map (λd=>some (Sl.fz d))++Wx (1 - [d].length) none)=[fz d]:=rfl;rw[hρ];have hv:dV 0 [fz d]=aa d:=rfl;have no:isStr d=false->An [fz d]=aa (.rt (.bl false)):=λhs=>by
  refine eo (fY ?_ (aO rfl));simp only[oj,dj,cO,dA,aC,aN,dC,hv,aq,hX h,hs,Ae,ZV,if_true]
 cases d with
 |str x=>
  have hi:cO (dA jP (aC (dV 0) (aC (dC (.raw (.ty "str"))) aN))) [fz (.str x)]=aa true:=by
   simp only[cO,dA,aC,aN,dC,hv,aq,hX h,isStr,Ae]
  have hl:dA bc (aC (dV 0) aN) [fz (.str x)]=aa (.int (x.length:Int)):=rfl;have hc:=Fg hl;by_cases hr:(decide (1<=x.length)&&decide (x.length<=8))=true
  ·rw[hr] at hc;refine ay (d8 ?_ rfl) (aO ?_)
   ·unfold oj dj;rw[hi,aq,aq,hc];rfl
   ·have hb:x.length<=8:=by simp only[WU,acE] at hr;exact hr.2
    have cm:cn 0 (λρ=>(dV 0) ρ>>=ME) dW (au 1 cz (aC (dV 0) aN)) [fz (.str x)]=aa (.lst ((x.cps.toList.map λc=>Ib ⟨#[c]⟩).map D.bl)):=by
     refine cN rfl ?_ ?_
     ·have:=iR (f:=jH 0 dW (au 1 cz (aC (dV 0) aN)) [fz (.str x)]) (g:=λd=>D.bl (w6 d)) (signs x) λd hd=>by
       rw[mm];obtain⟨c,_,rfl⟩:=Wn.mp hd;show (cz [.str ⟨#[c]⟩]>>=λy=>aa (some y))=_;rw[lI (d:= .str ⟨#[c]⟩) trivial];rfl
      rw[this];unfold signs;rw[WY,WY];congr 1
     ·rw[V4,V4,Wu,dP];exact WZ hb (by decide)
    rw[bY (aD cm rfl),all_map];show aa (D.bl ((x.cps.toList.map λc=>Ib ⟨#[c]⟩).all id))=aa (D.bl ((decide (1<=x.length)&&decide (x.length<=8))&&lh x));rw[hr];unfold lh;rw[YI];rfl
  ·have hr:(decide (1<=x.length)&&decide (x.length<=8))=false:=by simpa using hr
   rw[hr] at hc;have:qm (.str x)=false:=by
    show ((decide (1<=x.length)&&decide (x.length<=8))&&lh x)=false;rw[hr];rfl
   rw[this];refine eo (fY ?_ (aO rfl));unfold oj dj;rw[hi,aq,aq,hc];rfl
 |non=>exact no rfl
 |bl b=>exact no rfl
 |int b=>exact no rfl
 |tup b=>exact no rfl
 |lst b=>exact no rfl
 |raw _=>exact h.elim
 |exc _=>exact h.elim
 |scr _=>exact h.elim
 |dct _ _=>exact h.elim
 |dci _ _=>exact h.elim
def mB:D->Nat
 | .str x=>x.length
 |_=>0
def qX:D->Bool
 | .tup ds=>(decide (1<=ds.length)&&decide (ds.length<=8))&&(ds.all qm&&ds.all λd=>mB d==mB (ds.headD .non))
 |_=>false
def Plain2:D->Prop
 | .tup ds=>∀d∈ds,Plain d
 |d=>Plain d
def Plain2.plain{d:D}(h:Plain2 d):Plain d:=by
 cases d<;>first | exact h | exact trivial
def Jb{ds:List D}:bc [.tup ds]=aa (.int (ds.length:Int)):=rfl
def RH{r:List D}(h:ds=d::r):bO (.tup ds) (.int 0)=aa d:=by
 subst h;show (match L2.atI (d::r) ((0:Nat):Int) with | some d=>aa d | none=>af)=_;rw[eU (x:=d) rfl]
def J3{d:D}(h:qm d=true):∃x,d= .str x:=by
 cases d<;>first | exact⟨_,rfl⟩ | cases h
def DD{d:D}(h:Plain d):oj (dj (cO (dA jP (aC (dV 0) (aC (dC (.raw (.ty "tuple"))) aN))))) (dj (da (Av (λi j=>decide (i<=j)) (λi j=>decide (i<=j)) (dC (.int 1)) (dA bc (aC (dV 0) aN)) (dC (.int 8))))) [fz d]=
 aa (match d with | .tup ds=>!(decide (1<=ds.length)&&decide (ds.length<=8)) | _=>true):=by
 have hv:dV 0 [fz d]=aa d:=rfl;have no:isTup d=false->oj (dj (cO (dA jP (aC (dV 0) (aC (dC (.raw (.ty "tuple"))) aN))))) (dj (da (Av (λi j=>decide (i<=j)) (λi j=>decide (i<=j)) (dC (.int 1)) (dA bc (aC (dV 0) aN)) (dC (.int 8))))) [fz d]=aa true:=λhs=>by
  simp only[oj,dj,cO,dA,aC,aN,dC,hv,aq,qI h,hs,Ae,ZV,if_true]
 cases d with
 |tup ds=>
  have hi:cO (dA jP (aC (dV 0) (aC (dC (.raw (.ty "tuple"))) aN))) [fz (.tup ds)]=aa true:=by
   simp only[cO,dA,aC,aN,dC,hv,aq,qI h,isTup,Ae]
  have hl:dA bc (aC (dV 0) aN) [fz (.tup ds)]=aa (.int (ds.length:Int)):=rfl;unfold oj dj;rw[hi,aq,aq,Fg hl];rfl
 |non=>exact no rfl
 |bl b=>exact no rfl
 |int b=>exact no rfl
 |str b=>exact no rfl
 |lst b=>exact no rfl
 |raw _=>exact h.elim
 |exc _=>exact h.elim
 |scr _=>exact h.elim
 |dct _ _=>exact h.elim
 |dci _ _=>exact h.elim
def all_rows(h:∀d∈ds,Plain d)(hl:ds.length<=8):dA allM (aC (cn 0 (yN (dV 0)) dW (au 1 gH (aC (dV 0) aN))) aN) [fz (.tup ds)]=aa (.bl (ds.all qm)):=by
 have cm:cn 0 (yN (dV 0)) dW (au 1 gH (aC (dV 0) aN)) [fz (.tup ds)]=aa (.lst ((ds.map qm).map D.bl)):=by
  refine cN (ds:=ds) rfl ?_ (by rw[V4,V4,dP];omega);rw[WY];refine iR (g:=D.bl∘qm) ds λd hd=>?_;rw[mm];show (gH [d]>>=λy=>aa (some y))=_;rw[A7 (h d hd)];rfl
 rw[bY (aD cm rfl),all_map,YI];rfl
def all_lens(hs:∀d∈ds,∃x,d= .str x)(h0:1<=ds.length)(hl:ds.length<=8):
 dA allM (aC (cn 0 (yN (dV 0)) dW (d2 jZ (dA bc (aC (dV 0) aN)) (dA bc (aC (d2 bO (dV 1) (dC (.int 0))) aN)))) aN) [fz (.tup ds)]=aa (.bl (ds.all λd=>mB d==mB (ds.headD .non))):=by
 obtain⟨d0,r,e0⟩:∃d0 r,ds=d0::r:=by
  cases ds with
  |nil=>simp at h0
  |cons a r=>exact⟨a,r,rfl⟩
 have hh:ds.headD .non=d0:=by rw[e0];rfl
 obtain⟨x0,Ti⟩:=hs d0 (by rw[e0];exact V6 ..);have cm:cn 0 (yN (dV 0)) dW (d2 jZ (dA bc (aC (dV 0) aN)) (dA bc (aC (d2 bO (dV 1) (dC (.int 0))) aN))) [fz (.tup ds)]=aa (.lst ((ds.map λd=>mB d==mB (ds.headD .non)).map D.bl)):=by
  refine cN (ds:=ds) rfl ?_ (by rw[V4,V4,dP];omega);rw[WY];refine iR (g:=D.bl∘λd=>mB d==mB (ds.headD .non)) ds λd hd=>?_;rw[mm];obtain⟨x,rfl⟩:=hs d hd;have k:((x.length:Int)==(x0.length:Int))=(x.length==x0.length):=vA _ _;have i0:bO (.tup ds) (.int 0)=aa (.str x0):=by rw[RH e0,Ti]
  have Ux:ds.headD .non= .str x0:=by rw[hh,Ti]
  simp only[d2,dA,aC,aN,dC,dV,aq,WM,WW,len_str,i0,eq_int,k,aaJ,mB,Ux]
 rw[bY (aD cm rfl),all_map,YI];rfl
def wW{d:D}(h:Plain2 d):ji [d]=aa (.bl (qX d)):=by
 refine bf ?_;have hρ:([d].map (λd=>some (Sl.fz d))++Wx (1 - [d].length) none)=[fz d]:=rfl;rw[hρ];have hf:=DD h.plain;have no:(∀ds,d≠ .tup ds)->tU [fz d]=aa (.rt (.bl (qX d))):=λhn=>by
  cases d<;>first | exact acC rfl (hn _) | exact eo (fY hf (aO rfl))
 cases d with
 |tup ds=>
  have hf:_=aa (!(decide (1<=ds.length)&&decide (ds.length<=8))):=hf;by_cases hr:(decide (1<=ds.length)&&decide (ds.length<=8))=true
  ·rw[hr] at hf;have hb:=hr;simp only[WU,acE] at hb;have e:qX (.tup ds)=(ds.all qm&&ds.all λd=>mB d==mB (ds.headD .non)):=by
    show ((decide (1<=ds.length)&&decide (ds.length<=8))&&_)=_;rw[hr,abl]
   rw[e];have a1:=all_rows h hb.2;refine ay (d8 hf rfl) ?_;cases hc:ds.all qm with
   |false=>
    rw[hc] at a1;refine eo (fY ?_ (aO rfl));unfold dj cO;rw[a1];rfl
   |true=>
    rw[hc] at a1;refine ay (d8 ?_ rfl) (aO ?_)
    ·unfold dj cO;rw[a1];rfl
    ·rw[abl];exact all_lens (λd hd=>J3 (WT.mp hc d hd)) hb.1 hb.2
  ·have hr:(decide (1<=ds.length)&&decide (ds.length<=8))=false:=by simpa using hr
   rw[hr] at hf;have e:qX (.tup ds)=false:=by
    show ((decide (1<=ds.length)&&decide (ds.length<=8))&&_)=_;rw[hr];rfl
   rw[e];exact eo (fY hf (aO rfl))
 |non=>exact no λ_ z=>by cases z
 |bl b=>exact no λ_ z=>by cases z
 |int b=>exact no λ_ z=>by cases z
 |str b=>exact no λ_ z=>by cases z
 |lst b=>exact no λ_ z=>by cases z
 |raw _=>exact h.elim
 |exc _=>exact h.elim
 |scr _=>exact h.elim
 |dct _ _=>exact h.elim
 |dci _ _=>exact h.elim
structure Brd (ob:List Str) (V:Nat):Prop where
 r1:1<=ob.length
 r8:ob.length<=8
 w1:1<=V
 w8:V<=8
 rows:∀r∈ob,Row V r
def Good.brd(hg:Good bd W):Brd bd W:=⟨hg.r1,by have:=hg.r5;omega,hg.w1,by have:=hg.w5;omega,hg.rows⟩
def Brd.board{V:Nat}(h:Brd ob V):qX (brd ob)=true:=by
 have IL:∀r∈ob,qm (.str r)=true:=λr hr=>by
  have q:=h.rows r hr;show ((decide (1<=r.length)&&decide (r.length<=8))&&lh r)=true;rw[q.len];have a:decide (1<=V)=true:=acB h.w1;have b:decide (V<=8)=true:=acB h.w8;rw[a,b];show lh r=true;exact WT.mpr λc hc=>q.let' c hc
 have h0:mB ((ob.map D.str).headD .non)=V:=by
  have:=h.r1;have hr:=h.rows;cases ob with
  |nil=>simp at this
  |cons x l=>exact(hr x (V6 ..)).len
 show ((decide (1<=(ob.map D.str).length)&&decide ((ob.map D.str).length<=8))&&((ob.map D.str).all qm&&(ob.map D.str).all λd=>mB d==mB ((ob.map D.str).headD .non)))=true;rw[h0,V4,acB h.r1,acB h.r8];have a:(ob.map D.str).all qm=true:=WT.mpr λd hd=>by
  obtain⟨r,hr,rfl⟩:=Wn.mp hd;exact IL r hr
 have b:((ob.map D.str).all λd=>mB d==V)=true:=WT.mpr λd hd=>by
  obtain⟨r,hr,rfl⟩:=Wn.mp hd;show (r.length==V)=true;rw[(h.rows r hr).len];simp
 rw[a,b];rfl
def Dj:Plain2 (brd bd):=λd hd=>by
 obtain⟨r,_,rfl⟩:=Wn.mp hd;trivial
def om(h:δ ρ=aa (.bl b)):cO δ ρ=aa b:=by
 unfold cO;rw[h];rfl
def ja(h:δ ρ=aa (.bl b)):da δ ρ=aa b:=by
 unfold da;rw[h];rfl
def ri(h:τ ρ=aa b):dj τ ρ=aa (!b):=by
 unfold dj;rw[h];rfl
def Fj(h1:a ρ=aa p)(h2:c ρ=aa q):oj a c ρ=aa (p||q):=by
 unfold oj;rw[h1,aq];cases p
 ·exact h2
 ·rfl
def wD(h1:a ρ=aa (.bl p))(h2:c ρ=aa (.bl q)):eI a c ρ=aa (.bl (p&&q)):=by
 unfold eI;rw[h1,aq];cases p
 ·rfl
 ·exact h2
def Nu(h:c ρ=aa p):Kt c a b ρ=if p then a ρ else b ρ:=by
 unfold Kt;rw[h];rfl
def Brd.nb{V:Nat}(h:Brd ob V):aL [brd ob]=aa .non:=by
 refine nZ (d8 (ri (om (b:=true) ?_)) rfl);refine(ak (ds:=[brd ob]) rfl rfl).trans ?_;rw[wW Dj,h.board]
structure Ln (V:Nat) (r:Str):Prop where
 len:r.length=V
structure Wd (ob:List Str) (V:Nat):Prop where
 r1:1<=ob.length
 r8:ob.length<=8
 w1:1<=V
 w8:V<=8
 rows:∀r∈ob,Ln V r
def Brd.wd{V:Nat}(h:Brd ob V):Wd ob V:=⟨h.r1,h.r8,h.w1,h.w8,λr hr=>⟨(h.rows r hr).len⟩⟩
def Wd.len0{V:Nat}(h:Wd ob V)(hρ:ρ[i]? =some (fz (brd ob))):dA bc (aC (d2 bO (dV i) (dC (.int 0))) aN) ρ=aa (.int (V:Int)):=by
 have h1:=h.r1;have hr:=h.rows;obtain⟨x,l,e⟩:∃x l,ob=x::l:=by
  cases ob with
  |nil=>simp at h1
  |cons x l=>exact⟨x,l,rfl⟩
 have hx:x.length=V:=(hr x (by rw[e];exact V6 ..)).len;have i0:bO (brd ob) (.int 0)=aa (.str x):=RH (show ob.map D.str=D.str x::l.map D.str by rw[e];rfl);have k:=aK (g:=bO) (wF hρ) (show dC (.int 0) ρ=aa (.int 0) from rfl);rw[i0] at k;rw[bY (aD k rfl)];show aa (D.int (x.length:Int))=_;rw[hx]
def Brd.len0{V:Nat}(h:Brd ob V)(hρ:ρ[i]? =some (fz (brd ob))):dA bc (aC (d2 bO (dV i) (dC (.int 0))) aN) ρ=aa (.int (V:Int)):=h.wd.len0 hρ
def Gk(hρ:ρ[i]? =some (fz (brd bd))):dA bc (aC (dV i) aN) ρ=aa (.int (bd.length:Int)):=by
 have:bc [brd bd]=aa (.int (bd.length:Int)):=by
  show aa (D.int ((bd.map D.str).length:Int))=_;rw[V4]
 simp only[dA,aC,aN,wF hρ,aq,this]
def jG:D->Bool
 | .int _=>true
 |_=>false
def o7(h:Plain d):bu [d]=aa (.bl (jG d)):=by
 cases d<;>first | rfl | exact h.elim
def Nk(R W:Nat):D->D->Bool
 | .int a, .int b=>(decide (0<=a)&&decide (a<(R:Int)))&&(decide (0<=b)&&decide (b<(W:Int)))
 |_,_=>false
def Ks(R W:Nat):D->Bool
 | .tup [u,v]=>Nk R W u v
 |_=>false
def Nn(h:δ ρ=aa (.int i))(h2:ε ρ=aa (.int n)):
 Av (λi j=>decide (i<=j)) (λi j=>decide (i<j)) (dC (.int 0)) δ ε ρ=aa (.bl (decide (0<=i)&&decide (i<n))):=by
 simp only[Av,dC,h,h2,aq,gI];cases decide (0<=i)<;>rfl
def zf(hg:Brd bd W)(h:Plain2 d):lb [brd bd,d]=aa (.bl (Ks bd.length W d)):=by
 refine bf ?_;have hρ:([brd bd,d].map (λd=>some (Sl.fz d))++Wx (2 - [brd bd,d].length) none)=[fz (brd bd),fz d]:=rfl;rw[hρ];have hv:dV 1 [fz (brd bd),fz d]=aa d:=rfl;have no:isTup d=false->we [fz (brd bd),fz d]=aa (.rt (.bl false)):=λhs=>by
  refine eo (fY ?_ (aO rfl));simp only[oj,dj,cO,dA,aC,aN,dC,hv,aq,qI h.plain,hs,Ae,ZV,if_true]
 cases d with
 |tup ds=>
  have hi:dj (cO (dA jP (aC (dV 1) (aC (dC (.raw (.ty "tuple"))) aN)))) [fz (brd bd),fz (.tup ds)]=aa false:=by
   simp only[dj,cO,dA,aC,aN,dC,hv,aq,qI h.plain,isTup,Ae,Bool.not_true]
  have k:((ds.length:Int)==2)=(ds.length==2):=vA ds.length 2;have hl:oj (dj (cO (dA jP (aC (dV 1) (aC (dC (.raw (.ty "tuple"))) aN))))) (da (d2 pe (dA bc (aC (dV 1) aN)) (dC (.int 2)))) [fz (brd bd),fz (.tup ds)]=aa (!(ds.length==2)):=by
   unfold oj;rw[hi];simp only[da,d2,dA,aC,aN,dC,hv,aq,Jb,ne_int,k,EV,WO,if_false]
  match ds,h,hl with
  |[],h,hl=>exact eo (fY hl (aO rfl))
  |[_],h,hl=>exact eo (fY hl (aO rfl))
  |_::_::_::_,h,hl=>
   refine eo (fY (hl.trans ?_) (aO rfl));simp
  |[u,v],h,hl=>
   refine ay (d8 hl rfl) ?_;have pu:Plain u:=h u (by simp);have pv:Plain v:=h v (by simp);have w1:au 1 bu (aC (d2 bO (dV 1) (dC (.int 0))) aN) [fz (brd bd),fz (.tup [u,v])]=aa (.bl (jG u)):=o7 pu;have w2:au 1 bu (aC (d2 bO (dV 1) (dC (.int 1))) aN) [fz (brd bd),fz (.tup [u,v])]=aa (.bl (jG v)):=o7 pv;have hw:oj (dj (cO (au 1 bu (aC (d2 bO (dV 1) (dC (.int 0))) aN)))) (dj (cO (au 1 bu (aC (d2 bO (dV 1) (dC (.int 1))) aN)))) [fz (brd bd),fz (.tup [u,v])]=aa (!(jG u&&jG v)):=by
    unfold oj dj cO;rw[w1,w2];simp only[aq,Ae];cases jG u<;>cases jG v<;>rfl
   have bad:(jG u&&jG v)=false->aV (jK (oj (dj (cO (au 1 bu (aC (d2 bO (dV 1) (dC (.int 0))) aN)))) (dj (cO (au 1 bu (aC (d2 bO (dV 1) (dC (.int 1))) aN))))) (bM (dC (.bl false))) dQ) (bM (eI (Av (λi j=>decide (i<=j)) (λi j=>decide (i<j)) (dC (.int 0)) (d2 bO (dV 1) (dC (.int 0))) (dA bc (aC (dV 0) aN))) (Av (λi j=>decide (i<=j)) (λi j=>decide (i<j)) (dC (.int 0)) (d2 bO (dV 1) (dC (.int 1))) (dA bc (aC (d2 bO (dV 0) (dC (.int 0))) aN))))) [fz (brd bd),fz (.tup [u,v])]=aa (.rt (.bl false)):=λhz=>by
    rw[hz] at hw;exact eo (fY hw (aO rfl))
   match u,v,hw,bad with
   | .int a, .int b,hw,bad=>
     refine ay (d8 hw rfl) (aO ?_);obtain⟨x0,r,e0⟩:∃x0 r,bd=x0::r:=by
      have:=hg.r1;cases bd with
      |nil=>simp at this
      |cons x r=>exact⟨x,r,rfl⟩
     have hx:x0.length=W:=(hg.rows x0 (by rw[e0];simp)).len;have l0:dA bc (aC (dV 0) aN) [fz (brd bd),fz (.tup [.int a, .int b])]=aa (.int (bd.length:Int)):=by
      show aa (D.int ((bd.map D.str).length:Int))=_;rw[V4]
     have l1:dA bc (aC (d2 bO (dV 0) (dC (.int 0))) aN) [fz (brd bd),fz (.tup [.int a, .int b])]=aa (.int (W:Int)):=by
      have i0:bO (brd bd) (.int 0)=aa (.str x0):=RH (by rw[e0];rfl);simp only[dA,aC,aN,d2,dC,dV,WM,aq,i0,len_str,hx]
     have c1:=Nn (δ:=d2 bO (dV 1) (dC (.int 0))) rfl l0;have c2:=Nn (δ:=d2 bO (dV 1) (dC (.int 1))) rfl l1;unfold eI;rw[c1,aq];show (if (decide (0<=a)&&decide (a<(bd.length:Int)))=true then _ else _)=aa (D.bl ((decide (0<=a)&&decide (a<(bd.length:Int)))&&(decide (0<=b)&&decide (b<(W:Int)))));cases (decide (0<=a)&&decide (a<(bd.length:Int)))
     ·rfl
     ·rw[acz rfl,c2,abl]
   | .non,_,_,bad=>exact bad rfl
   | .bl _,_,_,bad=>exact bad rfl
   | .str _,_,_,bad=>exact bad rfl
   | .tup _,_,_,bad=>exact bad rfl
   | .lst _,_,_,bad=>exact bad rfl
   | .raw _,_,_,_=>exact pu.elim
   | .exc _,_,_,_=>exact pu.elim
   | .scr _,_,_,_=>exact pu.elim
   | .int a, .non,_,bad=>exact bad rfl
   | .int a, .bl _,_,bad=>exact bad rfl
   | .int a, .str _,_,bad=>exact bad rfl
   | .int a, .tup _,_,bad=>exact bad rfl
   | .int a, .lst _,_,bad=>exact bad rfl
   | .int a, .raw _,_,_=>exact pv.elim
   | .int a, .exc _,_,_=>exact pv.elim
   | .int a, .scr _,_,_=>exact pv.elim
 |non=>exact no rfl
 |bl b=>exact no rfl
 |int b=>exact no rfl
 |str b=>exact no rfl
 |lst b=>exact no rfl
 |raw _=>exact h.elim
 |exc _=>exact h.elim
 |scr _=>exact h.elim
 |dct _ _=>exact h.elim
 |dci _ _=>exact h.elim
abbrev Cell:=Nat×Nat
def cD(c:Cell):D:= .tup [.int (c.1:Int), .int (c.2:Int)]
def On(R W:Nat)(c:Cell):Prop:=c.1<R/\c.2<W
instance {R W:Nat}{c:Cell}:Decidable (On R W c):=by unfold On;infer_instance
def E_:Plain2 (cD c):=λd hd=>by
 have:d= .int (c.1:Int)\/d= .int (c.2:Int):=by simpa[cD] using hd
 rcases this with rfl | rfl<;>trivial
def Ip(h:On R W c):Ks R W (cD c)=true:=by
 show ((decide ((0:Int)<=(c.1:Int))&&decide ((c.1:Int)<(R:Int)))&&(decide ((0:Int)<=(c.2:Int))&&decide ((c.2:Int)<(W:Int))))=true;obtain⟨h1,h2⟩:=h;simp;omega
def Brd.nc(hg:Brd bd W)(h:On bd.length W c):eK [brd bd,cD c]=aa .non:=by
 refine nZ (d8 (ri (om (b:=true) ?_)) rfl);refine(ak (ds:=[brd bd,cD c]) rfl rfl).trans ?_;rw[zf hg E_,Ip h]
def Ways(w:Nat):Prop:=w=4\/w=8
def Ways.nw(h:Ways w):aX [iW w]=aa .non:=by
 rcases h with rfl | rfl<;>rfl
def ch(x:Str)(j:Nat):Nat:=x.cps.toList.getD j 0
def at2(bd:List Str)(i j:Nat):Nat:=ch (bd.getD i ⟨#[]⟩) j
abbrev lt(bd:List Str)(c:Cell):Nat:=at2 bd c.1 c.2
def sg(n:Nat):D:= .str ⟨#[n]⟩
def J7{c:Nat}(h:c<x.length):ro (.str x) (.int (c:Int))=aa (sg (ch x c)):=by
 have h':c<x.cps.toList.length:=by rw[Wu];exact h
 show (match L2.atI x.cps.toList (c:Int) with | some c=>aa (D.str ⟨#[c]⟩) | none=>af)=_;rw[eU (V5 h')];unfold sg ch;rw[Wq,V5 h'];rfl
def getD_mem{bd:List Str}(h:i<bd.length):bd.getD i ⟨#[]⟩∈bd:=by
 rw[Wq,V5 h];exact YC h
def LS{i:Nat}(h:i<bd.length):bO (brd bd) (.int (i:Int))=aa (.str (bd.getD i ⟨#[]⟩)):=by
 show (match L2.atI (bd.map D.str) (i:Int) with | some d=>aa d | none=>af)=_;rw[eU ?_];rw[Wb,V5 h,Wq,V5 h];rfl
def d3(hg:Brd bd W)(h:On bd.length W c):aW [brd bd,cD c]=aa (sg (lt bd c)):=by
 refine bf (aO ?_);refine(aK ((aK rfl rfl).trans (LS h.1)) rfl).trans ?_;exact J7 (by rw[(hg.rows _ (getD_mem h.1)).len];exact h.2)
def NA(a b:Nat):jZ (sg a) (sg b)=aa (.bl (decide (a=b))):=by
 show aa (D.bl (decide ((⟨#[a]⟩:Str)=⟨#[b]⟩)))=_;congr 2;by_cases h:a=b
 ·subst h;simp
 ·have:¬((⟨#[a]⟩:Str)=⟨#[b]⟩):=λz=>by
   injection z with z
   exact h (by simpa using z)
  rw[acD h,acD this]
def jh(a b:Nat):Nat:=max a b - min a b
def g6(w:Nat)(a b:Cell):Bool:=if w=4 then decide (jh a.1 b.1+jh a.2 b.2=1) else decide (max (jh a.1 b.1) (jh a.2 b.2)=1)
def B8(a b:Nat):E7 [.int ((a:Int) - (b:Int))]=aa (.int (jh a b:Int)):=by
 show aa (D.int _)=_;congr 2;unfold jh;omega
def wj(hw:Ways w)(a b:Cell):eB [cD a,cD b,iW w]=aa (.bl (g6 w a b)):=by
 refine bf ?_;refine ay ((aT (B8 a.1 b.1)).trans rfl) ?_;refine ay ((aT (B8 a.2 b.2)).trans rfl) ?_;rcases hw with rfl | rfl
 ·refine eo (fY (ja rfl) (aO ?_));show aa (D.bl (((jh a.1 b.1:Int)+(jh a.2 b.2:Int))==1))=_;unfold g6;rw[acz rfl];congr 2;have:((jh a.1 b.1:Int)+(jh a.2 b.2:Int))=((jh a.1 b.1+jh a.2 b.2:Nat):Int):=by omega
  rw[this];have e:=vA (jh a.1 b.1+jh a.2 b.2) 1;exact e.trans rfl
 ·refine ay (d8 (ja rfl) rfl) (aO ?_);show aa (D.bl ((if (jh a.1 b.1:Int)<(jh a.2 b.2:Int) then(jh a.2 b.2:Int) else(jh a.1 b.1:Int))==1))=_;have hn:g6 8 a b=decide (max (jh a.1 b.1) (jh a.2 b.2)=1):=rfl;rw[hn];congr 2;have:(if (jh a.1 b.1:Int)<(jh a.2 b.2:Int) then(jh a.2 b.2:Int) else(jh a.1 b.1:Int))=((max (jh a.1 b.1) (jh a.2 b.2):Nat):Int):=by split<;>omega
  rw[this];have e:=vA (max (jh a.1 b.1) (jh a.2 b.2)) 1;exact e.trans rfl
def ki(w:Nat)(a b:Cell):g6 w a b=g6 w b a:=by
 have e:∀x y:Nat,jh x y=jh y x:=λx y=>by unfold jh;rw[Nat.max_comm,Nat.min_comm]
 unfold g6;rw[e a.1,e a.2]
def OK(h:g6 4 a b=true):g6 8 a b=true:=by
 unfold g6 at h⊢;rw[acz rfl] at h;rw[acA (by decide)];have h:=acF h;exact acB (by omega)
def dh(h1:put d ρ=some ρ1)(h2:body ρ1=aa (.nx ρ2)):forL put body (d::ds) ρ=forL put body ds ρ2:=by
 show (match put d ρ with | none=>af | some ρ1=>body ρ1>>=λo=>match o with | .nx ρ2=>forL put body ds ρ2 | .rt v=>aa (.rt v))=_;rw[h1];show (body ρ1>>=λo=>match o with | .nx ρ2=>forL put body ds ρ2 | .rt v=>aa (.rt v))=_;rw[h2];rfl
section
variable{α σ:Type}{put:D->bb->Option bb}{body:DS}
def ou(enc:α->D)(mk:σ->bb)(step:σ->α->σ)(I:σ->Prop):∀(xs:List α) (s:σ),I s->(∀s,I s->∀x∈xs,I (step s x)/\∃ρ1,put (enc x) (mk s)=some ρ1/\body ρ1=aa (.nx (mk (step s x))))->
 I (xs.foldl step s)/\forL put body (xs.map enc) (mk s)=aa (.nx (mk (xs.foldl step s)))
 |[],s,h,_=>⟨h,rfl⟩
 |x::xs,s,h,st=>by
  obtain⟨h2,ρ1,e1,e2⟩:=st s h x (V6 ..);obtain⟨h3,e3⟩:=ou enc mk step I xs (step s x) h2 λs hs y hy=>st s hs y (V3 _ hy);exact⟨h3,(dh e1 e2).trans e3⟩
def jX(enc:α->D)(mk:List D->bb)(g:α->List D):∀(xs:List α) (acc:List D),(acc++xs.flatMap g).length<=B->(∀x∈xs,∀acc,(acc++g x).length<=B->∃ρ1,put (enc x) (mk acc)=some ρ1/\body ρ1=aa (.nx (mk (acc++g x))))->
 forL put body (xs.map enc) (mk acc)=aa (.nx (mk (acc++xs.flatMap g)))
 |[],acc,_,_=>by simp;rfl
 |x::xs,acc,hB,st=>by
  have SO:((acc++g x)++xs.flatMap g).length<=B:=by simpa[Yr,Zu] using hB
  obtain⟨ρ1,e1,e2⟩:=st x (V6 ..) acc (WZ (by simp only[Wh];omega) SO);have e3:=jX enc mk g xs (acc++g x) SO λy hy=>st y (V3 _ hy);rw[Wg,dh e1 e2,e3,Yr,Zu]
end
def ij(h:δi ρ=aa ds)(h2:forL put b ds ρ=m):gc put δi b ρ=m:=by
 unfold gc;rw[h];exact h2
def fb{τ:DS}(h:τ ρ=aa o):(λρ=>noex (τ ρ)) ρ=aa o:=by
 show noex (τ ρ)=_;rw[h];rfl
def zZ(lo n:Nat):i8 (lo:Int) n=(WL lo n).map λ(k:Nat)=>D.int (k:Int):=by
 unfold i8;rw[ZR];have:∀(n a:Nat),(WL a n).map (λ(i:Nat)=>D.int ((lo:Int)+(i:Int)))=(WL (lo+a) n).map λ(k:Nat)=>D.int (k:Int):=by
  intro n;induction n with
  |zero=>intro a;rfl
  |succ n ih=>
   intro a;rw[YB,YB,Wg,Wg,ih (a+1)];rfl
 exact this n 0
def J0(h:δ ρ=aa (.int (n:Int)))(hn:n<=4096):(aC δ aN ρ>>=md)=aa ((Wy n).map λ(k:Nat)=>D.int (k:Int)):=by
 rw[aD h rfl,aq,oX hn,show i8 0 n=i8 ((0:Nat):Int) n from rfl,zZ,ZR]
def Pc(h:δ ρ=aa (.int (i:Int)))(h2:ε ρ=aa (.int (j:Int)))(hi:i<=4096)(hj:j<=4096):(aC δ (aC ε aN) ρ>>=vZ)=aa ((WL i (j - i)).map λ(k:Nat)=>D.int (k:Int)):=by
 rw[aD h (aD h2 rfl),aq];show (if (-4096<=(i:Int)/\(i:Int)<=4096)/\(-4096<=(j:Int)/\(j:Int)<=4096) then aa (i8 (i:Int) ((j:Int) - (i:Int)).toNat) else af)=_;rw[acz ⟨⟨by omega,by omega⟩,by omega,by omega⟩,show ((j:Int) - (i:Int)).toNat=j - i by omega,zZ]
def dN(W r:Nat):List Cell:=(Wy W).map λk=>(r,k)
def bo(R W:Nat):List Cell:=(Wy R).flatMap (dN W)
def a8:c∈bo R W↔On R W c:=by
 unfold bo dN On;simp only[List.mem_flatMap,Yx,Wn];constructor
 ·rintro⟨r,hr,k,hk,rfl⟩;exact⟨hr,hk⟩
 ·rintro⟨h1,h2⟩;exact⟨c.1,h1,c.2,h2,rfl⟩
def cW(R W:Nat):(bo R W).length=R*W:=by
 unfold bo;have:∀l:List Nat,(l.flatMap (dN W)).length=l.length*W:=by
  intro l;induction l with
  |nil=>simp
  |cons a l ih=>rw[Yr,Wh,ih,V7,Nat.succ_mul];simp[dN];omega
 rw[this,YV]
def iP(hg:Brd bd W)(r:Nat):bG [brd bd, .int (r:Int)]=aa (.lst ((dN W r).map cD)):=by
 have:=hg.w8;refine bf (aO (cN (J0 (hg.len0 rfl) (by omega)) ?_ (by simp[dN,dP];omega)));rw[show (dN W r).map cD=((Wy W).map λ(k:Nat)=>D.int (k:Int)).map (λe=> .tup [.int (r:Int),e]) by simp[dN,WY];intro a _;rfl];exact iR _ λe _=>rfl
def lF(hg:Brd bd W):cS [brd bd]=aa (.lst ((bo bd.length W).map cD)):=by
 have h8:=hg.r8;have w8:=hg.w8;have hm:bd.length*W<=64:=Zp h8 w8;have PV:(Wy bd.length).flatMap (λr=>(dN W r).map cD)=(bo bd.length W).map cD:=by
  unfold bo;rw[List.map_flatMap]
 have e:=jX (put:=putN 2) (body:=eF [2] (Hu 1 (au 2 bG (aC (dV 0) (aC (dV 2) aN))))) (λ(k:Nat)=>D.int (k:Int)) (λacc=>[fz (brd bd),some (.ow (.lst acc)),none]) (λr=>(dN W r).map cD) (Wy bd.length) []
  (by rw[Xy,PV,V4,cW];exact hm) λr hr acc hB=>by
   refine⟨[fz (brd bd),some (.ow (.lst acc)),fz (.int (r:Int))],rfl,?_⟩;refine(bR (ρ':=[fz (brd bd),some (.ow (.lst (acc++(dN W r).map cD))),fz (.int (r:Int))]) ?_).trans rfl;show (bG [brd bd, .int (r:Int)]>>=λd=>lstM d>>=λes=>if acc.length+es.length<=lim then aa (Out.nx (List.set [fz (brd bd),some (.ow (.lst acc)),fz (.int (r:Int))] 1 (some (.ow (.lst (acc++es)))))) else af)=_;rw[iP hg,aq];show (if acc.length+((dN W r).map cD).length<=lim then aa (Out.nx [fz (brd bd),some (.ow (.lst (acc++(dN W r).map cD))),fz (.int (r:Int))]) else af)=_;rw[acz (by rw[Wh] at hB;rw[dP];omega)]
 rw[Xy,PV] at e;refine bf (ay rfl (ay (fb (ij (J0 (Gk rfl) (by omega)) e)) ?_));rfl
def kg(R W w:Nat)(c:Cell):List Cell:=
 (WL (c.1 - 1) (min (c.1+2) R - (c.1 - 1))).flatMap λr=>((WL (c.2 - 1) (min (c.2+2) W - (c.2 - 1))).map λk=>(r,k)).filter (g6 w c)
def ll(hw:Ways w):x∈kg R W w c↔On R W x/\g6 w c x=true:=by
 unfold kg On;simp only[List.mem_flatMap,Xz,Wn,acy];constructor
 ·rintro⟨r,⟨h1,h2⟩,⟨k,⟨h3,h4⟩,rfl⟩,h5⟩;refine⟨⟨?_,?_⟩,h5⟩
  ·show r<R;omega
  ·show k<W;omega
 ·rintro⟨⟨h1,h2⟩,h5⟩;have h6:jh c.1 x.1<=1/\jh c.2 x.2<=1:=by
   unfold g6 at h5;rcases hw with rfl | rfl
   ·have h5:=acF h5;exact⟨h5▸Nat.le_add_right ..,h5▸Nat.le_add_left ..⟩
   ·have h5:=acF h5;exact⟨h5▸Nat.le_max_left ..,h5▸Nat.le_max_right ..⟩
  have g:∀{a b B:Nat},jh a b<=1->b<B->a - 1<=b/\b<a - 1+(min (a+2) B - (a - 1)):=λ{a b B} h k=>by
   have h1:b<=a+1/\a<=b+1:=by unfold jh at h;omega
   have h2:min (a+2) B=a+2\/min (a+2) B=B:=by omega
   omega
  exact⟨x.1,g h6.1 h1,⟨x.2,g h6.2 h2,rfl⟩,h5⟩
def vo(R W w:Nat)(c:Cell):(kg R W w c).length<=9:=by
 unfold kg;rw[ab4];have h:∀r,(((WL (c.2 - 1) (min (c.2+2) W - (c.2 - 1))).map λk=>(r,k)).filter (g6 w c)).length<=3:=λr=>by
  refine WZ (XZ ..) ?_;rw[V4,aad];omega
 have:∀(l:List Nat),(l.map λr=>(((WL (c.2 - 1) (min (c.2+2) W - (c.2 - 1))).map λk=>(r,k)).filter (g6 w c)).length).sum<=3*l.length:=by
  intro l;induction l with
  |nil=>simp
  |cons a l ih=>rw[Wg,ZA,V7];have:=h a;omega
 refine WZ (this _) ?_;rw[aad];omega
abbrev nc(b c w:D)(acc:List D)(x4 x5:Option Sl):bb:=[fz b,fz c,fz w,some (.ow (.lst acc)),x4,x5]
def kh(hg:Brd bd W)(hw:Ways w)(hc:On bd.length W c):bH [brd bd,cD c,iW w]=aa (.lst ((kg bd.length W w c).map cD)):=by
 have h8:=hg.r8;have w8:=hg.w8;obtain⟨c1,c2⟩:=hc;have N9:∀n:Nat,Bd [.int ((n:Int) - 1), .int 0]=aa (.int ((n - 1:Nat):Int)):=λn=>by
  show aa (D.int (if (0:Int)>(n:Int) - 1 then 0 else(n:Int) - 1))=_;congr 2;split<;>omega
 have N_:∀n m:Nat,D7 [.int ((n:Int)+2), .int (m:Int)]=aa (.int ((min (n+2) m:Nat):Int)):=λn m=>by
  show aa (D.int (if (m:Int)<(n:Int)+2 then(m:Int) else(n:Int)+2))=_;congr 2;split<;>omega
 have inner:∀(r:Nat) (acc:List D),acc.length<=16->forL (putN 5) (eF [5] (jK (cO (au 3 eB (aC (dV 1) (aC (dA fX (aC (dV 4) (aC (dV 5) aN))) (aC (dV 2) aN))))) (n0 3 (dA fX (aC (dV 4) (aC (dV 5) aN)))) dQ))
  ((WL (c.2 - 1) (min (c.2+2) W - (c.2 - 1))).map λ(k:Nat)=>D.int (k:Int)) (nc (brd bd) (cD c) (iW w) acc (fz (.int (r:Int))) none)=
  aa (.nx (nc (brd bd) (cD c) (iW w) (acc++(WL (c.2 - 1) (min (c.2+2) W - (c.2 - 1))).flatMap λk=>if g6 w c (r,k) then [cD (r,k)] else []) (fz (.int (r:Int))) none)):=λr acc FP=>by
  refine jX (λ(k:Nat)=>D.int (k:Int)) (λacc=>nc (brd bd) (cD c) (iW w) acc (fz (.int (r:Int))) none) (λk=>if g6 w c (r,k) then [cD (r,k)] else []) (B:=64) _ acc ?_ λk hk acc hB=>?_
  ·rw[Wh,ab4];have:∀l:List Nat,(l.map λk=>(if g6 w c (r,k) then [cD (r,k)] else []).length).sum<=l.length:=by
    intro l;induction l with
    |nil=>simp
    |cons a l ih=>rw[Wg,ZA,V7];split<;>simp<;>omega
   have h2:=this (WL (c.2 - 1) (min (c.2+2) W - (c.2 - 1)));rw[aad] at h2;omega
  ·refine⟨nc (brd bd) (cD c) (iW w) acc (fz (.int (r:Int))) (fz (.int (k:Int))),rfl,?_⟩;have ht:cO (au 3 eB (aC (dV 1) (aC (dA fX (aC (dV 4) (aC (dV 5) aN))) (aC (dV 2) aN)))) (nc (brd bd) (cD c) (iW w) acc (fz (.int (r:Int))) (fz (.int (k:Int))))=aa (g6 w c (r,k)):=
    om ((ak rfl rfl).trans (wj hw c (r,k)))
   cases hn:g6 w c (r,k) with
   |true=>
    rw[hn] at ht;rw[hn,acz rfl,Wh] at hB;refine(bR (ρ':=nc (brd bd) (cD c) (iW w) (acc++[cD (r,k)]) (fz (.int (r:Int))) (fz (.int (k:Int)))) (fY ht ?_)).trans rfl;show (if acc.length<lim then aa (Out.nx (nc (brd bd) (cD c) (iW w) (acc++[cD (r,k)]) (fz (.int (r:Int))) (fz (.int (k:Int))))) else af)=_;rw[acz (by rw[dP];simp at hB;omega)]
   |false=>
    rw[hn] at ht;refine(bR (d8 ht rfl)).trans ?_;simp;rfl
 have flt:∀r,((WL (c.2 - 1) (min (c.2+2) W - (c.2 - 1))).flatMap λk=>if g6 w c (r,k) then [cD (r,k)] else [])=(((WL (c.2 - 1) (min (c.2+2) W - (c.2 - 1))).map λk=>(r,k)).filter (g6 w c)).map cD:=λr=>by
  generalize WL (c.2 - 1) (min (c.2+2) W - (c.2 - 1))=l;induction l with
  |nil=>rfl
  |cons a l ih=>
   rw[Yr,ih,Wg,Xk];cases g6 w c (r,a)<;>rfl
 have tot:(WL (c.1 - 1) (min (c.1+2) bd.length - (c.1 - 1))).flatMap (λr=>(((WL (c.2 - 1) (min (c.2+2) W - (c.2 - 1))).map λk=>(r,k)).filter (g6 w c)).map cD)=(kg bd.length W w c).map cD:=by
  unfold kg;rw[List.map_flatMap]
 have outer:=jX (put:=putN 4) (body:=eF [4,5] (gc (putN 5) (λρ=>(aC (dA Bd (aC (d2 jO (d2 bO (dV 1) (dC (.int 1))) (dC (.int 1))) (aC (dC (.int 0)) aN))) (aC (dA D7 (aC (d2 cp (d2 bO (dV 1) (dC (.int 1))) (dC (.int 2))) (aC (dA bc (aC (d2 bO (dV 0) (dC (.int 0))) aN)) aN))) aN)) ρ>>=vZ) (eF [5] (jK (cO (au 3 eB (aC (dV 1) (aC (dA fX (aC (dV 4) (aC (dV 5) aN))) (aC (dV 2) aN))))) (n0 3 (dA fX (aC (dV 4) (aC (dV 5) aN)))) dQ))))
  (λ(k:Nat)=>D.int (k:Int)) (λacc=>nc (brd bd) (cD c) (iW w) acc none none) (λr=>(((WL (c.2 - 1) (min (c.2+2) W - (c.2 - 1))).map λk=>(r,k)).filter (g6 w c)).map cD) (WL (c.1 - 1) (min (c.1+2) bd.length - (c.1 - 1))) []
  (by rw[Xy,tot,V4];have:=vo bd.length W w c;omega) λr hr acc hB=>by
   refine⟨nc (brd bd) (cD c) (iW w) acc (fz (.int (r:Int))) none,rfl,?_⟩;have e:=inner r acc (by rw[Wh] at hB;omega);rw[flt r] at e;refine(bR (ij (Pc ?_ ?_ (by omega) (by omega)) e)).trans rfl
   ·exact(bY rfl).trans (N9 c.2)
   ·refine(bY ?_).trans (N_ c.2 W);exact aD (show d2 cp (d2 bO (dV 1) (dC (.int 1))) (dC (.int 2)) (nc (brd bd) (cD c) (iW w) acc (fz (.int (r:Int))) none)=aa (.int ((c.2:Int)+2)) from rfl) (aD (hg.len0 rfl) rfl)
 rw[Xy,tot] at outer;refine bf (ay rfl (ay (fb (ij (Pc ?_ ?_ (by omega) (by omega)) outer)) ?_))
 ·exact(bY rfl).trans (N9 c.1)
 ·refine(bY ?_).trans (N_ c.1 bd.length);exact aD (show d2 cp (d2 bO (dV 1) (dC (.int 0))) (dC (.int 2)) (nc (brd bd) (cD c) (iW w) [] none none)=aa (.int ((c.1:Int)+2)) from rfl) (aD (Gk rfl) rfl)
 ·rfl
def bB(bd:List Str)(W w:Nat)(c:Cell):List Cell:=(kg bd.length W w c).filter λx=>decide (lt bd x=lt bd c)
def eR(hw:Ways w):x∈bB bd W w c↔On bd.length W x/\g6 w c x=true/\lt bd x=lt bd c:=by
 unfold bB;rw[Xz,ll hw,acE,and_assoc]
def D0(bd:List Str)(W w:Nat)(c:Cell):(bB bd W w c).length<=9:=WZ (XZ ..) (vo ..)
def uW(enc:α->D)(p:α->Bool):∀(xs:List α),(∀x∈xs,f (enc x)=aa (if p x then some (enc x) else none))->dU f (xs.map enc)=aa ((xs.filter p).map enc)
 |[],_=>rfl
 |x::xs,h=>by
  rw[Wg,fG,h x (V6 ..),aq,uW enc p xs λy hy=>h y (V3 _ hy),Xk];cases p x<;>rfl
def rM(hg:Brd bd W)(hw:Ways w)(hc:On bd.length W c):cV [brd bd,cD c,iW w]=aa (.lst ((bB bd W w c).map cD)):=by
 refine bf (ay (ρ':=[fz (brd bd),fz (cD c),fz (iW w),fz (sg (lt bd c))]) ((aT ((ak rfl rfl).trans (d3 hg hc))).trans rfl) (aO ?_));refine cN ?_ (uW cD _ _ λx hx=>?_) (by rw[V4,dP];exact WZ (D0 bd W w c) (by decide))
 ·show (au 3 bH _ _>>=lstM)=_;have e:au 3 bH (aC (dV 0) (aC (dV 1) (aC (dV 2) aN))) [fz (brd bd),fz (cD c),fz (iW w),fz (sg (lt bd c))]=aa (.lst ((kg bd.length W w c).map cD)):=kh hg hw hc;rw[e];rfl
 ·have Ry:=(ll hw).mp hx;rw[AL];have e:da (d2 jZ (au 2 aW (aC (dV 1) (aC (dV 0) aN))) (dV 4)) (fz (cD x)::[fz (brd bd),fz (cD c),fz (iW w),fz (sg (lt bd c))])=aa (decide (lt bd x=lt bd c)):=by
   refine ja ?_;exact(aK ((ak rfl rfl).trans (d3 hg Ry.1)) rfl).trans (NA _ _)
  rw[e,aq];cases decide (lt bd x=lt bd c)<;>rfl
end K1
namespace K1
section
variable{α:Type}[DecidableEq α]
structure Bk (α:Type) where
 ks:List α
 ps:List (Option α)
 fu:List α
def fR(c:α)(s:Bk α)(x:α):Bk α:=if x∈s.ks then s else⟨s.ks++[x],s.ps++[some c],s.fu++[x]⟩
variable(nb:α->List α)
def o_(s:Bk α)(c:α):Bk α:=(nb c).foldl (fR c) s
def dq(s:Bk α)(T0:List α):Bk α:=T0.foldl (o_ nb) s
def Rb(a:α):Nat->α->Prop
 |0,x=>x=a
 |k+1,x=>Rb a k x\/∃y,Rb a k y/\x∈nb y
variable{nb}{a:α}
def Rb.mono(h:i<=j)(r:Rb nb a i x):Rb nb a j x:=by
 induction h with
 |refl=>exact r
 |step _ ih=>exact .inl ih
structure Grown (P:α->α->Prop) (s t:Bk α):Prop where
 ex:∃fs:List (α×α),t.ks=s.ks++fs.map (·.1)/\t.ps=s.ps++fs.map (λp=>some p.2)/\t.fu=s.fu++fs.map (·.1)/\(∀p∈fs,P p.2 p.1)
 nd:s.ks.Nodup->t.ks.Nodup
def Grown.refl(s:Bk α):Grown P s s:=⟨⟨[],by simp,by simp,by simp,λ_ h=>by cases h⟩,id⟩
def Grown.trans(h1:Grown P s t)(h2:Grown P t u):Grown P s u:=by
 obtain⟨fs,a1,a2,a3,a4⟩:=h1.ex;obtain⟨gs,b1,b2,b3,b4⟩:=h2.ex;refine⟨⟨fs++gs,by rw[b1,a1];simp,by rw[b2,a2];simp,by rw[b3,a3];simp,λp hp=>?_⟩,λh=>h2.nd (h1.nd h)⟩;rcases W3.mp hp with h | h
 ·exact a4 p h
 ·exact b4 p h
def yB(s:Bk α)(h:P c x):Grown P s (fR c s x):=by
 unfold fR;split
 ·exact Grown.refl s
 ·rename_i hx;refine⟨⟨[(x,c)],rfl,rfl,rfl,λp hp=>?_⟩,λhn=>?_⟩
  ·have:p=(x,c):=by simpa using hp
   subst this;exact h
  ·refine W_.mpr ⟨hn,by simp,λy hy z hz e=>?_⟩;have hz:z=x:=by simpa using hz
   rw[e,hz] at hy;exact hx hy
def Dg(s:Bk α):y∈(fR c s x).ks↔y∈s.ks\/y=x:=by
 unfold fR;split
 ·rename_i hx;exact⟨.inl,λh=>h.elim id λe=>by rw[e];exact hx⟩
 ·simp
def foldStep:∀(l:List α) (s:Bk α),(∀x∈l,P c x)->Grown P s (l.foldl (fR c) s)/\∀y,y∈(l.foldl (fR c) s).ks↔y∈s.ks\/y∈l
 |[],s,_=>⟨Grown.refl s,λy=>by simp⟩
 |x::l,s,h=>by
  obtain⟨h1,h2⟩:=foldStep l (fR c s x) λy hy=>h y (V3 _ hy);refine⟨(yB s (h x (V6 ..))).trans h1,λy=>?_⟩;rw[aaH,h2 y,Dg];simp[or_assoc]
def yW:∀(l:List α) (s:Bk α),(∀c∈l,∀x∈nb c,P c x)->Grown P s (dq nb s l)/\∀y,y∈(dq nb s l).ks↔y∈s.ks\/∃c∈l,y∈nb c
 |[],s,_=>⟨Grown.refl s,λy=>by simp[dq]⟩
 |c::l,s,h=>by
  obtain⟨g1,m1⟩:=foldStep (nb c) s (h c (V6 ..));obtain⟨g2,m2⟩:=yW l (o_ nb s c) λc' hc=>h c' (V3 _ hc);refine⟨g1.trans g2,λy=>?_⟩;show y∈(dq nb (o_ nb s c) l).ks↔_;rw[m2 y];show (y∈((nb c).foldl (fR c) s).ks\/_)↔_;rw[m1 y];simp[or_assoc]
structure Rng (nb:α->List α) (a:α) (k:Nat) (ks:List α) (ps:List (Option α)) (T0:List α):Prop where
 len:ks.length=ps.length
 nd:ks.Nodup
 mem:∀x,x∈ks↔Rb nb a k x
 rg:∀x,x∈T0↔Rb nb a k x/\∀j,Rb nb a j x->k<=j
 par:∀x p,(x,some p)∈ks.zip ps->x∈nb p/\p∈ks/\∀j,Rb nb a j x->∃i,j=i+1/\Rb nb a i p
 non:∀x,(x,none)∈ks.zip ps->x=a
 sz:k<=ks.length/\(T0≠[]->k+1<=ks.length)
def Rng.zero(nb:α->List α)(a:α):Rng nb a 0 [a] [none] [a] where
 len:=rfl
 nd:=by simp
 mem:=λx=>by simp[Rb]
 rg:=λx=>by simp[Rb]
 par:=λx p h=>by simp at h
 non:=λx h=>by simpa using h
 sz:=⟨by simp,λ_=>by simp⟩
def Rng.next(h:Rng nb a k ks ps T0)(hr:T0≠[]):Rng nb a (k+1) (dq nb ⟨ks,ps,[]⟩ T0).ks (dq nb ⟨ks,ps,[]⟩ T0).ps (dq nb ⟨ks,ps,[]⟩ T0).fu:=by
 obtain⟨g,m⟩:=yW (P:=λc x=>c∈T0/\x∈nb c) T0 ⟨ks,ps,[]⟩ λc hc x hx=>⟨hc,hx⟩
 obtain⟨fs,e1,e2,e3,e4⟩:=g.ex;have LG:=g.nd h.nd;have hm:∀x,x∈(dq nb ⟨ks,ps,[]⟩ T0).ks↔Rb nb a (k+1) x:=λx=>by
  rw[m x];show (x∈ks\/_)↔(Rb nb a k x\/_);constructor
  ·rintro(q | ⟨c,hc,hx⟩)
   ·exact .inl ((h.mem x).mp q)
   ·exact .inr ⟨c,((h.rg c).mp hc).1,hx⟩
  ·rintro(q | ⟨y,hy,hx⟩)
   ·exact .inl ((h.mem x).mpr q)
   ·by_cases hk:∀j,Rb nb a j y->k<=j
    ·exact .inr ⟨y,(h.rg y).mpr ⟨hy,hk⟩,hx⟩
    ·refine .inl ((h.mem x).mpr ?_);obtain⟨j,hj⟩:=abb.mp hk;obtain⟨Q8,Uz⟩:=abD.mp hj;exact Rb.mono (i:=j+1) (by omega) (.inr ⟨y,Q8,hx⟩)
 have EW:(dq nb ⟨ks,ps,[]⟩ T0).ks=ks++fs.map (·.1):=e1;have MT:(dq nb ⟨ks,ps,[]⟩ T0).ps=ps++fs.map (λp=>some p.2):=e2;have PF:(dq nb ⟨ks,ps,[]⟩ T0).fu=fs.map (·.1):=e3;have new:∀x,x∈fs.map (·.1)->¬Rb nb a k x:=λx hx hk=>by
  rw[EW] at LG;exact(W_.mp LG).2.2 x ((h.mem x).mpr hk) x hx rfl
 have OF:∀x,¬Rb nb a k x->∀j,Rb nb a j x->k+1<=j:=λx hx j hj=>by
  by_cases UA:k+1<=j
  ·exact UA
  ·exact acC (Rb.mono (by omega) hj) hx
 have Oq:(dq nb ⟨ks,ps,[]⟩ T0).ks.zip (dq nb ⟨ks,ps,[]⟩ T0).ps=ks.zip ps++fs.map λp=>(p.1,some p.2):=by
  rw[EW,MT,List.zip_append h.len];congr 1;rw[List.zip_map']
 refine⟨?_,LG,hm,λx=>?_,λx p hp=>?_,λx hx=>?_,?_⟩
 ·rw[EW,MT,Wh,Wh,V4,V4,h.len]
 ·rw[PF];constructor
  ·intro hx;exact⟨(hm x).mp (by rw[EW];exact Ww _ hx),OF x (new x hx)⟩
  ·rintro⟨h1,h2⟩;have h3:=(hm x).mpr h1;rw[EW] at h3;rcases W3.mp h3 with q | q
   ·have:=h2 k ((h.mem x).mp q);omega
   ·exact q
 ·rw[Oq] at hp;rcases W3.mp hp with q | q
  ·obtain⟨q1,q2,q3⟩:=h.par x p q;exact⟨q1,by rw[EW];exact XH _ q2,q3⟩
  ·obtain⟨f,hf,e⟩:=Wn.mp q;cases e;obtain⟨f1,f2⟩:=e4 f hf;have hc:=(h.rg f.2).mp f1;refine⟨f2,by rw[EW];exact XH _ ((h.mem _).mpr hc.1),λj hj=>?_⟩;have:=OF f.1 (new f.1 (Wn.mpr ⟨f,hf,rfl⟩)) j hj;exact⟨j - 1,by omega,Rb.mono (by omega) hc.1⟩
 ·rw[Oq] at hx;rcases W3.mp hx with q | q
  ·exact h.non x q
  ·obtain⟨f,hf,e⟩:=Wn.mp q;cases e
 ·have hs:=h.sz.2 hr;rw[EW,Wh,V4];refine⟨by omega,λgk=>?_⟩;have:fs≠[]:=λz=>gk (by rw[PF,z];rfl);have:=ab3.mpr this;omega
def Rng.last(h:Rng nb a k ks ps []):∀x,x∈ks↔∃j,Rb nb a j x:=by
 have none:∀x,¬(Rb nb a k x/\∀j,Rb nb a j x->k<=j):=λx q=>by
  have:=(h.rg x).mpr q;cases this
 have hk:∀x,Rb nb a k x->∃i,i<k/\Rb nb a i x:=λx hx=>by
  by_cases q:∀j,Rb nb a j x->k<=j
  ·exact acC ⟨hx,q⟩ (none x)
  ·obtain⟨j,hj⟩:=abb.mp q;obtain⟨Q8,Uz⟩:=abD.mp hj;exact⟨j,by omega,Q8⟩
 have all:∀j x,Rb nb a j x->Rb nb a k x:=by
  intro j;induction j with
  |zero=>intro x hx;exact Rb.mono (W8 _) hx
  |succ j ih=>
   rintro x (q | ⟨y,hy,hx⟩)
   ·exact ih x q
   ·obtain⟨i,hi,hr⟩:=hk y (ih y hy);exact Rb.mono (i:=i+1) (by omega) (.inr ⟨y,hr,hx⟩)
 exact λx=>⟨λq=>⟨k,(h.mem x).mp q⟩,λ⟨j,hj⟩=>(h.mem x).mpr (all j x hj)⟩
def iX{l U:List α}(hn:l.Nodup)(h:∀x∈l,x∈U):l.length<=U.length:=by
 induction l generalizing U with
 |nil=>simp
 |cons a l ih=>
  rw[WV] at hn;have hl:∀x∈l,x∈U.erase a:=λx hx=>by
   have gk:x≠a:=λz=>hn.1 (by rw[<-z];exact hx);exact(List.mem_erase_of_ne gk).mpr (h x (V3 _ hx))
  have h1:=ih hn.2 hl;have h2:=abj (h a (V6 ..));have h3:=abB (h a (V6 ..));rw[V7];omega
end
end K1
namespace K1
open PySem L2 L3
def keyOf(c:Cell):List Key:=[.inl (c.1:Int), .inl (c.2:Int)]
def lg(h:keyOf a=keyOf b):a=b:=by
 unfold keyOf at h;injection h with h1 h2
 injection h1 with h1
 injection h2 with h2 _
 injection h2 with h2
 exact ach (ZP h1) (ZP h2)
def jk(c:Cell):lD (cD c)=some (keyOf c):=rfl
def gB:∀{ks:List Cell}{ds:List D},c∉ks->f6 (ks.map keyOf) ds (keyOf c)=none
 |[],_,_=>by simp[f6]
 |k::ks,[],_=>by simp[f6]
 |k::ks,d::ds,h=>by
  rw[Wg];unfold f6;rw[acA (λz=>h (by rw[lg z];exact V6 ..))];exact gB λz=>h (V3 _ z)
def o6:∀{ks:List Cell}{ds:List D},ks.length=ds.length->c∈ks->∃d,f6 (ks.map keyOf) ds (keyOf c)=some d/\(c,d)∈ks.zip ds
 |[],_,_,h=>by cases h
 |k::ks,[],hl,_=>by simp at hl
 |k::ks,d::ds,hl,h=>by
  rw[Wg];unfold f6;by_cases hk:k=c
  ·subst hk;rw[acz rfl];exact⟨d,rfl,by simp⟩
  ·rw[acA (λz=>hk (lg z))];have hc:c∈ks:=by
    rcases Wc.mp h with q | q
    ·exact acC q.symm hk
    ·exact q
   obtain⟨d',e1,e2⟩:=o6 (by simpa using hl) hc;exact⟨d',e1,by simp[e2]⟩
def wV{ks:List Cell}(hl:ks.length=ds.length):mr neg (cD c) (.dct (ks.map keyOf) ds)=aa (.bl (if neg then !decide (c∈ks) else decide (c∈ks))):=by
 show (match (lD (cD c)).map (f6 (ks.map keyOf) ds) with | some o=>aa (D.bl (if neg then !o.isSome else o.isSome)) | none=>af)=_;rw[jk];show aa (D.bl (if neg then !(f6 (ks.map keyOf) ds (keyOf c)).isSome else(f6 (ks.map keyOf) ds (keyOf c)).isSome))=_;by_cases h:c∈ks
 ·obtain⟨d,e,_⟩:=o6 hl h;rw[e,acB h];rfl
 ·rw[gB h,acD h];rfl
def zS(h:c∉ks)(hl:ds.length<lim):nV (.dct (ks.map keyOf) ds) (cD c) d=some (.dct ((ks++[c]).map keyOf) (ds++[d])):=by
 show (match lD (cD c) with | some kk=>if ds.length<lim then some (C.dct (dR (ks.map keyOf) ds kk) (cT (ks.map keyOf) ds kk d)) else none | none=>none)=_;rw[jk];show (if ds.length<lim then some (C.dct (dR (ks.map keyOf) ds (keyOf c)) (cT (ks.map keyOf) ds (keyOf c) d)) else none)=_;rw[acz hl];unfold dR cT;rw[gB h];simp
def K9(h:τ (AY ρ)=aa b):M_ τ ρ=aa b:=by
 unfold M_;rw[h];rfl
def Nw(h:δ (AY ρ)=aa d)(hf:Cr d=true):PB δ ρ=aa d:=by
 unfold PB;rw[h];show rl d=_;unfold rl;rw[hf];rfl
def tP(h1:c ρ=aa true)(h2:body ρ=aa (.nx ρ'))(h3:fM c body n ρ'=m):fM c body (n+1) ρ=m:=by
 show (c ρ>>=λb=>if b then body ρ>>=λo=>match o with | .nx ρ'=>fM c body n ρ' | .rt d=>aa (.rt d) else aa (.nx ρ))=_;rw[h1,aq,acz rfl,h2];exact h3
def Ag(h1:c ρ=aa false):fM c body (n+1) ρ=aa (.nx ρ):=by
 show (c ρ>>=λb=>if b then body ρ>>=λo=>match o with | .nx ρ'=>fM c body n ρ' | .rt d=>aa (.rt d) else aa (.nx ρ))=_;rw[h1];rfl
def GY:Option Cell->D
 |none=> .non
 |some c=>cD c
abbrev Kq(ks:List Cell)(ps:List (Option Cell)):C:= .dct (ks.map keyOf) (ps.map GY)
abbrev iO(ks:List Cell)(ps:List (Option Cell)):D:= .dct (ks.map keyOf) (ps.map GY)
abbrev sb(b s w:D)(ks:List Cell)(ps:List (Option Cell))(x4 x5 x6 x7:Option Sl):bb:=[fz b,fz s,fz w,some (.ow (Kq ks ps)),x4,x5,x6,x7]
structure Bok (R W:Nat) (s:Bk Cell):Prop where
 len:s.ks.length=s.ps.length
 nd:s.ks.Nodup
 on:∀x∈s.ks,On R W x
 fu:s.fu.length<=s.ks.length
def Bok.le(h:Bok R W s):s.ks.length<=R*W:=by
 rw[<-cW R W];exact iX h.nd λx hx=>a8.mpr (h.on x hx)
def Bok.step(h:Bok R W s)(hx:On R W x):Bok R W (fR c s x):=by
 unfold fR;split
 ·exact h
 ·rename_i hn;refine⟨by simp[h.len],?_,λy hy=>?_,by simp;exact h.fu⟩
  ·refine W_.mpr ⟨h.nd,by simp,λy hy z hz e=>?_⟩;have hz:z=x:=by simpa using hz
   rw[e,hz] at hy;exact hn hy
  ·rcases W3.mp hy with q | q
   ·exact h.on y q
   ·have:y=x:=by simpa using q
    rw[this];exact hx
def J5(hg:Brd bd W)(h:Bok bd.length W s):
 MB (sb (brd bd) (cD a) w s.ks s.ps r (some (.ow (.lst (s.fu.map cD)))) (fz (cD c)) (fz (cD x)))=aa (.nx (sb (brd bd) (cD a) w (fR c s x).ks (fR c s x).ps r (some (.ow (.lst ((fR c s x).fu.map cD)))) (fz (cD c)) none)):=by
 have hle:=h.le;have hm:bd.length*W<=64:=Zp hg.r8 hg.w8;have ht:M_ (da (d2 (mr true) (dV 7) (dV 3))) (sb (brd bd) (cD a) w s.ks s.ps r (some (.ow (.lst (s.fu.map cD)))) (fz (cD c)) (fz (cD x)))=aa (!decide (x∈s.ks)):=
  K9 (ja ((aK rfl rfl).trans (wV (by rw[V4];exact h.len))))
 by_cases hx:x∈s.ks
 ·rw[acB hx] at ht;have e:fR c s x=s:=acz hx;rw[e];exact(bR (d8 ht rfl)).trans rfl
 ·rw[acD hx] at ht;have e:fR c s x=⟨s.ks++[x],s.ps++[some c],s.fu++[x]⟩:=acA hx;rw[e];refine(bR (ρ':=sb (brd bd) (cD a) w (s.ks++[x]) (s.ps++[some c]) r (some (.ow (.lst ((s.fu++[x]).map cD)))) (fz (cD c)) (fz (cD x))) (fY ht (ay (ρ':=sb (brd bd) (cD a) w (s.ks++[x]) (s.ps++[some c]) r (some (.ow (.lst (s.fu.map cD)))) (fz (cD c)) (fz (cD x))) ?_ ?_))).trans rfl
  ·show (match nV (Kq s.ks s.ps) (cD x) (cD c) with | some c'=>aa (Out.nx (List.set (sb (brd bd) (cD a) w s.ks s.ps r (some (.ow (.lst (s.fu.map cD)))) (fz (cD c)) (fz (cD x))) 3 (some (.ow c')))) | none=>af)=_;rw[zS hx (by rw[V4,<-h.len,dP];omega)];rw[show s.ps.map GY++[cD c]=(s.ps++[some c]).map GY by simp[GY]];rfl
  ·show (if (s.fu.map cD).length<lim then aa (Out.nx (sb (brd bd) (cD a) w (s.ks++[x]) (s.ps++[some c]) r (some (.ow (.lst (s.fu.map cD++[cD x])))) (fz (cD c)) (fz (cD x)))) else af)=_;have:=h.fu;rw[acz (by rw[V4,dP];omega)];rw[show s.fu.map cD++[cD x]=(s.fu++[x]).map cD by simp]
def Pf:DS:=eF [6,7] (gc (putN 7) (fC (au 3 cV (aC (dV 0) (aC (dV 6) (aC (dV 2) aN))))) MB)
def C3(hg:Brd bd W)(hw:Ways w)(hc:On bd.length W c)(h:Bok bd.length W s):
 Bok bd.length W (o_ (bB bd W w) s c)/\Pf (sb (brd bd) (cD a) (iW w) s.ks s.ps r (some (.ow (.lst (s.fu.map cD)))) (fz (cD c)) none)=
  aa (.nx (sb (brd bd) (cD a) (iW w) (o_ (bB bd W w) s c).ks (o_ (bB bd W w) s c).ps r (some (.ow (.lst ((o_ (bB bd W w) s c).fu.map cD)))) none none)):=by
 obtain⟨h1,e⟩:=ou (put:=putN 7) cD (λs:Bk Cell=>sb (brd bd) (cD a) (iW w) s.ks s.ps r (some (.ow (.lst (s.fu.map cD)))) (fz (cD c)) none) (fR c) (Bok bd.length W) (bB bd W w c) s h λs hs x hx=>
  ⟨hs.step ((eR hw).mp hx).1,_,rfl,J5 hg hs⟩
 refine⟨h1,(bR (ij ?_ e)).trans rfl⟩;show (au 3 cV (aC (dV 0) (aC (dV 6) (aC (dV 2) aN))) (sb (brd bd) (cD a) (iW w) s.ks s.ps r (some (.ow (.lst (s.fu.map cD)))) (fz (cD c)) none)>>=lstM)=_;have e2:au 3 cV (aC (dV 0) (aC (dV 6) (aC (dV 2) aN))) (sb (brd bd) (cD a) (iW w) s.ks s.ps r (some (.ow (.lst (s.fu.map cD)))) (fz (cD c)) none)=aa (.lst ((bB bd W w c).map cD)):=rM hg hw hc;rw[e2];rfl
def Pe:DS:=eF [5,6,7] (aV (xY 5) (aV (gc (putN 6) (fC (dV 4)) Pf) (C1 5 (bS 4 (dV 5)))))
def J4(hg:Brd bd W)(hw:Ways w)(hr:∀c∈T0,On bd.length W c)(h:Bok bd.length W s)(hf:s.fu=[]):
 Bok bd.length W (dq (bB bd W w) s T0)/\Pe (sb (brd bd) (cD a) (iW w) s.ks s.ps (fz (.lst (T0.map cD))) none none none)=
  aa (.nx (sb (brd bd) (cD a) (iW w) (dq (bB bd W w) s T0).ks (dq (bB bd W w) s T0).ps (fz (.lst ((dq (bB bd W w) s T0).fu.map cD))) none none none)):=by
 obtain⟨h1,e⟩:=ou (put:=putN 6) cD (λs:Bk Cell=>sb (brd bd) (cD a) (iW w) s.ks s.ps (fz (.lst (T0.map cD))) (some (.ow (.lst (s.fu.map cD)))) none none) (o_ (bB bd W w)) (Bok bd.length W) T0 s h λs hs c hc=>
  ⟨(C3 (a:=a) (r:=fz (.lst (T0.map cD))) hg hw (hr c hc) hs).1,_,rfl,(C3 hg hw (hr c hc) hs).2⟩
 refine⟨h1,(bR (ρ':=sb (brd bd) (cD a) (iW w) (dq (bB bd W w) s T0).ks (dq (bB bd W w) s T0).ps (fz (.lst ((dq (bB bd W w) s T0).fu.map cD))) (fz (.lst ((dq (bB bd W w) s T0).fu.map cD))) none none) ?_).trans rfl⟩;refine ay rfl (ay (ρ':=sb (brd bd) (cD a) (iW w) (dq (bB bd W w) s T0).ks (dq (bB bd W w) s T0).ps (fz (.lst (T0.map cD))) (some (.ow (.lst ((dq (bB bd W w) s T0).fu.map cD)))) none none) ?_ rfl);rw[hf] at e;exact ij rfl e
def z5(hg:Brd bd W)(hw:Ways w)(ha:On bd.length W a):∀(fuel k:Nat) (ks:List Cell) (ps:List (Option Cell)) (T0:List Cell),bd.length*W+2<=fuel+k->Rng (bB bd W w) a k ks ps T0->(∀x∈ks,On bd.length W x)->
 ∃k' ks' Qh,Rng (bB bd W w) a k' ks' Qh []/\(∀x∈ks',On bd.length W x)/\fM (cO (dV 4)) Pe fuel (sb (brd bd) (cD a) (iW w) ks ps (fz (.lst (T0.map cD))) none none none)=aa (.nx (sb (brd bd) (cD a) (iW w) ks' Qh (fz (.lst [])) none none none))
 |0,k,ks,ps,T0,hf,hR,uo=>by
  have h1:ks.length<=bd.length*W:=by
   rw[<-cW bd.length W];exact iX hR.nd λx hx=>a8.mpr (uo x hx)
  have:=hR.sz.1;omega
 |fuel+1,k,ks,ps,[],hf,hR,uo=>⟨k,ks,ps,hR,uo,Ag rfl⟩
 |fuel+1,k,ks,ps,c::T0,hf,hR,uo=>by
  have gk:c::T0≠[]:=by simp
  have hN:=hR.next gk;have Rq:∀x∈c::T0,On bd.length W x:=λx hx=>uo x ((hR.mem x).mpr ((hR.rg x).mp hx).1);obtain⟨hb,e⟩:=J4 hg hw Rq (s:=⟨ks,ps,[]⟩) ⟨hR.len,hR.nd,uo,W8 _⟩ rfl;obtain⟨k',ks',Qh,q1,q2,q3⟩:=z5 hg hw ha fuel (k+1) _ _ _ (by omega) hN hb.on;exact⟨k',ks',Qh,q1,q2,tP rfl e q3⟩
def k7(hg:Brd bd W)(hw:Ways w)(ha:On bd.length W a):
 ∃k ks ps,Rng (bB bd W w) a k ks ps []/\(∀x∈ks,On bd.length W x)/\b7 [brd bd,cD a,iW w]=aa (iO ks ps):=by
 have hm:bd.length*W<=64:=Zp hg.r8 hg.w8;obtain⟨k,ks,ps,h1,h2,h3⟩:=z5 hg hw ha lim 0 [a] [none] [a] (by rw[dP];omega) (Rng.zero _ _) (λx hx=>(show x=a by simpa using hx)▸ha);refine⟨k,ks,ps,h1,h2,bf (ay rfl (ay rfl (ay (fb h3) rfl)))⟩
def o9[DecidableEq α](n:Nat)(enc:α->D):Prop:=∀k x y,u4 (n+k) (enc x) (enc y)=some (decide (x=y))
def wH(n:Nat)(i j:Int):u4 n (.int i) (.int j)=some (i==j):=by cases n<;>rfl
def Iz(n:Nat)(i j:Str):u4 n (.str i) (.str j)=some (i==j):=by cases n<;>rfl
def wI[DecidableEq α](h:∀x y,f (enc x) (enc y)=some (decide (x=y))):∀(xs ys:List α),yS f (xs.map enc) (ys.map enc)=some (decide (xs=ys))
 |[],[]=>rfl
 |[],_::_=>by simp[yS]
 |_::_,[]=>by simp[yS]
 |x::xs,y::ys=>by
  rw[Wg,Wg];show (match f (enc x) (enc y),yS f (xs.map enc) (ys.map enc) with | some b,some r=>some (b&&r) | _,_=>none)=_;rw[h,wI h xs ys];show some (decide (x=y)&&decide (xs=ys))=_;congr 1;by_cases h1:x=y<;>by_cases h2:xs=ys<;>simp[h1,h2]
def PH[DecidableEq α](h:o9 n enc):o9 (n+1) (λl:List α=> .lst (l.map enc)):=λk x y=>by
 rw[show n+1+k=(n+k)+1 by omega];exact wI (h k) x y
def Iy[DecidableEq α](h:o9 n enc):o9 (n+1) (λl:List α=> .tup (l.map enc)):=λk x y=>by
 rw[show n+1+k=(n+k)+1 by omega];exact wI (h k) x y
def Ck:o9 0 D.str:=λk x y=>by
 rw[Iz];congr 1
def Cj:o9 1 brd:=Iy Ck
def Lo[DecidableEq α](h:o9 n enc)(hn:n<=6)(x y:α):jZ (enc x) (enc y)=aa (.bl (decide (x=y))):=by
 have:=h (6 - n) x y;rw[show n+(6 - n)=6 by omega] at this;unfold jZ;rw[this]
def Lp[DecidableEq α](h:o9 n enc)(hn:n<=6)(x y:α):pe (enc x) (enc y)=aa (.bl (!decide (x=y))):=by
 have:=h (6 - n) x y;rw[show n+(6 - n)=6 by omega] at this;unfold pe;rw[this]
abbrev cL(l:List Cell):D:= .lst (l.map cD)
def ic(c:Cell):List Int:=[(c.1:Int),(c.2:Int)]
def Fi(a b:Cell):Bool:=if a.1=b.1 then decide (a.2<b.2) else decide (a.1<b.1)
def IS(k:Cell):List Cell->List Cell
 |[]=>[k]
 |x::r=>if Fi k x then k::x::r else x::IS k r
def tI:List Cell->List Cell
 |[]=>[]
 |k::r=>IS k (tI r)
def A_(a b:Cell):fI (ic a) (ic b)=Fi a b:=by
 show (if (a.1:Int)=(b.1:Int) then(if (a.2:Int)=(b.2:Int) then false else decide ((a.2:Int)<(b.2:Int))) else decide ((a.1:Int)<(b.1:Int)))=_;unfold Fi;by_cases h:a.1=b.1
 ·rw[acz h,acz (by omega)];by_cases h2:a.2=b.2
  ·rw[acz (by omega),h2];simp
  ·rw[acA (by omega)];by_cases h3:a.2<b.2
   ·rw[acB h3,acB (by omega)]
   ·rw[acD h3,acD (by omega)]
 ·rw[acA h,acA (by omega)];by_cases h3:a.1<b.1
  ·rw[acB h3,acB (by omega)]
  ·rw[acD h3,acD (by omega)]
def F4(k:Cell):∀l:List Cell,insI (ic k) (l.map ic)=(IS k l).map ic
 |[]=>rfl
 |x::r=>by
  rw[Wg];unfold insI IS;rw[A_];cases Fi k x with
  |true=>rfl
  |false=>rw[acA (by decide),acA (by decide),Wg,F4 k r]
def qN:∀l:List Cell,sortI (l.map ic)=(tI l).map ic
 |[]=>rfl
 |k::r=>by
  rw[Wg];unfold sortI tI;rw[qN r,F4]
def wR(h:ic a=ic b):a=b:=by
 unfold ic at h;injection h with h1 h2
 injection h2 with h2 _
 exact ach (ZP h1) (ZP h2)
def D5:x∈tI l↔x∈l:=by
 have h:=i_ (x:=ic x) (l:=l.map ic);rw[qN] at h;constructor
 ·intro hx;obtain⟨y,hy,e⟩:=Wn.mp (h.mp (Wn.mpr ⟨x,hx,rfl⟩));rw[<-wR e];exact hy
 ·intro hx;obtain⟨y,hy,e⟩:=Wn.mp (h.mpr (Wn.mpr ⟨x,hx,rfl⟩));rw[<-wR e];exact hy
def RiseC(l:List Cell):Prop:=l.Pairwise λa b=>Fi a b=true
def xX:Ay (l.map ic)↔RiseC l:=by
 unfold Ay RiseC;rw[Zt];constructor<;>intro h<;>refine ZH ?_ h<;>intro a b q
 ·rw[<-A_];exact q
 ·rw[A_];exact q
def zr{l:List Cell}(h:l.Nodup):(l.map ic).Nodup:=by
 unfold X3 at h⊢;rw[Zt];exact ZH (λh z=>h (wR z)) h
def BV{l:List Cell}(h:l.Nodup):RiseC (tI l):=by
 have:=mP (zr h);rw[qN] at this;exact xX.mp this
def vY(ha:RiseC a)(hb:RiseC b)(h:∀x,x∈a↔x∈b):a=b:=by
 have e:=s9 (xX.mpr ha) (xX.mpr hb) λx=>by
  constructor
  ·intro hx;obtain⟨y,hy,rfl⟩:=Wn.mp hx;exact Wn.mpr ⟨y,(h y).mp hy,rfl⟩
  ·intro hx;obtain⟨y,hy,rfl⟩:=Wn.mp hx;exact Wn.mpr ⟨y,(h y).mpr hy,rfl⟩
 have inj:∀(a b:List Cell),a.map ic=b.map ic->a=b:=by
  intro a;induction a with
  |nil=>intro b h;cases b with
   |nil=>rfl
   |cons=>simp at h
  |cons x a ih=>intro b h;cases b with
   |nil=>simp at h
   |cons y b=>
    rw[Wg,Wg] at h;injection h with h1 h2
    rw[wR h1,ih b h2]
 exact inj a b e
def RiseC.nodup(h:RiseC l):l.Nodup:=by
 refine ZH ?_ h;intro a b q z;subst z;unfold Fi at q;rw[acz rfl] at q;have:=acF q;omega
def oA:∀ks:List Cell,gL (ks.map keyOf)=some (ks.map ic)
 |[]=>rfl
 |k::r=>by
  show (match vc (keyOf k),gL (r.map keyOf) with | some x,some xs=>some (x::xs) | _,_=>none)=_;rw[oA r];rfl
def ON{ks:List Cell}(h:ks.Nodup)(hl:ks.length<64):km (ks.map ic)=true:=by
 unfold km;rw[V4,acB (zr h),acB hl];simp;intro a b _ z;cases z
def HC(h:ks.Nodup)(hl:ks.length<64):Aa [.dct (ks.map keyOf) ds]=aa (cL (tI ks)):=by
 show (match gL (ks.map keyOf) with | some ks=>if km ks&&ks.all (λk=>decide (k.length<=lim)) then aa (D.lst ((sortI ks).map tupI)) else af | none=>af)=_;rw[oA];show (if km (ks.map ic)&&(ks.map ic).all (λk=>decide (k.length<=lim)) then aa (D.lst ((sortI (ks.map ic)).map tupI)) else af)=_;rw[ON h hl];have:(ks.map ic).all (λk=>decide (k.length<=lim))=true:=by
  simp;intro a b _;show 2<=lim
  decide
 rw[this,abm,acz rfl,qN,WY];rfl
def Cn(bd:List Str)(W w:Nat)(a b:Cell):Prop:=∃j,Rb (bB bd W w) a j b
def Cn.refl:Cn bd W w a a:=⟨0,rfl⟩
def Ba(hw:Ways w)(ha:On bd.length W a)(h:b∈bB bd W w a):a∈bB bd W w b:=by
 obtain⟨h1,h2,h3⟩:=(eR hw).mp h;exact(eR hw).mpr ⟨ha,by rw[ki];exact h2,h3.symm⟩
def CZ(hw:Ways w)(ha:On bd.length W a):∀{j:Nat},Rb (bB bd W w) a j b->On bd.length W b
 |0,h=>by rw[show b=a from h];exact ha
 |j+1, .inl h=>CZ hw ha h
 |j+1, .inr ⟨y,_,hy⟩=>((eR hw).mp hy).1
def sZ(h:c∈bB bd W w a):∀{j:Nat},Rb (bB bd W w) c j b->Rb (bB bd W w) a (j+1) b
 |0,q=> .inr ⟨a,rfl,by rw[show b=c from q];exact h⟩
 |j+1, .inl q=> .inl (sZ h q)
 |j+1, .inr ⟨y,q,hy⟩=> .inr ⟨y,sZ h q,hy⟩
def xS(hw:Ways w)(ha:On bd.length W a):∀{j:Nat},Rb (bB bd W w) a j b->Rb (bB bd W w) b j a
 |0,h=>show a=b from(show b=a from h).symm
 |j+1, .inl h=> .inl (xS hw ha h)
 |j+1, .inr ⟨y,q,hy⟩=>sZ (Ba hw (CZ hw ha q) hy) (xS hw ha q)
def s8(h:Rb (bB bd W w) a i b):∀{j:Nat},Rb (bB bd W w) b j c->Rb (bB bd W w) a (i+j) c
 |0,q=>by rw[show c=b from q];exact h
 |j+1, .inl q=> .inl (s8 h q)
 |j+1, .inr ⟨y,q,hy⟩=> .inr ⟨y,s8 h q,hy⟩
def oT(hw:Ways w):∀{j:Nat},Rb (bB bd W w) a j b->lt bd b=lt bd a
 |0,h=>by rw[show b=a from h]
 |j+1, .inl h=>oT hw h
 |j+1, .inr ⟨y,q,hy⟩=>((eR hw).mp hy).2.2.trans (oT hw q)
section
variable{bd:List Str}{W w:Nat}{a b c:Cell}
def Cn.on(hw:Ways w)(ha:On bd.length W a)(h:Cn bd W w a b):On bd.length W b:=let ⟨_,q⟩:=h;CZ hw ha q
def Cn.symm(hw:Ways w)(ha:On bd.length W a)(h:Cn bd W w a b):Cn bd W w b a:=let ⟨j,q⟩:=h;⟨j,xS hw ha q⟩
def Cn.trans(h:Cn bd W w a b)(h2:Cn bd W w b c):Cn bd W w a c:=let ⟨i,q⟩:=h;let ⟨j,r⟩:=h2;⟨i+j,s8 q r⟩
def Cn.letter(hw:Ways w)(h:Cn bd W w a b):lt bd b=lt bd a:=let ⟨_,q⟩:=h;oT hw q
def Cn.step(h:Cn bd W w a b)(h2:c∈bB bd W w b):Cn bd W w a c:=let ⟨j,q⟩:=h;⟨j+1, .inr ⟨b,q,h2⟩⟩
end
structure IsPatch (bd:List Str) (W w:Nat) (a:Cell) (P:List Cell):Prop where
 rise:RiseC P
 mem:∀x,x∈P↔Cn bd W w a x
def IsPatch.one(h:IsPatch bd W w a P)(h2:IsPatch bd W w a Q):P=Q:=vY h.rise h2.rise λx=>(h.mem x).trans (h2.mem x).symm
def mU{bd:List Str}{ks:List Cell}(hn:ks.Nodup)(uo:∀x∈ks,On bd.length W x):ks.length<=bd.length*W:=by
 rw[<-cW bd.length W];exact iX hn λx hx=>a8.mpr (uo x hx)
end K1
namespace K1
open PySem PySem.Spec L2 L3
open PyProof.Rows hiding St
section
variable{ρ ρ':bb}{Q:OX->Prop}{τ:DS}{C a:Addr}{o:Ob}{i:Nat}{x f:Str}
def eh(h:τ ρ=aa (.nx ρ'))(k:ObK ρ ρ')(q:Q (.nx ρ')):(dm τ).f ρ Q:=by
 show (match τ ρ with | none=>False | some (.ok (.nx ρ'))=>ObK ρ ρ'/\Q (.nx ρ') | some (.ok (.rt d))=>Q (.rt (.fz d) (kO ρ)) | some (.ex n)=>Q (.ex n (kO ρ)));rw[h];exact⟨k,q⟩
def K_(h:τ ρ=aa (.rt d))(q:Q (.rt (.fz d) (kO ρ))):(dm τ).f ρ Q:=by
 show (match τ ρ with | none=>False | some (.ok (.nx ρ'))=>ObK ρ ρ'/\Q (.nx ρ') | some (.ok (.rt d))=>Q (.rt (.fz d) (kO ρ)) | some (.ex n)=>Q (.ex n (kO ρ)));rw[h];exact q
def sq{A B:XS}(h:A.f ρ λx=>match x with | .nx ρ'=>B.f ρ' Q | .rt r ρ'=>Q (.rt r ρ') | .ex n ρ'=>Q (.ex n ρ')):(cj A B).f ρ Q:=A.mono ρ _ _ (λx hx=>by cases x<;>exact hx) h
def xr{χ:XE}(h:χ.f ρ λx=>match x with | .val r ρ'=>Q (.rt r ρ') | .ex n ρ'=>Q (.ex n ρ')):(HY χ).f ρ Q:=h
def c7:∀ρ:bb,ObK ρ ρ
 |[]=> .nil
 |x::ρ=> .cons (.inl rfl) (c7 ρ)
def fc{d:D}:∀(ρ:bb) (i:Nat),ObK ρ (ρ.set i (some (.fz d)))
 |[],_=> .nil
 |x::ρ,0=> .cons (.inr λa o z=>by cases z) (c7 ρ)
 |x::ρ,i+1=> .cons (.inl rfl) (fc ρ i)
def cE(h:ρ[i]? =some (some (.ob a o)))(hc:o.c=C):bP ρ i C=some (a,o):=by
 unfold bP;rw[h];exact acz hc
def bA{g:Addr->Ob->List D->M D}{δs:DA}(h:bP ρ i C=some (a,o))(ha:δs ρ=aa ds)(hl:ds.length=m):bE C i x m g δs ρ=mO o x (g a o ds):=by
 unfold bE mO;rw[h];show (match o.fs.lookup x with | none=>δs ρ>>=λds=>if ds.length=m then g a o ds else af | some _=>af)=_;cases o.fs.lookup x with
 |none=>
  show (δs ρ>>=λds=>if ds.length=m then g a o ds else af)=_;rw[ha];exact acz hl
 |some _=>rfl
def jW{d:D}(h:bP ρ i C=some (a,o))(hf:o.fs.lookup f=some (.fz d)):p_ C i f ρ=aa d:=by
 unfold p_;rw[h];show (match o.fs.lookup f with | some (.fz d)=>aa d | _=>af)=_;rw[hf]
def AW{δ:DE}{ds:List D}{d:D}(h:bP ρ i C=some (a,o))(hf:o.fs.lookup f=some (.ow ds))(hd:δ ρ=aa d)(hl:ds.length<lim)(q:Q (.nx (ρ.set i (some (.ob a (bQ o f (.ow (ds++[d])))))))):(yj C i f δ).f ρ Q:=by
 show (match bP ρ i C with | none=>False | some (a,o)=>match o.fs.lookup f with | some (.ow ds)=>(match δ ρ with | none=>False | some (.ex n)=>Q (.ex n ρ) | some (.ok d)=>ds.length<lim/\Q (.nx (ρ.set i (some (.ob a (bQ o f (.ow (ds++[d])))))))) | _=>False);rw[h];show (match o.fs.lookup f with | some (.ow ds)=>(match δ ρ with | none=>False | some (.ex n)=>Q (.ex n ρ) | some (.ok d)=>ds.length<lim/\Q (.nx (ρ.set i (some (.ob a (bQ o f (.ow (ds++[d])))))))) | _=>False);rw[hf];show (match δ ρ with | none=>False | some (.ex n)=>Q (.ex n ρ) | some (.ok d)=>ds.length<lim/\Q (.nx (ρ.set i (some (.ob a (bQ o f (.ow (ds++[d]))))))));rw[hd];exact⟨hl,q⟩
def AX{ds:List D}(h:bP ρ i C=some (a,o))(hf:o.fs.lookup f=some (.ow ds))(hl:0<ds.length)(q:Q (.nx (ρ.set i (some (.ob a (bQ o f (.ow ds.dropLast))))))):(yk C i f).f ρ Q:=by
 show (match bP ρ i C with | none=>False | some (a,o)=>match o.fs.lookup f with | some (.ow ds)=>0<ds.length/\Q (.nx (ρ.set i (some (.ob a (bQ o f (.ow ds.dropLast)))))) | _=>False);rw[h];show (match o.fs.lookup f with | some (.ow ds)=>0<ds.length/\Q (.nx (ρ.set i (some (.ob a (bQ o f (.ow ds.dropLast)))))) | _=>False);rw[hf];exact⟨hl,q⟩
def mq{δ:DE}{d:D}(h:bP ρ i C=some (a,o))(hd:δ ρ=aa d)(hl:o.fs.length<100)(q:Q (.nx (ρ.set i (some (.ob a (bQ o f (.fz d))))))):(oe C i f δ).f ρ Q:=by
 show (match δ ρ with | none=>False | some (.ex n)=>Q (.ex n ρ) | some (.ok d)=>match bP ρ i C with | some (a,o)=>o.fs.length<100/\Q (.nx (ρ.set i (some (.ob a (bQ o f (.fz d)))))) | none=>False);rw[hd];show (match bP ρ i C with | some (a,o)=>o.fs.length<100/\Q (.nx (ρ.set i (some (.ob a (bQ o f (.fz d)))))) | none=>False);rw[h];exact⟨hl,q⟩
def rm{δs:DA}{ds:List D}(h:bP ρ i C=some (a,o))(hd:δs ρ=aa ds)(hl:o.fs.length<100)(h2:ds.length<=lim)(q:Q (.nx (ρ.set i (some (.ob a (bQ o f (.ow ds))))))):(qO C i f δs).f ρ Q:=by
 show (match δs ρ with | none=>False | some (.ex n)=>Q (.ex n ρ) | some (.ok ds)=>match bP ρ i C with | some (a,o)=>o.fs.length<100/\ds.length<=lim/\Q (.nx (ρ.set i (some (.ob a (bQ o f (.ow ds)))))) | none=>False);rw[hd];show (match bP ρ i C with | some (a,o)=>o.fs.length<100/\ds.length<=lim/\Q (.nx (ρ.set i (some (.ob a (bQ o f (.ow ds)))))) | none=>False);rw[h];exact⟨hl,h2,q⟩
def fN{g:Addr->Ob->List D->M (D×Ob)}{δs:DA}{ds:List D}{d:D}{o':Ob}{m:Nat}{R:OE->Prop}(h:bP ρ i C=some (a,o))(hn:o.fs.lookup x=none)(ha:δs ρ=aa ds)(hl:ds.length=m)(hg:g a o ds=aa (d,o'))(q:R (.val (.fz d) (ρ.set i (some (.ob a o'))))):(fB C i x m g δs).f ρ R:=by
 show (match bP ρ i C with | some (a,o)=>(match o.fs.lookup x with | none=>(match δs ρ with | none=>False | some (.ex n)=>R (.ex n ρ) | some (.ok ds)=>ds.length=m/\match g a o ds with | none=>False | some (.ok (d,o'))=>R (.val (.fz d) (ρ.set i (some (.ob a o')))) | some (.ex n)=>R (.ex n ρ)) | some _=>False) | none=>False);rw[h];show (match o.fs.lookup x with | none=>(match δs ρ with | none=>False | some (.ex n)=>R (.ex n ρ) | some (.ok ds)=>ds.length=m/\match g a o ds with | none=>False | some (.ok (d,o'))=>R (.val (.fz d) (ρ.set i (some (.ob a o')))) | some (.ex n)=>R (.ex n ρ)) | some _=>False);rw[hn];show (match δs ρ with | none=>False | some (.ex n)=>R (.ex n ρ) | some (.ok ds)=>ds.length=m/\match g a o ds with | none=>False | some (.ok (d,o'))=>R (.val (.fz d) (ρ.set i (some (.ob a o')))) | some (.ex n)=>R (.ex n ρ));rw[ha];refine⟨hl,?_⟩;show (match g a o ds with | none=>False | some (.ok (d,o'))=>R (.val (.fz d) (ρ.set i (some (.ob a o')))) | some (.ex n)=>R (.ex n ρ));rw[hg];exact q
def Gn{α:Type}{m:M α}{r:α}(h:mO o x m=aa r):o.fs.lookup x=none/\m=aa r:=by
 unfold mO at h;split at h
 ·rename_i q;exact⟨q,h⟩
 ·exact(cw h).elim
def L6{g:Addr->Ob->List D->M (D×Ob)}{ds:List D}{r:D×Ob}(h:GG g a o ds=aa r):g a o ds=aa r:=xc h
def jd{m n:Nat}{τ:XS}{g:Addr->Ob->List D->M (D×Ob)}(h:∀a o ds d o',o.c=C->ds.length=m->g a o ds=aa (d,o')->τ.f (bx n a o ds) λx=>∃(ρ:bb) (i:Nat),ρ[i]? =some (some (Sl.ob a o'))/\(x= .rt (.fz d) ρ\/(d= .non/\x= .nx ρ))):fQ C m n τ (GG g):=λa o ds hc hl=>by
 have q:GG g a o ds=af\/∃d o',GG g a o ds=aa (d,o'):=by
  show noex (g a o ds)=af\/∃d o',noex (g a o ds)=aa (d,o');rcases(g a o ds).cs with e | ⟨k,e⟩ | ⟨⟨d,o'⟩,e⟩
  ·rw[e];exact .inl rfl
  ·rw[e];exact .inl rfl
  ·rw[e];exact .inr ⟨d,o',rfl⟩
 rcases q with q | ⟨d,o',q⟩
 ·rw[q];trivial
 ·rw[q];exact h a o ds d o' hc hl (L6 q)
end
section
variable{CK CG:Addr}
def t9:fQ CK 2 3 (iI CK CG) (cH CK CG):=jd λa o ds d o' hc hl h=>by
 unfold iI;obtain⟨c,fs⟩:=o;split at h
 ·rename_i b w e;cases e;obtain⟨_,h1,h⟩:=bX h;obtain⟨_,h2,h⟩:=bX h;cases el h;refine sq (eh (ρ':=bx 3 a ⟨c,[]⟩ [b,w]) (bL ((ak (m:=1) (δs:=aC (dV 1) aN) (ds:=[b]) rfl rfl).trans h1)) (c7 _) ?_);refine sq (eh (ρ':=bx 3 a ⟨c,[]⟩ [b,w]) (bL ((ak (m:=1) (δs:=aC (dV 2) aN) (ds:=[w]) rfl rfl).trans h2)) (c7 _) ?_);refine sq (mq (cE (o:=⟨c,[]⟩) rfl hc) (d:=w) rfl (show 0<100 by decide) ?_);exact rm (cE (o:=⟨c,[("ways", .fz w)]⟩) rfl hc) (ds:=[b]) rfl (show 1<100 by decide) (show 1<=lim by decide) ⟨_,0,rfl, .inr ⟨rfl,rfl⟩⟩
 ·exact(cw h).elim
def yC:fQ CG 2 3 (k_ CK CG) (eN CK CG):=jd λa o ds d o' hc hl h=>by
 unfold k_;obtain⟨c,fs⟩:=o;split at h
 ·rename_i b w e;cases e;obtain⟨_,h1,h⟩:=bX h;obtain⟨_,h2,h⟩:=bX h;cases el h;refine sq (eh (ρ':=bx 3 a ⟨c,[]⟩ [b,w]) (bL ((ak (m:=1) (δs:=aC (dV 1) aN) (ds:=[b]) rfl rfl).trans h1)) (c7 _) ?_);refine sq (eh (ρ':=bx 3 a ⟨c,[]⟩ [b,w]) (bL ((ak (m:=1) (δs:=aC (dV 2) aN) (ds:=[w]) rfl rfl).trans h2)) (c7 _) ?_);refine sq (mq (cE (o:=⟨c,[]⟩) rfl hc) (d:=w) rfl (show 0<100 by decide) ?_);refine sq (rm (cE (o:=⟨c,[("ways", .fz w)]⟩) rfl hc) (ds:=[b]) rfl (show 1<100 by decide) (show 1<=lim by decide) ?_);exact mq (cE (o:=⟨c,[("ways", .fz w),("stages", .ow [b])]⟩) rfl hc) (d:= .int 0) rfl (show 2<100 by decide) ⟨_,0,rfl, .inr ⟨rfl,rfl⟩⟩
 ·exact(cw h).elim
def qV:fQ CK 1 3 (gY CK CG) (aM CK CG):=jd λa o ds d o' hc hl h=>by
 unfold gY;split at h
 ·rename_i b l hb;split at h
  ·rename_i IH;obtain⟨m,h1,h⟩:=bX h;obtain⟨m2,h2,h⟩:=bX h;obtain⟨d',h3,h⟩:=bX h;cases el h;have h2:=xc h2;have h3:=xc h3;refine sq (eh (ρ':=[some (.ob a o),some (.fz b),some (.fz m)]) ((aT (i:=2) ((bA (δs:=aN) (cE (i:=0) (ρ:=bx 3 a o [b]) rfl hc) rfl rfl).trans h1)).trans rfl) (fc (bx 3 a o [b]) 2) ?_);refine sq (AW (cE rfl hc) hb (d:=b) rfl IH ?_);exact K_ (aO ((aK ((bA (cE (o:=bQ o "boards" (.ow (l++[b]))) (i:=0) rfl hc) rfl rfl).trans h2) rfl).trans h3)) ⟨_,0,rfl, .inl rfl⟩
  ·exact(cw h).elim
 ·exact(cw h).elim
def t_:fQ CK 2 3 (iJ CK CG) (b_ CK CG):=jd λa o ds d o' hc hl h=>by
 unfold iJ;split at h
 ·rename_i c l;obtain⟨hn,h⟩:=Gn h;obtain⟨b,h1,h⟩:=bX h;obtain⟨b2,h2,h3⟩:=bX h;refine xr (fN (cE (ρ:=bx 3 a o [c,l]) rfl hc) hn (ds:=[b2]) ?_ rfl h3 ⟨_,0,rfl, .inl rfl⟩);exact aD ((ak (ds:=[b,c,l]) (aD ((bA (cE (i:=0) (ρ:=bx 3 a o [c,l]) rfl hc) rfl rfl).trans h1) rfl) rfl).trans h2) rfl
 ·exact(cw h).elim
def qW:fQ CK 2 3 (gZ CK CG) (bU CK CG):=jd λa o ds d o' hc hl h=>by
 unfold gZ;split at h
 ·rename_i c l w hw;obtain⟨hn,h⟩:=Gn h;obtain⟨b,h1,h⟩:=bX h;obtain⟨b2,h2,h3⟩:=bX h;refine xr (fN (cE (ρ:=bx 3 a o [c,l]) rfl hc) hn (ds:=[b2]) ?_ rfl h3 ⟨_,0,rfl, .inl rfl⟩);exact aD ((ak (ds:=[b,c,w,l]) (aD ((bA (cE (i:=0) (ρ:=bx 3 a o [c,l]) rfl hc) rfl rfl).trans h1) (aD rfl (aD (jW (cE (i:=0) (ρ:=bx 3 a o [c,l]) rfl hc) hw) rfl))) rfl).trans h2) rfl
 ·exact(cw h).elim
def ua:fQ CK 1 2 (iL CK CG) (cb CK CG):=jd λa o ds d o' hc hl h=>by
 unfold iL;split at h
 ·rename_i k w hw;obtain⟨hn,h⟩:=Gn h;obtain⟨b,h1,h⟩:=bX h;obtain⟨b2,h2,h3⟩:=bX h;refine xr (fN (cE (ρ:=bx 2 a o [k]) rfl hc) hn (ds:=[b2]) ?_ rfl h3 ⟨_,0,rfl, .inl rfl⟩);exact aD ((ak (ds:=[b,w,k]) (aD ((bA (cE (i:=0) (ρ:=bx 2 a o [k]) rfl hc) rfl rfl).trans h1) (aD (jW (cE (i:=0) (ρ:=bx 2 a o [k]) rfl hc) hw) rfl)) rfl).trans h2) rfl
 ·exact(cw h).elim
def ub:fQ CK 0 1 (iM CK CG) (cI CK CG):=jd λa o ds d o' hc hl h=>by
 unfold iM;split at h
 ·rename_i l hb;split at h
  ·rename_i h1;cases el h;have ht:da (d2 jZ (uX CK 0 "boards" λds=>aa (.int ds.length)) (dC (.int 1))) (bx 1 a o [])=aa false:=by
    have e:uX CK 0 "boards" (λds=>aa (.int ds.length)) (bx 1 a o [])=aa (.int l.length):=by
     unfold uX;rw[cE (i:=0) (ρ:=bx 1 a o []) rfl hc];show (match o.fs.lookup ("boards":Str) with | some (.ow ds)=>aa (D.int ds.length) | _=>af)=_;rw[hb]
    refine ja ((aK e rfl).trans ?_);unfold jZ;rw[wH];show aa (D.bl ((l.length:Int)==1))=_;rw[show ((l.length:Int)==1)=false by rw[acG];omega]
   refine sq (eh (ρ':=bx 1 a o []) (d8 (b:=dQ) ht rfl) (c7 _) ?_);exact AX (cE (i:=0) (ρ:=bx 1 a o []) rfl hc) hb (by omega) ⟨_,0,rfl, .inr ⟨rfl,rfl⟩⟩
  ·exact(cw h).elim
 ·exact(cw h).elim
end
end K1
namespace K1
open PySem L2 L3
def Ld(w:Nat):List Cell->Bool
 |a::b::r=>g6 w a b&&Ld w (b::r)
 |_=>true
def qU:L2.atI (l++[x]) (-1)=some x:=by
 unfold L2.atI Gg;rw[acA (by decide)];have: -((l++[x]).length:Int)<= -1:=by simp;omega
 rw[acz this];have e:((-1:Int)+((l++[x]).length:Int)).toNat=l.length:=by simp;omega
 show (l++[x])[((-1:Int)+((l++[x]).length:Int)).toNat]? =some x;rw[e];simp
def OB:eC (cL (l++[x])) (.int (-1))=aa (cD x):=by
 show (match L2.atI ((l++[x]).map cD) (-1) with | some d=>aa d | none=>af)=_;rw[W4,show [x].map cD=[cD x] from rfl,qU]
def LR{i:Nat}(h:l[i]? =some x):eC (cL l) (.int (i:Int))=aa (cD x):=by
 show (match L2.atI (l.map cD) (i:Int) with | some d=>aa d | none=>af)=_;rw[eU (by rw[Wb,h];rfl)]
abbrev wr(bd w a b k t:D):bb:=[fz bd,fz w,fz a,fz b,fz k,fz t]
def jg(enc:α->D)(g:α->D):∀(xs:List α),(∀x∈xs,f (enc x)=aa (some (g x)))->dU f (xs.map enc)=aa (xs.map g)
 |[],_=>rfl
 |x::xs,h=>by
  rw[Wg,fG,h x (V6 ..),aq,jg enc g xs λy hy=>h y (V3 _ hy)];rfl
def Vj(h:ρ[i]? =some (fz (.lst ds))):fC (dV i) ρ=aa ds:=by
 unfold fC;rw[wF h];rfl
def Dd:∀(p:List Cell) (c:Cell),(WL 1 (p.length - 1)).all (λi=>g6 w (p.getD (i - 1) c) (p.getD i c))=Ld w p
 |[],_=>rfl
 |[_],_=>rfl
 |a::b::r,c=>by
  have ih:=Dd (w:=w) (b::r) c;unfold Ld;rw[<-ih];show (WL 1 (r.length+1)).all _=(_&&(WL 1 r.length).all _)
  rw[YB,YO];congr 1;rw[show WL (1+1) r.length=(WL 1 r.length).map (1+ ·) from(List.map_add_range' 1 r.length 1).symm,YI];refine Ze.mpr ?_;simp only[WT,acy,aaJ];constructor
  ·intro h i hi;have:=h i hi;rw[show 1+i - 1=(i - 1)+1 by omega,Nat.add_comm 1 i] at this;exact this
  ·intro h i hi;have:=h i hi;rw[show 1+i - 1=(i - 1)+1 by omega,Nat.add_comm 1 i];exact this
def bW(ks:List Cell)(c:Cell):List Cell:=if c∈ks then ks else ks++[c]
def bZ(l:List Cell):List Cell:=l.foldl bW []
def aU(ks:List Cell):List D:=ks.map λ_=> .bl true
def gE:x∈bW ks c↔x∈ks\/x=c:=by
 unfold bW;split
 ·rename_i h;exact⟨.inl,λq=>q.elim id λe=>by rw[e];exact h⟩
 ·simp
def m6:∀(l ks:List Cell),(ks.Nodup->(l.foldl bW ks).Nodup)/\(∀x,x∈l.foldl bW ks↔x∈ks\/x∈l)/\(l.foldl bW ks).length<=ks.length+l.length
 |[],ks=>⟨id,λx=>by simp,by simp⟩
 |c::l,ks=>by
  obtain⟨h1,h2,h3⟩:=m6 l (bW ks c);refine⟨λhn=>h1 ?_,λx=>?_,?_⟩
  ·unfold bW;split
   ·exact hn
   ·rename_i hc;refine W_.mpr ⟨hn,by simp,λy hy z hz e=>?_⟩;have hz:z=c:=by simpa using hz
    rw[e,hz] at hy;exact hc hy
  ·rw[aaH,h2 x,gE];simp[or_assoc]
  ·rw[aaH,V7];have:(bW ks c).length<=ks.length+1:=by unfold bW;split<;>simp
   omega
def iV:x∈bZ l↔x∈l:=by
 unfold bZ;rw[(m6 l []).2.1 x];simp
def GA(l:List Cell):(bZ l).Nodup:=(m6 l []).1 Yw
def DZ(l:List Cell):(bZ l).length<=l.length:=by have:=(m6 l []).2.2;simpa[bZ] using this
def vX:∀{ks:List (List Key)}{l:List Cell},ks.length=l.length->oW ks (aU l) k (.bl true)=aU l
 |[],[],_=>rfl
 |k'::ks,c::l,h=>by
  show (if k'=k then D.bl true else D.bl true)::oW ks (aU l) k (.bl true)=_;rw[vX (by simpa using h)];split<;>rfl
 |[],_::_,h=>by simp at h
 |_::_,[],h=>by simp at h
def zR(hl:ks.length<lim):nV (.dct (ks.map keyOf) (aU ks)) (cD c) (.bl true)=some (.dct ((bW ks c).map keyOf) (aU (bW ks c))):=by
 have P3:(aU ks).length=ks.length:=by simp[aU]
 unfold bW;by_cases h:c∈ks
 ·rw[acz h];show (match lD (cD c) with | some kk=>if (aU ks).length<lim then some (C.dct (dR (ks.map keyOf) (aU ks) kk) (cT (ks.map keyOf) (aU ks) kk (.bl true))) else none | none=>none)=_;rw[jk];show (if (aU ks).length<lim then some (C.dct (dR (ks.map keyOf) (aU ks) (keyOf c)) (cT (ks.map keyOf) (aU ks) (keyOf c) (.bl true))) else none)=_;rw[acz (by rw[P3];exact hl)];obtain⟨d,e,_⟩:=o6 P3.symm h;unfold dR cT;rw[e];show some (C.dct (ks.map keyOf) (oW (ks.map keyOf) (aU ks) (keyOf c) (.bl true)))=_;rw[vX (by simp)]
 ·rw[acA h,zS h (by rw[P3];exact hl)];simp[aU]
abbrev wZ(l:List Cell):D:= .dct ((bZ l).map keyOf) (aU (bZ l))
def vk(hl:l.length<4000):g_ [cL l]=aa (wZ l):=by
 have e:∀(xs ks:List Cell),ks.length+xs.length<4000->forL (putN 2) (eF [2] (kK 1 (dV 2) (dC (.bl true)))) (xs.map cD) [fz (cL l),some (.ow (.dct (ks.map keyOf) (aU ks))),none]=aa (.nx [fz (cL l),some (.ow (.dct ((xs.foldl bW ks).map keyOf) (aU (xs.foldl bW ks)))),none]):=by
  intro xs;induction xs with
  |nil=>intro ks _;rfl
  |cons x xs ih=>
   intro ks hk;rw[V7] at hk;have hle:(bW ks x).length<=ks.length+1:=by unfold bW;split<;>simp
   refine(dh rfl ?_).trans (ih (bW ks x) (by omega));refine(bR (ρ':=[fz (cL l),some (.ow (.dct ((bW ks x).map keyOf) (aU (bW ks x)))),fz (cD x)]) ?_).trans rfl;show (match nV (.dct (ks.map keyOf) (aU ks)) (cD x) (.bl true) with | some c'=>aa (Out.nx [fz (cL l),some (.ow c'),fz (cD x)]) | none=>af)=_;rw[zR (by rw[dP];omega)]
 refine bf (ay rfl (ay (fb (ij rfl (e l [] (by simpa using hl)))) rfl))
def DX{ks:List Cell}:lJ (.dct (ks.map keyOf) ds)=aa (ks.map cD):=by
 show (if (ks.map keyOf).all (λk=>decide (k.length<=lim)&&k.all lW) then aa ((ks.map keyOf).map tupK) else af)=_;have:(ks.map keyOf).all (λk=>decide (k.length<=lim)&&k.all lW)=true:=by
  simp only[WT,Wn];rintro k ⟨c,_,rfl⟩;rfl
 rw[acz this,WY];rfl
def Gm(l:List Cell):bc [cL l]=aa (.int (l.length:Int)):=by
 show aa (D.int ((l.map cD).length:Int))=_;rw[V4]
def Iv(ks:List Cell)(f:Cell->D):C:= .dct (ks.map keyOf) (ks.map f)
def DB(ks:List Cell)(f:Cell->D):D:= .dct (ks.map keyOf) (ks.map f)
def gu(f:Cell->D)(x:Cell)(d:D):Cell->D:=λy=>if y=x then d else f y
def n8:∀{ks:List Cell},x∈ks->f6 (ks.map keyOf) (ks.map f) (keyOf x)=some (f x)
 |y::ks,h=>by
  show (if keyOf y=keyOf x then some (f y) else f6 (ks.map keyOf) (ks.map f) (keyOf x))=_;by_cases e:y=x
  ·subst e;rw[acz rfl]
  ·rw[acA (λz=>e (lg z))];rcases Wc.mp h with q | q
   ·exact acC q.symm e
   ·exact n8 q
def Gf(h:x∈ks):rn (DB ks f) (cD x)=aa (f x):=by
 show (match ((lD (cD x)).map λk=>f6 (ks.map keyOf) (ks.map f) k) with | some (some v)=>aa v | _=>af)=_;rw[jk];show (match some (f6 (ks.map keyOf) (ks.map f) (keyOf x)) with | some (some v)=>aa v | _=>af)=_;rw[n8 h]
def IA(h:x∈ks):getM (DB ks f) (cD x) v=aa (f x):=by
 show (match ((lD (cD x)).map λk=>f6 (ks.map keyOf) (ks.map f) k) with | some (some x)=>aa x | some none=>aa v | none=>af)=_;rw[jk];show (match some (f6 (ks.map keyOf) (ks.map f) (keyOf x)) with | some (some x)=>aa x | some none=>aa v | none=>af)=_;rw[n8 h]
def FJ(h:x∉ks):getM (DB ks f) (cD x) v=aa v:=by
 show (match ((lD (cD x)).map λk=>f6 (ks.map keyOf) (ks.map f) k) with | some (some x)=>aa x | some none=>aa v | none=>af)=_;rw[jk];show (match some (f6 (ks.map keyOf) (ks.map f) (keyOf x)) with | some (some x)=>aa x | some none=>aa v | none=>af)=_;rw[gB h]
def xW:∀{ks:List Cell},oW (ks.map keyOf) (ks.map f) (keyOf x) d=ks.map (gu f x d)
 |[]=>rfl
 |y::ks=>by
  show (if keyOf y=keyOf x then d else f y)::oW (ks.map keyOf) (ks.map f) (keyOf x) d=_;rw[xW,Wg];congr 1;unfold gu;by_cases e:y=x
  ·subst e;rw[acz rfl,acz rfl]
  ·rw[acA (λz=>e (lg z)),acA e]
def JV(hl:ks.length<lim):nV (Iv ks f) (cD x) d=some (Iv (bW ks x) (gu f x d)):=by
 show (match lD (cD x) with | some kk=>if (ks.map f).length<lim then some (C.dct (dR (ks.map keyOf) (ks.map f) kk) (cT (ks.map keyOf) (ks.map f) kk d)) else none | none=>none)=_;rw[jk];show (if (ks.map f).length<lim then some (C.dct (dR (ks.map keyOf) (ks.map f) (keyOf x)) (cT (ks.map keyOf) (ks.map f) (keyOf x) d)) else none)=_;rw[acz (by rw[V4];exact hl)];unfold Iv bW dR cT;by_cases h:x∈ks
 ·rw[n8 h,acz h];show some (C.dct (ks.map keyOf) (oW (ks.map keyOf) (ks.map f) (keyOf x) d))=_;rw[xW]
 ·rw[gB h,acA h];show some (C.dct (ks.map keyOf++[keyOf x]) (ks.map f++[d]))=_;have e1:ks.map f=ks.map (gu f x d):=Zb λy hy=>by
   unfold gu;rw[acA (λz:y=x=>h (z▸hy))]
  have e2:(ks++[x]).map (gu f x d)=ks.map (gu f x d)++[d]:=by
   rw[W4];congr 1;show [gu f x d x]=[d]
   unfold gu;rw[acz rfl]
  rw[W4,e1,e2];rfl
def CS(h0:ρ[i]? =some (some (.ow (Iv ks f))))(hv:δv ρ=aa d)(hk:δk ρ=aa (cD x))(hl:ks.length<lim):
 kK i δk δv ρ=aa (.nx (ρ.set i (some (.ow (Iv (bW ks x) (gu f x d)))))):=by
 unfold kK Bz;rw[h0];show (δv ρ>>=λv=>δk ρ>>=λk=>match nV (Iv ks f) k v with | some c'=>aa (Out.nx (ρ.set i (some (.ow c')))) | none=>af)=_;rw[hv,aq,hk,aq,JV hl]
def rank(W:Nat)(x:Cell):Nat:=x.1*W+x.2
def iQ(ha:On R W a)(hb:On R W b):Fi a b=true↔rank W a<rank W b:=by
 unfold Fi rank;have h1:=ha.2;have h2:=hb.2;by_cases h:a.1=b.1
 ·rw[acz h,acE,h];omega
 ·rw[acA h,acE];constructor
  ·intro q;have:(a.1+1)*W<=b.1*W:=ab2 _ q;rw[Nat.add_mul,Nat.one_mul] at this;omega
  ·intro q;refine Za λz=>?_;have:(b.1+1)*W<=a.1*W:=ab2 _ (by omega);rw[Nat.add_mul,Nat.one_mul] at this;omega
def zV(ha:On R W a)(hb:On R W b)(h:rank W a=rank W b):a=b:=by
 have n1:¬Fi a b=true:=λz=>by have:=(iQ ha hb).mp z;omega
 have n2:¬Fi b a=true:=λz=>by have:=(iQ hb ha).mp z;omega
 unfold Fi at n1 n2;obtain⟨a1,a2⟩:=a;obtain⟨b1,b2⟩:=b;simp only at n1 n2;by_cases h1:a1=b1
 ·rw[acz h1,acE] at n1;rw[acz h1.symm,acE] at n2;rw[Prod.mk.injEq];exact⟨h1,by omega⟩
 ·rw[acA h1,acE] at n1;rw[acA (XR h1),acE] at n2;omega
section
variable{W:Nat}
def mu(R W:Nat)(L:Cell->Cell):Nat:=((bo R W).map λx=>rank W (L x)).sum
end
def RF(h:δ ρ=aa (cL l)):fC δ ρ=aa (l.map cD):=by
 show (δ ρ>>=lstM)=_;rw[h];rfl
def jU(R W:Nat):RiseC (bo R W):=by
 unfold RiseC bo dN;rw[List.pairwise_flatMap];constructor
 ·intro r _;rw[Zt];exact List.pairwise_lt_range.imp λh=>by show (if _ then _ else _)=true;rw[acz rfl,acE];exact h
 ·refine List.pairwise_lt_range.imp λ{a b} h x hx y hy=>?_;obtain⟨i,_,rfl⟩:=Wn.mp hx;obtain⟨j,_,rfl⟩:=Wn.mp hy;show (if a=b then _ else decide (a<b))=true;rw[acA (by omega),acE];exact h
section
variable{bd:List Str}{W w:Nat}
def Least(bd:List Str)(W w:Nat)(x m:Cell):Prop:=Cn bd W w x m/\∀z,Cn bd W w x z->rank W m<=rank W z
end
def NO:((bo 8 8).map λc=>hJ (ic c)).Nodup:=by decide+kernel
def vB:∀{l:List α},(l.map f).Nodup->∀a∈l,∀b∈l,f a=f b->a=b
 |x::l,h,a,ha,b,hb,e=>by
  rw[Wg,WV] at h;by_cases h1:a=x
  ·by_cases h2:b=x
   ·rw[h1,h2]
   ·have hb:b∈l:=(Wc.mp hb).resolve_left h2;exact acC (Wn.mpr ⟨b,hb,by rw[<-h1];exact e.symm⟩) h.1
  ·have ha:a∈l:=(Wc.mp ha).resolve_left h1;by_cases h2:b=x
   ·exact acC (Wn.mpr ⟨a,ha,by rw[<-h2];exact e⟩) h.1
   ·exact vB h.2 a ha b ((Wc.mp hb).resolve_left h2) e
def IC(hR:R<=8)(hW:W<=8){l:List Cell}(hn:l.Nodup)(uo:∀x∈l,On R W x):(l.map λc=>hJ (ic c)).Nodup:=by
 have h8:∀x∈l,x∈bo 8 8:=λx hx=>a8.mpr ⟨by have:=(uo x hx).1;omega,by have:=(uo x hx).2;omega⟩;rw[X3,Zt];refine List.Pairwise.imp_of_mem (λ{a b} ha hb h z=>h ?_) hn;exact vB NO a (h8 a ha) b (h8 b hb) z
def Mw{ks:List Cell}{f:Cell->D}{x:Cell}{d:D}:dR (ks.map keyOf) (ks.map f) (keyOf x)=(bW ks x).map keyOf/\cT (ks.map keyOf) (ks.map f) (keyOf x) d=(bW ks x).map (gu f x d):=by
 unfold bW dR cT;by_cases h:x∈ks
 ·rw[n8 h,acz h];exact⟨rfl,xW⟩
 ·rw[gB h,acA h];have e1:ks.map f=ks.map (gu f x d):=Zb λy hy=>by
   unfold gu;rw[acA (λz:y=x=>h (z▸hy))]
  have e2:(ks++[x]).map (gu f x d)=ks.map (gu f x d)++[d]:=by
   rw[W4];congr 1;show [gu f x d x]=[d]
   unfold gu;rw[acz rfl]
  exact⟨by rw[W4];rfl,by rw[e2,<-e1];rfl⟩
def rT:∀(l ks:List Cell),cX (ks.map keyOf) (aU ks) (l.map keyOf) (aU l)=((l.foldl bW ks).map keyOf,aU (l.foldl bW ks))
 |[],ks=>rfl
 |x::l,ks=>by
  show cX (dR (ks.map keyOf) (aU ks) (keyOf x)) (cT (ks.map keyOf) (aU ks) (keyOf x) (.bl true)) (l.map keyOf) (aU l)=_;have h:=Mw (ks:=ks) (f:=λ_=>D.bl true) (x:=x) (d:= .bl true);have e:gu (λ_=>D.bl true) x (.bl true)=λ_=>D.bl true:=by
   funext y;unfold gu;split<;>rfl
  rw[e] at h;rw[show aU ks=ks.map (λ_=>D.bl true) from rfl,h.1,h.2];exact rT l (bW ks x)
def FA{l ks:List Cell}(h:ks.Nodup):(l.foldl bW ks).Nodup:=(m6 l ks).1 h
section
open Classical
variable{bd:List Str}{W w:Nat}
noncomputable def bp(bd:List Str)(W w:Nat)(m:Cell):List Cell:=(bo bd.length W).filter λx=>decide (Cn bd W w m x)
noncomputable def cK(bd:List Str)(W w:Nat)(l:List Cell):List Cell:=l.filter λx=>decide (Least bd W w x x)
def cg(hw:Ways w){m:Cell}(hm:On bd.length W m):IsPatch bd W w m (bp bd W w m):=by
 refine⟨(jU _ _).filter _,λx=>?_⟩;unfold bp;rw[Xz,a8,acE];exact⟨λh=>h.2,λh=>⟨h.on hw hm,h⟩⟩
def Least.on(hw:Ways w){x m:Cell}(hx:On bd.length W x)(h:Least bd W w x m):On bd.length W m:=h.1.on hw hx
def Least.move(hw:Ways w){x y m:Cell}(hx:On bd.length W x)(h:Least bd W w x m)(hy:Cn bd W w x y):Least bd W w y m:=
 ⟨(hy.symm hw hx).trans h.1,λz hz=>h.2 z (hy.trans hz)⟩
def Least.one(hw:Ways w){x m n:Cell}(hx:On bd.length W x)(h:Least bd W w x m)(h2:Least bd W w x n):m=n:=
 zV (h.on hw hx) (h2.on hw hx) (aaX (h.2 n h2.1) (h2.2 m h.1))
def Least.self(hw:Ways w){x m:Cell}(hx:On bd.length W x)(h:Least bd W w x m):Least bd W w m m:=h.move hw hx h.1
variable(L:Cell->Cell)
def vn(hw:Ways w):∃L:Cell->Cell,∀x,On bd.length W x->Least bd W w x (L x):=by
 have h:∀x,∃m,On bd.length W x->Least bd W w x m:=λx=>by
  by_cases hx:On bd.length W x
  ·have hP:=cg hw hx;cases hp:bp bd W w x with
   |nil=>have:=(hP.mem x).mpr Cn.refl;rw[hp] at this;cases this
   |cons m r=>
    rw[hp] at hP;have hm:=(hP.mem m).mp (V6 ..);refine⟨m,λ_=>⟨hm,λz hz=>?_⟩⟩;rcases Wc.mp ((hP.mem z).mpr hz) with rfl | Vd
    ·exact Wj _
    ·exact X8 ((iQ (hm.on hw hx) (hz.on hw hx)).mp ((Xn.mp hP.rise).1 z Vd))
  ·exact⟨x,λz=>acC z hx⟩
 exact⟨λx=>Classical.choose (h x),λx=>Classical.choose_spec (h x)⟩
noncomputable def sM(bd:List Str)(W w:Nat):D:= .lst ((cK bd W w (bo bd.length W)).map λm=>cL (bp bd W w m))
end
section
open Classical
variable{bd:List Str}{W w:Nat}
noncomputable def De(bd:List Str)(W w:Nat)(s:List Cell):List D:=(cK bd W w s).map λm=>cL (bp bd W w m)
noncomputable def Lf(bd:List Str)(W w:Nat)(s ks:List Cell)(x4 x5:Option Sl):bb:=[fz (brd bd),fz (iW w),some (.ow (.lst (De bd W w s))),some (.ow (.dct (ks.map keyOf) (aU ks))),x4,x5]
structure Seen (bd:List Str) (W w:Nat) (s ks:List Cell):Prop where
 nd:ks.Nodup
 on:∀y∈ks,On bd.length W y
 mem:∀y,y∈ks↔∃m∈cK bd W w s,Cn bd W w m y
def HU(h0:ρ[i]? =some (some (.ow (.dct (ks.map keyOf) (aU ks)))))(hd:δ ρ=aa (wZ l))(hz:ks.length+l.length<=4096)(hh:ks=[]->((bZ l).map λc=>hJ (ic c)).Nodup):
 Hw i δ ρ=aa (.nx (ρ.set i (some (.ow (.dct (((bZ l).foldl bW ks).map keyOf) (aU ((bZ l).foldl bW ks))))))):=by
 unfold Hw Bz;rw[h0];show (δ ρ>>=λd=>match HS (ks.map keyOf) (aU ks) d with | some c'=>aa (Out.nx (ρ.set i (some (.ow c')))) | none=>af)=_;rw[hd,aq];have:HS (ks.map keyOf) (aU ks) (wZ l)=some (.dct (((bZ l).foldl bW ks).map keyOf) (aU ((bZ l).foldl bW ks))):=by
  show (match gL ((bZ l).map keyOf) with | some ns=>if (aU ks).length+(aU (bZ l)).length<=lim/\((ks.map keyOf).isEmpty=true->(ns.map hJ).Nodup) then some (C.dct (cX (ks.map keyOf) (aU ks) ((bZ l).map keyOf) (aU (bZ l))).1 (cX (ks.map keyOf) (aU ks) ((bZ l).map keyOf) (aU (bZ l))).2) else none | none=>none)=_;rw[oA];show (if (aU ks).length+(aU (bZ l)).length<=lim/\((ks.map keyOf).isEmpty=true->(((bZ l).map ic).map hJ).Nodup) then some (C.dct (cX (ks.map keyOf) (aU ks) ((bZ l).map keyOf) (aU (bZ l))).1 (cX (ks.map keyOf) (aU ks) ((bZ l).map keyOf) (aU (bZ l))).2) else none)=_;have c1:(aU ks).length+(aU (bZ l)).length<=lim:=by
   have:=DZ l;unfold aU;rw[V4,V4,dP];omega
  have c2:(ks.map keyOf).isEmpty=true->(((bZ l).map ic).map hJ).Nodup:=λz=>by
   rw[WY];exact hh (by cases ks with | nil=>rfl | cons _ _=>cases z)
  rw[acz ⟨c1,c2⟩,rT]
 rw[this]
def z_(hg:Brd bd W)(hs:bd.length*W<64)(hw:Ways w)(hx:On bd.length W x)(h0:dV 0 ρ=aa (brd bd))(h1:dV 1 ρ=aa (iW w))(h4:dV 4 ρ=aa (cD x)):
 dA Aa (aC (au 3 b7 (aC (dV 0) (aC (dV 4) (aC (dV 1) aN)))) aN) ρ=aa (cL (bp bd W w x)):=by
 obtain⟨k,ks,ps,q1,q2,q3⟩:=k7 hg hw hx;have e1:au 3 b7 (aC (dV 0) (aC (dV 4) (aC (dV 1) aN))) ρ=aa (iO ks ps):=(ak (aD h0 (aD h4 (aD h1 rfl))) rfl).trans q3;refine(bY (aD e1 rfl)).trans ((HC q1.nd (Zj (mU q1.nd q2) hs)).trans ?_);have:tI ks=bp bd W w x:=IsPatch.one ⟨BV q1.nd,λx=>D5.trans (q1.last x)⟩ (cg hw hx);rw[this]
def jo(s:List Cell)(x:Cell):cK bd W w (s++[x])=if Least bd W w x x then cK bd W w s++[x] else cK bd W w s:=by
 unfold cK;rw[List.filter_append];by_cases h:Least bd W w x x
 ·rw[acz h,List.filter_cons_of_pos (by rw[acE];exact h),List.filter_nil]
 ·rw[acA h,List.filter_cons_of_neg (by rw[acE];exact h),List.filter_nil,W5]
def Ij(hg:Brd bd W)(hs:bd.length*W<64)(hw:Ways w){L:Cell->Cell}(hL:∀x,On bd.length W x->Least bd W w x (L x))(e:s++x::r=bo bd.length W)(h:Seen bd W w s ks):
 ∃ks',Seen bd W w (s++[x]) ks'/\QB (Lf bd W w s ks (fz (cD x)) none)=aa (.nx (Lf bd W w (s++[x]) ks' none none)):=by
 have hx:On bd.length W x:=a8.mp (by rw[<-e];simp);have FX:=jU bd.length W;rw[<-e] at FX;have P5:∀y∈s,On bd.length W y:=λy hy=>a8.mp (by rw[<-e];simp[hy]);have Rq:∀y∈r,On bd.length W y:=λy hy=>a8.mp (by rw[<-e];simp[hy]);have ID:∀y∈s,rank W y<rank W x:=λy hy=>(iQ (P5 y hy) hx).mp ((abT.mp FX).2.2 y hy x (V6 ..));have Lz:∀y∈r,rank W x<rank W y:=λy hy=>(iQ hx (Rq y hy)).mp ((Xn.mp (abT.mp FX).2.1).1 y hy);have N3:ks.length<=64:=by have:=mU h.nd h.on;omega
 have KO:s.length<64:=by
  have:=acH List.length e;rw[cW,Wh,V7] at this;omega
 have ht:M_ (da (d2 (mr true) (dV 4) (dV 3))) (Lf bd W w s ks (fz (cD x)) none)=aa (!decide (x∈ks)):=
  K9 (ja ((aK rfl rfl).trans (wV (by simp[aU]))))
 by_cases hl:Least bd W w x x
 ·have Rz:x∉ks:=λz=>by
   obtain⟨m,hm,hc⟩:=(h.mem x).mp z;unfold cK at hm;rw[Xz,acE] at hm;have h1:=ID m hm.1;have h2:=hl.2 m (hc.symm hw (P5 m hm.1));omega
  rw[acD Rz] at ht;have hP:=cg hw hx;have Lw:∀y∈bp bd W w x,On bd.length W y:=λy hy=>((hP.mem y).mp hy).on hw hx;have NL:(bp bd W w x).length<=64:=by have:=mU hP.rise.nodup Lw;omega
  have PV:(De bd W w s).length<lim:=by
   unfold De;rw[V4,dP];have:=XZ (λx=>decide (Least bd W w x x)) s;unfold cK;omega
  refine⟨(bZ (bp bd W w x)).foldl bW ks,⟨FA h.nd,λy hy=>?_,λy=>?_⟩,?_⟩
  ·rcases((m6 (bZ (bp bd W w x)) ks).2.1 y).mp hy with q | q
   ·exact h.on y q
   ·exact Lw y (iV.mp q)
  ·rw[(m6 (bZ (bp bd W w x)) ks).2.1 y,iV,h.mem y,jo,acz hl,hP.mem y];constructor
   ·rintro(⟨m,hm,hc⟩ | hc)
    ·exact⟨m,W3.mpr (.inl hm),hc⟩
    ·exact⟨x,by simp,hc⟩
   ·rintro⟨m,hm,hc⟩;rcases W3.mp hm with hm | hm
    ·exact .inl ⟨m,hm,hc⟩
    ·rw[Wo.mp hm] at hc;exact .inr hc
  ·have ef:De bd W w (s++[x])=De bd W w s++[cL (bp bd W w x)]:=by
    unfold De;rw[jo,acz hl,W4];rfl
   refine(bR (ρ':=[fz (brd bd),fz (iW w),some (.ow (.lst (De bd W w s++[cL (bp bd W w x)]))),some (.ow (.dct (((bZ (bp bd W w x)).foldl bW ks).map keyOf) (aU ((bZ (bp bd W w x)).foldl bW ks)))),fz (cD x),fz (cL (bp bd W w x))]) (fY ht (ay ((aT (z_ hg hs hw hx rfl rfl rfl)).trans rfl) (ay (ρ':=[fz (brd bd),fz (iW w),some (.ow (.lst (De bd W w s++[cL (bp bd W w x)]))),some (.ow (.dct (ks.map keyOf) (aU ks))),fz (cD x),fz (cL (bp bd W w x))]) ?_ ?_)))).trans ?_
   ·show (if (De bd W w s).length<lim then aa (Out.nx [fz (brd bd),fz (iW w),some (.ow (.lst (De bd W w s++[cL (bp bd W w x)]))),some (.ow (.dct (ks.map keyOf) (aU ks))),fz (cD x),fz (cL (bp bd W w x))]) else af)=_;rw[acz PV]
   ·exact(HU rfl ((ak rfl rfl).trans (vk (by omega))) (by omega) (λ_=>IC hg.r8 hg.w8 (GA _) λy hy=>Lw y (iV.mp hy))).trans rfl
   ·unfold Lf;rw[ef];rfl
 ·have hm:=hL x hx;have gk:L x≠x:=λz=>hl (by rw[z] at hm;exact hm);have f_:rank W (L x)<rank W x:=by
   have h1:=hm.2 x Cn.refl;have h2:rank W (L x)≠rank W x:=λz=>gk (zV (hm.on hw hx) hx z);omega
  have UN:L x∈s:=by
   have:L x∈s++x::r:=by rw[e];exact a8.mpr (hm.on hw hx)
   rcases W3.mp this with q | q
   ·exact q
   ·rcases Wc.mp q with q | q
    ·exact acC q gk
    ·have:=Lz _ q;omega
  have Rz:x∈ks:=(h.mem x).mpr ⟨L x,by unfold cK;rw[Xz,acE];exact⟨UN,hm.self hw hx⟩,hm.1.symm hw hx⟩;rw[acB Rz] at ht;refine⟨ks,⟨h.nd,h.on,λy=>by rw[jo,acA hl];exact h.mem y⟩,?_⟩;have ef:De bd W w (s++[x])=De bd W w s:=by
   unfold De;rw[jo,acA hl]
  refine(bR (d8 ht rfl)).trans ?_;unfold Lf;rw[ef];rfl
def B9(hg:Brd bd W)(hs:bd.length*W<64)(hw:Ways w){L:Cell->Cell}(hL:∀x,On bd.length W x->Least bd W w x (L x)):∀(r s ks:List Cell),s++r=bo bd.length W->Seen bd W w s ks->
 ∃ks',forL (putN 4) QB (r.map cD) (Lf bd W w s ks none none)=aa (.nx (Lf bd W w (bo bd.length W) ks' none none))
 |[],s,ks,e,h=>by
  rw[W5] at e;exact⟨ks,by rw[e];rfl⟩
 |x::r,s,ks,e,h=>by
  obtain⟨RI,h1,e1⟩:=Ij hg hs hw hL e h;obtain⟨RJ,e2⟩:=B9 hg hs hw hL r (s++[x]) RI (by rw[Zu];exact e) h1;exact⟨RJ,(dh rfl e1).trans e2⟩
def ei(hg:Brd bd W)(hs:bd.length*W<64)(hw:Ways w):a9 [brd bd,iW w]=aa (sM bd W w):=by
 obtain⟨L,hL⟩:=vn hw;obtain⟨ks,e⟩:=B9 hg hs hw hL (bo bd.length W) [] [] rfl ⟨Yw,(λy hy=>(by cases hy)),(λy=>⟨λz=>(by cases z),λ⟨m,hm,_⟩=>(by cases hm)⟩)⟩;refine bf (ay rfl (ay rfl (ay (fb (ij (RF ((ak rfl rfl).trans (lF hg))) e)) rfl)))
end
structure NumOk (R W:Nat) (Ps:List (List Cell)) (ks:List Cell) (f:Cell->Nat):Prop where
 nd:ks.Nodup
 on:∀y∈ks,On R W y
 num:∀y∈ks,∃P,Ps[f y]? =some P/\y∈P
def Tu:DS:=eF [4] (kK 1 (dV 4) (dV 2))
def Qd(Ps:List (List Cell))(ks:List Cell)(f:Cell->Nat)(x2 x3 x4:Option Sl):bb:=[fz (.lst (Ps.map cL)),some (.ow (Iv ks λy=> .int (f y:Int))),x2,x3,x4]
def uO:x∈bW ks x:=gE.mpr (.inr rfl)
def KZ(hm:R*W<=64){i:Nat}(hP:Ps[i]? =some P)(uo:∀y∈P,On R W y):∀(l ks:List Cell) (f:Cell->Nat),(∀y∈l,y∈P)->NumOk R W Ps ks f->
 ∃ks' f',NumOk R W Ps ks' f'/\(∀y∈ks,y∈ks')/\(∀y∈l,y∈ks')/\forL (putN 4) Tu (l.map cD) (Qd Ps ks f (fz (.int (i:Int))) x3 none)=aa (.nx (Qd Ps ks' f' (fz (.int (i:Int))) x3 none))
 |[],ks,f,_,h=>⟨ks,f,h,λy hy=>hy,(λy hy=>(by cases hy)),rfl⟩
 |x::l,ks,f,hl,h=>by
  have hx:=hl x (V6 ..);have N3:ks.length<=64:=by
   have h1:=iX h.nd λy hy=>a8.mpr (h.on y hy);rw[cW] at h1;omega
  have h1:NumOk R W Ps (bW ks x) (λy=>if y=x then i else f y):=by
   refine⟨(m6 [x] ks).1 h.nd,λy hy=>?_,λy hy=>?_⟩
   ·rcases gE.mp hy with q | q
    ·exact h.on y q
    ·rw[q];exact uo x hx
   ·by_cases e:y=x
    ·refine⟨P,?_,by rw[e];exact hx⟩;show Ps[if y=x then i else f y]? =_;rw[acz e];exact hP
    ·rcases gE.mp hy with q | q
     ·obtain⟨Q,q1,q2⟩:=h.num y q;refine⟨Q,?_,q2⟩;show Ps[if y=x then i else f y]? =_;rw[acA e];exact q1
     ·exact acC q e
  obtain⟨ks',f',a1,a2,a3,a4⟩:=KZ hm hP uo l (bW ks x) _ (λy hy=>hl y (V3 _ hy)) h1;refine⟨ks',f',a1,λy hy=>a2 y (gE.mpr (.inl hy)),λy hy=>?_,?_⟩
  ·rcases Wc.mp hy with rfl | hy
   ·exact a2 _ uO
   ·exact a3 y hy
  ·refine(dh rfl ?_).trans a4;refine(bR ((CS rfl rfl rfl (by rw[dP];omega)).trans rfl)).trans ?_;have ef:gu (λy=>D.int (f y:Int)) x (.int (i:Int))=λy=>D.int ((if y=x then i else f y:Nat):Int):=by
    funext y;unfold gu;by_cases e:y=x
    ·rw[acz e,acz e]
    ·rw[acA e,acA e]
   show aa (Out.nx [fz (.lst (Ps.map cL)),some (.ow (Iv (bW ks x) (gu (λy=>D.int (f y:Int)) x (.int (i:Int))))),fz (.int (i:Int)),x3,none])=_;rw[ef];rfl
def QF(q:Nat×List Cell):D:= .tup [.int (q.1:Int),cL q.2]
def GF(hm:R*W<=64){Ps:List (List Cell)}(uo:∀P∈Ps,∀y∈P,On R W y):∀(qs:List (Nat×List Cell)) (ks:List Cell) (f:Cell->Nat),(∀q∈qs,Ps[q.1]? =some q.2)->NumOk R W Ps ks f->
 ∃ks' f',NumOk R W Ps ks' f'/\(∀y∈ks,y∈ks')/\(∀q∈qs,∀y∈q.2,y∈ks')/\forL (vR [2,3]) (eF [2,3,4] (gc (putN 4) (fC (dV 3)) Tu)) (qs.map QF) (Qd Ps ks f none none none)=aa (.nx (Qd Ps ks' f' none none none))
 |[],ks,f,_,h=>⟨ks,f,h,λy hy=>hy,(λq hq=>(by cases hq)),rfl⟩
 |q::qs,ks,f,hq,h=>by
  have hP:=hq q (V6 ..);obtain⟨RI,f1,a1,a2,a3,a4⟩:=KZ hm hP (uo q.2 (Xb hP)) q.2 ks f (λy hy=>hy) h;obtain⟨RJ,f2,b1,b2,b3,b4⟩:=GF hm uo qs RI f1 (λq' DM=>hq q' (V3 _ DM)) a1;refine⟨RJ,f2,b1,λy hy=>b2 y (a2 y hy),λq' DM y hy=>?_,?_⟩
  ·rcases Wc.mp DM with rfl | DM
   ·exact b2 y (a3 y hy)
   ·exact b3 q' DM y hy
  ·exact(dh rfl ((bR (ij (Vj rfl) a4)).trans rfl)).trans b4
def D3(Ps:List (List Cell)):(Ps.map cL).mapIdx (λi d=>D.tup [.int (i:Int),d])=(Ps.zipIdx.map λq:List Cell×Nat=>(q.2,q.1)).map QF:=by
 apply List.ext_getElem?;intro i;simp only[abV,Wb,List.getElem?_zipIdx,Option.map_map,ZO];cases Ps[i]? <;>simp[QF]
def r_(hm:R*W<=64)(uo:∀P∈Ps,∀y∈P,On R W y):∃ks f,NumOk R W Ps ks f/\(∀P∈Ps,∀y∈P,y∈ks)/\gj [.lst (Ps.map cL)]=aa (DB ks λy=> .int (f y:Int)):=by
 have hq:∀q∈Ps.zipIdx.map (λq:List Cell×Nat=>(q.2,q.1)),Ps[q.1]? =some q.2:=λq hq=>by
  obtain⟨⟨P,i⟩,h1,rfl⟩:=Wn.mp hq;exact aaA.mp h1
 obtain⟨ks,f,a1,a2,a3,a4⟩:=GF hm uo (Ps.zipIdx.map λq:List Cell×Nat=>(q.2,q.1)) [] (λ_=>0) hq ⟨Yw,(λy hy=>(by cases hy)),(λy hy=>(by cases hy))⟩;refine⟨ks,f,a1,λP hP y hy=>?_,?_⟩
 ·obtain⟨i,hi,rfl⟩:=XO hP;refine a3 (i,Ps[i]) (Wn.mpr ⟨(Ps[i],i),aaA.mpr (by rw[V5 hi]),rfl⟩) y hy
 ·refine bf (ay rfl (ay (fb (ij ?_ a4)) rfl));show aa ((Ps.map cL).mapIdx λi d=>D.tup [.int (i:Int),d])=_;rw[D3]
section
open Classical
variable{bd:List Str}{W w:Nat}
noncomputable def aj(bd:List Str)(W w:Nat):List (List Cell):=(cK bd W w (bo bd.length W)).map (bp bd W w)
def jr:sM bd W w= .lst ((aj bd W w).map cL):=by
 unfold sM aj;rw[WY];rfl
def d4(h:m∈cK bd W w (bo bd.length W)):On bd.length W m:=by
 unfold cK at h;exact a8.mp (Xz.mp h).1
def gy(hw:Ways w):∀P∈aj bd W w,∀y∈P,On bd.length W y:=λP hP y hy=>by
 unfold aj at hP;obtain⟨m,hm,rfl⟩:=Wn.mp hP;exact(((cg hw (d4 hm)).mem y).mp hy).on hw (d4 hm)
def mD(hg:Brd bd W)(hw:Ways w)(hx:On bd.length W x):∃P∈aj bd W w,x∈P:=by
 obtain⟨L,hL⟩:=vn hw;have hm:=hL x hx;have M3:=hm.on hw hx;refine⟨bp bd W w (L x),Wn.mpr ⟨L x,?_,rfl⟩,((cg hw M3).mem x).mpr (hm.1.symm hw hx)⟩;unfold cK;rw[Xz,acE];exact⟨a8.mpr M3,hm.self hw hx⟩
def eE:(aj bd W w).length<=bd.length*W:=by
 unfold aj cK;rw[V4,<-cW bd.length W];exact XZ ..
def zL(hg:Brd bd W)(hs:bd.length*W<64)(hw:Ways w):gx [brd bd,iW w]=aa (.lst ((aj bd W w).map cL)):=by
 rw[<-jr];exact bf (ay (bL ((ak rfl rfl).trans hg.nb)) (ay (bL ((ak rfl rfl).trans hw.nw)) (aO ((ak rfl rfl).trans (ei hg hs hw)))))
def gm(hg:Brd bd W)(hs:bd.length*W<64)(hw:Ways w):cU [brd bd,iW w]=aa (.int ((aj bd W w).length:Int)):=by
 refine bf (ay (bL ((ak rfl rfl).trans hg.nb)) (ay (bL ((ak rfl rfl).trans hw.nw)) (aO ((bY (aD ((ak rfl rfl).trans (ei hg hs hw)) rfl)).trans ?_))));rw[jr];show aa (D.int (((aj bd W w).map cL).length:Int))=_;rw[V4]
end
end K1
namespace K1
open PySem L2 L3 HT
def Bt(l:List Nat):Str:=⟨l.toArray⟩
def jF(l:List Nat):(Bt l).cps.toList=l:=by simp[Bt]
def Ja(l:List Nat):(Bt l).length=l.length:=by simp[Bt,Str.length]
def Az(x y:Str):(x++y).cps.toList=x.cps.toList++y.cps.toList:=by
 show (x.cps++y.cps).toList=_;simp
def Nq(ds:List D)(d:D):cutD (ds++[d]) none (some (-1))=ds:=by
 unfold cutD;have e:sIx (ds++[d]).length (ds++[d]).length (some (-1))=ds.length:=by
  show (if (-1:Int)<0 then((-1:Int)+((ds++[d]).length:Int)).toNat else min (-1:Int).toNat (ds++[d]).length)=_;rw[acz (by decide),Wh];simp;omega
 rw[e,sIx_none];simp
def IX(ds:List D)(d:D):eC (.lst (ds++[d])) (.int (-1))=aa d:=by
 show (match L2.atI (ds++[d]) (-1) with | some d=>aa d | none=>af)=_;have e:L2.atI (ds++[d]) (-1)=some d:=by
  unfold L2.atI Gg;rw[acA (by decide),acz (by simp;omega)];show (ds++[d])[((-1:Int)+((ds++[d]).length:Int)).toNat]? =_;have:((-1:Int)+((ds++[d]).length:Int)).toNat=ds.length:=by simp;omega
  rw[this];simp
 rw[e]
end K1
namespace K1
open PySem PySem.Spec L2 L3
open PyProof.Rows hiding St
section
open Classical
variable{bd:List Str}{W w:Nat}
def Jg:(cK bd W w (bo bd.length W)).Nodup:=by
 unfold cK;exact(RiseC.nodup (jU _ _)).filter _
def rP:m∈cK bd W w l↔m∈l/\Least bd W w m m:=by
 unfold cK;rw[Xz,acE]
def zi(hw:Ways w){m x:Cell}(hm:m∈cK bd W w (bo bd.length W))(hx:x∈bp bd W w m):Least bd W w x m:=
 (rP.mp hm).2.move hw (d4 hm) (((cg hw (d4 hm)).mem x).mp hx)
def oP{i:Nat}(h:(aj bd W w)[i]? =some P):∃m,(cK bd W w (bo bd.length W))[i]? =some m/\P=bp bd W w m:=by
 unfold aj at h;rw[Wb] at h;cases q:(cK bd W w (bo bd.length W))[i]? with
 |none=>rw[q] at h;cases h
 |some m=>rw[q] at h;cases h;exact⟨m,rfl,rfl⟩
def Gx{i j:Nat}(h:(cK bd W w (bo bd.length W))[i]? =some m)(h2:(cK bd W w (bo bd.length W))[j]? =some m):i=j:=
 (List.getElem?_inj (We.mp h).1 Jg).mp (h.trans h2.symm)
def oH{l:List α}{i:Nat}(h:l[i]? =some x):x∈l:=Xb h
def wU(hw:Ways w){i j:Nat}(hi:(aj bd W w)[i]? =some P)(hj:(aj bd W w)[j]? =some Q)(hx:x∈P)(hy:x∈Q):i=j:=by
 obtain⟨m,e1,rfl⟩:=oP hi;obtain⟨n,e2,rfl⟩:=oP hj;have hm:=oH e1;have hn:=oH e2;have uo:On bd.length W x:=(((cg hw (d4 hm)).mem x).mp hx).on hw (d4 hm);have:=(zi hw hm hx).one hw uo (zi hw hn hy);subst this;exact Gx e1 e2
def sL(hw:Ways w){m:Cell}(hm:m∈cK bd W w (bo bd.length W)):∃r,bp bd W w m=m::r:=by
 have ho:=d4 hm;have hP:=cg hw ho;cases hp:bp bd W w m with
 |nil=>have:=(hP.mem m).mpr Cn.refl;rw[hp] at this;cases this
 |cons a r=>
  refine⟨r,?_⟩;rw[hp] at hP;by_cases e:a=m
  ·rw[e]
  ·have FU:m∈a::r:=(hP.mem m).mpr Cn.refl;have FU:m∈r:=by
    cases FU with
    |head=>exact acC rfl e
    |tail _ q=>exact q
   have hc:=(hP.mem a).mp (V6 ..);have h1:=(iQ (hc.on hw ho) ho).mp ((Xn.mp hP.rise).1 m FU);have:=(rP.mp hm).2.2 a hc;omega
def vC(hw:Ways w)(i j:Nat):g6 w (i,j) (i,j+1)=true:=by
 rcases hw with rfl | rfl
 ·simp[g6,jh]
 ·simp[g6,jh]
def zu(hw:Ways w)(i j:Nat):g6 w (i,j) (i+1,j)=true:=by
 rcases hw with rfl | rfl
 ·simp[g6,jh]
 ·simp[g6,jh]
end
end K1
namespace K1
open PySem L2 L3 HT
def C9:∀l:List Nat,qx (l.map sg)=some (l.map λc=>(⟨#[c]⟩:Str))
 |[]=>rfl
 |c::r=>by
  show (qx (r.map sg)).map _=_;rw[C9 r];rfl
def Cd:∀l:List Nat,eW (l.map λc=>(⟨#[c]⟩:Str))=Bt l
 |[]=>rfl
 |c::r=>by
  refine J9 ?_;show ((⟨#[c]⟩:Str)++eW (r.map λc=>(⟨#[c]⟩:Str))).cps.toList=_;rw[Az,Cd r,jF,jF];rfl
def HG:∀l:List Nat,((l.map λc=>(⟨#[c]⟩:Str)).map (·.length)).sum=l.length
 |[]=>rfl
 |c::r=>by
  show 1+((r.map λc=>(⟨#[c]⟩:Str)).map (·.length)).sum=_;rw[HG r,V7];omega
def IY{l:List Nat}(h:l.length<=4096):joinM (.str "") [.lst (l.map sg)]=aa (.str (Bt l)):=by
 show (match qx (l.map sg) with | some (xs:List Str)=>if ("":Str).length=0/\(xs.map λx:Str=>x.length).sum<=lim then aa (D.str (eW xs)) else af | none=>af)=_;rw[C9];show (if ("":Str).length=0/\((l.map λc=>(⟨#[c]⟩:Str)).map λx:Str=>x.length).sum<=lim then aa (D.str (eW (l.map λc=>(⟨#[c]⟩:Str)))) else af)=_;rw[acz ⟨rfl,by have:=HG l;rw[dP];exact WZ (abS this) h⟩,Cd]
def ng(c:Nat):Ib ⟨#[c]⟩=decide (c∈[97,98,99,100,101,102]):=StrLaws.found_one "abcdef" c
abbrev E6:List Nat:=[97,98,99,100,101,102]
def J2{W:Nat}{r:Str}(h:Row W r){c:Nat}(hc:c∈r.cps.toList):c∈[97,98,99,100,101,102]:=by
 have:=h.let' c hc;rw[ng] at this;exact acF this
def Ii(bd:List Str):List Nat:=(bd.map (·.cps.toList)).flatten
def zl{bd:List Str}{c:Nat}:c∈Ii bd↔∃r∈bd,c∈r.cps.toList:=by
 unfold Ii;rw[List.mem_flatten];constructor
 ·rintro⟨l,hl,h⟩;obtain⟨r,hr,rfl⟩:=Wn.mp hl;exact⟨r,hr,h⟩
 ·rintro⟨r,hr,h⟩;exact⟨_,Wn.mpr ⟨r,hr,rfl⟩,h⟩
def E8{bd:List Str}{W:Nat}(hg:Brd bd W){c:Nat}(h:c∈Ii bd):c∈E6:=by
 obtain⟨r,hr,h⟩:=zl.mp h;exact J2 (hg.rows r hr) h
def Je{bd:List Str}{W:Nat}(hg:Brd bd W){c:Cell}(hc:On bd.length W c):lt bd c∈Ii bd:=by
 have h1:c.1<bd.length:=hc.1;have hr:(bd.getD c.1 ⟨#[]⟩).cps.toList.length=W:=(hg.rows _ (getD_mem h1)).len;have h2:c.2<(bd.getD c.1 ⟨#[]⟩).cps.toList.length:=by rw[hr];exact hc.2
 refine zl.mpr ⟨_,getD_mem h1,?_⟩;show ch (bd.getD c.1 ⟨#[]⟩) c.2∈_;generalize bd.getD c.1 ⟨#[]⟩=r at h2;unfold ch;rw[Wq,V5 h2];exact YC h2
def Il{bd:List Str}{i j:Nat}(hi:i<bd.length)(hj:j<bd[i].cps.toList.length):at2 bd i j=bd[i].cps.toList[j]:=by
 unfold at2 ch;rw[Wq (l:=bd),V5 hi,aci,Wq,V5 hj,aci]
def FL{α:Type}{l:List α}{i:Nat}{x:α}(h:l[i]? =some x)(hi:i<l.length):l[i]=x:=by
 rw[V5 hi] at h;exact WC h
def Bi(R W:Nat)(g:Nat->Nat->Nat):List Str:=(Wy R).map λi=>Bt ((Wy W).map (g i))
def qL(R W:Nat)(g:Nat->Nat->Nat):(Bi R W g).length=R:=by simp[Bi]
def Jh{R W:Nat}{g:Nat->Nat->Nat}:∀r∈Bi R W g,r.length=W:=λr hr=>by
 obtain⟨i,_,rfl⟩:=Wn.mp hr;rw[Ja,V4,YV]
def L4{R W:Nat}{g:Nat->Nat->Nat}{i j:Nat}(hi:i<R)(hj:j<W):at2 (Bi R W g) i j=g i j:=by
 have h1:i<(Bi R W g).length:=by rw[qL];exact hi
 have e0:(Bi R W g)[i]? =some (Bt ((Wy W).map (g i))):=by
  unfold Bi;rw[Wb,YF hi];rfl
 have e1:(Bi R W g)[i].cps.toList=(Wy W).map (g i):=by rw[FL e0 h1,jF]
 have h2:j<(Bi R W g)[i].cps.toList.length:=by rw[e1,V4,YV];exact hj
 rw[Il h1 h2];have:(Bi R W g)[i].cps.toList[j]? =some (g i j):=by rw[e1,Wb,YF hj];rfl
 exact FL this h2
def Gy{R W:Nat}{g:Nat->Nat->Nat}(r1:1<=R)(r5:R<=5)(w1:1<=W)(w5:W<=5)(h:∀i j,i<R->j<W->g i j∈E6):Good (Bi R W g) W:=by
 refine⟨by rw[qL];exact r1,by rw[qL];exact r5,w1,w5,λr hr=>⟨Jh r hr,λc hc=>?_⟩⟩;obtain⟨i,hi,rfl⟩:=Wn.mp hr;rw[jF] at hc;obtain⟨j,hj,rfl⟩:=Wn.mp hc;exact(ng _).trans (acB (h i j (Yx.mp hi) (Yx.mp hj)))
def wm{bd:List Str}{W i j:Nat}(hg:Brd bd W)(hi:i<bd.length)(hj:j<W):at2 bd i j∈E6:=E8 hg (Je (c:=(i,j)) hg ⟨hi,hj⟩)
def kH(bd:List Str)(W:Nat)(some:List Cell)(c:Nat):List Str:=Bi bd.length W λi j=>if (i,j)∈some then c else at2 bd i j
def jM{bd:List Str}{W:Nat}(hg:Brd bd W){so:D}{l ks:List Cell}{ds:List D}(hk:g_ [so]=aa (.dct (ks.map keyOf) ds))(hl:ks.length=ds.length)(hm:∀x,x∈ks↔x∈l)(c:Nat):bh [brd bd,so,sg c]=aa (brd (kH bd W l c)):=by
 have h8:=hg.r8;have w8:=hg.w8;have row:∀{i:Nat},i<bd.length->∀{x4 x5:Option Sl},dM DP joinM (dC (.str "")) (aC (cn 0 (fC (dV 6)) dW (Kt (da (d2 (mr false) (dV 0) (dV 4))) (dV 3) (au 2 aW (aC (dV 1) (aC (dV 0) aN))))) aN) [fz (brd bd),fz so,fz (sg c),fz (.dct (ks.map keyOf) ds),x4,x5,fz (.lst ((dN W i).map cD))]=aa (.str (Bt ((Wy W).map λj=>if (i,j)∈l then c else at2 bd i j))):=by
  intro i hi x4 x5;have cm:cn 0 (fC (dV 6)) dW (Kt (da (d2 (mr false) (dV 0) (dV 4))) (dV 3) (au 2 aW (aC (dV 1) (aC (dV 0) aN)))) [fz (brd bd),fz so,fz (sg c),fz (.dct (ks.map keyOf) ds),x4,x5,fz (.lst ((dN W i).map cD))]=aa (.lst (((Wy W).map λj=>if (i,j)∈l then c else at2 bd i j).map sg)):=by
   refine cN (ds:=(dN W i).map cD) rfl ?_ (by simp[dP];omega);unfold dN;rw[WY,WY];refine jg (cD∘λk=>(i,k)) _ _ λj hj=>?_;have hj:=Yx.mp hj;have hc:On bd.length W (i,j):=⟨hi,hj⟩
   rw[mm];have e1:da (d2 (mr false) (dV 0) (dV 4)) (fz (cD (i,j))::[fz (brd bd),fz so,fz (sg c),fz (.dct (ks.map keyOf) ds),x4,x5,fz (.lst ((dN W i).map cD))])=aa (decide ((i,j)∈ks)):=ja ((aK (x:=cD (i,j)) (y:= .dct (ks.map keyOf) ds) rfl rfl).trans (wV hl));have e2:Kt (da (d2 (mr false) (dV 0) (dV 4))) (dV 3) (au 2 aW (aC (dV 1) (aC (dV 0) aN))) (fz (cD (i,j))::[fz (brd bd),fz so,fz (sg c),fz (.dct (ks.map keyOf) ds),x4,x5,fz (.lst ((dN W i).map cD))])=aa (sg (if (i,j)∈l then c else at2 bd i j)):=by
    rw[Nu e1];by_cases h:(i,j)∈l
    ·rw[acz h,acz (acB ((hm _).mpr h))];rfl
    ·rw[acA h,acA (λz=>h ((hm _).mp (acF z)))];exact(ak (ds:=[brd bd,cD (i,j)]) rfl rfl).trans (d3 hg hc)
   exact(acH (· >>=λy=>aa (some y)) e2).trans rfl
  show (if DP (.str "") then((aC _ aN) [fz (brd bd),fz so,fz (sg c),fz (.dct (ks.map keyOf) ds),x4,x5,fz (.lst ((dN W i).map cD))]>>=λds=>joinM (.str "") ds) else af)=_;rw[acz (show DP (.str "")=true from rfl),aD cm (xs:=[]) rfl,aq];exact IY (by simp;omega)
 have lp:=jX (put:=putN 5) (body:=eF [5,6] (aV (bS 6 (au 2 bG (aC (dV 0) (aC (dV 5) aN)))) (n0 4 (dM DP joinM (dC (.str "")) (aC (cn 0 (fC (dV 6)) dW (Kt (da (d2 (mr false) (dV 0) (dV 4))) (dV 3) (au 2 aW (aC (dV 1) (aC (dV 0) aN))))) aN))))) (λ(k:Nat)=>D.int (k:Int)) (λacc=>[fz (brd bd),fz so,fz (sg c),fz (.dct (ks.map keyOf) ds),some (.ow (.lst acc)),none,none]) (λi=>[.str (Bt ((Wy W).map λj=>if (i,j)∈l then c else at2 bd i j))]) (B:=100) (Wy bd.length) [] (by
  have:∀l':List Nat,(l'.flatMap λi=>[D.str (Bt ((Wy W).map λj=>if (i,j)∈l then c else at2 bd i j))]).length=l'.length:=by
   intro l';induction l' with
   |nil=>rfl
   |cons a l' ih=>rw[Yr,Wh,ih,V7];simp;omega
  rw[Xy,this,YV];omega) λi hi acc ha=>by
  have hi:=Yx.mp hi;refine⟨[fz (brd bd),fz so,fz (sg c),fz (.dct (ks.map keyOf) ds),some (.ow (.lst acc)),fz (.int (i:Int)),none],rfl,?_⟩;refine(bR (ρ':=[fz (brd bd),fz so,fz (sg c),fz (.dct (ks.map keyOf) ds),some (.ow (.lst (acc++[.str (Bt ((Wy W).map λj=>if (i,j)∈l then c else at2 bd i j))]))),fz (.int (i:Int)),fz (.lst ((dN W i).map cD))]) (ay (ρ':=[fz (brd bd),fz so,fz (sg c),fz (.dct (ks.map keyOf) ds),some (.ow (.lst acc)),fz (.int (i:Int)),fz (.lst ((dN W i).map cD))]) ((aT ((ak (ds:=[brd bd, .int (i:Int)]) rfl rfl).trans (iP hg i))).trans rfl) ?_)).trans rfl;show (dM DP joinM _ _ _>>=λd=>if acc.length<lim then aa (Out.nx _) else af)=_;rw[row hi,aq,acz (by rw[dP];rw[Wh] at ha;simp at ha;omega)];rfl
 refine bf (ay (ρ':=[fz (brd bd),fz so,fz (sg c),fz (.dct (ks.map keyOf) ds),none,none,none]) ((aT ((ak (ds:=[so]) rfl rfl).trans hk)).trans rfl) (ay (ρ':=[fz (brd bd),fz so,fz (sg c),fz (.dct (ks.map keyOf) ds),some (.ow (.lst [])),none,none]) rfl (ay (fb (ij (J0 (n:=bd.length) (Gk (i:=0) rfl) (by omega)) lp)) (aO ?_))));refine(bY (xs:=[.lst ((Wy bd.length).flatMap λi=>[.str (Bt ((Wy W).map λj=>if (i,j)∈l then c else at2 bd i j))])]) rfl).trans ?_;show aa (D.tup _)=aa (D.tup ((kH bd W l c).map D.str));unfold kH Bi;rw[WY];have:∀l':List Nat,(l'.flatMap λi=>[D.str (Bt ((Wy W).map λj=>if (i,j)∈l then c else at2 bd i j))])=l'.map (D.str∘λi=>Bt ((Wy W).map λj=>if (i,j)∈l then c else at2 bd i j)):=by
  intro l';induction l' with
  |nil=>rfl
  |cons a l' ih=>rw[Yr,ih];rfl
 rw[this]
def jb{bd:List Str}{W:Nat}(hg:Brd bd W){l:List Cell}(hl:l.length<4000)(c:Nat):bh [brd bd,cL l,sg c]=aa (brd (kH bd W l c)):=
 jM hg (vk hl) (by simp[aU]) (λx=>iV) c
def JU{bd:List Str}{W:Nat}{l:List Cell}{c i j:Nat}(hi:i<bd.length)(hj:j<W):at2 (kH bd W l c) i j=if (i,j)∈l then c else at2 bd i j:=L4 hi hj
def Hj(bd:List Str)(W:Nat)(l:List Cell)(c:Nat):(kH bd W l c).length=bd.length:=qL ..
def iZ{bd:List Str}{W:Nat}(hG:Good bd W){l:List Cell}{c:Nat}(hc:c∈E6):Good (kH bd W l c) W:=Gy hG.r1 hG.r5 hG.w1 hG.w5 λi j hi hj=>by
 split
 ·exact hc
 ·exact wm hG.brd hi hj
end K1
namespace K1
open PySem L2 L3
section
open Classical
variable{bd:List Str}{W w:Nat}
def Bh(hw:Ways w){x y:Cell}(hx:On bd.length W x):y∈bp bd W w x↔Cn bd W w x y:=(cg hw hx).mem y
def GD{p:Nat}(h:Ib ⟨#[p]⟩=true):df [sg p]=aa .non:=
 nZ (d8 (ri (b:=true) (om ((ak (ds:=[sg p]) rfl rfl).trans ((lI (d:=sg p) trivial).trans (by show aa (D.bl (true&&Ib ⟨#[p]⟩))=_;rw[h];rfl))))) rfl)
def r6(hg:Brd bd W)(hw:Ways w){x:Cell}(hx:On bd.length W x){c:Nat}(hc:c∈E6):gi [brd bd,cD x,iW w,sg c]=aa .non:=
 nZ (ay (bL ((ak (ds:=[brd bd]) rfl rfl).trans hg.nb)) (ay (bL ((ak (ds:=[brd bd,cD x]) rfl rfl).trans (hg.nc hx))) (ay (bL ((ak (ds:=[iW w]) rfl rfl).trans hw.nw)) (bL ((ak (ds:=[sg c]) rfl rfl).trans (GD ((ng c).trans (acB hc))))))))
def A9{ks:List Cell}{ps:List (Option Cell)}(hl:ks.length<4000):g_ [iO ks ps]=aa (wZ ks):=by
 have e:∀(xs t:List Cell),t.length+xs.length<4000->forL (putN 2) (eF [2] (kK 1 (dV 2) (dC (.bl true)))) (xs.map cD) [fz (iO ks ps),some (.ow (.dct (t.map keyOf) (aU t))),none]=aa (.nx [fz (iO ks ps),some (.ow (.dct ((xs.foldl bW t).map keyOf) (aU (xs.foldl bW t)))),none]):=by
  intro xs;induction xs with
  |nil=>intro t _;rfl
  |cons x xs ih=>
   intro t hk;rw[V7] at hk;have hle:(bW t x).length<=t.length+1:=by unfold bW;split<;>simp
   refine(dh (ρ1:=[fz (iO ks ps),some (.ow (.dct (t.map keyOf) (aU t))),fz (cD x)]) (ρ2:=[fz (iO ks ps),some (.ow (.dct ((bW t x).map keyOf) (aU (bW t x)))),none]) rfl ?_).trans (ih (bW t x) (by omega));refine(bR (ρ':=[fz (iO ks ps),some (.ow (.dct ((bW t x).map keyOf) (aU (bW t x)))),fz (cD x)]) ?_).trans rfl;show (match nV (.dct (t.map keyOf) (aU t)) (cD x) (.bl true) with | some c'=>aa (Out.nx [fz (iO ks ps),some (.ow c'),fz (cD x)]) | none=>af)=_;rw[zR (by rw[dP];omega)]
 refine bf (ay (ρ':=[fz (iO ks ps),some (.ow (.dct [] [])),none]) rfl (ay (ρ':=[fz (iO ks ps),some (.ow (.dct ((bZ ks).map keyOf) (aU (bZ ks)))),none]) (fb (ij (ds:=ks.map cD) ?_ (e ks [] (by simpa using hl)))) rfl));show lJ (iO ks ps)=_;exact DX
def Kj(hg:Brd bd W)(hw:Ways w){x:Cell}(hx:On bd.length W x){δ1 δ2 δ3 δ4:DE}{ρ:bb}{c:Nat}(h1:δ1 ρ=aa (brd bd))(h2:δ2 ρ=aa (cD x))(h3:δ3 ρ=aa (iW w))(h4:δ4 ρ=aa (sg c)):
 au 3 bh (aC δ1 (aC (au 3 b7 (aC δ1 (aC δ2 (aC δ3 aN)))) (aC δ4 aN))) ρ=aa (brd (kH bd W (bp bd W w x) c)):=by
 have hm:bd.length*W<=64:=Zp hg.r8 hg.w8;obtain⟨k,ks,ps,q1,q2,q3⟩:=k7 hg hw hx;have N3:=mU q1.nd q2;refine(ak (ds:=[brd bd,iO ks ps,sg c]) (aD h1 (aD ((ak (ds:=[brd bd,cD x,iW w]) (aD h1 (aD h2 (aD h3 rfl))) rfl).trans q3) (aD h4 rfl))) rfl).trans ?_;exact jM hg (A9 (by omega)) (by simp[aU]) (λy=>iV.trans ((q1.last y).trans (Bh hw hx).symm)) c
def zK(hg:Brd bd W)(hw:Ways w){x:Cell}(hx:On bd.length W x){c:Nat}(hc:c∈E6):gw [brd bd,cD x,iW w,sg c]=aa (brd (kH bd W (bp bd W w x) c)):=
 bf (ay (bL ((ak (ds:=[brd bd,cD x,iW w,sg c]) rfl rfl).trans (r6 hg hw hx hc))) (aO (Kj hg hw hx rfl rfl rfl rfl)))
end
section
open Classical
variable{bd:List Str}{W w:Nat}
def qJ{P:List Cell}{c:Nat}{x:Cell}(hx:On bd.length W x):lt (kH bd W P c) x=if x∈P then c else lt bd x:=by
 show at2 (kH bd W P c) x.1 x.2=_;rw[JU hx.1 hx.2]
def lu(hw:Ways w){P:List Cell}(hP:P∈aj bd W w){x:Cell}(hx:x∈P):bp bd W w x=P:=by
 obtain⟨m,hm,rfl⟩:=Wn.mp (show P∈(cK bd W w (bo bd.length W)).map (bp bd W w) from hP);have M3:=d4 hm;have h1:=cg hw M3;have hc:=(h1.mem x).mp hx;have h2:=cg hw (hc.on hw M3);exact vY h2.rise h1.rise λy=>by
  rw[h2.mem,h1.mem];exact⟨λq=>hc.trans q,λq=>(hc.symm hw M3).trans q⟩
def kD(hw:Ways w){P:List Cell}(hP:P∈aj bd W w){x y:Cell}(hx:x∈P):y∈P↔Cn bd W w x y:=by
 rw[<-lu hw hP hx];exact(cg hw (gy hw P hP x hx)).mem y
def lr(hw:Ways w){P Q:List Cell}(hP:P∈aj bd W w)(hQ:Q∈aj bd W w){x:Cell}(h1:x∈P)(h2:x∈Q):P=Q:=(lu hw hP h1).symm.trans (lu hw hQ h2)
def gO(hw:Ways w){P:List Cell}(hP:P∈aj bd W w):∃m,m∈P/\Least bd W w m m/\On bd.length W m/\∃r,P=m::r:=by
 obtain⟨m,hm,rfl⟩:=Wn.mp (show P∈(cK bd W w (bo bd.length W)).map (bp bd W w) from hP);obtain⟨r,hr⟩:=sL hw hm;exact⟨m,by rw[hr];exact V6 ..,(rP.mp hm).2,d4 hm,r,hr⟩
structure Adj (bd:List Str) (W w:Nat) (P Q:List Cell) (x y:Cell):Prop where
 p:P∈aj bd W w
 q:Q∈aj bd W w
 ne:P≠Q
 xp:x∈P
 yq:y∈Q
 nx:g6 4 x y=true
def OM(hw:Ways w){x y:Cell}(h:g6 4 x y=true):g6 w x y=true:=by
 rcases hw with rfl | rfl
 ·exact h
 ·exact OK h
variable{P Q:List Cell}{x y:Cell}
def Adj.ox(h:Adj bd W w P Q x y)(hw:Ways w):On bd.length W x:=gy hw P h.p x h.xp
def Adj.oy(h:Adj bd W w P Q x y)(hw:Ways w):On bd.length W y:=gy hw Q h.q y h.yq
def Adj.yn(h:Adj bd W w P Q x y)(hw:Ways w):y∉P:=λq=>h.ne (lr hw h.p h.q q h.yq)
abbrev Gr(bd:List Str)(W:Nat)(P:List Cell)(y:Cell):List Str:=kH bd W P (lt bd y)
def lj:(Gr bd W P y).length=bd.length:=Hj ..
def Bf(hw:Ways w)(hP:P∈aj bd W w){a:Cell}(ha:On bd.length W a):∀{j:Nat}{b:Cell},Rb (bB bd W w) a j b->Rb (bB (Gr bd W P y) W w) a j b
 |0,b,h=>h
 |j+1,b,h=>h.elim (λq=> .inl (Bf hw hP ha q)) λ⟨z,q1,q2⟩=>by
  have hz:=CZ hw ha q1;have hb:=(eR hw).mp q2;refine .inr ⟨z,Bf hw hP ha q1,(eR hw).mpr ⟨by rw[lj];exact hb.1,hb.2.1,?_⟩⟩;rw[qJ hb.1,qJ hz];have:b∈P↔z∈P:=⟨λq=>(kD hw hP q).mpr ((Cn.step Cn.refl q2).symm hw hz),λq=>(kD hw hP q).mpr (Cn.step Cn.refl q2)⟩
  by_cases e:z∈P
  ·rw[acz e,acz (this.mpr e)]
  ·rw[acA e,acA (λq=>e (this.mp q)),hb.2.2]
def Be(hw:Ways w)(hP:P∈aj bd W w){a b:Cell}(ha:On bd.length W a)(h:Cn bd W w a b):Cn (Gr bd W P y) W w a b:=let ⟨j,q⟩:=h;⟨j,Bf hw hP ha q⟩
def Adj.join(h:Adj bd W w P Q x y)(hw:Ways w):Cn (Gr bd W P y) W w x y:=by
 refine Cn.step Cn.refl ((eR hw).mpr ⟨by rw[lj];exact h.oy hw,OM hw h.nx,?_⟩);rw[qJ (h.oy hw),qJ (h.ox hw),acz h.xp,acA (h.yn hw)]
def yL{α:Type}{p q:α->Bool}:∀{l:List α},(∀x∈l,p x=true->q x=true)->(∃a∈l,q a=true/\p a=false)->(l.filter p).length<(l.filter q).length
 |[],_,h=>by obtain⟨a,ha,_⟩:=h;cases ha
 |b::l,h,⟨a,ha,a1,a2⟩=>by
  have le:(l.filter p).length<=(l.filter q).length:=by
   rw[<-Y8,<-Y8];exact List.countP_mono_left λx hx=>h x (V3 _ hx)
  rw[Xk,Xk];rcases Wc.mp ha with e | ha
  ·subst e;rw[a1,a2];simp;omega
  ·have ih:=yL (λx hx=>h x (V3 _ hx)) ⟨a,ha,a1,a2⟩;have hb:=h b (V6 ..);cases hp:p b<;>cases hq:q b
   ·simpa[hp,hq] using ih
   ·simp;omega
   ·rw[hp,hq] at hb;exact acC (hb rfl) (by simp)
   ·simp;omega
def vv:(aj bd W w).length=((bo bd.length W).filter λx=>decide (Least bd W w x x)).length:=by
 unfold aj cK;rw[V4]
def Adj.fewer(h:Adj bd W w P Q x y)(hw:Ways w):(aj (Gr bd W P y) W w).length<(aj bd W w).length:=by
 rw[vv,vv,lj];refine yL (λz hz q=>?_) ?_
 ·have hz:=a8.mp hz;exact acB ⟨Cn.refl,λu hu=>(acF q).2 u (Be hw h.p hz hu)⟩
 ·obtain⟨m,m1,m2,m3,_⟩:=gO hw h.p;obtain⟨n,n1,n2,n3,_⟩:=gO hw h.q;have UM:m≠n:=λe=>h.ne (lr hw h.p h.q m1 (e▸n1));have c:Cn (Gr bd W P y) W w m n:=((Be hw h.p m3 ((kD hw h.p m1).mp h.xp)).trans (h.join hw)).trans (Be hw h.p (h.oy hw) ((kD hw h.q h.yq).mp n1));have Vm:On (Gr bd W P y).length W m:=by rw[lj];exact m3
  by_cases q:Least (Gr bd W P y) W w m m
  ·refine⟨n,a8.mpr n3,acB n2,acD λq2=>UM ?_⟩;exact(q.move hw Vm c).one hw (by rw[lj];exact n3) q2
  ·exact⟨m,a8.mpr m3,acB m2,acD q⟩
def FN{R:Nat}{p:Cell->Prop}(h:∀u v,On R W u->On R W v->g6 4 u v=true->p u->p v){a b:Cell}(ha:On R W a)(hb:On R W b)(hp:p a):p b:=by
 have dn:∀i j,i+1<R->j<W->(p (i+1,j)↔p (i,j)):=λi j hi hj=>
  ⟨h _ _ ⟨hi,hj⟩ ⟨Yt hi,hj⟩ (by rw[ki];exact zu (.inl rfl) i j),h _ _ ⟨Yt hi,hj⟩ ⟨hi,hj⟩ (zu (.inl rfl) i j)⟩
 have rt:∀i j,i<R->j+1<W->(p (i,j+1)↔p (i,j)):=λi j hi hj=>
  ⟨h _ _ ⟨hi,hj⟩ ⟨hi,Yt hj⟩ (by rw[ki];exact vC (.inl rfl) i j),h _ _ ⟨hi,Yt hj⟩ ⟨hi,hj⟩ (vC (.inl rfl) i j)⟩
 have col:∀i j,i<R->j<W->(p (i,j)↔p (0,j)):=by
  intro i j hi hj;induction i with
  |zero=>exact Iff.rfl
  |succ i ih=>exact(dn i j hi hj).trans (ih (Yt hi))
 have row:∀i j,i<R->j<W->(p (i,j)↔p (i,0)):=by
  intro i j hi hj;induction j with
  |zero=>exact Iff.rfl
  |succ j ih=>exact(rt i j hi hj).trans (ih (Yt hj))
 have all:∀c:Cell,On R W c->(p c↔p (0,0)):=λc hc=>(col c.1 c.2 hc.1 hc.2).trans (row 0 c.2 (Zj (W8 _) hc.1) hc.2);exact(all b hb).mpr ((all a ha).mp hp)
def Hz(hg:Brd bd W)(hw:Ways w){P:List Cell}(hP:P∈aj bd W w)(h1:(aj bd W w).length≠1):∃Q x y,Adj bd W w P Q x y:=by
 obtain⟨m,m1,_,m3,_⟩:=gO hw hP;obtain⟨P2,SV,gk⟩:∃P2∈aj bd W w,P2≠P:=by
  cases hl:aj bd W w with
  |nil=>rw[hl] at hP;cases hP
  |cons a r=>
   cases r with
   |nil=>rw[hl] at h1;exact acC rfl h1
   |cons b r=>
    have LG:(aj bd W w).Nodup:=by
     rw[List.nodup_iff_pairwise_ne] at*;refine X1.mpr λi j hi hj za e=>?_;have e1:(aj bd W w)[i]? =some (aj bd W w)[i]:=V5 hi;have e2:(aj bd W w)[j]? =some (aj bd W w)[i]:=by rw[V5 hj,e]
     obtain⟨u,u1,_⟩:=gO hw (YC hi);have:=wU hw e1 e2 u1 u1;omega
    rw[hl] at LG;have Ly:a≠b:=by
     have:=(WV.mp LG).1;intro e;rw[e] at this;exact this (V6 ..)
    by_cases e:a=P
    ·exact⟨b,by simp,λq=>Ly (e.trans q.symm)⟩
    ·exact⟨a,by simp,e⟩
 obtain⟨n,n1,_,n3,_⟩:=gO hw SV;have hn:n∉P:=λq=>gk (lr hw SV hP n1 q);apply Za;intro wN;refine hn (FN (p:=λz=>z∈P) (λu v hu hv US U8=>?_) m3 n3 m1);apply Za;intro U_;obtain⟨Q,hQ,Tg⟩:=mD hg hw hv;exact wN ⟨Q,u,v,hP,hQ,λe=>U_ (e▸Tg),U8,Tg,US⟩
end
section
open Classical
variable{bd:List Str}{W w:Nat}
abbrev C5(bd:List Str)(S:D)(nk:List Cell)(f:Cell->Nat)(ks:List Cell)(g:Cell->Int)(x4 x5 x6:Option Sl):bb:=[fz (brd bd),fz S,fz (DB nk λy=> .int (f y:Int)),some (.ow (Iv ks λk=> .int (g k))),x4,x5,x6]
structure SOk (bd:List Str) (W n:Nat) (f:Cell->Nat) (ks:List Cell):Prop where
 nd:ks.Nodup
 is:∀k∈ks,∃x y,On bd.length W x/\On bd.length W y/\g6 4 x y=true/\f x<f y/\k=(f x,f y)
def J8{S:D}{nk:List Cell}{f:Cell->Nat}(hn:∀z,On bd.length W z->z∈nk/\f z<64){x y:Cell}(hx:On bd.length W x)(hy:On bd.length W y)(Ia:g6 4 x y=true){ks:List Cell}{g:Cell->Int}(h:SOk bd W 64 f ks):
 ∃ks' g',SOk bd W 64 f ks'/\(∀k∈ks,k∈ks')/\(f x<f y->(f x,f y)∈ks')/\Qj (C5 bd S nk f ks g (fz (cD x)) (fz (cD y)) none)=aa (.nx (C5 bd S nk f ks' g' (fz (cD x)) none none)):=by
 have i4:∀{o x6:Option Sl},d2 rn (dV 2) (dV 4) [fz (brd bd),fz S,fz (DB nk λy=> .int (f y:Int)),o,fz (cD x),fz (cD y),x6]=aa (.int (f x:Int)):=(aK (x:=DB nk λy=> .int (f y:Int)) (y:=cD x) rfl rfl).trans (Gf (hn x hx).1);have i5:∀{o x6:Option Sl},d2 rn (dV 2) (dV 5) [fz (brd bd),fz S,fz (DB nk λy=> .int (f y:Int)),o,fz (cD x),fz (cD y),x6]=aa (.int (f y:Int)):=(aK (x:=DB nk λy=> .int (f y:Int)) (y:=cD y) rfl rfl).trans (Gf (hn y hy).1);have C8:da (d2 FH (d2 rn (dV 2) (dV 4)) (d2 rn (dV 2) (dV 5))) (C5 bd S nk f ks g (fz (cD x)) (fz (cD y)) none)=aa (decide (f x<f y)):=by
  refine ja ((aK i4 i5).trans ?_);show aa (D.bl (decide ((f x:Int)<(f y:Int))))=_;congr 2;exact decide_eq_decide.mpr (by omega)
 have N3:ks.length<lim:=by
  have:ks.length<=(bo 63 64).length:=iX h.nd λk hk=>by
   obtain⟨a,b,ha,hb,_,Ly,rfl⟩:=h.is k hk;have:=(hn b hb).2;exact a8.mpr ⟨by show f a<63;omega,this⟩
  rw[cW] at this;rw[dP];omega
 by_cases f_:f x<f y
 ·rw[acB f_] at C8;refine⟨bW ks (f x,f y),λk=>if k=(f x,f y) then(if (f x,f y)∈ks then g (f x,f y) else 0)+1 else g k,⟨(m6 [(f x,f y)] ks).1 h.nd,λk hk=>?_⟩,λk hk=>gE.mpr (.inl hk),λ_=>uO,?_⟩
  ·rcases gE.mp hk with q | q
   ·exact h.is k q
   ·exact⟨x,y,hx,hy,Ia,f_,q⟩
  ·have hv:PB (d2 cp (Cg (dV 3) (dV 6) (dC (.int 0))) (dC (.int 1))) (C5 bd S nk f ks g (fz (cD x)) (fz (cD y)) (fz (cD (f x,f y))))=aa (.int ((if (f x,f y)∈ks then g (f x,f y) else 0)+1)):=by
    refine Nw ?_ rfl;have e:Cg (dV 3) (dV 6) (dC (.int 0)) (AY (C5 bd S nk f ks g (fz (cD x)) (fz (cD y)) (fz (cD (f x,f y)))))=aa (.int (if (f x,f y)∈ks then g (f x,f y) else 0)):=by
     show getM (DB ks λk=> .int (g k)) (cD (f x,f y)) (.int 0)=_;by_cases q:(f x,f y)∈ks
     ·rw[IA q,acz q]
     ·rw[FJ q,acA q]
    exact(aK e (y:= .int 1) rfl).trans rfl
   refine(bR (ρ':=C5 bd S nk f (bW ks (f x,f y)) (λk=>if k=(f x,f y) then(if (f x,f y)∈ks then g (f x,f y) else 0)+1 else g k) (fz (cD x)) (fz (cD y)) (fz (cD (f x,f y)))) (fY C8 (ay (ρ':=C5 bd S nk f ks g (fz (cD x)) (fz (cD y)) (fz (cD (f x,f y)))) ((aT ((bY (aD i4 (aD i5 rfl))).trans rfl)).trans rfl) ?_))).trans rfl;refine(CS (ks:=ks) (f:=λk=> .int (g k)) (x:=(f x,f y)) rfl hv rfl N3).trans ?_;have ef:gu (λk=>D.int (g k)) (f x,f y) (.int ((if (f x,f y)∈ks then g (f x,f y) else 0)+1))=λk=>D.int (if k=(f x,f y) then(if (f x,f y)∈ks then g (f x,f y) else 0)+1 else g k):=by
    funext k;unfold gu;by_cases e:k=(f x,f y)
    ·rw[acz e,acz e]
    ·rw[acA e,acA e]
   rw[ef];rfl
 ·rw[acD f_] at C8;exact⟨ks,g,h,λk hk=>hk,λq=>acC q f_,(bR (d8 C8 rfl)).trans rfl⟩
def K6{S:D}{nk:List Cell}{f:Cell->Nat}(hn:∀z,On bd.length W z->z∈nk/\f z<64){x:Cell}(hx:On bd.length W x):∀(l:List Cell) (ks:List Cell) (g:Cell->Int),(∀y∈l,On bd.length W y/\g6 4 x y=true)->SOk bd W 64 f ks->
 ∃ks' g',SOk bd W 64 f ks'/\(∀k∈ks,k∈ks')/\(∀y∈l,f x<f y->(f x,f y)∈ks')/\forL (putN 5) Qj (l.map cD) (C5 bd S nk f ks g (fz (cD x)) none none)=aa (.nx (C5 bd S nk f ks' g' (fz (cD x)) none none))
 |[],ks,g,_,h=>⟨ks,g,h,λk hk=>hk,(λy hy=>(by cases hy)),rfl⟩
 |y::l,ks,g,hl,h=>by
  obtain⟨y1,y2⟩:=hl y (V6 ..);obtain⟨k1,g1,a1,a2,a3,a4⟩:=J8 (S:=S) (g:=g) hn hx y1 y2 h;obtain⟨k2,g2,b1,b2,b3,b4⟩:=K6 (S:=S) hn hx l k1 g1 (λz hz=>hl z (V3 _ hz)) a1;refine⟨k2,g2,b1,λk hk=>b2 k (a2 k hk),λz hz q=>?_,(dh rfl a4).trans b4⟩;rcases Wc.mp hz with e | hz
  ·subst e;exact b2 _ (a3 q)
  ·exact b3 z hz q
def HD(hg:Brd bd W){S:D}{nk:List Cell}{f:Cell->Nat}(hn:∀z,On bd.length W z->z∈nk/\f z<64):∀(l:List Cell) (ks:List Cell) (g:Cell->Int),(∀x∈l,On bd.length W x)->SOk bd W 64 f ks->
 ∃ks' g',SOk bd W 64 f ks'/\(∀k∈ks,k∈ks')/\(∀x∈l,∀y,On bd.length W y->g6 4 x y=true->f x<f y->(f x,f y)∈ks')/\
  forL (putN 4) (eF [4,5,6] (gc (putN 5) (fC (au 3 bH (aC (dV 0) (aC (dV 4) (aC (dC (.int 4)) aN))))) Qj)) (l.map cD) (C5 bd S nk f ks g none none none)=aa (.nx (C5 bd S nk f ks' g' none none none))
 |[],ks,g,_,h=>⟨ks,g,h,λk hk=>hk,(λy hy=>(by cases hy)),rfl⟩
 |x::l,ks,g,hl,h=>by
  have hx:=hl x (V6 ..);have Rv:Ways 4:= .inl rfl;obtain⟨k1,g1,a1,a2,a3,a4⟩:=K6 (S:=S) hn hx (kg bd.length W 4 x) ks g (λy hy=>(ll Rv).mp hy) h;obtain⟨k2,g2,b1,b2,b3,b4⟩:=HD hg (S:=S) hn l k1 g1 (λz hz=>hl z (V3 _ hz)) a1;refine⟨k2,g2,b1,λk hk=>b2 k (a2 k hk),λz hz y hy q1 q2=>?_,(dh (ρ1:=C5 bd S nk f ks g (fz (cD x)) none none) (ρ2:=C5 bd S nk f k1 g1 none none none) rfl ((bR (ij (ds:=(kg bd.length W 4 x).map cD) ?_ a4)).trans rfl)).trans b4⟩
  ·rcases Wc.mp hz with e | hz
   ·subst e;exact b2 _ (a3 y ((ll Rv).mpr ⟨hy,q1⟩) q2)
   ·exact b3 z hz y hy q1 q2
  ·show (au 3 bH (aC (dV 0) (aC (dV 4) (aC (dC (.int 4)) aN))) _>>=lstM)=_;rw[(ak (ds:=[brd bd,cD x, .int ((4:Nat):Int)]) rfl rfl:au 3 bH (aC (dV 0) (aC (dV 4) (aC (dC (.int 4)) aN))) _=_),kh hg Rv hx];rfl
def BS(hg:Brd bd W)(hs:bd.length*W<64)(hw:Ways w):∃(f:Cell->Nat) (ks:List Cell) (g:Cell->Int),(∀x,On bd.length W x->∃P,(aj bd W w)[f x]? =some P/\x∈P)/\SOk bd W 64 f ks/\(∀x y,On bd.length W x->On bd.length W y->g6 4 x y=true->f x<f y->(f x,f y)∈ks)/\
 cQ [brd bd, .lst ((aj bd W w).map cL)]=aa (DB ks λk=> .int (g k)):=by
 obtain⟨nk,f,h1,h2,h3⟩:=r_ (R:=bd.length) (W:=W) (X8 hs) (gy (bd:=bd) (W:=W) (w:=w) hw);have hf:∀x,On bd.length W x->x∈nk/\∃P,(aj bd W w)[f x]? =some P/\x∈P:=λx hx=>by
  obtain⟨P,p1,p2⟩:=mD hg hw hx;have:=h2 P p1 x p2;exact⟨this,h1.num x this⟩
 have hl:=eE (bd:=bd) (W:=W) (w:=w);obtain⟨ks,g,a1,a2,a3,a4⟩:=HD hg (S:= .lst ((aj bd W w).map cL)) (nk:=nk) (f:=f) (λz hz=>⟨(hf z hz).1,by
  obtain⟨P,e,_⟩:=(hf z hz).2;have:=(We.mp e).1;omega⟩) (bo bd.length W) [] (λ_=>0) (λx hx=>a8.mp hx) ⟨Yw,(λk hk=>(by cases hk))⟩
 refine⟨f,ks,g,λx hx=>(hf x hx).2,a1,λx y hx hy=>a3 x (a8.mpr hx) y hy,?_⟩;refine bf (ay (ρ':=[fz (brd bd),fz (.lst ((aj bd W w).map cL)),fz (DB nk λy=> .int (f y:Int)),none,none,none,none]) ((aT ((ak (ds:=[.lst ((aj bd W w).map cL)]) rfl rfl).trans h3)).trans rfl) (ay (ρ':=C5 bd (.lst ((aj bd W w).map cL)) nk f [] (λ_=>0) none none none) rfl (ay (fb (ij (ds:=(bo bd.length W).map cD) ?_ a4)) rfl)));show (au 1 cS (aC (dV 0) aN) _>>=lstM)=_;rw[(ak (ds:=[brd bd]) rfl rfl:au 1 cS (aC (dV 0) aN) _=_),lF hg];rfl
def qw(t:Int×Int×Nat):D:= .tup [.int t.1, .int t.2.1, .int (t.2.2:Int)]
abbrev Ic(bd:List Str)(S:D)(i:Nat)(acc:List (Int×Int×Nat))(x4 x5 x6:Option Sl):bb:=[fz (brd bd),fz S,fz (.int (i:Int)),some (.ow (.lst (acc.map qw))),x4,x5,x6]
def La(bd:List Str)(W:Nat)(f:Cell->Nat)(i j:Nat):Prop:=∃x y,On bd.length W x/\On bd.length W y/\g6 4 x y=true/\f x=i/\f y=j/\i≠j
def Jf{f:Cell->Nat}(hf:∀x,On bd.length W x->∃P,(aj bd W w)[f x]? =some P/\x∈P){i:Nat}{k:Cell}(hk:∃x y,On bd.length W x/\On bd.length W y/\g6 4 x y=true/\f x<f y/\k=(f x,f y)){v:Int}{acc:List (Int×Int×Nat)}(hl:acc.length<4000):
 ∃qQ,(∀t∈qQ,t∈acc\/La bd W f i t.2.2)/\(acc≠[]->qQ≠[])/\((k.1=i\/k.2=i)->qQ≠[])/\qQ.length<=acc.length+1/\
  RM (Ic bd (.lst ((aj bd W w).map cL)) i acc (fz (cD k)) (fz (.int v)) none)=aa (.nx (Ic bd (.lst ((aj bd W w).map cL)) i qQ none none none)):=by
 obtain⟨x,y,hx,hy,Ia,f_,rfl⟩:=hk;have C8:da (d2 (A0 false) (dV 2) (dV 4)) (Ic bd (.lst ((aj bd W w).map cL)) i acc (fz (cD (f x,f y))) (fz (.int v)) none)=aa (decide (f x=i\/f y=i)):=by
  refine ja ((aK (x:= .int (i:Int)) (y:=cD (f x,f y)) rfl rfl).trans ?_);show aa (D.bl ([(f x:Int),(f y:Int)].contains (i:Int)))=_;congr 2;rw[Ze,List.contains_iff_mem,acE];simp only[Wc,List.not_mem_nil,or_false];omega
 by_cases h:f x=i\/f y=i
 ·rw[acB h] at C8;obtain⟨j,hj,NM⟩:∃j:Nat,(f x:Int)+(f y:Int) - (i:Int)=(j:Int)/\La bd W f i j:=by
   rcases h with h | h
   ·exact⟨f y,by omega,x,y,hx,hy,Ia,h,rfl,by omega⟩
   ·exact⟨f x,by omega,y,x,hy,hx,by rw[ki];exact Ia,h,rfl,by omega⟩
  obtain⟨u,z,hu,hz,_,_,Ve,_⟩:=id NM;obtain⟨P,hP,_⟩:=hf z hz;rw[Ve] at hP;refine⟨acc++[(-v,-(P.length:Int),j)],λt ht=>?_,λ_=>by simp,λ_=>by simp,by simp,?_⟩
  ·rcases W3.mp ht with q | q
   ·exact .inl q
   ·rw[Wo.mp q];exact .inr NM
  ·have e6:d2 jO (d2 cp (d2 bO (dV 4) (dC (.int 0))) (d2 bO (dV 4) (dC (.int 1)))) (dV 2) (Ic bd (.lst ((aj bd W w).map cL)) i acc (fz (cD (f x,f y))) (fz (.int v)) none)=aa (.int (j:Int)):=by
    refine(aK (x:= .int ((f x:Int)+(f y:Int))) (y:= .int (i:Int)) ((aK (x:= .int (f x:Int)) (y:= .int (f y:Int)) ((aK (x:=cD (f x,f y)) (y:= .int 0) rfl rfl).trans rfl) ((aK (x:=cD (f x,f y)) (y:= .int 1) rfl rfl).trans rfl)).trans rfl) rfl).trans ?_;rw[FI,hj]
   have eP:dA bc (aC (d2 eC (dV 1) (dV 6)) aN) (Ic bd (.lst ((aj bd W w).map cL)) i acc (fz (cD (f x,f y))) (fz (.int v)) (fz (.int (j:Int))))=aa (.int (P.length:Int)):=by
    refine(bY (xs:=[cL P]) (aD ((aK (x:= .lst ((aj bd W w).map cL)) (y:= .int (j:Int)) rfl rfl).trans ?_) rfl)).trans ?_
    ·show (match L2.atI ((aj bd W w).map cL) (j:Int) with | some d=>aa d | none=>af)=_;rw[eU (x:=cL P) (by rw[Wb,hP];rfl)]
    ·show aa (D.int ((P.map cD).length:Int))=_;rw[V4]
   refine(bR (ρ':=Ic bd (.lst ((aj bd W w).map cL)) i (acc++[(-v,-(P.length:Int),j)]) (fz (cD (f x,f y))) (fz (.int v)) (fz (.int (j:Int)))) (fY C8 (ay (ρ':=Ic bd (.lst ((aj bd W w).map cL)) i acc (fz (cD (f x,f y))) (fz (.int v)) (fz (.int (j:Int)))) ((aT e6).trans rfl) ?_))).trans rfl;show (dA fX _ _>>=λd=>if (acc.map qw).length<lim then aa (Out.nx _) else af)=_;rw[bY (xs:=[.int (-v), .int (-(P.length:Int)), .int (j:Int)]) (aD (show d1 uq (dV 5) _=aa (.int (-v)) from rfl) (aD (by show (dA bc _ _>>=uq)=_;rw[eP];rfl) (aD rfl rfl)))];show (if (acc.map qw).length<lim then aa (Out.nx _) else af)=_;rw[acz (by rw[V4,dP];omega)];exact acH (λl=>aa (Out.nx [fz (brd bd),fz (.lst ((aj bd W w).map cL)),fz (.int (i:Int)),some (.ow (.lst l)),fz (cD (f x,f y)),fz (.int v),fz (.int (j:Int))])) (W4 (l₁:=acc) (l₂:=[(-v,-(P.length:Int),j)]) (f:=qw)).symm
 ·rw[acD h] at C8;exact⟨acc,λt ht=> .inl ht,λq=>q,λq=>acC q h,Z5 _,(bR (d8 C8 rfl)).trans rfl⟩
def CB{f:Cell->Nat}(hf:∀x,On bd.length W x->∃P,(aj bd W w)[f x]? =some P/\x∈P){i:Nat}{g:Cell->Int}:∀(l:List Cell) (acc:List (Int×Int×Nat)),(∀k∈l,∃x y,On bd.length W x/\On bd.length W y/\g6 4 x y=true/\f x<f y/\k=(f x,f y))->acc.length+l.length<=4000->
 ∃qQ,(∀t∈qQ,t∈acc\/La bd W f i t.2.2)/\(acc≠[]->qQ≠[])/\((∃k∈l,k.1=i\/k.2=i)->qQ≠[])/\qQ.length<=4000/\
  forL (vR [4,5]) RM (l.map λk=> .tup [cD k, .int (g k)]) (Ic bd (.lst ((aj bd W w).map cL)) i acc none none none)=aa (.nx (Ic bd (.lst ((aj bd W w).map cL)) i qQ none none none))
 |[],acc,_,hl=>⟨acc,λt ht=> .inl ht,λq=>q,λ⟨k,hk,_⟩=>(by cases hk),by simpa using hl,rfl⟩
 |k::l,acc,h,hl=>by
  rw[V7] at hl;obtain⟨a1,b1,b2,b3,b4,b5⟩:=Jf (w:=w) hf (i:=i) (h k (V6 ..)) (v:=g k) (acc:=acc) (by omega);obtain⟨a2,c1,c2,c3,c4,c5⟩:=CB hf (i:=i) (g:=g) l a1 (λz hz=>h z (V3 _ hz)) (by omega);refine⟨a2,λt ht=>?_,λq=>c2 (b2 q),λ⟨z,hz,q⟩=>?_,c4,(dh rfl b5).trans c5⟩
  ·rcases c1 t ht with q | q
   ·exact b1 t q
   ·exact .inr q
  ·rcases Wc.mp hz with e | hz
   ·subst e;exact c2 (b3 q)
   ·exact c3 ⟨z,hz,q⟩
def Ge{ks:List Cell}{g:Cell->Int}:oB (DB ks λk=> .int (g k))=aa (ks.map λk=> .tup [cD k, .int (g k)]):=by
 have ok:(ks.map keyOf).all (λk=>decide (k.length<=lim)&&k.all lW)=true:=by
  rw[YI];exact WT.mpr λ_ _=>rfl
 show (if (ks.map keyOf).all (λk=>decide (k.length<=lim)&&k.all lW)=true then aa (((ks.map keyOf).zip (ks.map λk=>D.int (g k))).map λq=>D.tup [tupK q.1,q.2]) else af)=_;rw[acz ok,Ai,WY];rfl
def ze:∀l:List (Int×Int×Nat),my (l.map qw)=some (l.map λt=>[t.1,t.2.1,(t.2.2:Int)])
 |[]=>rfl
 |t::l=>by
  show (match KP (qw t),my (l.map qw) with | some k,some ks=>some (k::ks) | _,_=>none)=_;rw[ze l];rfl
def D4(hg:Brd bd W)(hs:bd.length*W<64)(hw:Ways w){i:Nat}{P:List Cell}(hi:(aj bd W w)[i]? =some P)(h1:(aj bd W w).length≠1):
 ∃(j:Nat) (Q:List Cell) (x y:Cell),(aj bd W w)[j]? =some Q/\Adj bd W w P Q x y/\eX [brd bd, .lst ((aj bd W w).map cL), .int (i:Int)]=aa (.int (j:Int)):=by
 obtain⟨f,ks,g,hf,hS,IB,es⟩:=BS hg hs hw;have hl:=eE (bd:=bd) (W:=W) (w:=w);have flt:∀x,On bd.length W x->f x<63:=λx hx=>by
  obtain⟨P,e,_⟩:=hf x hx;have:=(We.mp e).1;omega
 have N3:ks.length<=63*63:=by
  have:ks.length<=(bo 63 63).length:=iX hS.nd λk hk=>by
   obtain⟨a,b,ha,hb,_,Ly,rfl⟩:=hS.is k hk;exact a8.mpr ⟨flt a ha,flt b hb⟩
  rw[cW] at this;exact this
 obtain⟨acc,b1,b2,b3,b4,b5⟩:=CB hf (i:=i) (g:=g) ks [] hS.is (by rw[Xc];omega);have PO:=oH hi;have fi:∀z∈P,f z=i:=λz hz=>by
  obtain⟨R,r1,r2⟩:=hf z (gy hw P PO z hz);exact wU hw r1 hi r2 hz
 have gk:acc≠[]:=by
  obtain⟨Q,x,y,ha⟩:=Hz hg hw PO h1;refine b3 ?_;have e1:=fi x ha.xp;have gk:f x≠f y:=λe=>by
   obtain⟨R,r1,r2⟩:=hf x (ha.ox hw);obtain⟨R',r3,r4⟩:=hf y (ha.oy hw);rw[<-e,r1] at r3;cases r3;exact ha.yn hw ((lr hw (oH r1) PO r2 ha.xp)▸r4)
  rcases Nat.lt_or_ge (f x) (f y) with q | q
  ·exact⟨_,IB x y (ha.ox hw) (ha.oy hw) ha.nx q, .inl e1⟩
  ·exact⟨_,IB y x (ha.oy hw) (ha.ox hw) (by rw[ki];exact ha.nx) (by omega), .inr e1⟩
 have IJ:0<(acc.map λt=>[t.1,t.2.1,(t.2.2:Int)]).length:=by
  rw[V4];exact ab3.mpr gk
 have hb:eV (acc.map λt=>[t.1,t.2.1,(t.2.2:Int)])<acc.length:=by
  have:=mh (λa b=>HT.lexLt ((acc.map λt=>[t.1,t.2.1,(t.2.2:Int)]).getD a []) ((acc.map λt=>[t.1,t.2.1,(t.2.2:Int)]).getD b [])) ((acc.map λt=>[t.1,t.2.1,(t.2.2:Int)]).length - 1);have:eV (acc.map λt=>[t.1,t.2.1,(t.2.2:Int)])<=(acc.map λt=>[t.1,t.2.1,(t.2.2:Int)]).length - 1:=this;rw[V4] at this IJ;omega
 have em:xa [.lst (acc.map qw)]=aa (qw acc[eV (acc.map λt=>[t.1,t.2.1,(t.2.2:Int)])]):=by
  show (match my (acc.map qw) with | some ks=>if 0<ks.length/\(ks.getD (eV ks) []).length<=lim then aa (tupI (ks.getD (eV ks) [])) else af | none=>af)=_;rw[ze];have eg:(acc.map λt=>[t.1,t.2.1,(t.2.2:Int)]).getD (eV (acc.map λt=>[t.1,t.2.1,(t.2.2:Int)])) []=[acc[eV (acc.map λt=>[t.1,t.2.1,(t.2.2:Int)])].1,acc[eV (acc.map λt=>[t.1,t.2.1,(t.2.2:Int)])].2.1,(acc[eV (acc.map λt=>[t.1,t.2.1,(t.2.2:Int)])].2.2:Int)]:=by
   rw[Wq,Wb,V5 hb];rfl
  show (if 0<(acc.map λt=>[t.1,t.2.1,(t.2.2:Int)]).length/\((acc.map λt=>[t.1,t.2.1,(t.2.2:Int)]).getD (eV (acc.map λt=>[t.1,t.2.1,(t.2.2:Int)])) []).length<=lim then aa (tupI ((acc.map λt=>[t.1,t.2.1,(t.2.2:Int)]).getD (eV (acc.map λt=>[t.1,t.2.1,(t.2.2:Int)])) [])) else af)=_;rw[eg,acz ⟨IJ,by show 3<=lim;decide⟩];rfl
 have ht:=YC hb;generalize acc[eV (acc.map λt=>[t.1,t.2.1,(t.2.2:Int)])]=t at*;obtain⟨x,y,hx,hy,Ia,e1,e2,za⟩:=(b1 t ht).resolve_left (by simp);obtain⟨R,r1,r2⟩:=hf x hx;obtain⟨Q,q1,q2⟩:=hf y hy;rw[e1,hi] at r1;cases r1;rw[e2] at q1;refine⟨t.2.2,Q,x,y,q1,⟨PO,oH q1,λe=>za ?_,r2,q2,Ia⟩,?_⟩
 ·subst e;exact wU hw hi q1 r2 r2
 ·refine bf (ay (ρ':=Ic bd (.lst ((aj bd W w).map cL)) i [] none none none) rfl (ay (fb (ij (ds:=ks.map λk=> .tup [cD k, .int (g k)]) ?_ b5)) ?_))
  ·show (au 2 cQ (aC (dV 0) (aC (dV 1) aN)) _>>=oB)=_;rw[(ak (ds:=[brd bd, .lst ((aj bd W w).map cL)]) rfl rfl:au 2 cQ (aC (dV 0) (aC (dV 1) aN)) _=_),es,aq,Ge]
  ·refine aO ((aK (x:=qw t) (y:= .int 2) ((bY (xs:=[.lst (acc.map qw)]) rfl).trans em) rfl).trans rfl)
end
section
open Classical
variable{bd:List Str}{W w:Nat}
noncomputable def cC(bd:List Str)(V w:Nat):List Int:=(aj bd V w).map λP=>(P.length:Int)
def oK:∀l:List Int,nums (l.map D.int)=some l
 |[]=>rfl
 |x::r=>by
  show (nums (r.map D.int)).map _=_;rw[oK r];rfl
def D1(hs:bd.length*W<64){δ:DE}{ρ:bb}(h:δ ρ=aa (.lst ((aj bd W w).map cL))):cn 0 (fC δ) dW (dA bc (aC (dV 0) aN)) ρ=aa (.lst ((cC bd W w).map D.int)):=by
 have hl:=eE (bd:=bd) (W:=W) (w:=w);refine cN (ds:=(aj bd W w).map cL) ?_ ?_ (by unfold cC;rw[V4,V4,dP];omega)
 ·show (δ ρ>>=lstM)=_;rw[h];rfl
 ·unfold cC;rw[WY];refine jg cL _ _ λP hP=>?_;rw[mm];show (aa (D.int ((P.map cD).length:Int))>>=λy=>aa (some y))=_;rw[V4];rfl
def mE(hg:Brd bd W)(hw:Ways w):0<(aj bd W w).length:=by
 obtain⟨P,hP,_⟩:=mD hg hw (x:=(0,0)) ⟨hg.r1,hg.w1⟩;exact abB hP
def Gv(hg:Brd bd W)(hw:Ways w):j6 [.lst ((cC bd W w).map D.int)]=aa (.int (dD (cC bd W w))):=by
 show (match nums ((cC bd W w).map D.int) with | some ns=>if 0<ns.length then aa (D.int (dD ns)) else af | none=>af)=_;rw[oK];exact acz (by unfold cC;rw[V4];exact mE hg hw)
def Stop(bd:List Str)(W w least:Nat):Prop:=(aj bd W w).length=1\/∀P∈aj bd W w,least<=P.length
def AO(bd:List Str)(W w least:Nat)(Pz:List Str):Prop:=∃P Q x y,Adj bd W w P Q x y/\dD (cC bd W w)=(P.length:Int)/\P.length<least/\Pz=Gr bd W P y/\dG [brd bd,iW w,iW least]=aa (brd Pz)
def OA{Ps:List (List Cell)}{i:Nat}{P:List Cell}(h:Ps[i]? =some P):eC (.lst (Ps.map cL)) (.int (i:Int))=aa (cL P):=by
 show (match L2.atI (Ps.map cL) (i:Int) with | some d=>aa d | none=>af)=_;rw[eU (x:=cL P) (by rw[Wb,h];rfl)]
def t7(hg:Brd bd W)(hs:bd.length*W<64)(hw:Ways w)(least:Nat):(Stop bd W w least/\dG [brd bd,iW w,iW least]=aa .non)\/(¬Stop bd W w least/\∃Pz,AO bd W w least Pz):=by
 have VU:=eE (bd:=bd) (W:=W) (w:=w);have IJ:=mE hg hw;have UK:0<(cC bd W w).length:=by unfold cC;rw[V4];exact IJ
 obtain⟨m1,m2⟩:=oI UK;have qa:Stop bd W w least↔((aj bd W w).length=1\/(least:Int)<=dD (cC bd W w)):=by
  refine or_congr_right ⟨λh=>?_,λh P hP=>?_⟩
  ·obtain⟨P,hP,e⟩:=Wn.mp (show dD (cC bd W w)∈(aj bd W w).map λP=>(P.length:Int) from m1);rw[<-e];have:=h P hP;omega
  ·have:=m2 (P.length:Int) (Wn.mpr ⟨P,hP,rfl⟩);omega
 let S:D:= .lst ((aj bd W w).map cL)
 let Z:D:= .lst ((cC bd W w).map D.int)
 have e3:au 2 a9 (aC (dV 0) (aC (dV 1) aN)) [fz (brd bd),fz (iW w),fz (iW least),none,none,none,none]=aa S:=(ak (ds:=[brd bd,iW w]) rfl rfl).trans ((ei hg hs hw).trans (by rw[jr]));have TV:dA bc (aC (dV 3) aN) [fz (brd bd),fz (iW w),fz (iW least),fz S,fz Z,none,none]=aa (.int ((aj bd W w).length:Int)):=by
  refine(bY (xs:=[S]) rfl).trans ?_;show aa (D.int (((aj bd W w).map cL).length:Int))=_;rw[V4]
 have SG:∀{x5 x6:Option Sl},dA j6 (aC (dV 4) aN) [fz (brd bd),fz (iW w),fz (iW least),fz S,fz Z,x5,x6]=aa (.int (dD (cC bd W w))):=(bY (xs:=[Z]) rfl).trans (Gv hg hw);have C8:oj (da (d2 jZ (dA bc (aC (dV 3) aN)) (dC (.int 1)))) (da (d2 PL (dA j6 (aC (dV 4) aN)) (dV 2))) [fz (brd bd),fz (iW w),fz (iW least),fz S,fz Z,none,none]=aa (decide (Stop bd W w least)):=by
  refine(Fj (p:=decide ((aj bd W w).length=1)) (q:=decide ((least:Int)<=dD (cC bd W w))) (ja ((aK TV (y:= .int 1) rfl).trans ?_)) (ja ((aK SG (y:=iW least) rfl).trans rfl))).trans ?_
  ·rw[eq_int];congr 2;rw[Ze,beq_iff_eq,acE];omega
  ·congr 1;rw[Ze,Bool.or_eq_true,acE,acE,acE];exact qa.symm
 have top:∀{d:D},aV (jK (oj (da (d2 jZ (dA bc (aC (dV 3) aN)) (dC (.int 1)))) (da (d2 PL (dA j6 (aC (dV 4) aN)) (dV 2)))) (bM (dC .non)) dQ) (aV (bS 5 (dM vf zc (dV 4) (aC (dA j6 (aC (dV 4) aN)) aN))) (aV (bS 6 (au 3 eX (aC (dV 0) (aC (dV 3) (aC (dV 5) aN))))) (bM (au 3 bh (aC (dV 0) (aC (d2 eC (dV 3) (dV 5)) (aC (au 2 aW (aC (dV 0) (aC (d2 eC (d2 eC (dV 3) (dV 6)) (dC (.int 0))) aN))) aN))))))) [fz (brd bd),fz (iW w),fz (iW least),fz S,fz Z,none,none]=aa (.rt d)->dG [brd bd,iW w,iW least]=aa d:=λ{d} h=>
  bf (ay (ρ':=[fz (brd bd),fz (iW w),fz (iW least),fz S,none,none,none]) ((aT e3).trans rfl) (ay (ρ':=[fz (brd bd),fz (iW w),fz (iW least),fz S,fz Z,none,none]) ((aT (D1 hs (δ:=dV 3) rfl)).trans rfl) h))
 by_cases hS:Stop bd W w least
 ·rw[acB hS] at C8;exact .inl ⟨hS,top (eo (fY C8 rfl))⟩
 ·rw[acD hS] at C8;refine .inr ⟨hS,?_⟩;have f_:(cC bd W w).idxOf (dD (cC bd W w))<(cC bd W w).length:=abk.mpr m1;obtain⟨P,hP,NL⟩:∃P,(aj bd W w)[(cC bd W w).idxOf (dD (cC bd W w))]? =some P/\dD (cC bd W w)=(P.length:Int):=by
   have e:(cC bd W w)[(cC bd W w).idxOf (dD (cC bd W w))]? =some (dD (cC bd W w)):=by rw[V5 f_,acm f_]
   have e2:((aj bd W w).map λP=>(P.length:Int))[(cC bd W w).idxOf (dD (cC bd W w))]? =some (dD (cC bd W w)):=e;rw[Wb] at e2;cases q:(aj bd W w)[(cC bd W w).idxOf (dD (cC bd W w))]? with
   |none=>rw[q] at e2;cases e2
   |some P=>rw[q] at e2;exact⟨P,rfl,(WC e2).symm⟩
  have h1:(aj bd W w).length≠1:=λq=>hS (.inl q);have Rf:P.length<least:=by
   have:¬(least:Int)<=dD (cC bd W w):=λq=>hS (qa.mpr (.inr q));omega
  obtain⟨j,Q,x,y,hQ,hA,em⟩:=D4 hg hs hw hP h1;obtain⟨m,n1,_,n3,r,hr⟩:=gO hw hA.q;have UJ:lt bd y=lt bd m:=((kD hw hA.q n1).mp hA.yq).letter hw;have SW:P.length<64:=by
   obtain⟨m',p1,_,p3,_⟩:=gO hw hA.p;have UY:RiseC P:=by rw[<-lu hw hA.p hA.xp];exact(cg hw (hA.ox hw)).rise
   have:=mU (bd:=bd) (W:=W) (RiseC.nodup UY) λz hz=>gy hw P hA.p z hz;omega
  refine⟨Gr bd W P y,P,Q,x,y,hA,NL,Rf,rfl,top ?_⟩;refine ay (d8 C8 rfl) ?_;refine ay (ρ':=[fz (brd bd),fz (iW w),fz (iW least),fz S,fz Z,fz (.int (((cC bd W w).idxOf (dD (cC bd W w)):Nat):Int)),none]) ((aT ?_).trans rfl) ?_
  ·show (if vf Z then(aC (dA j6 (aC (dV 4) aN)) aN) _>>=λds=>zc Z ds else af)=_;rw[acz (show vf Z=true from rfl),aD SG (xs:=[]) rfl,aq];show (match nums ((cC bd W w).map D.int) with | some ns=>if ns.contains (dD (cC bd W w)) then aa (D.int (ns.idxOf (dD (cC bd W w)):Nat)) else af | none=>af)=_;rw[oK];exact acz (by simpa using m1)
  refine ay (ρ':=[fz (brd bd),fz (iW w),fz (iW least),fz S,fz Z,fz (.int (((cC bd W w).idxOf (dD (cC bd W w)):Nat):Int)),fz (.int (j:Int))]) ((aT ((ak (ds:=[brd bd,S, .int (((cC bd W w).idxOf (dD (cC bd W w)):Nat):Int)]) rfl rfl).trans em)).trans rfl) ?_;have e1:d2 eC (dV 3) (dV 5) [fz (brd bd),fz (iW w),fz (iW least),fz S,fz Z,fz (.int (((cC bd W w).idxOf (dD (cC bd W w)):Nat):Int)),fz (.int (j:Int))]=aa (cL P):=(aK (x:=S) rfl rfl).trans (OA hP);have e2:d2 eC (d2 eC (dV 3) (dV 6)) (dC (.int 0)) [fz (brd bd),fz (iW w),fz (iW least),fz S,fz Z,fz (.int (((cC bd W w).idxOf (dD (cC bd W w)):Nat):Int)),fz (.int (j:Int))]=aa (cD m):=by
   refine(aK (x:=cL Q) (y:= .int ((0:Nat):Int)) ((aK (x:=S) rfl rfl).trans (OA hQ)) rfl).trans (LR ?_);rw[hr];rfl
  refine aO ((ak (ds:=[brd bd,cL P,sg (lt bd m)]) (aD rfl (aD e1 (aD ((ak (ds:=[brd bd,cD m]) (aD rfl (aD e2 rfl)) rfl).trans (d3 hg n3)) rfl))) rfl).trans ((jb hg (by omega) _).trans ?_));rw[<-UJ]
def Run(W w least:Nat):List Str->List (List Str)->Prop
 |b,[]=>Stop b W w least
 |b,b'::r=>AO b W w least b'/\Run W w least b' r
def Gs(hG:Good bd W){P:List Cell}{y:Cell}(hy:On bd.length W y):Good (Gr bd W P y) W:=iZ hG (wm hG.brd hy.1 hy.2)
def eD(hG:Good bd W):bd.length*W<64:=by
 have:=Zp hG.r5 hG.w5;omega
def AO.good{least:Nat}{b':List Str}(h:AO bd W w least b')(hG:Good bd W)(hw:Ways w):Good b' W/\b'.length=bd.length/\(aj b' W w).length<(aj bd W w).length:=by
 obtain⟨P,Q,x,y,hA,_,_,rfl,_⟩:=h;exact⟨Gs hG (hA.oy hw),lj,hA.fewer hw⟩
abbrev MQ(b0:D)(w least:Nat)(acc:List (List Str))(d:D):bb:=[fz b0,fz (iW w),fz (iW least),some (.ow (.lst (acc.map brd))),fz d]
def B_{b0:D}{least:Nat}{acc:List (List Str)}{b:List Str}{d:D}(ha:acc.length<4000)(e:dG [brd b,iW w,iW least]=aa d):QC (MQ b0 w least acc (brd b))=aa (.nx (MQ b0 w least (acc++[b]) d)):=by
 refine ay (ρ':=MQ b0 w least (acc++[b]) (brd b)) ?_ ((aT ((ak (ds:=[brd b,iW w,iW least]) rfl rfl).trans e)).trans rfl);show (if (acc.map brd).length<lim then aa (Out.nx _) else af)=_;rw[acz (by rw[V4,dP];omega)];exact acH (λl=>aa (Out.nx [fz b0,fz (iW w),fz (iW least),some (.ow (.lst l)),fz (brd b)])) (W4 (l₁:=acc) (l₂:=[b]) (f:=brd)).symm
def Ik(hw:Ways w){b0:D}{least:Nat}:∀(n:Nat) (b:List Str) (acc:List (List Str)) (N:Nat),Good b W->(aj b W w).length<=n->acc.length+n<4000->n+2<=N->
 ∃r,Run W w least b r/\fM (da (d2 (FE true) (dV 4) (dC .non))) QC N (MQ b0 w least acc (brd b))=aa (.nx (MQ b0 w least (acc++b::r) .non)):=by
 intro n;induction n with
 |zero=>
  intro b acc N hG hp ha hN;have:=mE hG.brd hw;omega
 |succ n ih=>
  intro b acc N hG hp ha hN;obtain⟨N,rfl⟩:∃k,N=k+2:=⟨N - 2,by omega⟩
  rcases t7 hG.brd (eD hG) hw least with⟨hS,e⟩ | ⟨_,b',QM⟩
  ·exact⟨[],hS,tP rfl (B_ (by omega) e) (Ag rfl)⟩
  ·obtain⟨g1,g2,g3⟩:=QM.good hG hw;obtain⟨r,r1,r2⟩:=ih b' (acc++[b]) (N+1) g1 (by omega) (by rw[Wh];simp;omega) (by omega);obtain⟨_,_,_,_,_,_,_,_,e⟩:=id QM;refine⟨b'::r,⟨QM,r1⟩,tP rfl (B_ (by omega) e) (r2.trans ?_)⟩;rw[Zu];rfl
def t8(hG:Good bd W)(hw:Ways w)(least:Nat):∃r,Run W w least bd r/\fS [brd bd,iW w,iW least]=aa (.lst ((bd::r).map brd)):=by
 have hl:=eE (bd:=bd) (W:=W) (w:=w);have hs:=eD hG;obtain⟨r,r1,r2⟩:=Ik hw (b0:=brd bd) (least:=least) 64 bd [] lim hG (by omega) (by simp) (by rw[dP];decide);refine⟨r,r1,bf (ay (ρ':=[fz (brd bd),fz (iW w),fz (iW least),some (.ow (.lst [])),none]) rfl (ay (ρ':=MQ (brd bd) w least [] (brd bd)) rfl (ay (fb r2) ?_)))⟩;rfl
def D9(hg:Brd bd W)(hw:Ways w){least:Nat}(h1:1<=least)(h2:least<=64):eY [brd bd,iW w,iW least]=aa .non:=by
 refine nZ (ρ:=[fz (brd bd),fz (iW w),fz (iW least)]) (ay (bL ((ak (ds:=[brd bd]) rfl rfl).trans hg.nb)) (ay (bL ((ak (ds:=[iW w]) rfl rfl).trans hw.nw)) (d8 (Fj (p:=false) (q:=false) (ri (b:=true) (om ((ak (ds:=[iW least]) rfl rfl).trans ((o7 (d:=iW least) trivial).trans rfl)))) (ri (b:=true) (ja ?_))) rfl)));show (if decide ((1:Int)<=(least:Int))=true then aa (D.bl (decide ((least:Int)<=64))) else aa (D.bl false))=_;rw[acz (by rw[acE];omega),acB (by omega)]
def I9{r:List (List Str)}{l:List Str}(h:r.getLast? =some l):eC (.lst (r.map brd)) (.int (-1))=aa (brd l):=by
 obtain⟨q,rfl⟩:=List.getLast?_eq_some_iff.mp h;rw[W4];exact IX ..
def Bg(hG:Good bd W)(hw:Ways w){least:Nat}(h1:1<=least)(h2:least<=64){r:List (List Str)}{l:List Str}(e:fS [brd bd,iW w,iW least]=aa (.lst ((bd::r).map brd)))(hl:(bd::r).getLast? =some l):iS [brd bd,iW w,iW least]=aa (brd l):=
 bf (ay (bL ((ak (ds:=[brd bd,iW w,iW least]) rfl rfl).trans (D9 hG.brd hw h1 h2))) (aO ((aK (x:= .lst ((bd::r).map brd)) (y:= .int (-1)) ((ak (ds:=[brd bd,iW w,iW least]) rfl rfl).trans e) rfl).trans (I9 hl))))
def z0(hw:Ways w){least:Nat}:∀(r:List (List Str)) (b:List Str),Good b W->Run W w least b r->∃l,(b::r).getLast? =some l/\Good l W/\l.length=b.length/\Stop l W w least
 |[],b,hG,h=>⟨b,rfl,hG,rfl,h⟩
 |b'::r,b,hG,h=>by
  obtain⟨g1,g2,_⟩:=h.1.good hG hw;obtain⟨l,a1,a2,a3,a4⟩:=z0 hw r b' g1 h.2;refine⟨l,?_,a2,a3.trans g2,a4⟩;rw[List.getLast?_cons_cons];exact a1
end
end K1
namespace K1
open PySem PySem.Spec L2 L3
open PyProof.Rows hiding St
def RG(h:δ ρ=aa (.lst ds)):fC δ ρ=aa ds:=by
 unfold fC;rw[h];rfl
def sd:∀l:List Int,nums (l.map D.int)=some l
 |[]=>rfl
 |x::l=>by
  show (nums (l.map D.int)).map _=_;rw[sd l];rfl
def Vn(h:0<l.length):j6 [.lst (l.map D.int)]=aa (.int (dD l)):=by
 show (match nums (l.map D.int) with | some ns=>if 0<ns.length then aa (D.int (dD ns)) else af | none=>af)=_;rw[sd];exact acz h
def ne_self{d:D}(h:u4 6 d d=some true):pe d d=aa (.bl false):=by
 unfold pe;rw[h];rfl
def Kb{l:List Int}(h:δ ρ=aa (.lst (l.map D.int))):dA C6 (aC δ aN) ρ=aa (.int l.sum):=by
 refine(bY (aD h rfl)).trans ?_;show (match nums (l.map D.int) with | some ns=>aa (D.int ns.sum) | none=>af)=_;rw[sd]
def Co(a b:Int):jZ (.int a) (.int b)=aa (.bl (a==b)):=by
 unfold jZ;rw[wH]
def wX{i:Nat}(h:l[i]? =some d):eC (.lst l) (.int (i:Int))=aa d:=by
 show (match L2.atI l (i:Int) with | some x=>aa x | none=>af)=_;rw[eU h]
end K1
namespace K1
open PySem PySem.Spec L2 L3 HT
open PyProof.Rows hiding St
def qy{bd:List Str}{W:Nat}(hg:Brd bd W){x:Cell}(hx:On bd.length W x){c:Nat}(hc:c∈E6):dg [brd bd,cD x,sg c]=aa (brd (kH bd W [x] c)):=
 bf (ay (bL ((ak (ds:=[brd bd]) rfl rfl).trans hg.nb)) (ay (bL ((ak (ds:=[brd bd,cD x]) rfl rfl).trans (hg.nc hx))) (ay (bL ((ak (ds:=[sg c]) rfl rfl).trans (GD ((ng c).trans (acB hc))))) (aO ((ak (ds:=[brd bd,cL [x],sg c]) rfl rfl).trans (jb hg (by simp) c))))))
def yJ(ns:List Int)(hl:ns.length<=63){bd:List Str}{W:Nat}(hg:Brd bd W)(k:Nat):∃c,On bd.length W c/\dX [.scr ns, .int (k:Int),brd bd]=aa (cD c):=by
 obtain⟨v,hv,e⟩:=cP ns hl k bd.length hg.r1;obtain⟨u,hu,e2⟩:=cP ns hl (k+1) W hg.w1;refine⟨(v,u),⟨hv,hu⟩,bf (aO ((bY (xs:=[.int (v:Int), .int (u:Int)]) (aD ?_ (aD ?_ rfl))).trans rfl))⟩
 ·exact(ak (ds:=[.scr ns, .int (k:Int), .int (bd.length:Int)]) (aD rfl (aD rfl (aD (Gk (i:=2) rfl) rfl))) rfl).trans e
 ·exact(ak (ds:=[.scr ns, .int ((k+1:Nat):Int), .int (W:Int)]) (aD rfl (aD rfl (aD (hg.len0 (i:=2) rfl) rfl))) rfl).trans e2
section
open Classical
variable{CK CG a:Addr}{b b':List Str}{W w:Nat}{L:List D}{d:D}
def gb(C:Addr)(w:Nat)(L:List D):Ob:=⟨C,[("ways", .fz (iW w)),("boards", .ow L)]⟩
def qE(C:Addr)(w:Nat)(d:D):Ob:=⟨C,[("ways", .fz (iW w)),("stages", .ow [d]),("place", .fz (.int 0))]⟩
def eQ{α:Type}{o:Ob}{x:Str}{m:M α}(h:o.fs.lookup x=none):mO o x m=m:=by
 unfold mO;rw[h]
def kZ:av CK CG a (gb CK w (L++[d])) []=aa d:=by
 show jV CK 0 "boards" (d1 uq (dC (.int 1))) (bx 1 a (gb CK w (L++[d])) [])=_;unfold jV;rw[cE (i:=0) (ρ:=bx 1 a (gb CK w (L++[d])) []) (C:=CK) rfl rfl];show (match L2.atI (L++[d]) (-1) with | some d=>aa d | none=>af)=_;rw[L2.qU]
def nq(hG:Good b W)(hw:Ways w):a6 CK CG a (gb CK w (L++[brd b])) []=aa (.int ((aj b W w).length:Int)):=by
 have ho:bP (bx 1 a (gb CK w (L++[brd b])) []) 0 CK=some (a,gb CK w (L++[brd b])):=cE rfl rfl;exact(ak (ds:=[brd b,iW w]) (aD ((bA (ds:=[]) ho rfl rfl).trans ((eQ rfl).trans kZ)) (aD (jW ho rfl) rfl)) rfl).trans (gm hG.brd (eD hG) hw)
def A3(hG:Good b W)(FO:Good b' W)(hw:Ways w)(hl:L.length<4000):aM CK CG a (gb CK w (L++[brd b])) [brd b']=aa (.int (((aj b' W w).length:Int) - ((aj b W w).length:Int)),gb CK w (L++[brd b]++[brd b'])):=by
 show noex (if (L++[brd b]).length<lim then mO (gb CK w (L++[brd b])) "many" (a6 CK CG a (gb CK w (L++[brd b])) [])>>=λm=>noex (mO (gb CK w (L++[brd b]++[brd b'])) "many" (a6 CK CG a (gb CK w (L++[brd b]++[brd b'])) []))>>=λm2=>noex (jO m2 m)>>=λd=>aa (d,gb CK w (L++[brd b]++[brd b'])) else af)=_;rw[acz (by rw[Wh,dP];simp;omega),eQ rfl,eQ rfl,nq hG hw,nq FO hw];rfl
def Gq(hG:Good b W)(hw:Ways w)(hl:L.length<4000){x:Cell}(hx:On b.length W x){c:Nat}(hc:c∈E6):∃b',Good b' W/\b'.length=b.length/\b_ CK CG a (gb CK w (L++[brd b])) [cD x,sg c]=aa (.int (((aj b' W w).length:Int) - ((aj b W w).length:Int)),gb CK w (L++[brd b]++[brd b'])):=by
 refine⟨kH b W [x] c,iZ hG hc,by unfold kH;simp[Bi],?_⟩;show noex (mO (gb CK w (L++[brd b])) "go_on" (mO (gb CK w (L++[brd b])) "shown" (av CK CG a (gb CK w (L++[brd b])) [])>>=λb=>dg [b,cD x,sg c]>>=λb2=>aM CK CG a (gb CK w (L++[brd _])) [b2]))=_;rw[eQ rfl,eQ rfl,kZ,aq,qy hG.brd hx hc,aq,A3 hG (iZ hG hc) hw hl];rfl
def El(hG:Good b W)(hw:Ways w)(hl:L.length<4000){x:Cell}(hx:On b.length W x){c:Nat}(hc:c∈E6):∃b',Good b' W/\b'.length=b.length/\bU CK CG a (gb CK w (L++[brd b])) [cD x,sg c]=aa (.int (((aj b' W w).length:Int) - ((aj b W w).length:Int)),gb CK w (L++[brd b]++[brd b'])):=by
 refine⟨kH b W (bp b W w x) c,iZ hG hc,by unfold kH;simp[Bi],?_⟩;show noex (mO (gb CK w (L++[brd b])) "go_on" (mO (gb CK w (L++[brd b])) "shown" (av CK CG a (gb CK w (L++[brd b])) [])>>=λb=>gw [b,cD x,iW w,sg c]>>=λb2=>aM CK CG a (gb CK w (L++[brd _])) [b2]))=_;rw[eQ rfl,eQ rfl,kZ,aq,zK hG.brd hw hx hc,aq,A3 hG (iZ hG hc) hw hl];rfl
def Gu(hG:Good b W)(hw:Ways w)(hl:L.length<4000){k:Nat}(h1:1<=k)(h2:k<=64):∃b',Good b' W/\b'.length=b.length/\cb CK CG a (gb CK w (L++[brd b])) [.int (k:Int)]=aa (.int (((aj b' W w).length:Int) - ((aj b W w).length:Int)),gb CK w (L++[brd b]++[brd b'])):=by
 obtain⟨r,r1,r2⟩:=t8 hG hw k;obtain⟨l,q1,q2,q3,_⟩:=z0 hw r b hG r1;refine⟨l,q2,q3,?_⟩;show noex (mO (gb CK w (L++[brd b])) "go_on" (mO (gb CK w (L++[brd b])) "shown" (av CK CG a (gb CK w (L++[brd b])) [])>>=λb=>iS [b,iW w, .int (k:Int)]>>=λb2=>aM CK CG a (gb CK w (L++[brd _])) [b2]))=_;rw[eQ rfl,eQ rfl,kZ,aq,Bg hG hw h1 h2 r2 q1,aq,A3 hG q2 hw hl];rfl
def HR(hl:0<L.length):cI CK CG a (gb CK w (L++[d])) []=aa (.non,gb CK w L):=by
 show noex (if 1<(L++[d]).length then aa (D.non,gb CK w (L++[d]).dropLast) else af)=_;rw[acz (by simp;exact hl),List.dropLast_concat];rfl
def s_:cB CK CG a (qE CG w d) []=aa d:=by
 show jV CG 0 "stages" (p_ CG 0 "place") (bx 1 a (qE CG w d) [])=_;unfold jV;have ho:bP (bx 1 a (qE CG w d) []) 0 CG=some (a,qE CG w d):=cE rfl rfl;rw[ho];show (p_ CG 0 "place" (bx 1 a (qE CG w d) [])>>=λk=>match k with | .int j=>(match L2.atI [d] j with | some d=>aa d | none=>af) | _=>af)=_;rw[jW ho (d:= .int 0) rfl];rfl
end
end K1
namespace K1
open PySem L2 L3 HT
def oi(x:Str)(c:Nat):∀(n a:Nat) (st:Array Nat×Nat),a+n<=x.length+1->st.snd<=a->st.fst.size<=a->
 (forIn (WL a n) st (acd x ⟨#[c]⟩ x.length (x.length+1))).run.fst.size=st.fst.size+((WL a n).filter λi=>decide (x.cps.toList[i]? =some c)).length
 |0,a,st,_,_,_=>rfl
 |n+1,a,st,h1,h2,h3=>by
  rw[YB,ZJ,Xk];have key:=StrLaws.subAt_one x c a;unfold acd;by_cases hc:x.cps.toList[a]? =some c
  ·have k:=key.mpr hc;rw[acz ⟨⟨⟨by omega,h2⟩,k.1⟩,k.2⟩,acz (acB hc)];have ih:=oi x c n (a+1) (st.fst.push a,a+(⟨#[c]⟩:Str).length) (by omega) (Wj _) (by simp;omega);refine Eq.trans ih ?_;simp;omega
  ·rw[acA (λz=>hc (key.mp ⟨z.1.2,z.2⟩)),acA (by simpa using hc)];exact oi x c n (a+1) (st.fst,st.snd) (by omega) (by show st.snd<=a+1;omega) (by show st.fst.size<=a+1;omega)
def wC(c:Nat):∀l:List Nat,((Wy (l.length+1)).filter λi=>decide (l[i]? =some c)).length=l.count c
 |[]=>by simp[List.range_succ]
 |a::l=>by
  rw[V7,YU,Xk,aaI];have e:((λi=>decide ((a::l)[i]? =some c))∘Nat.succ)=λi=>decide (l[i]? =some c):=by
   funext i;simp
  rw[e];by_cases h:a=c
  ·subst h;simp only[WM,decide_true,if_true,V7,V4,wC a l,List.count_cons_self]
  ·have h':¬(a==c)=true:=by simpa using h
   simp only[WM,Option.some.injEq,h,decide_false,WO,if_false,V4,wC c l];rw[List.count_cons_of_ne h]
def Iq(x:Str)(c:Nat):(XC x ⟨#[c]⟩ 0 x.length (x.length+1)).length=x.cps.toList.count c:=by
 have k:=oi x c (x.length+1 - 0) 0 (#[],0) (by omega) (Wj _) (Wj _);rw[StrLaws.occ_eq,Wu,k,<-wC c x.cps.toList];show 0+_=_;rw[ZO,Wu,ZR];rfl
def rf{α:Type}{f:D->M (Option D)}(enc:α->D)(p:α->Bool)(g:α->D):∀(xs:List α),(∀x∈xs,f (enc x)=aa (if p x then some (g x) else none))->dU f (xs.map enc)=aa ((xs.filter p).map g)
 |[],_=>rfl
 |x::xs,h=>by
  rw[Wg,fG,h x (V6 ..),aq,rf enc p g xs λy hy=>h y (V3 _ hy),Xk];cases p x<;>rfl
end K1
namespace K1
open PySem PySem.Spec L2 L3 HT
open PyProof.Rows hiding St
section
open Classical
variable{CK CG a:Addr}{bd b:List Str}{W w:Nat}{d:D}
def Lm:D.str "."=sg 46:=by
 show D.str _=D.str _;congr 1
def Ig{c:Nat}(h:c∈E6):c≠46:=by
 intro z;subst z;revert h
 decide
def mF(hw:Ways w)(hP:P∈aj b W w):∃m r,P=m::r/\On b.length W m:=by
 obtain⟨i,hi,e⟩:=XO hP;obtain⟨m,e1,e2⟩:=oP (V5 hi);have hm:=oH e1;obtain⟨r,hr⟩:=sL hw hm;exact⟨m,r,by rw[<-e,e2,hr],d4 hm⟩
def AJ(hG:Good b W)(hw:Ways w)(hP:P∈aj b W w):dH [brd b,cL P]=aa (.bl (decide (1<P.length))):=by
 obtain⟨m,r,rfl,hm⟩:=mF hw hP;have h1:d2 QK (dA bc (aC (dV 1) aN)) (dC (.int 1)) [fz (brd b),fz (cL (m::r))]=aa (.bl (decide (1<(m::r).length))):=by
  refine(aK (x:= .int (((m::r).length:Nat):Int)) (y:= .int 1) ((bY (xs:=[cL (m::r)]) (aD rfl rfl)).trans (Gm _)) rfl).trans ?_;show aa (D.bl (decide ((1:Int)<(((m::r).length:Nat):Int))))=_;congr 2;rw[decide_eq_decide];omega
 have h2:d2 pe (au 2 aW (aC (dV 0) (aC (d2 eC (dV 1) (dC (.int 0))) aN))) (dC (.str ".")) [fz (brd b),fz (cL (m::r))]=aa (.bl true):=by
  refine(aK (x:=sg (lt b m)) (y:=sg 46) ((ak (ds:=[brd b,cD m]) (aD rfl (aD ((aK (x:=cL (m::r)) (y:= .int 0) rfl rfl).trans (wX (i:=0) rfl)) rfl)) rfl).trans (d3 hG.brd hm)) (by show aa (D.str ".")=_;rw[Lm])).trans ?_;unfold pe;rw[show u4 6 (sg (lt b m)) (sg 46)=some false from ?_]
  ·rfl
  ·have gk:lt b m≠46:=Ig (wm hG.brd hm.1 hm.2);refine(Ck 6 ⟨#[lt b m]⟩ ⟨#[46]⟩).trans ?_;rw[acD];intro z;have z1:(#[lt b m]:Array Nat)= #[46]:=acH Str.cps z;exact gk (by simpa using z1)
 exact bf (aO ((wD h1 h2).trans (by rw[abm])))
def wB(hG:Good b W)(hw:Ways w):∃l,l.length=((aj b W w).filter λP=>decide (1<P.length)).length/\c6 CK CG a (qE CG w (brd b)) []=aa (.lst l):=by
 have hs:=eD hG;have ho:bP (bx 2 a (qE CG w (brd b)) []) 0 CG=some (a,qE CG w (brd b)):=cE rfl rfl;have e1:au 2 a9 (aC (bE CG 0 "rows" 0 (cB CK CG) aN) (aC (p_ CG 0 "ways") aN)) (bx 2 a (qE CG w (brd b)) [])=aa (.lst ((aj b W w).map cL)):=
  (ak (ds:=[brd b,iW w]) (aD ((bA (ds:=[]) ho rfl rfl).trans ((eQ rfl).trans s_)) (aD (jW ho rfl) rfl)) rfl).trans ((ei hG.brd hs hw).trans (by rw[jr]))
 refine⟨((aj b W w).filter λP=>decide (1<P.length)).map λP=>cD (P.headD (0,0)),by rw[V4],?_⟩;show (au 2 a9 _ (bx 2 a (qE CG w (brd b)) [])>>=λd=>_)=_;rw[e1,aq];refine cN (ds:=(aj b W w).map cL) rfl (rf cL (λP=>decide (1<P.length)) (λP=>cD (P.headD (0,0))) (aj b W w) λP hP=>?_) ?_
 ·rw[AL];have Cv:bP (fz (cL P)::(bx 2 a (qE CG w (brd b)) []).set 1 (some (.fz (.lst ((aj b W w).map cL))))) 1 CG=some (a,qE CG w (brd b)):=cE rfl rfl;have et:cO (au 2 dH (aC (bE CG 1 "rows" 0 (cB CK CG) aN) (aC (dV 0) aN))) (fz (cL P)::(bx 2 a (qE CG w (brd b)) []).set 1 (some (.fz (.lst ((aj b W w).map cL)))))=aa (decide (1<P.length)):=
   om ((ak (ds:=[brd b,cL P]) (aD ((bA (ds:=[]) Cv rfl rfl).trans ((eQ rfl).trans s_)) (aD rfl rfl)) rfl).trans (AJ hG hw hP))
  rw[et];obtain⟨m,r,rfl,_⟩:=mF hw hP;have e0:∀{ρ:bb},d2 eC (dV 0) (dC (.int 0)) (fz (cL (m::r))::ρ)=aa (cD m):=(aK (x:=cL (m::r)) (y:= .int 0) rfl rfl).trans (wX (i:=0) rfl);rw[e0];cases decide (1<(m::r).length)<;>rfl
 ·rw[V4,dP];have:=XZ (λP:List Cell=>decide (1<P.length)) (aj b W w);have:=eE (bd:=b) (W:=W) (w:=w);omega
def EC(hw:Ways w):((aj b W w).filter λP=>decide (1<P.length)).length+((aj b W w).filter λP=>decide (P.length=1)).length=(aj b W w).length:=by
 have:∀l:List (List Cell),(∀P∈l,0<P.length)->(l.filter λP=>decide (1<P.length)).length+(l.filter λP=>decide (P.length=1)).length=l.length:=λl=>by
  induction l with
  |nil=>intro _;rfl
  |cons P l ih=>
   intro h;have h0:=h P V6;have ih:=ih λQ hQ=>h Q (V3 _ hQ);rw[Xk,Xk];by_cases h1:P.length=1
   ·rw[acA (by simp;omega),acz (by simpa using h1),V7,V7];omega
   ·rw[acz (by simp;omega),acA (by simpa using h1),V7,V7];omega
 exact this _ λP hP=>by
  obtain⟨m,r,rfl,_⟩:=mF hw hP;simp
def Gj(hG:Good b W):fV CK CG a (qE CG w (brd b)) []=aa (.int ((b.length*W:Nat):Int)):=by
 have ho:bP (bx 1 a (qE CG w (brd b)) []) 0 CG=some (a,qE CG w (brd b)):=cE rfl rfl;refine(ak (ds:=[brd b]) (aD ((bA (ds:=[]) ho rfl rfl).trans ((eQ rfl).trans s_)) rfl) rfl).trans ?_;refine bf (aO ((Kb (l:=b.map λ_=>(W:Int)) (cN (ds:=b.map D.str) rfl ((jg D.str (λ_=> .int (W:Int)) b λr hr=>?_).trans (by rw[WY];rfl)) (by rw[V4,V4,dP];have:=hG.r5;omega))).trans ?_))
 ·have IL:=hG.rows r hr;have hc:AK r "."=0:=by
   show AK r ⟨#[46]⟩=0;unfold AK;rw[Iq,List.count_eq_zero];intro z;have:=(ng 46).symm.trans (IL.let' 46 z);revert this
   decide
  rw[mm,show d2 jO (dA bc (aC (dV 0) aN)) (dM DP Cf (dV 0) (aC (dC (.str ".")) aN)) _=aa (.int (W:Int)) from(aK (x:= .int (W:Int)) (y:= .int 0) ((bY (xs:=[.str r]) (aD rfl rfl)).trans (by rw[len_str,IL.len])) (by
   show aa (D.int ((AK r ".":Nat):Int))=_;rw[hc];rfl)).trans (by show aa (D.int ((W:Int) - 0))=_;rw[Int.sub_zero])]
  rfl
 ·have:∀l:List Str,(l.map λ_=>(W:Int)).sum=((l.length*W:Nat):Int):=λl=>by
   induction l with
   |nil=>simp
   |cons x l ih=>rw[Wg,ZA,ih,V7,Nat.succ_mul];omega
  rw[this]
end
def RL{v:Nat}(h:v<4):∃c∈E6,ro (.str "abcf") (.int (v:Int))=aa (sg c):=by
 match v,h with
 |0,_=>exact⟨97,by decide,rfl⟩
 |1,_=>exact⟨98,by decide,rfl⟩
 |2,_=>exact⟨99,by decide,rfl⟩
 |3,_=>exact⟨102,by decide,rfl⟩
section
variable{ρ ρ':bb}{Q:OX->Prop}{a:Addr}{i:Nat}
def xi{δ:DT}{A B:XS}{t:Bool}(h:δ ρ=aa t)(q:if t then A.f ρ Q else B.f ρ Q):(Pq (yl δ) A B).f ρ Q:=by
 show (match δ ρ with | none=>False | some (.ok b)=>_ | some (.ex n)=>_);rw[h];exact q
def TF{δ:DT}{A B:XE}{R:OE->Prop}{t:Bool}(h:δ ρ=aa t)(q:if t then A.f ρ R else B.f ρ R):(HX (yl δ) A B).f ρ R:=by
 show (match δ ρ with | none=>False | some (.ok b)=>_ | some (.ex n)=>_);rw[h];exact q
def ER{χ:XE}(h:χ.f ρ λx=>match x with | .val r ρ'=>Q (.nx (ρ'.set i (some r))) | .ex n ρ'=>Q (.ex n ρ')):(qz i χ).f ρ Q:=h
def So{χ:XE}(h:χ.f ρ λx=>match x with | .val r ρ'=>Q (.nx ρ') | .ex n ρ'=>Q (.ex n ρ')):(Kk χ).f ρ Q:=h
def o8{C:Addr}{g:Addr->Ob->List D->M (D×Ob)}{δs:DA}{ds:List D}{m:Nat}{O':Ob}{R:OE->Prop}(ha:δs ρ=aa ds)(hl:ds.length=m)(hg:∀a,g a ⟨C,[]⟩ ds=aa (.non,O'))(q:∀a,R (.val (.ob a O') ρ)):(wc C m g δs).f ρ R:=by
 show (match δs ρ with | none=>False | some (.ex n)=>R (.ex n ρ) | some (.ok ds)=>ds.length=m/\∀a,match g a ⟨C,[]⟩ ds with | none=>False | some (.ok (d,o'))=>d= .non/\R (.val (.ob a o') ρ) | some (.ex n)=>R (.ex n ρ));rw[ha];refine⟨hl,λa=>?_⟩;show (match g a ⟨C,[]⟩ ds with | none=>False | some (.ok (d,o'))=>d= .non/\R (.val (.ob a o') ρ) | some (.ex n)=>R (.ex n ρ));rw[hg a];exact⟨rfl,q a⟩
def HW{δi:DA}{B:XS}{ds:List D}{put:D->bb->Option bb}(h:δi ρ=aa ds)(q:gh put B ds ρ Q):(HV put δi B).f ρ Q:=by
 show (match δi ρ with | none=>False | some (.ok ds)=>gh put B ds ρ Q | some (.ex n)=>Q (.ex n ρ));rw[h];exact q
def tQ{B:XS}{ds:List D}{d:D}(q:B.f (ρ.set i (some (.fz d))) λx=>match x with | .nx ρ2=>gh (putN i) B ds ρ2 Q | .rt r ρ2=>Q (.rt r ρ2) | .ex n ρ2=>Q (.ex n ρ2)):gh (putN i) B (d::ds) ρ Q:=B.mono _ _ _ (λx hx=>by cases x<;>exact hx) q
def Bq{c c':C}:∀(ρ:bb) (i:Nat),ObK ρ (ρ.set i (some (.ow c)))
 |[],_=> .nil
 |x::ρ,0=> .cons (.inr λa o z=>by cases z) (c7 ρ)
 |x::ρ,i+1=> .cons (.inl rfl) (Bq (c':=c') ρ i)
end
section
open Classical
variable{CK CG:Addr}{bd b b':List Str}{W w:Nat}
def QD(CK CG:Addr):XS:=(cj (dm (bS 8 (d2 cp (dC (.int 70)) (d2 ir (dC (.int 6)) (dV 7))))) (cj (dm (bS 9 (au 3 dX (aC (dV 0) (aC (dV 8) (aC (dV 1) aN)))))) (cj (dm (bS 10 (d2 ro (dC (.str "abcf")) (au 3 aG (aC (dV 0) (aC (d2 cp (dV 8) (dC (.int 2))) (aC (dC (.int 4)) aN))))))) (cj (dm (bS 11 (au 3 aG (aC (dV 0) (aC (d2 cp (dV 8) (dC (.int 3))) (aC (dC (.int 5)) aN)))))) (cj (Pq (yl (da (d2 FH (dV 11) (dC (.int 2))))) (qz 12 (fB CK 3 "mark" 2 (b_ CK CG) (aC (dV 9) (aC (dV 10) aN)))) (qz 12 (HX (yl (da (d2 FH (dV 11) (dC (.int 4))))) (fB CK 3 "paint" 2 (bU CK CG) (aC (dV 9) (aC (dV 10) aN))) (fB CK 3 "melt" 1 (cb CK CG) (aC (d2 cp (dC (.int 1)) (au 3 aG (aC (dV 0) (aC (d2 cp (dV 8) (dC (.int 4))) (aC (dC (.int 3)) aN))))) aN))))) (cj (dm (bS 5 (d2 cp (dV 5) (dV 12)))) (cj (dm (jK (oj (da (d2 pe (bE CK 3 "many" 0 (a6 CK CG) aN) (dV 5))) (da (d2 pe (au 2 cU (aC (bE CK 3 "shown" 0 (av CK CG) aN) (aC (dV 2) aN))) (dV 5)))) (bM (dC (.bl false))) dQ)) (cj (dm (n0 6 (bE CK 3 "shown" 0 (av CK CG) aN))) (cj (qz 13 (wc CG 2 (eN CK CG) (aC (bE CK 3 "shown" 0 (av CK CG) aN) (aC (dV 2) aN)))) (cj (dm (bS 14 (cn 0 (fC (au 2 gx (aC (bE CK 3 "shown" 0 (av CK CG) aN) (aC (dV 2) aN)))) (da (d2 jZ (dA bc (aC (dV 0) aN)) (dC (.int 1)))) (dV 0)))) (cj (dm (jK (da (d2 pe (d2 cp (dA bc (aC (bE CG 13 "can_take" 0 (c6 CK CG) aN) aN)) (dA bc (aC (dV 14) aN))) (dV 5))) (bM (dC (.bl false))) dQ)) (dm (jK (da (d2 pe (bE CG 13 "left" 0 (fV CK CG) aN) (d2 ir (dA bc (aC (dV 1) aN)) (dA bc (aC (d2 bO (dV 1) (dC (.int 0))) aN))))) (bM (dC (.bl false))) dQ)))))))))))))
def SD(CK CG:Addr):XS:=(cj (dm (jK (da (d2 pe (bE CK 3 "shown" 0 (av CK CG) aN) (d2 eC (dV 6) (dV 7)))) (bM (dC (.bl false))) dQ)) (Kk (fB CK 3 "undo" 0 (cI CK CG) aN)))
abbrev rX(CK:Addr)(ns:List Int)(bd:List Str)(w:Nat)(a a2:Addr)(KL:List D)(N:D)(OL:List D)(x7 x8 x9 iN iH gX ip g8:Option Sl):bb:=
 [fz (.scr ns),fz (brd bd),fz (iW w),some (.ob a (gb CK w KL)),some (.ob a2 (gb CK w ([].map brd++[brd bd]))),fz N,some (.ow (.lst OL)),x7,x8,x9,iN,iH,gX,ip,g8]
noncomputable abbrev CW(CK:Addr)(W:Nat)(ns:List Int)(bd:List Str)(w:Nat)(a a2:Addr)(l:List (List Str))(b:List Str)(x7 x8 x9 iN iH gX ip g8:Option Sl):bb:=
 [fz (.scr ns),fz (brd bd),fz (iW w),some (.ob a (gb CK w (l.map brd++[brd b]))),some (.ob a2 (gb CK w ([].map brd++[brd bd]))),fz (.int ((aj b W w).length:Int)),some (.ow (.lst (l.map brd++[brd b]))),x7,x8,x9,iN,iH,gX,ip,g8]
def Qc{i j:Int}(h:i=j):pe (.int i) (.int j)=aa (.bl false):=by
 rw[h];exact ne_self ((wH 6 j j).trans (by simp))
def Pg(ns:List Int)(hl:ns.length<=63)(NJ:Good bd W)(hw:Ways w){a a2:Addr}{l:List (List Str)}(hG:Good b W)(hb:b.length=bd.length)(N6:l.length<100){k:Nat}{x8 x9 iN iH gX ip g8:Option Sl}{Q:OX->Prop}
 (hQ:∀b' x7 x8 x9 iN iH gX ip g8,Good b' W->b'.length=bd.length->Q (.nx (CW CK W ns bd w a a2 (l++[b]) b' x7 x8 x9 iN iH gX ip g8))):
 (QD CK CG).f (CW CK W ns bd w a a2 l b (fz (.int (k:Int))) x8 x9 iN iH gX ip g8) Q:=by
 unfold QD;have S9:=NJ.brd;have hg:=hG.brd;have hs:=eD hG;have e8:d2 cp (dC (.int 70)) (d2 ir (dC (.int 6)) (dV 7)) (CW CK W ns bd w a a2 l b (fz (.int (k:Int))) x8 x9 iN iH gX ip g8)=aa (.int ((70+6*k:Nat):Int)):=by
  refine(aK (x:= .int 70) (y:= .int (6*(k:Int))) rfl ((aK (x:= .int 6) (y:= .int (k:Int)) rfl rfl).trans (fU (.inl ⟨by omega,by omega⟩)))).trans ?_;rw[fT];congr 2
 refine sq (eh (ρ':=CW CK W ns bd w a a2 l b (fz (.int (k:Int))) (fz (.int ((70+6*k:Nat):Int))) x9 iN iH gX ip g8) ((aT e8).trans rfl) (fc _ 8) ?_);obtain⟨x,hx,ex⟩:=yJ ns hl S9 (70+6*k);refine sq (eh (ρ':=CW CK W ns bd w a a2 l b (fz (.int (k:Int))) (fz (.int ((70+6*k:Nat):Int))) (fz (cD x)) iN iH gX ip g8) ((aT ((ak (ds:=[.scr ns, .int ((70+6*k:Nat):Int),brd bd]) rfl rfl).trans ex)).trans rfl) (fc _ 9) ?_);obtain⟨v,hv,ev⟩:=cP ns hl (70+6*k+2) 4 (by decide);obtain⟨c,hc,ec⟩:=RL hv;refine sq (eh (ρ':=CW CK W ns bd w a a2 l b (fz (.int (k:Int))) (fz (.int ((70+6*k:Nat):Int))) (fz (cD x)) (fz (sg c)) iH gX ip g8) ((aT ((aK (x:= .str "abcf") (y:= .int (v:Int)) rfl ((ak (ds:=[.scr ns, .int ((70+6*k+2:Nat):Int), .int 4]) rfl rfl).trans ev)).trans ec)).trans rfl) (fc _ 10) ?_);obtain⟨u,hu,eu⟩:=cP ns hl (70+6*k+3) 5 (by decide);refine sq (eh (ρ':=CW CK W ns bd w a a2 l b (fz (.int (k:Int))) (fz (.int ((70+6*k:Nat):Int))) (fz (cD x)) (fz (sg c)) (fz (.int (u:Int))) gX ip g8) ((aT ((ak (ds:=[.scr ns, .int ((70+6*k+3:Nat):Int), .int 5]) rfl rfl).trans eu)).trans rfl) (fc _ 11) ?_);rw[<-hb] at hx;have QQ:(l.map brd).length<4000:=by rw[V4];omega
 have ho:∀{ρ:bb}{L:List D},ρ[3]? =some (some (.ob a (gb CK w L)))->bP ρ 3 CK=some (a,gb CK w L):=λh=>cE h rfl;have QE:∃b',Good b' W/\b'.length=b.length/\∀(P:OX->Prop),P (.nx [fz (.scr ns),fz (brd bd),fz (iW w),some (.ob a (gb CK w (l.map brd++[brd b]++[brd b']))),some (.ob a2 (gb CK w ([].map brd++[brd bd]))),fz (.int ((aj b W w).length:Int)),some (.ow (.lst (l.map brd++[brd b]))),fz (.int (k:Int)),fz (.int ((70+6*k:Nat):Int)),fz (cD x),fz (sg c),fz (.int (u:Int)),fz (.int (((aj b' W w).length:Int) - ((aj b W w).length:Int))),ip,g8])->
  (Pq (yl (da (d2 FH (dV 11) (dC (.int 2))))) (qz 12 (fB CK 3 "mark" 2 (b_ CK CG) (aC (dV 9) (aC (dV 10) aN)))) (qz 12 (HX (yl (da (d2 FH (dV 11) (dC (.int 4))))) (fB CK 3 "paint" 2 (bU CK CG) (aC (dV 9) (aC (dV 10) aN))) (fB CK 3 "melt" 1 (cb CK CG) (aC (d2 cp (dC (.int 1)) (au 3 aG (aC (dV 0) (aC (d2 cp (dV 8) (dC (.int 4))) (aC (dC (.int 3)) aN))))) aN))))).f (CW CK W ns bd w a a2 l b (fz (.int (k:Int))) (fz (.int ((70+6*k:Nat):Int))) (fz (cD x)) (fz (sg c)) (fz (.int (u:Int))) gX ip g8) P:=by
  have t1:da (d2 FH (dV 11) (dC (.int 2))) (CW CK W ns bd w a a2 l b (fz (.int (k:Int))) (fz (.int ((70+6*k:Nat):Int))) (fz (cD x)) (fz (sg c)) (fz (.int (u:Int))) gX ip g8)=aa (decide ((u:Int)<2)):=ja ((aK (x:= .int (u:Int)) (y:= .int 2) rfl rfl).trans rfl);have t2:da (d2 FH (dV 11) (dC (.int 4))) (CW CK W ns bd w a a2 l b (fz (.int (k:Int))) (fz (.int ((70+6*k:Nat):Int))) (fz (cD x)) (fz (sg c)) (fz (.int (u:Int))) gX ip g8)=aa (decide ((u:Int)<4)):=ja ((aK (x:= .int (u:Int)) (y:= .int 4) rfl rfl).trans rfl);by_cases h2:u<2
  ·obtain⟨b',q1,q2,q3⟩:=Gq (CK:=CK) (CG:=CG) (a:=a) hG hw QQ hx hc;refine⟨b',q1,q2,λP hP=>xi (t:=true) (t1.trans (by rw[acB (by omega)])) ?_⟩;exact ER (fN (ho rfl) rfl (ds:=[cD x,sg c]) rfl rfl q3 hP)
  ·by_cases h4:u<4
   ·obtain⟨b',q1,q2,q3⟩:=El (CK:=CK) (CG:=CG) (a:=a) hG hw QQ hx hc;refine⟨b',q1,q2,λP hP=>xi (t:=false) (t1.trans (by rw[acD (by omega)])) ?_⟩;exact ER (TF (t:=true) (t2.trans (by rw[acB (by omega)])) (fN (ho rfl) rfl (ds:=[cD x,sg c]) rfl rfl q3 hP))
   ·obtain⟨z,hz,ez⟩:=cP ns hl (70+6*k+4) 3 (by decide);obtain⟨b',q1,q2,q3⟩:=Gu (CK:=CK) (CG:=CG) (a:=a) (k:=1+z) hG hw QQ (by omega) (by omega);refine⟨b',q1,q2,λP hP=>xi (t:=false) (t1.trans (by rw[acD (by omega)])) ?_⟩;exact ER (TF (t:=false) (t2.trans (by rw[acD (by omega)])) (fN (ho rfl) rfl (ds:=[.int ((1+z:Nat):Int)]) (aD ((aK (x:= .int 1) (y:= .int (z:Int)) rfl ((ak (ds:=[.scr ns, .int ((70+6*k+4:Nat):Int), .int 3]) rfl rfl).trans ez)).trans rfl) rfl) rfl q3 hP))
 obtain⟨b',FO,wL,NS⟩:=QE;refine sq (NS _ ?_);have Q3:=FO.brd;have E0:=eD FO;have Rn:=eE (bd:=b') (W:=W) (w:=w);refine sq (eh (ρ':=rX CK ns bd w a a2 (l.map brd++[brd b]++[brd b']) (.int ((aj b' W w).length:Int)) (l.map brd++[brd b]) (fz (.int (k:Int))) (fz (.int ((70+6*k:Nat):Int))) (fz (cD x)) (fz (sg c)) (fz (.int (u:Int))) (fz (.int (((aj b' W w).length:Int) - ((aj b W w).length:Int)))) ip g8) ((aT ((aK (x:= .int ((aj b W w).length:Int)) (y:= .int (((aj b' W w).length:Int) - ((aj b W w).length:Int))) rfl rfl).trans (fT.trans (by rw[show ((aj b W w).length:Int)+(((aj b' W w).length:Int) - ((aj b W w).length:Int))=((aj b' W w).length:Int) by omega])))).trans rfl) (fc _ 5) ?_);generalize fz (.int (((aj b' W w).length:Int) - ((aj b W w).length:Int)))=gX;generalize fz (.int (u:Int))=iH;generalize fz (sg c)=iN;generalize fz (cD x)=x9;generalize fz (.int ((70+6*k:Nat):Int))=x8;generalize fz (.int (k:Int))=x7;have eS:∀{N:D}{OL:List D}{x7 x8 x9 iN iH gX ip g8:Option Sl},bE CK 3 "shown" 0 (av CK CG) aN (rX CK ns bd w a a2 (l.map brd++[brd b]++[brd b']) N OL x7 x8 x9 iN iH gX ip g8)=aa (brd b'):=(bA (ds:=[]) (ho rfl) rfl rfl).trans ((eQ rfl).trans kZ);have eM:∀{N:D}{OL:List D}{x7 x8 x9 iN iH gX ip g8:Option Sl},bE CK 3 "many" 0 (a6 CK CG) aN (rX CK ns bd w a a2 (l.map brd++[brd b]++[brd b']) N OL x7 x8 x9 iN iH gX ip g8)=aa (.int ((aj b' W w).length:Int)):=(bA (ds:=[]) (ho rfl) rfl rfl).trans ((eQ rfl).trans (nq FO hw));refine sq (eh (ρ':=rX CK ns bd w a a2 (l.map brd++[brd b]++[brd b']) (.int ((aj b' W w).length:Int)) (l.map brd++[brd b]) x7 x8 x9 iN iH gX ip g8) (d8 (Fj (p:=false) (q:=false) (ja ((aK eM rfl).trans (Qc rfl))) (ja ((aK ((ak (ds:=[brd b',iW w]) (aD eS rfl) rfl).trans (gm Q3 E0 hw)) rfl).trans (Qc rfl)))) rfl) (c7 _) ?_);refine sq (eh (ρ':=rX CK ns bd w a a2 (l.map brd++[brd b]++[brd b']) (.int ((aj b' W w).length:Int)) (l.map brd++[brd b]++[brd b']) x7 x8 x9 iN iH gX ip g8) ?_ (Bq (c':= .lst []) _ 6) ?_)
 ·show (bE CK 3 "shown" 0 (av CK CG) aN (rX CK ns bd w a a2 (l.map brd++[brd b]++[brd b']) (.int ((aj b' W w).length:Int)) (l.map brd++[brd b]) x7 x8 x9 iN iH gX ip g8)>>=λd=>if (l.map brd++[brd b]).length<lim then aa (Out.nx (rX CK ns bd w a a2 (l.map brd++[brd b]++[brd b']) (.int ((aj b' W w).length:Int)) (l.map brd++[brd b]++[d]) x7 x8 x9 iN iH gX ip g8)) else af)=_;rw[eS,aq,acz (by rw[Wh,V4,dP];simp;omega)]
 refine sq (ER (o8 (O':=qE CG w (brd b')) (ds:=[brd b',iW w]) (aD eS rfl) rfl (λa=>?_) λag=>?_))
 ·show noex (aL [brd b']>>=λ_=>aX [iW w]>>=λ_=>aa (D.non,qE CG w (brd b')))=_;rw[Q3.nb,aq,hw.nw,aq];rfl
 have Td:∀{ρ:bb},ρ[13]? =some (some (.ob ag (qE CG w (brd b'))))->bP ρ 13 CG=some (ag,qE CG w (brd b')):=λh=>cE h rfl;have TQ:cn 0 (fC (au 2 gx (aC (bE CK 3 "shown" 0 (av CK CG) aN) (aC (dV 2) aN)))) (da (d2 jZ (dA bc (aC (dV 0) aN)) (dC (.int 1)))) (dV 0) (rX CK ns bd w a a2 (l.map brd++[brd b]++[brd b']) (.int ((aj b' W w).length:Int)) (l.map brd++[brd b]++[brd b']) x7 x8 x9 iN iH gX (some (.ob ag (qE CG w (brd b')))) g8)=aa (.lst (((aj b' W w).filter λP=>decide (P.length=1)).map cL)):=by
  refine cN (ds:=(aj b' W w).map cL) (RG ((ak (ds:=[brd b',iW w]) (aD eS rfl) rfl).trans (zL Q3 E0 hw))) (rf cL (λP=>decide (P.length=1)) cL (aj b' W w) λP hP=>?_) ?_
  ·rw[AL,ja (b:=decide (P.length=1)) ((aK (x:= .int (P.length:Int)) (y:= .int 1) ((bY (xs:=[cL P]) (aD rfl rfl)).trans (Gm P)) rfl).trans ((Co _ _).trans (by congr 2;rw[Ze,beq_iff_eq,acE];omega)))];cases decide (P.length=1)<;>rfl
  ·rw[V4,dP];have:=XZ (λP:List Cell=>decide (P.length=1)) (aj b' W w);omega
 refine sq (eh (ρ':=rX CK ns bd w a a2 (l.map brd++[brd b]++[brd b']) (.int ((aj b' W w).length:Int)) (l.map brd++[brd b]++[brd b']) x7 x8 x9 iN iH gX (some (.ob ag (qE CG w (brd b')))) (fz (.lst (((aj b' W w).filter λP=>decide (P.length=1)).map cL)))) ((aT TQ).trans rfl) (fc _ 14) ?_);obtain⟨lc,UI,TU⟩:=wB (CK:=CK) (CG:=CG) (a:=ag) FO hw;refine sq (eh (ρ':=rX CK ns bd w a a2 (l.map brd++[brd b]++[brd b']) (.int ((aj b' W w).length:Int)) (l.map brd++[brd b]++[brd b']) x7 x8 x9 iN iH gX (some (.ob ag (qE CG w (brd b')))) (fz (.lst (((aj b' W w).filter λP=>decide (P.length=1)).map cL)))) (d8 (ja ((aK (x:= .int ((lc.length:Int)+((((aj b' W w).filter λP=>decide (P.length=1)).map cL).length:Int))) (y:= .int ((aj b' W w).length:Int)) ((aK (x:= .int (lc.length:Int)) ((bY (xs:=[.lst lc]) (aD ((bA (ds:=[]) (Td rfl) rfl rfl).trans ((eQ rfl).trans TU)) rfl)).trans rfl) ((bY (xs:=[.lst (((aj b' W w).filter λP=>decide (P.length=1)).map cL)]) (aD rfl rfl)).trans rfl)).trans rfl) rfl).trans (Qc ?_))) rfl) (c7 _) ?_)
 ·rw[V4,UI];have:=EC (b:=b') (W:=W) hw;omega
 refine eh (ρ':=CW CK W ns bd w a a2 (l++[b]) b' x7 x8 x9 iN iH gX (some (.ob ag (qE CG w (brd b')))) (fz (.lst (((aj b' W w).filter λP=>decide (P.length=1)).map cL)))) ?_ ?_ (hQ b' _ _ _ _ _ _ _ _ FO (by rw[wL,hb]))
 ·refine(d8 (ja ((aK (x:= .int ((b'.length*W:Nat):Int)) (y:= .int ((bd.length*W:Nat):Int)) ((bA (ds:=[]) (Td rfl) rfl rfl).trans ((eQ rfl).trans (Gj FO))) ((aK (Gk (i:=1) rfl) (S9.len0 (i:=1) rfl)).trans ((fU (.inl ⟨by omega,by have:=NJ.r5;omega⟩)).trans (by rw[Int.natCast_mul])))).trans (Qc (by rw[wL,hb])))) rfl).trans ?_;show aa (Out.nx (rX CK ns bd w a a2 _ _ _ _ _ _ _ _ _ _ _))=aa (Out.nx (rX CK ns bd w a a2 _ _ _ _ _ _ _ _ _ _ _));rw[W4];rfl
 ·show ObK (rX CK ns bd w a a2 _ _ _ _ _ _ _ _ _ _ _) (rX CK ns bd w a a2 ((l++[b]).map brd++[brd b']) _ ((l++[b]).map brd++[brd b']) _ _ _ _ _ _ _ _);rw[W4];exact c7 _
def xn{τ:XS}{ρ:bb}{Q:OX->Prop}(h:τ.f ρ λx=>match x with | .nx ρ'=>Q (.nx ρ') | .rt r ρ'=>Q (.rt r ρ') | .ex _ _=>False):(EO τ).f ρ Q:=τ.mono ρ _ _ (λx hx=>by cases x<;>exact hx) h
def C4{δi:DA}{B T:XS}{ds:List D}{put:D->bb->Option bb}{ρ:bb}{Q:OX->Prop}(h:δi ρ=aa ds)(q:gh put B ds ρ λx=>match x with | .nx ρ'=>T.f ρ' Q | .rt r ρ'=>Q (.rt r ρ') | .ex _ _=>False):(cj (EO (HV put δi B)) T).f ρ Q:=
 sq (xn (HW h (mQ (λx hx=>by cases x<;>first | exact hx | exact hx.elim) ds ρ q)))
def MD{i:Nat}{A T:XS}{ρ:bb}{Q:OX->Prop}(h:(cj A T).f (frz i ρ) Q):(cj (Sn i A) T).f ρ Q:=h
def KS(ns:List Int)(hl:ns.length<=63)(NJ:Good bd W)(hw:Ways w){a a2:Addr}{P:bb->Prop}{S:Sl->bb->Prop}
 (hQ:∀l' b' x7 x8 x9 iN iH gX ip g8,Good b' W->(∃t,l'++[b']=bd::t)->l'.length<=100->P (CW CK W ns bd w a a2 l' b' x7 x8 x9 iN iH gX ip g8)):
 ∀(ks:List Nat) (l:List (List Str)) (b:List Str) (x7 x8 x9 iN iH gX ip g8:Option Sl),Good b W->b.length=bd.length->l.length+ks.length<100->(∃t,l++[b]=bd::t)->
  gh (putN 7) (QD CK CG) (ks.map λ(k:Nat)=>D.int (k:Int)) (CW CK W ns bd w a a2 l b x7 x8 x9 iN iH gX ip g8) λx=>match x with | .nx ρ'=>P ρ' | .rt r ρ'=>S r ρ' | .ex _ _=>False
 |[],l,b,x7,x8,x9,iN,iH,gX,ip,g8,hG,hb,N6,ht=>hQ l b _ _ _ _ _ _ _ _ hG ht (by simp at N6;omega)
 |k::ks,l,b,x7,x8,x9,iN,iH,gX,ip,g8,hG,hb,N6,ht=>by
  rw[V7] at N6;rw[Wg];refine tQ ?_;refine Pg ns hl NJ hw hG hb (by omega) λb' y7 y8 y9 VF VG VH VI VJ FO wL=>?_;refine KS ns hl NJ hw hQ ks (l++[b]) b' y7 y8 y9 VF VG VH VI VJ FO wL (by rw[Wh];simp;omega) ?_;obtain⟨t,ht⟩:=ht;exact⟨t++[b'],by rw[ht];rfl⟩
abbrev rY(CK:Addr)(ns:List Int)(bd:List Str)(w:Nat)(a a2:Addr)(KL:List D)(N:D)(OL:List D)(x7 x8 x9 iN iH gX ip g8:Option Sl):bb:=
 [fz (.scr ns),fz (brd bd),fz (iW w),some (.ob a (gb CK w KL)),some (.ob a2 (gb CK w ([].map brd++[brd bd]))),fz N,fz (.lst OL),x7,x8,x9,iN,iH,gX,ip,g8]
def Jl(b:List Str):pe (brd b) (brd b)=aa (.bl false):=(Lp Cj (by decide) b b).trans (by rw[acB rfl];rfl)
def Ci(b:List Str):jZ (brd b) (brd b)=aa (.bl true):=(Lo Cj (by decide) b b).trans (by rw[acB rfl])
def Ey(j:Nat):uG ((j+1:Nat):Int) (j+1)= .int ((j+1:Nat):Int)::uG (j:Int) j:=by
 unfold uG;rw[YU,Wg,WY];have e0:D.int (((j+1:Nat):Int) - ((0:Nat):Int))=D.int ((j+1:Nat):Int):=by congr 1
 rw[e0];refine acH (D.int ((j+1:Nat):Int):: ·) ?_
 ·refine Zb λi _=>?_;show D.int (((j+1:Nat):Int) - ((i+1:Nat):Int))=D.int ((j:Int) - (i:Int));congr 1;omega
def KU(ns:List Int){a a2:Addr}{N:D}{bs:List (List Str)}{x8 x9 iN iH gX ip g8:Option Sl}{P:bb->Prop}{S:Sl->bb->Prop}
 (hQ:∀x7,P (rY CK ns bd w a a2 ((bs.take 1).map brd) N (bs.map brd) x7 x8 x9 iN iH gX ip g8)):
 ∀(j:Nat) (x7:Option Sl),j<bs.length->gh (putN 7) (SD CK CG) (uG (j:Int) j) (rY CK ns bd w a a2 ((bs.take (j+1)).map brd) N (bs.map brd) x7 x8 x9 iN iH gX ip g8) λx=>match x with | .nx ρ'=>P ρ' | .rt r ρ'=>S r ρ' | .ex _ _=>False
 |0,x7,_=>hQ x7
 |j+1,x7,hj=>by
  rw[Ey];refine tQ ?_;unfold SD;have e:(bs.take (j+1+1)).map brd=(bs.take (j+1)).map brd++[brd bs[j+1]]:=by
   rw[List.take_succ_eq_append_getElem hj,W4];rfl
  rw[e];have ho:∀{x7:Option Sl},bP (rY CK ns bd w a a2 ((bs.take (j+1)).map brd++[brd bs[j+1]]) N (bs.map brd) x7 x8 x9 iN iH gX ip g8) 3 CK=some (a,gb CK w ((bs.take (j+1)).map brd++[brd bs[j+1]])):=cE rfl rfl;refine sq (eh (ρ':=rY CK ns bd w a a2 ((bs.take (j+1)).map brd++[brd bs[j+1]]) N (bs.map brd) (fz (.int ((j+1:Nat):Int))) x8 x9 iN iH gX ip g8) (d8 (ja ((aK (x:=brd bs[j+1]) (y:=brd bs[j+1]) ((bA (ds:=[]) ho rfl rfl).trans ((eQ rfl).trans kZ)) ((aK (x:= .lst (bs.map brd)) (y:= .int ((j+1:Nat):Int)) rfl rfl).trans (wX (by rw[Wb,V5 hj];rfl)))).trans (Jl _))) rfl) (c7 _) ?_);exact So (fN ho rfl (ds:=[]) rfl rfl (HR (by rw[V4,ZF];omega)) (KU ns hQ j _ (by omega)))
def Gi{CK CG:Addr}(ns:List Int)(hl:ns.length<=63):(lB CK CG).f (some (.fz (.scr ns))::Wx (15 - 1) none) λx=>∃ρ,x= .rt (.fz (.bl true)) ρ:=by
 obtain⟨bd,W,hG,h5,w5,eb⟩:=AE ns hl 0 5 (by decide) (by decide);have hg:=hG.brd;have hs:=eD hG;unfold lB;refine sq (eh (ρ':=[fz (.scr ns),fz (brd bd),none,none,none,none,none,none,none,none,none,none,none,none,none]) ((aT ((ak (ds:=[.scr ns, .int 0, .int 5]) rfl rfl).trans eb)).trans rfl) (fc _ 1) ?_);obtain⟨v,hv,ev⟩:=cP ns hl 60 2 (by decide);obtain⟨w,hw,ew⟩:∃w,Ways w/\eC (.lst [.int 4, .int 8]) (.int (v:Int))=aa (iW w):=by
  match v,hv with
  |0,_=>exact⟨4, .inl rfl,rfl⟩
  |1,_=>exact⟨8, .inr rfl,rfl⟩
 refine sq (eh (ρ':=[fz (.scr ns),fz (brd bd),fz (iW w),none,none,none,none,none,none,none,none,none,none,none,none]) ((aT ((aK (x:= .lst [.int 4, .int 8]) (y:= .int (v:Int)) rfl ((ak (ds:=[.scr ns, .int 60, .int 2]) rfl rfl).trans ev)).trans ew)).trans rfl) (fc _ 2) ?_);have hi:∀a,cH CK CG a ⟨CK,[]⟩ [brd bd,iW w]=aa (.non,gb CK w [brd bd]):=λa=>by
  show noex (aL [brd bd]>>=λ_=>aX [iW w]>>=λ_=>aa (D.non,gb CK w [brd bd]))=_;rw[hg.nb,aq,hw.nw,aq];rfl
 refine sq (ER (o8 (ds:=[brd bd,iW w]) rfl rfl hi λa=>?_));refine sq (ER (o8 (ds:=[brd bd,iW w]) rfl rfl hi λa2=>?_));refine sq (eh (ρ':=[fz (.scr ns),fz (brd bd),fz (iW w),some (.ob a (gb CK w [brd bd])),some (.ob a2 (gb CK w [brd bd])),fz (.int ((aj bd W w).length:Int)),none,none,none,none,none,none,none,none,none]) ((aT ((ak (ds:=[brd bd,iW w]) rfl rfl).trans (gm hg hs hw))).trans rfl) (fc _ 5) ?_);refine sq (eh (ρ':=CW CK W ns bd w a a2 [] bd none none none none none none none none) rfl (Bq (c':= .lst []) _ 6) ?_);obtain⟨z,hz,ez⟩:=cP ns hl 61 7 (by decide);refine C4 (ds:=(Wy (1+z)).map λ(k:Nat)=>D.int (k:Int)) (J0 ((aK (x:= .int 1) (y:= .int (z:Int)) rfl ((ak (ds:=[.scr ns, .int 61, .int 7]) rfl rfl).trans ez)).trans (fT.trans (by congr 2))) (by omega)) ?_;refine KS (CK:=CK) (CG:=CG) ns hl hG hw (λl b x7 x8 x9 iN iH gX ip g8 FO U2 N6=>?_) (Wy (1+z)) [] bd none none none none none none none none hG rfl (by rw[YV];simp;omega) ⟨[],rfl⟩;obtain⟨t,ht⟩:=U2;have eL:l.map brd++[brd b]=(l++[b]).map brd:=by rw[W4];rfl
 have P3:(l++[b]).length=l.length+1:=by simp
 have H8:(l++[b]).take 1=[bd]:=by rw[ht];rfl
 have Q2:(l++[b]).map brd=((l++[b]).take (l.length+1)).map brd:=by rw[abA (by omega)]
 refine MD ?_;show (cj (EO _) _).f (rY CK ns bd w a a2 (l.map brd++[brd b]) (.int ((aj b W w).length:Int)) (l.map brd++[brd b]) x7 x8 x9 iN iH gX ip g8) _;rw[eL];refine C4 (ds:=uG (l.length:Int) l.length) ?_ ?_
 ·have e1:d2 L3.jO (dA bc (aC (dV 6) aN)) (dC (.int 1)) (rY CK ns bd w a a2 ((l++[b]).map brd) (.int ((aj b W w).length:Int)) ((l++[b]).map brd) x7 x8 x9 iN iH gX ip g8)=aa (.int (l.length:Int)):=by
   refine(aK (x:= .int (((l++[b]).map brd).length:Int)) (y:= .int 1) ((bY (xs:=[.lst ((l++[b]).map brd)]) (aD rfl rfl)).trans rfl) rfl).trans ?_;show aa (D.int ((((l++[b]).map brd).length:Int) - 1))=_;rw[V4,P3];congr 2;omega
  show (aC (d2 L3.jO (dA bc (aC (dV 6) aN)) (dC (.int 1))) (aC (dC (.int 0)) (aC (d1 uq (dC (.int 1))) aN)) (rY CK ns bd w a a2 ((l++[b]).map brd) (.int ((aj b W w).length:Int)) ((l++[b]).map brd) x7 x8 x9 iN iH gX ip g8)>>=C0)=_;rw[aD (xs:=[.int 0, .int (-1)]) e1 rfl,aq];show (if (-4096<=(l.length:Int)/\(l.length:Int)<=4096)/\(-4096<=(0:Int)/\(0:Int)<=4096)/\(-1:Int)= -1 then aa (uG (l.length:Int) ((l.length:Int) - 0).toNat) else af)=_;rw[acz ⟨⟨by omega,by omega⟩,⟨by omega,by omega⟩,rfl⟩];congr 2
 rw (occs:= .pos [1]) [Q2];refine KU (CK:=CK) (CG:=CG) (bd:=bd) (w:=w) ns (a:=a) (a2:=a2) (bs:=l++[b]) (λy7=>?_) l.length x7 (by omega);rw[H8];have ho:∀{N:D}{OL:List D},bP (rY CK ns bd w a a2 ([bd].map brd) N OL y7 x8 x9 iN iH gX ip g8) 3 CK=some (a,gb CK w ([]++[brd bd])):=cE rfl rfl;have Cv:∀{N:D}{OL:List D},bP (rY CK ns bd w a a2 ([bd].map brd) N OL y7 x8 x9 iN iH gX ip g8) 4 CK=some (a2,gb CK w ([]++[brd bd])):=cE rfl rfl;refine K_ (d:= .bl true) (aO ((wD (p:=true) (q:=true) ((aK ((bA (ds:=[]) ho rfl rfl).trans ((eQ rfl).trans kZ)) rfl).trans (Ci bd)) ((wD (p:=true) (q:=true) ((aK ((bA (ds:=[]) ho rfl rfl).trans ((eQ rfl).trans (nq hG hw))) ((ak (ds:=[brd bd,iW w]) rfl rfl).trans (gm hg hs hw))).trans ((Co _ _).trans (by simp))) ((aK ((bA (ds:=[]) Cv rfl rfl).trans ((eQ rfl).trans kZ)) rfl).trans (Ci bd))).trans rfl)).trans rfl)) ⟨_,rfl⟩
end
end K1
namespace K1
open PySem PySem.Spec L2 L3
open PyProof.Rows hiding St
def DF(K:V9)(x:Str)(s:Stmt):Prop:=∃(f:Addr) (oc:Value) (od an:Option Addr) (sl:Array (Option Value)) (kV dc pm cd ct:Value),WE K Ws x=some (some (.ref f))/\K.lookup f=some ⟨oc,od, .func (W6 x x (aQ s) (aF s) (ai s) .none kV dc pm an cd ct),sl⟩/\XG K cd x=true/\W2 K (.ref f)=true
def DF.mk{K:V9}{x:Str}{s:Stmt}{f:Addr}{oc:Value}{od an:Option Addr}{sl:Array (Option Value)}{kV dc pm cd ct:Value}(a:WE K Ws x=some (some (.ref f)))(l:K.lookup f=some ⟨oc,od, .func (W6 x x (aQ s) (aF s) (ai s) .none kV dc pm an cd ct),sl⟩)(c:XG K cd x=true)(k:W2 K (.ref f)=true):DF K x s:=⟨f,oc,od,an,sl,kV,dc,pm,cd,ct,a,l,c,k⟩
def DF.at{K:V9}{x:Str}{s:Stmt}{h:Heap}{mg:Str->Option Value}(X:K.In h)(G:h.Ns Ws mg)(d:DF K x s):∃f,bF K mg x s f:=by
 obtain⟨f,oc,od,an,sl,kV,dc,pm,cd,ct,a,l,c,k⟩:=d;exact⟨f,X4 X G a,_,wK (st:=s) l c k⟩
def MF(K:V9)(C:Addr)(x q:Str)(s:Stmt):Prop:=∃(f:Addr) (oc:Value) (od an:Option Addr) (sl:Array (Option Value)) (kV dc pm cd ct:Value),WK K (.ref C) x=some (some (.ref f))/\YS K (.ref f)=true/\K.lookup f=some ⟨oc,od, .func (W6 x q (aQ s) (aF s) (ai s) .none kV dc pm an cd ct),sl⟩/\XG K cd q=true/\W2 K (.ref f)=true
def MF.mk{K:V9}{C:Addr}{x q:Str}{s:Stmt}{f:Addr}{oc:Value}{od an:Option Addr}{sl:Array (Option Value)}{kV dc pm cd ct:Value}(a:WK K (.ref C) x=some (some (.ref f)))(i:YS K (.ref f)=true)(l:K.lookup f=some ⟨oc,od, .func (W6 x q (aQ s) (aF s) (ai s) .none kV dc pm an cd ct),sl⟩)(c:XG K cd q=true)(k:W2 K (.ref f)=true):MF K C x q s:=⟨f,oc,od,an,sl,kV,dc,pm,cd,ct,a,i,l,c,k⟩
def MF.at{K:V9}{C:Addr}{x q:Str}{s:Stmt}(h:L2.Cls K C)(d:MF K C x q s):∃f,MethAt K C x q s f:=by
 obtain⟨f,oc,od,an,sl,kV,dc,pm,cd,ct,a,i,l,c,k⟩:=d;exact⟨f,h,⟨a,i,k⟩,_,wK (st:=s) l c k⟩
def IM(K:V9)(C:Addr)(q:Str)(s:Stmt):Prop:=∃(f:Addr) (oc:Value) (od an:Option Addr) (sl:Array (Option Value)) (kV dc pm cd ct:Value),ZE K C=true/\WK K (.ref C) "__init__"=some (some (.ref f))/\YS K (.ref f)=true/\W2 K (.ref C)=true/\K.lookup f=some ⟨oc,od, .func (W6 "__init__" q (aQ s) (aF s) (ai s) .none kV dc pm an cd ct),sl⟩/\XG K cd q=true/\W2 K (.ref f)=true
def IM.mk{K:V9}{C:Addr}{q:Str}{s:Stmt}{f:Addr}{oc:Value}{od an:Option Addr}{sl:Array (Option Value)}{kV dc pm cd ct:Value}(m:ZE K C=true)(a:WK K (.ref C) "__init__"=some (some (.ref f)))(i:YS K (.ref f)=true)(kc:W2 K (.ref C)=true)(l:K.lookup f=some ⟨oc,od, .func (W6 "__init__" q (aQ s) (aF s) (ai s) .none kV dc pm an cd ct),sl⟩)(c:XG K cd q=true)(k:W2 K (.ref f)=true):IM K C q s:=⟨f,oc,od,an,sl,kV,dc,pm,cd,ct,m,a,i,kc,l,c,k⟩
def IM.at{K:V9}{C:Addr}{x q:Str}{s:Stmt}{mg:Str->Option Value}(h:mg x=some (.ref C))(d:IM K C q s):∃f,wg K mg C x q s f:=by
 obtain⟨f,oc,od,an,sl,kV,dc,pm,cd,ct,m,a,i,kc,l,c,k⟩:=d;exact⟨f,⟨m,a,i,kc⟩,h,_,wK (st:=s) l c k⟩
def all_mk{P:Wz}{w:World}{K:V9}{h:Heap}{mg:Str->Option Value}{fa CK CG:Addr}(X:K.In h)(G:h.Ns Ws mg)(Us:mg "law"=some (.ref fa))
 {mn:Addr}{Bs qR:Option Addr}{BU:Array (Option Value)}{Br rF rj sV mj rh:Value}
 {EG:Tok}
 {Ad:Tok}
 {tJ:Tok}
 {o5:Tok}
 {Kf:Tok}
 (e_Keeper:WE K Ws "Keeper"=some (some (.ref CK)))
 (c_Keeper:L2.Cls K CK)
 (e_Game:WE K Ws "Game"=some (some (.ref CG)))
 (c_Game:L2.Cls K CG)
 (n_Keeper_boards:WK K (.ref CK) "boards"=some none)
 (n_Game_stages:WK K (.ref CG) "stages"=some none)
 (n_Game_place:WK K (.ref CG) "place"=some none)
 (n_Keeper_ways:WK K (.ref CK) "ways"=some none)
 (n_Game_ways:WK K (.ref CG) "ways"=some none)
 (d_Keeper_shown:MF K CK "shown" "Keeper.shown" gS)
 (d_Keeper_undo:MF K CK "undo" "Keeper.undo" iC)
 (d_Game_rows:MF K CG "rows" "Game.rows" kN)
 (d_is_whole:DF K "is_whole" mL)
 (d_is_letter:DF K "is_letter" kR)
 (d_cells_of_row:DF K "cells_of_row" fk)
 (d_letter_of:DF K "letter_of" kU)
 (d_are_next:DF K "are_next" mJ)
 (d_keyed:DF K "keyed" xZ)
 (d_numbers_of:DF K "numbers_of" jB)
 (d_many_letters:DF K "many_letters" fm)
 (d_law_cell:DF K "_law_cell" mM)
 (d_Game_left:MF K CG "left" "Game.left" kM)
 (d_is_row:DF K "is_row" n5)
 (d_is_cell:DF K "is_cell" oY)
 (d_need_letter:DF K "need_letter" iF)
 (d_need_ways:DF K "need_ways" kX)
 (d_all_cells:DF K "all_cells" kP)
 (d_next_cells:DF K "next_cells" jA)
 (d_with_letters:DF K "with_letters" fo)
 (d_can_be_taken:DF K "can_be_taken" gT)
 (d_law_drawn:DF K "_law_drawn" kT)
 (d_is_board:DF K "is_board" gU)
 (d_need_cell:DF K "need_cell" kW)
 (d_like_cells:DF K "like_cells" gq)
 (d_shared_sides:DF K "shared_sides" gW)
 (d_law_board:DF K "_law_board" il)
 (d_law_cell_in:DF K "_law_cell_in" iE)
 (d_need_board:DF K "need_board" jy)
 (d_steps_back:DF K "steps_back" jC)
 (d_melts_into:DF K "melts_into" jx)
 (d_Keeper_init:IM K CK "Keeper.__init__" iy)
 (d_Game_init:IM K CG "Game.__init__" kL)
 (d_with_letter:DF K "with_letter" iG)
 (d_all_patches:DF K "all_patches" iD)
 (d_need_melting:DF K "need_melting" gV)
 (d_need_paint:DF K "need_paint" jz)
 (d_Game_can_take:MF K CG "can_take" "Game.can_take" er)
 (d_patches:DF K "patches" o3)
 (d_how_many:DF K "how_many" mK)
 (d_after_one:DF K "after_one" ik)
 (d_painted:DF K "painted" oZ)
 (d_Keeper_many:MF K CK "many" "Keeper.many" iz)
 (d_all_steps:DF K "all_steps" kQ)
 (d_Keeper_go_on:MF K CK "go_on" "Keeper.go_on" gQ)
 (d_melted:DF K "melted" tf)
 (d_Keeper_mark:MF K CK "mark" "Keeper.mark" iA)
 (d_Keeper_paint:MF K CK "paint" "Keeper.paint" gR)
 (d_Keeper_melt:MF K CK "melt" "Keeper.melt" iB)
 (a_law_k84:WE K Ws "law"=some (some (.ref mn)))(l_law_k84:K.lookup mn=some ⟨Br,Bs, .func (W6 "law" "law" (aQ di) (aF di) (ai di) .none rF rj sV qR mj rh),BU⟩)(c_law_k84:XG K mj "law"=true)(k_law_k84:W2 K (.ref mn)=true)
 (z_len:WE K Ws "len"=some none)
 (z_isinstance:WE K Ws "isinstance"=some none)
 (z_all:WE K Ws "all"=some none)
 (z_abs:WE K Ws "abs"=some none)
 (z_max:WE K Ws "max"=some none)
 (z_min:WE K Ws "min"=some none)
 (z_sum:WE K Ws "sum"=some none)
 (z_range:WE K Ws "range"=some none)
 (z_str:WE K Ws "str"=some none)
 (z_int:WE K Ws "int"=some none)
 (z_bool:WE K Ws "bool"=some none)
 (z_tuple:WE K Ws "tuple"=some none)
 (z_sorted:WE K Ws "sorted"=some none)
 (z_enumerate:WE K Ws "enumerate"=some none)
 (y_LETTERS:WE K Ws "LETTERS"=some (some (.str "abcdef" EG)))
 (y_MOST_ROWS:WE K Ws "MOST_ROWS"=some (some (.int 8 Ad)))
 (y_MOST_COLUMNS:WE K Ws "MOST_COLUMNS"=some (some (.int 8 tJ)))
 (y_GREATEST_LEAST:WE K Ws "GREATEST_LEAST"=some (some (.int 64 o5)))
 (y_EMPTY:WE K Ws "EMPTY"=some (some (.str "." Kf))):
 ∃(cv:Nat->Value) (fd:Ys),(∀(s:Wa) (u:Value),acp s fd ⟨[u],[]⟩ [("_law_script",u)])/\∀base:Heap,K.In base->base.Ns Ws mg->FnOk P w K mg base (jN P w cv) 10 fa fd ["_law_script"] (MG K cv 1 DG):=by
 have ea:=Us.symm.trans (X4 X G a_law_k84);cases ea;refine⟨λ_=> .none,W6 "law" "law" (aQ di) (aF di) (ai di) .none rF rj sV qR mj rh,λs v=> .of_eq rfl,λbase KB GB=>?_⟩;have B:Bl K mg base (λ_=> .none) (λ_=>Ws) Ws:=⟨WN X G z_len,WN X G z_isinstance,WN X G z_all,WN X G z_abs,WN X G z_max,WN X G z_min,WN X G z_sum,WN X G z_range,WN X G z_str,WN X G z_int,WN X G z_bool,WN X G z_tuple,WN X G z_sorted,WN X G z_enumerate,⟨_,X4 X G y_LETTERS⟩,⟨_,X4 X G y_MOST_ROWS⟩,⟨_,X4 X G y_MOST_COLUMNS⟩,⟨_,X4 X G y_GREATEST_LEAST⟩,⟨_,X4 X G y_EMPTY⟩⟩
 have O:Bo K CK CG:=⟨c_Keeper,c_Game,n_Keeper_boards,n_Game_stages,n_Game_place,n_Keeper_ways,n_Game_ways⟩
 have dJ:=(MF.at c_Keeper d_Keeper_shown).elim λ_ t=>qf (P:=P) (w:=w) B O t;have uw:=(MF.at c_Keeper d_Keeper_undo).elim λ_ t=>sy (P:=P) (w:=w) B O ub t;have pJ:=(MF.at c_Game d_Game_rows).elim λ_ t=>xm (P:=P) (w:=w) B O t;have mC:=(DF.at X G d_is_whole).elim λ_ t=>zF (P:=P) (w:=w) B t;have pL:=(DF.at X G d_is_letter).elim λ_ t=>xu (P:=P) (w:=w) B t;have kj:=(DF.at X G d_cells_of_row).elim λ_ t=>qh (P:=P) (w:=w) B t;have ib:=(DF.at X G d_letter_of).elim λ_ t=>xA (P:=P) (w:=w) B t;have Bm:=(DF.at X G d_are_next).elim λ_ t=>zC (P:=P) (w:=w) B t;have CF:=(DF.at X G d_keyed).elim λ_ t=>GP (P:=P) (w:=w) B t;have xj:=(DF.at X G d_numbers_of).elim λ_ t=>uE (P:=P) (w:=w) B t;have sj:=(DF.at X G d_many_letters).elim λ_ t=>qi (P:=P) (w:=w) B t;have Bp:=(DF.at X G d_law_cell).elim λ_ t=>zG (P:=P) (w:=w) B t;have zw:=(MF.at c_Game d_Game_left).elim λ_ t=>xl (P:=P) (w:=w) B O sj pJ t;have GN:=(DF.at X G d_is_row).elim λ_ t=>Ed (P:=P) (w:=w) B pL t;have D_:=(DF.at X G d_is_cell).elim λ_ t=>Bu (P:=P) (w:=w) B mC t;have lV:=(DF.at X G d_need_letter).elim λ_ t=>sD (P:=P) (w:=w) B pL t;have eT:=(DF.at X G d_need_ways).elim λ_ t=>xC (P:=P) (w:=w) B mC t;have pK:=(DF.at X G d_all_cells).elim λ_ t=>xq (P:=P) (w:=w) B kj t;have nH:=(DF.at X G d_next_cells).elim λ_ t=>uD (P:=P) (w:=w) B Bm t;have gN:=(DF.at X G d_with_letters).elim λ_ t=>ql (P:=P) (w:=w) B CF kj ib t;have sf:=(DF.at X G d_can_be_taken).elim λ_ t=>qg (P:=P) (w:=w) B ib t;have kl:=(DF.at X G d_law_drawn).elim λ_ t=>xy (P:=P) (w:=w) B Bp t;have Bn:=(DF.at X G d_is_board).elim λ_ t=>zE (P:=P) (w:=w) B GN t;have pM:=(DF.at X G d_need_cell).elim λ_ t=>xB (P:=P) (w:=w) B D_ t;have xf:=(DF.at X G d_like_cells).elim λ_ t=>uz (P:=P) (w:=w) B ib nH t;have sm:=(DF.at X G d_shared_sides).elim λ_ t=>qk (P:=P) (w:=w) B xj pK nH t;have zA:=(DF.at X G d_law_board).elim λ_ t=>xx (P:=P) (w:=w) B kl t;have ux:=(DF.at X G d_law_cell_in).elim λ_ t=>sC (P:=P) (w:=w) B kl t;have cY:=(DF.at X G d_need_board).elim λ_ t=>uB (P:=P) (w:=w) B Bn t;have nJ:=(DF.at X G d_steps_back).elim λ_ t=>uF (P:=P) (w:=w) B xf t;have xg:=(DF.at X G d_melts_into).elim λ_ t=>uA (P:=P) (w:=w) B sm t;have ur:=(IM.at (X4 X G e_Keeper) d_Keeper_init).elim λ_ t=>sr (P:=P) (w:=w) B O cY eT t9 t;have zv:=(IM.at (X4 X G e_Game) d_Game_init).elim λ_ t=>xk (P:=P) (w:=w) B O cY eT yC t;have uy:=(DF.at X G d_with_letter).elim λ_ t=>sE (P:=P) (w:=w) B cY pM lV gN t;have fO:=(DF.at X G d_all_patches).elim λ_ t=>sA (P:=P) (w:=w) B pK nJ CF t;have sk:=(DF.at X G d_need_melting).elim λ_ t=>qj (P:=P) (w:=w) B cY eT mC t;have xh:=(DF.at X G d_need_paint).elim λ_ t=>uC (P:=P) (w:=w) B cY pM eT lV t;have qc:=(MF.at c_Game d_Game_can_take).elim λ_ t=>oM (P:=P) (w:=w) B O fO pJ sf t;have Eb:=(DF.at X G d_patches).elim λ_ t=>Bw (P:=P) (w:=w) B cY eT fO t;have si:=(DF.at X G d_how_many).elim λ_ t=>zD (P:=P) (w:=w) B cY eT fO t;have zx:=(DF.at X G d_after_one).elim λ_ t=>xo (P:=P) (w:=w) B fO xg gN ib t;have Ea:=(DF.at X G d_painted).elim λ_ t=>Bv (P:=P) (w:=w) B xh gN nJ t;have lU:=(MF.at c_Keeper d_Keeper_many).elim λ_ t=>su (P:=P) (w:=w) B O si dJ t;have zy:=(DF.at X G d_all_steps).elim λ_ t=>xt (P:=P) (w:=w) B zx t;have gM:=(MF.at c_Keeper d_Keeper_go_on).elim λ_ t=>qd (P:=P) (w:=w) B O lU qV t;have GO:=(DF.at X G d_melted).elim λ_ t=>Ee (P:=P) (w:=w) B sk zy t;have uu:=(MF.at c_Keeper d_Keeper_mark).elim λ_ t=>sv (P:=P) (w:=w) B O gM uy dJ t_ t;have se:=(MF.at c_Keeper d_Keeper_paint).elim λ_ t=>qe (P:=P) (w:=w) B O gM Ea dJ qW t;have uv:=(MF.at c_Keeper d_Keeper_melt).elim λ_ t=>sx (P:=P) (w:=w) B O gM GO dJ ua t;exact zB B O ur zA si zv kl ux uw uu dJ zw lU se uv Eb qc (wK (st:=di) l_law_k84 c_law_k84 k_law_k84) Gi
end K1
open PySem PySem.W PyProof.Rows
theorem PySem.Challenge.cw_cellpatches_k84_whole_keepers_holds : PySem.Challenge.rw_cellpatches_k84_whole_keepers.Holds := by
 w_on;refine holds_law (by kernel_rfl) λVu=>?_
 refine holds_open (q:=K1.p7) (loose:=[]) (Xt:=λs=>xlAt K1.p7 [] s&&recOk (RowW.records (OpenRow.toRowW _)) s) (XP:=XL K1.p7 []) (Yf:=Hook.obs (kHook K1.m_ K1.m9 (λ_=>by kernel_rfl))) (Ya:=Hook.val (kHook K1.m_ K1.m9 (λ_=>by kernel_rfl))) (YP:=Hook.says (kHook K1.m_ K1.m9 (λ_=>by kernel_rfl))) (N:=7616) ?hl (Hook.of (kHook K1.m_ K1.m9 (λ_=>by kernel_rfl))) (Hook.keeps (kHook K1.m_ K1.m9 (λ_=>by kernel_rfl))) (λs e=>xl_of s (abX.mp e).1) XL.keeps (by rfl) (by rfl) (by rfl) (λs e=>recFacts_of (abX.mp e).2) (by rfl) (by first | assumption | decide+kernel) (by decide+kernel) ⟨rfl,rfl,rfl,rfl,rfl,by decide+kernel⟩ ?hw ?hc
 case hl=>exact K1.N5
 (case hw=>w_witness2)
 k_fill
 refine L3.Pp (l:=PySem.Challenge.rw_cellpatches_k84_whole_keepers) (k:=10) (n:=63) (x:="_law_script") (g:=L3.DG) rfl (by decide) rfl ⟨rfl,by decide,by decide⟩ (λw h Y=>PySem.W.kIn_of Y) L3.DH ?F
 case F=>
  intro w mg fa h KX G LD;refine' K1.all_mk KX G LD ?e_Keeper ?c_Keeper ?e_Game ?c_Game ?n_Keeper_boards ?n_Game_stages ?n_Game_place ?n_Keeper_ways ?n_Game_ways ?d_Keeper_shown ?d_Keeper_undo ?d_Game_rows ?d_is_whole ?d_is_letter ?d_cells_of_row ?d_letter_of ?d_are_next ?d_keyed ?d_numbers_of ?d_many_letters ?d_law_cell ?d_Game_left ?d_is_row ?d_is_cell ?d_need_letter ?d_need_ways ?d_all_cells ?d_next_cells ?d_with_letters ?d_can_be_taken ?d_law_drawn ?d_is_board ?d_need_cell ?d_like_cells ?d_shared_sides ?d_law_board ?d_law_cell_in ?d_need_board ?d_steps_back ?d_melts_into ?d_Keeper_init ?d_Game_init ?d_with_letter ?d_all_patches ?d_need_melting ?d_need_paint ?d_Game_can_take ?d_patches ?d_how_many ?d_after_one ?d_painted ?d_Keeper_many ?d_all_steps ?d_Keeper_go_on ?d_melted ?d_Keeper_mark ?d_Keeper_paint ?d_Keeper_melt ?a_law_k84 ?l_law_k84 ?c_law_k84 ?k_law_k84 ?z_len ?z_isinstance ?z_all ?z_abs ?z_max ?z_min ?z_sum ?z_range ?z_str ?z_int ?z_bool ?z_tuple ?z_sorted ?z_enumerate ?y_LETTERS ?y_MOST_ROWS ?y_MOST_COLUMNS ?y_GREATEST_LEAST ?y_EMPTY
  (case e_Keeper=>k_is)
  (case c_Keeper=>(refine' L2.Cls.mk ?a ?b ?c ?d;(case a=>k_is);(case b=>k_is);(case c=>k_is);(case d=>k_is)))
  (case e_Game=>k_is)
  (case c_Game=>(refine' L2.Cls.mk ?a ?b ?c ?d;(case a=>k_is);(case b=>k_is);(case c=>k_is);(case d=>k_is)))
  (case n_Keeper_boards=>k_is)
  (case n_Game_stages=>k_is)
  (case n_Game_place=>k_is)
  (case n_Keeper_ways=>k_is)
  (case n_Game_ways=>k_is)
  (case d_Keeper_shown=>(refine' K1.MF.mk ?a ?i ?l ?c ?k;(case a=>k_is);(case i=>k_is);(case l=>k_is);(case c=>k_is);(case k=>k_is)))
  (case d_Keeper_undo=>(refine' K1.MF.mk ?a ?i ?l ?c ?k;(case a=>k_is);(case i=>k_is);(case l=>k_is);(case c=>k_is);(case k=>k_is)))
  (case d_Game_rows=>(refine' K1.MF.mk ?a ?i ?l ?c ?k;(case a=>k_is);(case i=>k_is);(case l=>k_is);(case c=>k_is);(case k=>k_is)))
  any_goals (refine' K1.DF.mk ?a ?l ?c ?k;(case a=>k_is);(case l=>k_is);(case c=>k_is);(case k=>k_is))
  (case d_Game_left=>(refine' K1.MF.mk ?a ?i ?l ?c ?k;(case a=>k_is);(case i=>k_is);(case l=>k_is);(case c=>k_is);(case k=>k_is)))
  (case d_Keeper_init=>(refine' K1.IM.mk ?m ?a ?i ?q ?l ?c ?k;(case m=>k_is);(case a=>k_is);(case i=>k_is);(case q=>k_is);(case l=>k_is);(case c=>k_is);(case k=>k_is)))
  (case d_Game_init=>(refine' K1.IM.mk ?m ?a ?i ?q ?l ?c ?k;(case m=>k_is);(case a=>k_is);(case i=>k_is);(case q=>k_is);(case l=>k_is);(case c=>k_is);(case k=>k_is)))
  (case d_Game_can_take=>(refine' K1.MF.mk ?a ?i ?l ?c ?k;(case a=>k_is);(case i=>k_is);(case l=>k_is);(case c=>k_is);(case k=>k_is)))
  (case d_Keeper_many=>(refine' K1.MF.mk ?a ?i ?l ?c ?k;(case a=>k_is);(case i=>k_is);(case l=>k_is);(case c=>k_is);(case k=>k_is)))
  (case d_Keeper_go_on=>(refine' K1.MF.mk ?a ?i ?l ?c ?k;(case a=>k_is);(case i=>k_is);(case l=>k_is);(case c=>k_is);(case k=>k_is)))
  (case d_Keeper_mark=>(refine' K1.MF.mk ?a ?i ?l ?c ?k;(case a=>k_is);(case i=>k_is);(case l=>k_is);(case c=>k_is);(case k=>k_is)))
  (case d_Keeper_paint=>(refine' K1.MF.mk ?a ?i ?l ?c ?k;(case a=>k_is);(case i=>k_is);(case l=>k_is);(case c=>k_is);(case k=>k_is)))
  (case d_Keeper_melt=>(refine' K1.MF.mk ?a ?i ?l ?c ?k;(case a=>k_is);(case i=>k_is);(case l=>k_is);(case c=>k_is);(case k=>k_is)))
  any_goals first | k_is | kit_is | k_exc | rfl
